import PyProof.Rows.All
import Wide.All
import OpenK.AllK
import Wide.FinOn
import Lean
import PyProof.EqAt
import PyProof.EqKinds
import PyProof.TupleCall
import PyProof.StrLawsTight
import PyProof.StrLawsChain
import KE.KSortTup
import PyProof.EnumIter
import PyProof.EnumMake
import PyProof.EnumFor
import KE.KDictOf
import PyProof.AttrMissHeap
import PyProof.Walks
import PyProof.WalksMore
import PyProof.P3In
import PyProof.DictIter
import PyProof.SumWalkG
import PyProof.Rows.SumAny
import PyProof.FactsAll.subtypes_4
import PyProof.ListOps
import PyProof.ListRange
import PyProof.FactsAll.tuple
import PyProof.ListMulRoad
import PyProof.EnumIter
import PyProof.EnumMake
import PyProof.EnumFor
import PyProof.FactsAll.set_2
import OpenK.KOwn
import PyProof.ExcClass3
import PyProof.ExcBaseAll.ValueError
import PyProof.RulesAs
import PyProof.RulesDel
import PyProof.Rows.Catch
import PyProof.ExcArgsOwn
import PyProof.IsiBase
import KE.KIsAll
import PyProof.FString
import PyProof.ReprStr
import PyProof.StrOps2
import PyProof.MeetsSeq
import PyProof.Rows.StrInSeq3
import PyProof.StrLawsIn
import PyProof.StrLawsTight
import PyProof.SetRoads
import PyProof.ZipIter
import PySem.Challenge.RW_turnstack_k25_begun
set_option Elab.async false
set_option linter.all false
set_option maxRecDepth 100000
inductive Ex2 {A1 A2 : Type} (p : A1 → A2 → Prop) : Prop
  | mk (a1 : A1) (a2 : A2) (h : p a1 a2) : Ex2 p
inductive Ex3 {A1 A2 A3 : Type} (p : A1 → A2 → A3 → Prop) : Prop
  | mk (a1 : A1) (a2 : A2) (a3 : A3) (h : p a1 a2 a3) : Ex3 p
inductive Ex4 {A1 A2 A3 A4 : Type} (p : A1 → A2 → A3 → A4 → Prop) : Prop
  | mk (a1 : A1) (a2 : A2) (a3 : A3) (a4 : A4) (h : p a1 a2 a3 a4) : Ex4 p
inductive Ex5 {A1 A2 A3 A4 A5 : Type} (p : A1 → A2 → A3 → A4 → A5 → Prop) : Prop
  | mk (a1 : A1) (a2 : A2) (a3 : A3) (a4 : A4) (a5 : A5) (h : p a1 a2 a3 a4 a5) : Ex5 p
inductive Ex6 {A1 A2 A3 A4 A5 A6 : Type} (p : A1 → A2 → A3 → A4 → A5 → A6 → Prop) : Prop
  | mk (a1 : A1) (a2 : A2) (a3 : A3) (a4 : A4) (a5 : A5) (a6 : A6) (h : p a1 a2 a3 a4 a5 a6) : Ex6 p
inductive Ex7 {A1 A2 A3 A4 A5 A6 A7 : Type} (p : A1 → A2 → A3 → A4 → A5 → A6 → A7 → Prop) : Prop
  | mk (a1 : A1) (a2 : A2) (a3 : A3) (a4 : A4) (a5 : A5) (a6 : A6) (a7 : A7) (h : p a1 a2 a3 a4 a5 a6 a7) : Ex7 p
inductive Ex8 {A1 A2 A3 A4 A5 A6 A7 A8 : Type} (p : A1 → A2 → A3 → A4 → A5 → A6 → A7 → A8 → Prop) : Prop
  | mk (a1 : A1) (a2 : A2) (a3 : A3) (a4 : A4) (a5 : A5) (a6 : A6) (a7 : A7) (a8 : A8) (h : p a1 a2 a3 a4 a5 a6 a7 a8) : Ex8 p
inductive Ex9 {A1 A2 A3 A4 A5 A6 A7 A8 A9 : Type} (p : A1 → A2 → A3 → A4 → A5 → A6 → A7 → A8 → A9 → Prop) : Prop
  | mk (a1 : A1) (a2 : A2) (a3 : A3) (a4 : A4) (a5 : A5) (a6 : A6) (a7 : A7) (a8 : A8) (a9 : A9) (h : p a1 a2 a3 a4 a5 a6 a7 a8 a9) : Ex9 p
inductive Ex10 {A1 A2 A3 A4 A5 A6 A7 A8 A9 A10 : Type} (p : A1 → A2 → A3 → A4 → A5 → A6 → A7 → A8 → A9 → A10 → Prop) : Prop
  | mk (a1 : A1) (a2 : A2) (a3 : A3) (a4 : A4) (a5 : A5) (a6 : A6) (a7 : A7) (a8 : A8) (a9 : A9) (a10 : A10) (h : p a1 a2 a3 a4 a5 a6 a7 a8 a9 a10) : Ex10 p
set_option maxHeartbeats 0
noncomputable section
open List renaming length_map→yaa,mem_singleton→yda,length_cons→yga,length_append→yha,mem_cons→yia,mem_cons_of_mem→yla,getElem?_eq_some_iff→yma,mem_cons_self→ypa,getElem?_eq_getElem→yqa,size_toArray→yta,mem_append→yua,map_append→yva,mem_of_getElem?→ywa,take_of_length_le→yya,length_take→yza,map_cons→ygb,getElem?_map→yhb,cons_ne_nil→yib,replicate→ynb,take_add_one→yob,mem_append_right→yqb,mem_map→ysb,not_mem_nil→yvb,length_replicate→yyb,getElem?_append_right→yzb,getD_eq_getElem?_getD→ycc,append_nil→yfc,length_range→ylc,Nodup→ync,range→ypc,getElem?_append_left→yrc,getElem?_cons_succ→ysc,flatten_cons→ytc,append_assoc→yuc,mem_append_left→ywc,getElem?_set_self→ybd,sum_cons→ydd,all_eq_true→ymd,map_replicate→yrd,map_map→yud,drop_zero→yxd,cons_append→yyd,length_drop→yie,lookup→yje,replicate_succ→yle,map_nil→ype,length_nil→yre,lookup_cons→yze,getElem?_set_ne→ybf,length_eq_zero_iff→ydf,filterMap_cons→ymf,length→ynf,range_succ→ysf,take_length→yxf,mem_filterMap→yag,length_singleton→ybg,getElem?_drop→ycg,getElem?_eq_none→yfg,length_set→yrg,getElem?_cons_zero→ybh,append_eq_nil_iff→yih,nil_append→ymh,getElem?_nil→yuh,getElem?_range→yfi,length_pos_iff→ygi,flatten_append→yhi,drop_succ_cons→yii,sum_nil→yni,getElem?_replicate→yti,sum_append→ywi,filter_append→yzi,filter_cons_of_pos→yaj,filter_cons_of_neg→ybj,nodup_append→ymj,drop_drop→ynj,getElem?_toArray→ysj,length_filter_le→yuj,drop_length→yzj,nodup_cons→yhk,mem_map_of_mem→yrk,length_eraseIdx_of_lt→ywk,map_inj_right→yhl,map→yil,drop_eq_getElem_cons→yol,drop_left→ypl,nodup_nil→yql,getElem?_take_of_lt→ytl,foldl→ywl,Perm→ycm,sublist_append_left→ygm,pairwise_singleton→yrm,of_mem_zip→yjn,forIn_cons→ymn,contains_iff_mem→yvn,mem_of_mem_take→ygo,mem_of_mem_drop→yho,replicate_succ'→yio,mem_range→yjo,filterMap_map→yxo,drop→ycp,pairwise_cons→ygp,count_eq_zero→yjp,push_toArray→ytp,getElem_mem→ypq,mem_flatten→ytq
open PySem.W renaming Frag→yba,kitOne→yna,findIn→ybb,nsIn→yjb,mg_of→yxb,mg_none_of→ykc,kia_one→ykd,hideAll_none→ytd,emptyDict→yae,hideAll→ybe,plainGet→yxe,keepIn→yff,hasDictIn→yhf,instObj→ylf,plainOver→ypg,kia_tup→yvg,fnOf→yxg,hideAll_get→yyg,subIn→yeh,funFrames_hide→yhh,of_hideAll→ylh,looks_findIn→ywh,codeIn→yxh,kitAny→yai,clsIn→yui,specialIn→ygj,plainGet_of→ygk,isFn→yyk,callWith_K→yal,lookIn→yjl,methodObj→yrl,kitx_list→ysl,cellsFrom_some→yxm,takerIn→yfn,makesIn→ygn,takesIn→yhn,methodCall_KW→yin,OpenLaw→yln,looks_subIn→yro,mroIn→yuo,kitx_tuple→yvo,kitx_none→ylp,kitx_bool→ymp,kitx_dict→ynp,handedIn→ykq,kitx_int→ylq,kitx_str→ymq,Looks→yjr,WalkO→ykr,excIn→ylr
open PySem renaming wpAny_bind→yca,wpAny_pure→yka,sizeLine→yxa,mainGlobals→yfb,boot_len→ykb,Program→ybc,wpAny_holding→yyc,starEach→yzc,wpAny_mono→yed,wpAny_newObj_type→ygd,NameKind→yhd,strKind→yjd,wpAny_truthy_bool→yzd,compareOp→yde,FuncData→yne,codeAny_builtin→yqe,call_meets→yte,Builtin→ywe,wpAny_call_entry→yye,wpAny_isInstance→yaf,wpAny_callSpecial?_slot→ycf,wpAny_setState_of→yif,wpAny_loadPart_at→yjf,bootBuiltins→yyf,SetTable→ydg,wpAny_setField_rec→yeg,wpAny_binaryOp_repeat_ref→ykg,wpAny_passesOwn→yng,wpAny_pyIter_list→yog,slot_dict_getitem→yug,mem_of_lookup→yah,wpAny_getItem_str_slice→ych,plainId_quiet→ydh,wpAny_ite_split→yoh,assignEach→yqh,binaryOp→yrh,attributeBase→ysh,codeAny→yvh,wpAny_askSetting→ybi,typeIs_int→yki,wpAny_comprehension_free→yli,wpAny_execs_nil→yri,wpAny_Call_Name_kw→ysi,wpAny_pyNext_list_item→ycj,foldedSetIterable→yfj,wpAny_field→yhj,wpAny_sequenceKey→yij,sliceBounds→yjj,wpAny_pyNext_list_end→yoj,codeAny_mono→yqj,codeAny_call_builtin→yak,letOwnedTupleGo→yek,noteFrame→yjk,post_val_or_str→ykk,pickOrder→ylk,wpAny_updateSeq→yok,wpAny_typeOf→ybl,reprText→ygl,intText?→yll,typeIs_str→yvl,scanBound→yzl,fits_of_scanBound→yam,seqItems?→ydm,wpAny_standAt→yim,behindInMarks→yjm,keywordEach→ykm,excClassObj→yqm,checkBuiltinCall→yvm,codeAny_compStart_list→yan,Within→ydn,holding→yen,getItem→ykn,builtinLookup_eq_fast→yrn,setNext→ysn,wpAny_ite_false→yun,compEnvC→yyn,relayAll→yzn,isInstance→yao,setsByText→ybo,sliceRange_one→yko,isSubtype_type→ylo,relabel→ymo,notedBy→yno,wpAny_of_eq→ypo,setField→ybp,strLen_append→yep,wpAny_load→ykp,BindsTo→ypp,Keyword→yqp,leaving→yrp,callerA→ysp,ElemsOf→ywp,wpAny_rule→yxp,passOn→yiq,seqSlot_of→yrq,Operator→yuq,backToKw→yvq,swapsWith→yxq,getMethod→yyq,putSet_of→ycr,setFlight→yer,call→yhr
open PySem.Heap renaming get?_push_of_some→yea,lt_size→yoa,get?_push_size→ysa,get?_update_other→yoc,get?_update_self→ysd,size_push→yvd,SameBut→yzf,FlyingW→yfl,get?_push_ne→yaq,size_update→yqq
open PySem.Str renaming join→yfa,append_assoc→ymc,empty→ypj,ofString→yrj,length→yxn,length_append→ybq
open Nat renaming le_refl→yja,lt_of_lt_of_le→yra,le_trans→yab,ne_of_lt→ydb,zero_le→yrb,lt_irrefl→yqc,lt_succ_of_lt→ynd,lt_succ_self→yhe,le_of_lt→ywg,le_succ→yzg,ne_of_gt→yji,sub_self→yoi,not_lt_zero→yvi,add_sub_cancel_left→yxi,mul_le_mul_right→ybk,le_of_eq→yzk,sub_zero→ywn,add_le_add_right→yfo,lt_of_le_of_lt→yzo,zero_add→ygq,toDigits→yhq,lt_or_ge→yjq,add_mul→yfr
open Option renaming bind_eq_some_iff→ycb,map_eq_some_iff→ymb,toList_some→yxc,bind_eq_none_iff→yef,toList_none→ydl,getD_none→ynq
open PySem.Txt renaming split→yeb,slice→ynn,slice_le→yon
open Bool renaming false_ne_true→ylb,and_eq_true→yjc,false_eq_true→yqd,eq_false_iff→ykf,false_and→yig,true_and→yth,eq_iff_iff→yfk,and_false→ykl,or_false→yyo,not_eq_true'→yup
open PySem.F renaming plainAttrs_list→ypb,plainAttrs_str→ytb,slot_list_append→ydc,type_list_append→yec,slot_str_join→ygc,type_str_join→yhc,called_set→yee,slot_int_rmul→yof,slot_str_split→yjh,type_str_split→ykh,plain_sum_loop→yci,slot_list_extend→ypi,type_list_extend→yqi,args_int_rmul_2→ykj,typeOf_object_class→ytj,slot_int_index→ywj,entry_int_rmul→yxj,fills_int_mul→yik,excBase_ValueError→yxk,args_str_split_2→ycl,args_tuple_mul_2→yel,plain_extend_loop→ynl,args_tuple_add_2→yul,entry_str_split→yxl,entry_tuple_mul→yfm,entry_tuple_add→ylm,plain_list_iadd→ynm,slot_tuple_rmul→ypm,slot_list_clear→ysm,type_list_clear→ytm,slot_str_split→yum,slot_tuple_mul→ywm,slot_tuple_add→yym,slot_tuple_mul→ybn,plain_set_new→yqn,slot_set_iter→ytn,sub_list_bytearray→ydo,excAttr_ValueError→yeo,slot_gs_get→ydp
open Option.some renaming inj→yub
open Array renaming length_toList→ywb,getElem?_toList→yad,getElem?_eq_getElem→ywd,toList_append→ypf,getElem?_eq_some_iff→yuf,toArray_toList→ymg,getD_eq_getD_getElem?→ynh,getElem?_eq_none→yej,size_append→ylj,toList_inj→yyj,toList_push→yyp,all_toList→ysq
open Int renaming toNat_natCast→yac,natAbs_natCast→yve,zero_add→yhg,emod_lt_of_pos→yyi,emod_nonneg→ysk,toNat_of_nonneg→yqo
open PyProof.Rows renaming boot_isinstance→yic,slot_tuple_getitem→yfd,callWith_type1→yce,boot_tuple→yme,boot_str→ydi,subscriptTail_builtinR→ydj,boot_list→yvj,AllBare→yhm,StrsAre→ymm,sortedS→yom,boot_int→yhp,boot_sum→ywq,IntsAre→yar,boot_bool→ygr
open Ne renaming symm→yvc
open PySem.SeqAt renaming shaped→ycd,EqAt→yke,canLay_of_shaped→ycn
open PySem.Builtin.Str renaming occurrences→yid,strSliceIndices→yrf,partsBetween→ytg,strKind→yei
open PySem.PyData renaming canLay0→yod,canLayAll0→ypd,depthAll→yfe,eqvAll→yoe,eqv→ywf,depth→ygg
open PySem.Around renaming under_plainId→yge,under→yeq
open False renaming elim→yse
open PySem.StrLaws renaming join_split→yue,glued_eq_join→ypn
open PyProof.Rows.F renaming plain_set_update_loop→ygf,entry_set_update_loop→yzh
open PySem.PassesOwn renaming never→yqf,leaving→ycq
open PySem.Builtin.Tuple renaming tupleTooMany→ytf,tupleExact→yqg,tupleItemsOf→yvk
open PySem.Obj renaming mapSeq→yvf,putSet→ybm,data_mapFields→yfp
open PySem.Builtin.Slice renaming slicePlaces→yjg,sliceAdjust→yyh,sliceApplied→yuk
open PyProof.Rows.KTD renaming datumAt→ylg,datLooks→ymi,isSome_datumAt→yip,Dat→yvp,TextTab→ybr,tabLook→ydr,inKeys→yir
open PySem.Builtin.List renaming listTooLong→ysg,listLengthHint→ymk,listExtendWith→ynk,listSameRef→yem
open PySem.SetTable renaming grown→yfh,below→ygh
open PySem.Value renaming isStrOf→yph,isStrOf_shape→ydk
open PySem.Shared renaming TypeIs→yck
open PySem.Builtin.Builtins renaming bindParams→ypk
open List.cons renaming injEq→yqk
open PySem.Calls renaming Name_function_global→ytk,callWith_builtin→yzm,evalArgs_plain→yco,spliced_cons→ywo,spliced_nil→yop
open List.Perm renaming refl→yml
open PySem.Heap.SameBut renaming refl→yyl,update→yoo
open PySem.SeqAt.EqAt renaming int_str→yso,str_int→yto
open PySem.Code renaming quiet_builtin→yap,isFrame→yfq
open PySem.SetTable.below renaming go→yzp
open List.Sublist renaming refl→ydq
open PySem.P renaming add_list→yoq
open PyProof.Rows.IsTup renaming new→yzq
open Prod.mk renaming injEq→ymr
open PySem.pickOrder renaming go→ynr
namespace L2
open PySem PySem.Spec PyProof.Rows
abbrev Key:=Sum Int Str
def zlcc:Key->Value->Bool
 | .inl k,v=>Value.isInt k v
 | .inr x,v=>yph x v
def keyH (w:World):Key->Int
 | .inl k=>hashInt k
 | .inr x=>hashStr w x
theorem zme:∀{k:Key} {v:Value},zlcc k v=true->(Ex2 λi t=>k=Sum.inl i∧v=Value.int i t)∨(Ex2 λx t=>k=Sum.inr x∧v=Value.str x t)
 | .inl i,v,h=>by
  obtain⟨t,e⟩:=Value.isInt_shape (k:=i) (v:=v) h;exact .inl ⟨i,t,rfl,e⟩
 | .inr x,v,h=>by
  obtain⟨t,e⟩:=ydk (x:=x) (v:=v) h;exact .inr ⟨x,t,rfl,e⟩
theorem zkcc (a b:Int):decide ((Sum.inl a:Key)=Sum.inl b)=(a==b):=by
 by_cases e:a=b
 ·subst e;simp
 ·have h:¬ (Sum.inl a:Key)=Sum.inl b:=λq=>e (Sum.inl.inj q);rw[decide_eq_false h];exact (beq_eq_false_iff_ne.mpr e).symm
theorem zgcc (a b:Str):decide ((Sum.inr a:Key)=Sum.inr b)=decide (a=b):=by
 by_cases e:a=b
 ·subst e;simp
 ·have h:¬ (Sum.inr a:Key)=Sum.inr b:=λq=>e (Sum.inr.inj q);rw[decide_eq_false h,decide_eq_false e]
theorem zjcc (a:Int)(b:Str):decide ((Sum.inl a:Key)=Sum.inr b)=false:=decide_eq_false (λq=>nomatch q)
theorem zicc (a:Str)(b:Int):decide ((Sum.inr a:Key)=Sum.inl b)=false:=decide_eq_false (λq=>nomatch q)
def zkib (prog:ybc)(w:World):PySem.KeyKind prog w Key where
 is:=zlcc
 hash:=keyH w
 inj:=λv a b ha hb=>by
  rcases zme ha with⟨i,t,rfl,rfl⟩|⟨x,t,rfl,rfl⟩
  ·rcases zme hb with⟨j,u,rfl,e⟩|⟨y,u,rfl,e⟩
   ·injection e with e1 _;rw[e1]
   ·exact nomatch e
  ·rcases zme hb with⟨j,u,rfl,e⟩|⟨y,u,rfl,e⟩
   ·exact nomatch e
   ·injection e with e1 _;rw[e1]
 byValue:=λk v h=>by
  rcases zme h with⟨i,t,rfl,rfl⟩|⟨x,t,rfl,rfl⟩<;>rfl
 pyHash:=λhv h=>by
  rcases zme hv with⟨i,t,rfl,rfl⟩|⟨x,t,rfl,rfl⟩
  ·exact wpAny_pyHash_int h
  ·exact wpAny_pyHash_str h
 eqBool:=λhu hv h=>by
  rcases zme hu with⟨i,t,rfl,rfl⟩|⟨x,t,rfl,rfl⟩
  ·rcases zme hv with⟨j,u,rfl,rfl⟩|⟨y,u,rfl,rfl⟩
   ·rw[zkcc] at h;exact wpAny_eqBool_int h
   ·rw[zjcc] at h;exact yso i t y u _ _ _ _ h
  ·rcases zme hv with⟨j,u,rfl,rfl⟩|⟨y,u,rfl,rfl⟩
   ·rw[zicc] at h;exact yto x t j u _ _ _ _ h
   ·rw[zgcc] at h;exact wpAny_eqBool_str h
 «strs»:=λk x t v h=>by
  rcases zme h with⟨i,u,rfl,e⟩|⟨y,u,rfl,e⟩
  ·exact nomatch e
  ·injection e with e1 _
   subst e1;cases v<;>rfl
end L2
namespace L2
open PySem PySem.Spec PyProof.Rows
inductive V where
 | non|bl (b:Bool)|int (i:Int)|str (x:Str)|byt (b:Array UInt8)|flt (b:UInt64)|ref (a:Addr)|ty (n:String)
 deriving DecidableEq
def RelV:V->Value->Prop
 | .non,u=>u=Value.none
 | .bl b,u=>u=Value.bool b
 | .int i,u=>∃t,u=Value.int i t
 | .str x,u=>∃t,u=Value.str x t
 | .byt b,u=>∃t,u=Value.bytes b t
 | .flt b,u=>∃t,u=Value.float b t
 | .ref a,u=>u=Value.ref a
 | .ty n,u=>u=Value.type n
abbrev Vals:List V->List Value->Prop:=Paired RelV
theorem Vals.length {xs:List V}{us:List Value}(r:Vals xs us):xs.length=us.length:=Paired.length r
theorem Vals.get:∀{xs:List V} {us:List Value} {i:Nat} {x:V},Vals xs us->xs[i]?=some x->∃u,us[i]?=some u∧RelV x u
 | _,_,_,_,.nil,e=>by simp at e
 | _,_,0,_,.cons r _,e=>by simp at e;subst e;exact⟨_,rfl,r⟩
 | _,_,i+1,x,.cons _ t,e=>by
  obtain⟨u,h1,h2⟩:=Vals.get (i:=i) (x:=x) t (by simpa using e);exact⟨u,by simpa using h1,h2⟩
theorem Vals.set {x:V}{u:Value}(r:RelV x u):∀{xs:List V} {us:List Value} (i:Nat),Vals xs us->Vals (xs.set i x) (us.set i u)
 | _,_,_,.nil=>.nil
 | _,_,0,.cons _ t=>.cons r t
 | _,_,i+1,.cons q t=>.cons q (Vals.set r i t)
theorem Vals.append:∀{xs ys:List V} {us ws:List Value},Vals xs us->Vals ys ws->Vals (xs++ys) (us++ws)
 | _,_,_,_,.nil,s=>s
 | _,_,_,_,.cons r t,s=>.cons r (Vals.append t s)
theorem Vals.take:∀{xs:List V} {us:List Value} (n:Nat),Vals xs us->Vals (xs.take n) (us.take n)
 | _,_,0,_=>.nil
 | _,_,_+1,.nil=>.nil
 | _,_,n+1,.cons r t=>.cons r (Vals.take n t)
theorem Vals.drop:∀{xs:List V} {us:List Value} (n:Nat),Vals xs us->Vals (xs.drop n) (us.drop n)
 | _,_,0,r=>r
 | _,_,_+1,.nil=>.nil
 | _,_,n+1,.cons _ t=>Vals.drop n t
def RelO:Option V->Option Value->Prop
 | some v,some u=>RelV v u
 | none,none=>True
 | _,_=>False
def KV {κ:Type}:List (κ×V)->List (κ×Value)->Prop:=Paired λ(p:κ×V) (q:κ×Value)=>p.1=q.1∧RelV p.2 q.2
def kV:Key->V
 | .inl i=>.int i
 | .inr x=>.str x
inductive HO where
 | lst (xs:List V)
 | tup (xs:List V)
 | dK (kvs:List (Key×V))|dT (kvs:List (List Key×V))
 | set (S:Int->Bool) (n:Nat)
 | ins (C dx:Addr) (fs:List (Str×V))
 | own (x:Addr)
 | xd (fs:List (Str×V))
 | met (f x:Addr)
 | rng (lo hi:Int)
 | frz (o:Obj) (u:HO)
 | tbl (ps:Array Value)
 | ext (φ:Heap->Prop)
abbrev Hp:=Addr->Option HO
def upd (H:Hp)(a:Addr)(o:HO):Hp:=λb=>if b=a then some o else H b
theorem zfa {H:Hp}{a:Addr}{o:HO}:upd H a o a=some o:=by unfold upd;rw[if_pos rfl]
theorem zxa {H:Hp}{a b:Addr}{o:HO}(h:b≠a):upd H a o b=H b:=by unfold upd;rw[if_neg h]
theorem zlm {H:Hp}{a:Addr}{o u:HO}:upd (upd H a o) a u=upd H a u:=by
 funext b;unfold upd;split<;>rfl
theorem zsp {H:Hp}{a b:Addr}{o u:HO}(h:H a=some o)(h':H b=some u)(d:o≠u):a≠b:=by
 intro e;subst e;rw[h] at h';exact d (yub h')
theorem zpa {H:Hp}{a b:Addr}{o:HO}(h:H a=some o)(h':H b=none):a≠b:=by
 intro e;subst e;rw[h] at h';cases h'
section
variable (P:ybc)(w:World)
def zwl (H:Hp)(h:Heap)(a:Addr):HO->Prop
 | .lst xs=>xs.length≤yxa∧Ex2 λ(its:List Value) (n:Nat)=>Vals xs its∧h.get? a=some { cls:=.type "list",data:=.seq its.toArray n }
 | .tup xs=>xs.length≤yxa∧∃its:List Value,Vals xs its∧IsTup h a its.toArray
 | .dK kvs=>kvs.length≤yxa∧(a==sysModules)=false∧∃vs,KV kvs vs∧h.DictOf (zkib P w) a vs
 | .dT kvs=>kvs.length≤yxa∧(a==sysModules)=false∧∃xs:List (List Key×Addr×Value),
   Paired (λ(p:List Key×V) (q:List Key×Addr×Value)=>p.1=q.1∧H q.2.1=some (.tup (p.1.map kV))∧RelV p.2 q.2.2) kvs xs ∧
   Ex3 λo es ep=>h.get? a=some o∧o.ExactDict∧o.data = .dict es ep∧es.toList=xs.map (entryOfKey (tupleKind (zkib P w)))∧(xs.map (·.1)).Nodup
 | .set S n=>h.SetOf (intKind P w) a S n
 | .ins C dx fs=>H dx=some (.own a)∧fs.length≤1000∧dx≠a∧h.get? a=some (ylf C dx) ∧
   ∃mA,h.Ns1 dx mA∧(∀f,RelO (fs.lookup f) (mA f))∧ydn mA (fs.map (·.1))
 | .own _=>∃o,h.get? a=some o
 | .xd fs=>∃mA,h.Ns1 a mA∧∀f,RelO (fs.lookup f) (mA f)
 | .rng lo hi=>Ex3 λt u v=>h.get? a=some { cls:=.type "range",data:=.fields #[.int lo t,.int hi u,.int 1 v] }
 | .frz o u=>h.get? a=some o∧zwl H h a u
 | .tbl ps=>h.get? a=some { cls:=.none,data:=.fields ps }
 | .met f x=>h.get? a=some (yrl (.ref f) (.ref x))
 | .ext φ=>φ h∧(∃o,h.get? a=some o)∧∀h1 h2:Heap,φ h1->(∀o,h1.get? a=some o->h2.get? a=some o)->φ h2
def HOk (H:Hp)(h:Heap):Prop:=∀a o,H a=some o->zwl P w H h a o
end
section
variable {P:ybc}{w:World}{H H':Hp}{h h':Heap}{a:Addr}{o:HO}
theorem zwl.lt (x:zwl P w H h a o):a<h.objs.size:=by
 cases o with
 | lst xs=>obtain⟨_,_,_,_,e⟩:=x;exact yoa e
 | tup xs=>obtain⟨_,_,_,p⟩:=x;exact p.lt
 | dK kvs=>obtain⟨_,_,_,_,o,_,_,e,_⟩:=x;exact yoa e
 | dT kvs=>obtain⟨_,_,_,_,o,_,_,e,_⟩:=x;exact yoa e
 | set S n=>obtain⟨o,_,_,_,e,_⟩:=x;exact yoa e
 | ins C dx fs=>obtain⟨_,_,_,e,_⟩:=x;exact yoa e
 | own y=>obtain⟨_,e⟩:=x;exact yoa e
 | xd fs=>obtain⟨_,⟨_,_,_,e,_⟩,_⟩:=x;exact yoa e
 | rng lo hi=>obtain⟨_,_,_,e⟩:=x;exact yoa e
 | frz ob u=>obtain⟨e,_⟩:=x;exact yoa e
 | tbl ps=>exact yoa (show h.get? a=some _ from x)
 | met f y=>exact yoa (show h.get? a=some _ from x)
 | ext φ=>obtain⟨_,⟨_,e⟩,_⟩:=x;exact yoa e
theorem Paired.mapP {α β:Type}{F G:α->β->Prop}:∀{l₁:List α} {l₂:List β},Paired F l₁ l₂->(∀a b,F a b->G a b)->Paired G l₁ l₂
 | _,_,.nil,_=>.nil
 | _,_,.cons r t,f=>.cons (f _ _ r) (Paired.mapP t f)
theorem zwl.stay (x:zwl P w H h a o)(k:∀b u,(b=a∨H b=some (.own a))->h.get? b=some u->h'.get? b=some u)
  (ho:∀b,H b=some (.own a)->H' b=some (.own a)) (ht:∀b xs,H b=some (.tup xs)->H' b=some (.tup xs)):zwl P w H' h' a o:=by
 induction o with
 | lst xs=>obtain⟨z,its,n,r,e⟩:=x;exact⟨z,its,n,r,k _ _ (.inl rfl) e⟩
 | tup xs=>obtain⟨z,its,r,ob,e,c⟩:=x;exact⟨z,its,r,ob,k _ _ (.inl rfl) e,c⟩
 | dK kvs=>obtain⟨z,y,vs,r,ob,es,ep,e,c⟩:=x;exact⟨z,y,vs,r,ob,es,ep,k _ _ (.inl rfl) e,c⟩
 | dT kvs =>
  obtain⟨z,y,xs,r,ob,es,ep,e,c⟩:=x;exact⟨z,y,xs,Paired.mapP r λp q z=>⟨z.1,ht _ _ z.2.1,z.2.2⟩,ob,es,ep,k _ _ (.inl rfl) e,c⟩
 | set S n=>obtain⟨ob,es,ep,t,e,c⟩:=x;exact⟨ob,es,ep,t,k _ _ (.inl rfl) e,c⟩
 | ins C dx fs =>
  obtain⟨d,z,ne,e,mA,⟨od,es,ep,e2,c⟩,r⟩:=x;exact⟨ho _ d,z,ne,k _ _ (.inl rfl) e,mA,⟨od,es,ep,k _ _ (.inr d) e2,c⟩,r⟩
 | own y=>obtain⟨ob,e⟩:=x;exact⟨ob,k _ _ (.inl rfl) e⟩
 | xd fs=>obtain⟨mA,⟨od,es,ep,e,c⟩,r⟩:=x;exact⟨mA,⟨od,es,ep,k _ _ (.inl rfl) e,c⟩,r⟩
 | rng lo hi=>obtain⟨t,u,v,e⟩:=x;exact⟨t,u,v,k _ _ (.inl rfl) e⟩
 | frz ob u ih=>obtain⟨e,q⟩:=x;exact⟨k _ _ (.inl rfl) e,ih q⟩
 | tbl ps =>
  have e:h.get? a=some { cls:=.none,data:=.fields ps }:=x;show h'.get? a=some { cls:=.none,data:=.fields ps }
  exact k a _ (.inl rfl) e
 | met f y =>
  have e:h.get? a=some (yrl (.ref f) (.ref y)):=x;show h'.get? a=some (yrl (.ref f) (.ref y))
  exact k a _ (.inl rfl) e
 | ext φ=>obtain⟨p,⟨o,e⟩,st⟩:=x;exact⟨st _ _ p λo q=>k _ _ (.inl rfl) q,⟨o,k _ _ (.inl rfl) e⟩,st⟩
theorem HOk.lt (x:HOk P w H h)(e:H a=some o):a<h.objs.size:=(x a o e).lt
theorem HOk.fresh (x:HOk P w H h)(e:h.objs.size≤a):H a=none:=by
 cases q:H a with
 | none=>rfl
 | some u=>exact absurd (yra (x.lt q) e) (yqc _)
theorem HOk.kept (x:HOk P w H h)(k:∀b u,h.get? b=some u->h'.get? b=some u):HOk P w H h':=λa o e =>
 (x a o e).stay (λb u _ q=>k b u q) (λ_ q=>q) λ_ _ q=>q
theorem HOk.laid (x:HOk P w H h)(k:∀b u,h.get? b=some u->h'.get? b=some u)(hp:h.objs.size≤a)(new:zwl P w (upd H a o) h' a o):HOk P w (upd H a o) h':=λb u e=>by
 have hn:=x.fresh hp
 by_cases hb:b=a
 ·subst hb;rw[zfa] at e;cases e;exact new
 ·rw[zxa hb] at e;exact (x b u e).stay (λc v _ q=>k c v q) (λc q=>by rw[zxa (zpa q hn)];exact q) λc xs q=>by rw[zxa (zpa q hn)];exact q
end
def Rd (H:Hp)(a:Addr)(u:HO):Prop:=H a=some u∨∃o,H a=some (.frz o u)
theorem Rd.ok {P:ybc}{w:World}{H:Hp}{h:Heap}{a:Addr}{u:HO}(r:Rd H a u)(x:HOk P w H h):zwl P w H h a u:=by
 rcases r with r|⟨o,r⟩
 ·exact x a u r
 ·obtain⟨_,q⟩:=x a _ r;exact q
def Mut:Option HO->Prop
 | some (.lst _)=>True
 | some (.dK _)=>True
 | some (.dT _)=>True
 | some (.set _ _)=>True
 | some (.ins _ _ _)=>True
 | some (.ext _)=>True
 | _=>False
section
variable {P:ybc}{w:World}{H:Hp}{h h':Heap}{x e:Addr}{o':HO}
theorem HOk.write (ok:HOk P w H h)(mu:Mut (H x))(he:e=x∨H e=some (.own x))(k:∀b u,b≠e->h.get? b=some u->h'.get? b=some u)(heo:∃u,h'.get? e=some u)
  (new:zwl P w (upd H x o') h' x o'):HOk P w (upd H x o') h':=λb u q=>by
 have nown:∀c y,H c=some (.own y)->c≠x:=λc y r z=>by subst z;rw[r] at mu;exact mu
 have ntup:∀c xs,H c=some (.tup xs)->c≠x:=λc xs r z=>by subst z;rw[r] at mu;exact mu
 by_cases hb:b=x
 ·subst hb;rw[zfa] at q;cases q;exact new
 ·rw[zxa hb] at q
  by_cases hbe:b=e
  ·have q':H b=some (.own x):=by
    rcases he with z|z
    ·exact absurd (hbe.trans z) hb
    ·rw[hbe];exact z
   rw[q] at q';cases q';obtain⟨v,hv⟩:=heo;exact⟨v,by rw[hbe];exact hv⟩
  ·refine (ok b u q).stay (λc v hc r=>k c v ?_ r) (λc r=>by rw[zxa (nown c b r)];exact r) λc xs r=>by rw[zxa (ntup c xs r)];exact r
   rcases hc with rfl|hc
   ·exact hbe
   ·rintro rfl
    rcases he with z|z
    ·exact nown c b hc z
    ·rw[hc] at z;cases z;exact hb rfl
end
structure Un (fs ex:List Addr)(H H':Hp)(h h':Heap):Prop where
 keep:∀b o,h.get? b=some o->H b=none->b∉fs->b∉ex->h'.get? b=some o
 slot:∀b o,h.get? b=some o->H b=none->b∈fs->b∉ex->∃sl,h'.get? b=some { o with slots:=sl }
 free:∀b o,h.get? b=some o->H b=none->b∉ex->H' b=none
 there:∀b o,h.get? b=some o->b∉ex->∃o',h'.get? b=some o'
 tups:∀b xs,H b=some (.tup xs)->H' b=some (.tup xs)
 frzs:∀b o u,H b=some (.frz o u)->H' b=some (.frz o u)
 tbls:∀b ps,H b=some (.tbl ps)->∃more,H' b=some (.tbl (ps++more))
section
variable {fs fs' ex ex':List Addr}{H H1 H2:Hp}{h h1 h2 h':Heap}{a x e:Addr}{o:HO}
theorem Un.any (u:Un fs ex H H1 h h1){b:Addr}{ob:Obj}(q:h.get? b=some ob)(n:H b=none)(hx:b∉ex):∃sl,h1.get? b=some { ob with slots:=sl }:=by
 by_cases hb:b∈fs
 ·exact u.slot b ob q n hb hx
 ·exact⟨ob.slots,u.keep b ob q n hb hx⟩
theorem Un.kept (k:∀b u,h.get? b=some u->h'.get? b=some u):Un fs ex H H h h' :=
 ⟨λb ob q _ _ _=>k b ob q,λb ob q _ _ _=>⟨ob.slots,k b ob q⟩,λ_ _ _ n _=>n,λb ob q _=>⟨ob,k b ob q⟩,λ_ _ q=>q,λ_ _ _ q=>q,λ_ ps q=>⟨#[],by rw[q];simp⟩⟩
theorem Un.refl:Un fs ex H H h h:=Un.kept λ_ _ q=>q
theorem Un.laid (k:∀b u,h.get? b=some u->h'.get? b=some u)(hp:h.objs.size≤a)(hn:H a=none):Un fs ex H (upd H a o) h h' where
 keep:=λb u q _ _ _=>k b u q
 slot:=λb u q _ _ _=>⟨u.slots,k b u q⟩
 free:=λb u q n _=>by rw[zxa (ydb (yra (yoa q) hp))];exact n
 there:=λb u q _=>⟨u,k b u q⟩
 tups:=λb xs q=>by rw[zxa (zpa q hn)];exact q
 frzs:=λb u xs q=>by rw[zxa (zpa q hn)];exact q
 tbls:=λb ps q=>⟨#[],by rw[zxa (zpa q hn),q];simp⟩
theorem Un.write (mu:Mut (H x))(he:e=x∨H e=some (.own x))(k:∀b u,b≠e->h.get? b=some u->h'.get? b=some u)(heo:∃u,h'.get? e=some u):Un fs ex H (upd H x o) h h':=by
 have hx:∀b,H b=none->b≠x:=λb n z=>by subst z;rw[n] at mu;exact mu
 have hb:∀b,H b=none->b≠e:=λb n z=>by
  subst z
  rcases he with r|r
  ·exact hx b n r
  ·rw[n] at r;cases r
 have hm:∀b u,H b=some u->¬ Mut (some u)->b≠x:=λb u q nm z=>by subst z;rw[q] at mu;exact nm mu
 refine⟨λb u q n _ _=>k b u (hb b n) q,λb u q n _ _=>⟨u.slots,k b u (hb b n) q⟩,λb u q n _=>by rw[zxa (hx b n)];exact n,λb u q _=>?_,
  λb xs q=>by rw[zxa (hm b _ q λz=>z)];exact q,λb u xs q=>by rw[zxa (hm b _ q λz=>z)];exact q,λb ps q=>⟨#[],by rw[zxa (hm b _ q λz=>z),q];simp⟩⟩
 by_cases hbe:b=e
 ·subst hbe;exact heo
 ·exact⟨u,k b u hbe q⟩
end
def trk (h:Heap)(H:Hp):List Addr:=(ypc h.objs.size).filter λa=>(H a).isSome
def hidT (h:Heap)(H:Hp):Heap:=ybe h (trk h H)
theorem zjqb (h:Heap)(H:Hp):(hidT h H).objs.size=h.objs.size:=PySem.W.hideAll_size _ _
theorem zvtb {h:Heap}{H:Hp}{b:Addr}{o:Obj}(e:h.get? b=some o)(n:H b=none):(hidT h H).get? b=some o :=
 yyg _ e λhm=>by
  have q:(H b).isSome=true:=(List.mem_filter.mp hm).2;rw[n] at q;simp at q
theorem zeyb {h:Heap}{H:Hp}{b:Addr}{o:Obj}(e:(hidT h H).get? b=some o):h.get? b=some o∧H b=none:=by
 have e':h.get? b=some o:=ylh (trk h H) e;refine⟨e',?_⟩;cases q:H b with
 | none=>rfl
 | some x =>
  have hm:b∈trk h H:=List.mem_filter.mpr ⟨yjo.mpr (yoa e'),by simp[q]⟩;have z:(hidT h H).get? b=none:=ytd (trk h H) hm;rw[z] at e;cases e
def zmzb (g h:Heap)(L:Addr):List (Addr×Obj):=(ypc h.objs.size).filterMap λa=>if a=L∨(g.get? a).isSome=true then none else (h.get? a).map λo=>(a,o)
def rest (g h:Heap)(L d:Addr):List (Addr×Obj):=(zmzb g h L).filter λp=>decide (p.1≠d)
end L2
namespace L2
open PySem PySem.Spec PyProof.Rows
structure Mod (K:yba)(mg:Str->Option Value)(base:Heap):Prop where
 kin:K.In base
 glob:base.Ns yfb mg
 blt:∃mb,base.Ns builtinsNs mb∧∀x:Str,x ≠ "__name__"->mb x=yyf x
 nolimit:base.NoLimit
structure Cx where
 prog:ybc
 w:World
 K:yba
 mg:Str->Option Value
 base:Heap
 A:Around
 N:List Str
 s₀:Shared
 H₀:Hp
 env:Env
 outer:List Env
 stack:List Env
 ex:List Addr
 fn:Str->Bool
 calm:Bool
 pn:List (Addr×Obj)
 xe:Value->Shared->Prop
def frs (l:List Env):List Addr:=l.filterMap (·.frame)
abbrev Cx.fs (X:Cx):List Addr:=frs X.outer
def Vis (sc:Scope)(x:Str):Prop:=sc.names.lookup x=some .local∨sc.names.lookup x=some .cell∨sc.names.lookup x=some .free
def Loc (sc:Scope)(x:Str):Prop:=sc.names.lookup x=some .local∨sc.names.lookup x=some .cell
def Look (env:Env)(h:Heap)(m:Str->Option Value)(x:Str)(u:Value):Prop :=
 (env.kindOf x=some .local∧m x=some u)∨((env.kindOf x=some .cell∨env.kindOf x=some .free)∧∃c,env.cells.lookup x=some c∧h.IsCell c (some u))
structure Cx.Ok (X:Cx):Prop where
 mod:Mod X.K X.mg X.base
 kind:X.env.scope.kind = .function
 glob:X.env.globals=yfb
 blt:X.env.builtins=builtinsNs
 above:X.s₀.heap.objs.size≤X.env.locals
 inj:∀x y c,X.env.cells.lookup x=some c->X.env.cells.lookup y=some c->x=y
 has:∀x,(X.env.kindOf x=some .cell∨X.env.kindOf x=some .free)->∃c,X.env.cells.lookup x=some c
 cab:∀x c,X.fn x=true->X.env.cells.lookup x=some c->X.s₀.heap.objs.size≤c
 hd:X.calm=true->X.A.handled=none
 frames:X.A.frames=some X.stack
 stk:X.stack=X.outer∨(X.stack=X.env::X.outer∧X.env.frame=some X.env.locals)
 exf:∀b∈X.ex,b≠X.env.locals∧∀x c,X.env.cells.lookup x=some c->c≠b
 bs:∀b o,X.base.get? b=some o->X.s₀.heap.get? b=some o∧X.H₀ b=none
 bsz:X.base.objs.size≤X.s₀.heap.objs.size
 noex:∀b o,X.base.get? b=some o->b∉X.ex
 exfs:∀b∈X.ex,b∉X.fs
 funs:X.s₀.heap.FunFrames X.base X.outer
 frf:∀b∈X.fs,X.H₀ b=none
structure Inv (X:Cx)(pins:List (Addr×Obj))(σ:List (Option V))(H:Hp)(s:Shared):Prop where
 ok:X.Ok
 os:s.os=X.s₀.os
 bare:yhm s.gens
 base:Un X.fs X.ex X.H₀ H X.s₀.heap s.heap
 loc:∃m,s.heap.Ns X.env.locals m∧∀(i:Nat) (x:Str) (v:V),X.N[i]?=some x->σ[i]?=some (some v)->Vis X.env.scope x->∃u,RelV v u∧Look X.env s.heap m x u
 cell:∀x c,X.env.cells.lookup x=some c->∃v,s.heap.IsCell c v
 free:H X.env.locals=none
 freeC:∀x c,X.env.cells.lookup x=some c->H c=none
 pin:∀p∈X.pn++pins,s.heap.get? p.1=some p.2∧H p.1=none∧p.1≠X.env.locals∧p.1∉X.fs∧∀v,p.2.data ≠ .cell v
 hok:HOk X.prog X.w H s.heap
 len:σ.length=X.N.length
section
variable {X:Cx}{pins:List (Addr×Obj)}{σ:List (Option V)}{H H':Hp}{s:Shared}{h':Heap}
theorem Cx.Ok.nofr (ok:X.Ok){b:Addr}{o:Obj}(e:X.base.get? b=some o):b∉X.fs:=λhb=>by
 have:=(ok.funs.mem hb).1;rw[e] at this;cases this
theorem Inv.bs (I:Inv X pins σ H s):∀b o,X.base.get? b=some o->s.heap.get? b=some o∧H b=none:=λb o e =>
 ⟨I.base.keep b o (I.ok.bs b o e).1 (I.ok.bs b o e).2 (I.ok.nofr e) (I.ok.noex b o e),I.base.free b o (I.ok.bs b o e).1 (I.ok.bs b o e).2 (I.ok.noex b o e)⟩
theorem Inv.bk (I:Inv X pins σ H s):∀b o,X.base.get? b=some o->s.heap.get? b=some o:=λb o e=>(I.bs b o e).1
theorem Inv.mod (I:Inv X pins σ H s):Mod X.K X.mg X.base:=I.ok.mod
theorem Inv.kIn (I:Inv X pins σ H s):X.K.In s.heap:=I.ok.mod.kin.keeps I.bk
theorem Inv.fr (I:Inv X pins σ H s):∃m,Fr X.base X.env.locals s.heap m :=
 let ⟨m,hn,_⟩:=I.loc
 ⟨m,hn,I.bk,yab I.ok.bsz I.ok.above⟩
theorem Inv.lt (I:Inv X pins σ H s):X.env.locals<s.heap.objs.size:=let ⟨_,hn,_⟩:=I.loc;hn.lt
theorem Inv.sz (I:Inv X pins σ H s):X.s₀.heap.objs.size≤s.heap.objs.size:=yab I.ok.above (ywg I.lt)
theorem Inv.nofs (I:Inv X pins σ H s){a:Addr}(h:s.heap.objs.size≤a):a∉X.fs:=λhb=>by
 obtain⟨_,o,ho,_⟩:=I.ok.funs.mem hb;exact absurd (yra (yoa ho) (yab I.sz h)) (yqc _)
theorem Inv.cne (I:Inv X pins σ H s):∀x c,X.env.cells.lookup x=some c->c≠X.env.locals:=λx c e z=>by
 obtain⟨v,o,ho,hd⟩:=I.cell x c e;obtain⟨m,⟨o',es,ep,ho',hd',_⟩,_⟩:=I.loc;rw[z,ho'] at ho;cases ho;rw[hd'] at hd;cases hd
theorem Inv.funs (I:Inv X pins σ H s):s.heap.FunFrames X.base X.outer:=by
 have all:∀(l:List Env),(∀b∈frs l,b∈X.fs)->X.s₀.heap.FunFrames X.base l->s.heap.FunFrames X.base l:=by
  intro l
  induction l with
  | nil=>intro _ _;trivial
  | cons env r ih =>
   intro hs hl;obtain⟨hk,⟨L,o,hf,hn,ho,hd⟩,hr⟩:=hl;have hL:L∈X.fs:=hs L (by unfold frs;rw[ymf,hf];exact ypa);obtain⟨sl,e⟩:=I.base.slot L o ho (I.ok.frf L hL) hL λz=>I.ok.exfs L z hL;exact⟨hk,⟨L,_,hf,hn,e,hd⟩,ih (λb hb=>hs b (by unfold frs;rw[ymf,hf];exact yla _ hb)) hr⟩
 exact all X.outer (λ_ hb=>hb) I.ok.funs
theorem Inv.stack (I:Inv X pins σ H s):s.heap.FunFrames X.base X.stack:=by
 rcases I.ok.stk with e|⟨e,hf⟩
 ·rw[e];exact I.funs
 ·rw[e];obtain⟨m,hn,_⟩:=I.loc;refine .cons (by rw[I.ok.kind];decide) hf hn ?_ I.funs;exact Heap.get?_none_of_le (yab I.ok.bsz I.ok.above)
theorem Inv.zqw (I:Inv X pins σ H s):∀b∈frs X.stack,b∈X.env.locals::X.fs:=λb hb=>by
 rcases I.ok.stk with e|⟨e,hf⟩
 ·rw[e] at hb;exact yla _ hb
 ·rw[e] at hb;unfold frs at hb;rw[ymf,hf] at hb;exact hb
theorem Inv.zthb (I:Inv X pins σ H s):∀b∈frs X.stack,H b=none:=λb hb=>by
 rcases yia.mp (I.zqw b hb) with e|hb
 ·rw[e];exact I.free
 ·obtain⟨_,o,ho,_⟩:=I.ok.funs.mem hb;exact I.base.free b o ho (I.ok.frf b hb) λz=>I.ok.exfs b z hb
theorem Inv.step {g':Array GenState}{t':Nat}{d':Drawn}{ch:List Addr}(I:Inv X pins σ H s)
  (hch:∀b∈ch,(b∈X.ex∨X.s₀.heap.objs.size≤b)∧b≠X.env.locals∧(∀x c,X.env.cells.lookup x=some c->c≠b)∧∀p∈X.pn++pins,p.1≠b)
  (keep:∀b o,b≠X.env.locals->b∉X.fs->b∉ch->s.heap.get? b=some o->H b=none->h'.get? b=some o)
  (slot:∀b o,b≠X.env.locals->b∈X.fs->b∉ch->s.heap.get? b=some o->H b=none->∃sl,h'.get? b=some { o with slots:=sl }) (free:∀b o,b∉ch->s.heap.get? b=some o->H b=none->H' b=none)
  (there:∀b o,b∉ch->s.heap.get? b=some o->∃o',h'.get? b=some o')
  (tups:∀b xs,H b=some (.tup xs)->H' b=some (.tup xs)) (frzs:∀b o u,H b=some (.frz o u)->H' b=some (.frz o u)) (tbls:∀b ps,H b=some (.tbl ps)->∃more,H' b=some (.tbl (ps++more)))
  (ns:∀m,s.heap.Ns X.env.locals m->h'.Ns X.env.locals m) (hok:HOk X.prog X.w H' h') (hg:yhm g') :
  Inv X pins σ H' { s with heap:=h',gens:=g',drawn:=d',toks:=t' }:=by
 have neL:∀b o,X.s₀.heap.get? b=some o->b≠X.env.locals:=λb o e=>ydb (yra (yoa e) I.ok.above);have neC:∀b o,X.s₀.heap.get? b=some o->b∉X.ex->b∉ch:=λb o e hx hb=>by
  rcases (hch b hb).1 with z|z
  ·exact hx z
  ·exact absurd (yra (yoa e) z) (yqc _)
 have cellK:∀x c,X.env.cells.lookup x=some c->∀v,s.heap.IsCell c v->h'.IsCell c v:=λx c e v ⟨o,ho,hd⟩=>by
  have nch:c∉ch:=λz=>(hch c z).2.2.1 x c e rfl
  by_cases hc:c∈X.fs
  ·obtain⟨sl,q⟩:=slot c o (I.cne x c e) hc nch ho (I.freeC x c e);exact⟨_,q,hd⟩
  ·exact⟨o,keep c o (I.cne x c e) hc nch ho (I.freeC x c e),hd⟩
 refine⟨I.ok,I.os,hg,⟨λb o e n hb hx=>?_,λb o e n hb hx=>?_,λb o e n hx=>?_,λb o e hx=>?_,λb xs e=>tups b xs (I.base.tups b xs e),λb o xs e=>frzs b o xs (I.base.frzs b o xs e),λb ps e=>?_⟩,?_,λx c e=>?_,?_,λx c e=>?_,λp hp=>?_,hok,I.len⟩
 ·exact keep b o (neL b o e) hb (neC b o e hx) (I.base.keep b o e n hb hx) (I.base.free b o e n hx)
 ·obtain⟨sl,e1⟩:=I.base.slot b o e n hb hx;obtain⟨sl',e2⟩:=slot b _ (neL b o e) hb (neC b o e hx) e1 (I.base.free b o e n hx);exact⟨sl',e2⟩
 ·obtain⟨o',e1⟩:=I.base.there b o e hx;exact free b o' (neC b o e hx) e1 (I.base.free b o e n hx)
 ·obtain⟨o',e1⟩:=I.base.there b o e hx;exact there b o' (neC b o e hx) e1
 ·obtain⟨m1,e1⟩:=I.base.tbls b ps e;obtain⟨m2,e2⟩:=tbls b _ e1;exact⟨m1++m2,by rw[e2,Array.append_assoc]⟩
 ·obtain⟨m,hn,hl⟩:=I.loc;refine⟨m,ns m hn,λi x v e1 e2 e3=>?_⟩;obtain⟨u,r,l⟩:=hl i x v e1 e2 e3;refine⟨u,r,?_⟩
  rcases l with l|⟨k,c,e,z⟩
  ·exact .inl l
  ·exact .inr ⟨k,c,e,cellK x c e _ z⟩
 ·obtain⟨v,z⟩:=I.cell x c e;exact⟨v,cellK x c e v z⟩
 ·obtain⟨m,⟨o,_,_,ho,_⟩,_⟩:=I.loc;exact free _ o (λz=>(hch _ z).2.1 rfl) ho I.free
 ·obtain⟨v,o,ho,hd⟩:=I.cell x c e;exact free c o (λz=>(hch c z).2.2.1 x c e rfl) ho (I.freeC x c e)
 ·obtain⟨e,n,ne,nf,d⟩:=I.pin p hp;have nch:p.1∉ch:=λz=>(hch p.1 z).2.2.2 p hp rfl;exact⟨keep p.1 p.2 ne nf nch e n,free p.1 p.2 nch e n,ne,nf,d⟩
theorem Inv.un {t':Nat}(I:Inv X pins σ H s)(u:Un X.fs [] H H' s.heap h')(hok:HOk X.prog X.w H' h'):Inv X pins σ H' { s with heap:=h',toks:=t' }:=by
 obtain⟨m,⟨o,es,ep,ho,r⟩,_⟩:=id I.loc;obtain⟨sl,hL⟩:=u.any ho I.free (by simp);exact I.step (g':=s.gens) (d':=s.drawn) (ch:=[]) (λ_ z=>nomatch z) (λb o _ hb _ e n=>u.keep b o e n hb (by simp)) (λb o _ hb _ e n=>u.slot b o e n hb (by simp)) (λb o _ e n=>u.free b o e n (by simp)) (λb o _ e=>u.there b o e (by simp)) u.tups u.frzs u.tbls (λm' hm=>by
  obtain⟨o',es',ep',ho',r'⟩:=hm;rw[ho] at ho';cases ho';exact⟨_,es',ep',hL,r'⟩) hok I.bare
theorem Inv.call {g':Array GenState}{t':Nat}{d':Drawn}{ch:List Addr}(I:Inv X pins σ H s)(u:Un (frs X.stack) ch H H' s.heap h')(hok:HOk X.prog X.w H' h')(hg:yhm g')
  (hch:∀b∈ch,(b∈X.ex∨X.s₀.heap.objs.size≤b)∧b≠X.env.locals∧(∀x c,X.env.cells.lookup x=some c->c≠b)∧∀p∈X.pn++pins,p.1≠b) :
  Inv X pins σ H' { s with heap:=h',gens:=g',drawn:=d',toks:=t' }:=by
 obtain⟨m,⟨o,es,ep,ho,r⟩,_⟩:=id I.loc;obtain⟨sl,hL⟩:=u.any ho I.free λz=>(hch _ z).2.1 rfl;exact I.step (ch:=ch) hch (λb o hL hb hc e n=>u.keep b o e n (λz=>(yia.mp (I.zqw b z)).elim hL hb) hc) (λb o _ _ hc e n=>u.any e n hc) (λb o hc e n=>u.free b o e n hc) (λb o hc e=>u.there b o e hc) u.tups u.frzs u.tbls (λm' hm=>by
  obtain⟨o',es',ep',ho',r'⟩:=hm;rw[ho] at ho';cases ho';exact⟨_,es',ep',hL,r'⟩) hok hg
theorem Inv.turned {t':Nat}{it:Addr}(I:Inv X pins σ H s)(k:∀b o,b≠it->s.heap.get? b=some o->h'.get? b=some o)(hn:H it=none)(hL:it≠X.env.locals)
  (h1:it∈X.ex∨X.s₀.heap.objs.size≤it) (h2:∀x c,X.env.cells.lookup x=some c->c≠it) (h3:∀p∈X.pn++pins,p.1≠it):Inv X pins σ H { s with heap:=h',toks:=t' }:=by
 have nit:∀b u,H b=some u->b≠it:=λb u e z=>by rw[z,hn] at e;cases e
 refine I.step (g':=s.gens) (d':=s.drawn) (ch:=[it]) (λb hb=>?_) (λb o _ _ hc e _=>k b o (λz=>hc (by simp[z])) e) (λb o _ _ hc e _=>⟨o.slots,k b o (λz=>hc (by simp[z])) e⟩) (λ_ _ _ _ n=>n)
  (λb o hc e=>⟨o,k b o (λz=>hc (by simp[z])) e⟩) (λ_ _ e=>e) (λ_ _ _ e=>e) (λb ps e=>⟨#[],by rw[e];simp⟩) (λm hm=>?_) (λb u e=>?_) I.bare
 ·have e:b=it:=by simpa using hb
  subst e;exact⟨h1,hL,h2,h3⟩
 ·obtain⟨o,es,ep,ho,r⟩:=hm;exact⟨o,es,ep,k _ o (yvc hL) ho,r⟩
 ·refine (I.hok b u e).stay (λc v hc q=>k c v ?_ q) (λ_ q=>q) λ_ _ q=>q
  rcases hc with z|z
  ·rw[z];exact nit b u e
  ·exact nit c _ z
theorem Inv.tok (I:Inv X pins σ H s)(t:Nat):Inv X pins σ H { s with toks:=t }:=I.un (h':=s.heap) (t':=t) Un.refl I.hok
theorem Inv.kept {t':Nat}(I:Inv X pins σ H s)(k:∀b u,s.heap.get? b=some u->h'.get? b=some u):Inv X pins σ H { s with heap:=h',toks:=t' }:=I.un (Un.kept k) (I.hok.kept k)
theorem Inv.laid {a:Addr}{o:HO}{t':Nat}(I:Inv X pins σ H s)(k:∀b u,s.heap.get? b=some u->h'.get? b=some u)(hp:s.heap.objs.size≤a)(new:zwl X.prog X.w (upd H a o) h' a o) :
  Inv X pins σ (upd H a o) { s with heap:=h',toks:=t' }:=I.un (Un.laid k hp (I.hok.fresh hp)) (I.hok.laid k hp new)
theorem Inv.write {x e:Addr}{o:HO}{t':Nat}(I:Inv X pins σ H s)(mu:Mut (H x))(he:e=x∨H e=some (.own x))(k:∀b u,b≠e->s.heap.get? b=some u->h'.get? b=some u)(heo:∃u,h'.get? e=some u)
  (new:zwl X.prog X.w (upd H x o) h' x o):Inv X pins σ (upd H x o) { s with heap:=h',toks:=t' }:=I.un (Un.write mu he k heo) (I.hok.write mu he k heo new)
theorem Inv.weak {σ':List (Option V)}(I:Inv X pins σ H s)(hl:σ'.length=σ.length)(w:∀(i:Nat) v,σ'[i]?=some (some v)->σ[i]?=some (some v)):Inv X pins σ' H s :=
 ⟨I.ok,I.os,I.bare,I.base,let ⟨m,hn,hl'⟩:=I.loc;⟨m,hn,λi x v e1 e2 e3=>hl' i x v e1 (w i v e2) e3⟩,I.cell,I.free,I.freeC,I.pin,I.hok,hl.trans I.len⟩
theorem Inv.zsn {pins':List (Addr×Obj)}(I:Inv X pins σ H s)(h:∀p∈pins',s.heap.get? p.1=some p.2∧H p.1=none∧p.1≠X.env.locals∧p.1∉X.fs∧∀v,p.2.data ≠ .cell v):Inv X pins' σ H s :=
 ⟨I.ok,I.os,I.bare,I.base,I.loc,I.cell,I.free,I.freeC,λp hp=>(yua.mp hp).elim (λz=>I.pin p (ywc _ z)) (h p),I.hok,I.len⟩
theorem zgcb {N:List Str}(hN:N.Nodup){i j:Nat}{x:Str}(a:N[i]?=some x)(b:N[j]?=some x):i=j:=by
 obtain⟨h1,e1⟩:=yma.mp a;obtain⟨h2,e2⟩:=yma.mp b;exact (List.getElem_inj hN).mp (e1.trans e2.symm)
theorem zceb {M:Model}{A:Around}{E:Value->Shared->Prop}{i:Nat}{x:Str}{v:V}{u:Value}{Q:Unit->Shared->Prop}(I:Inv X pins σ H s)(hN:X.N.Nodup)(hi:X.N[i]?=some x)(hx:Loc X.env.scope x)(r:RelV v u)
  (h:∀s',Inv X pins (σ.set i (some v)) H s'->(∃a,yzf a s.heap s'.heap∧(a=X.env.locals∨X.env.cells.lookup x=some a))->Q () s') (hf:X.fn x=true∨X.env.scope.names.lookup x=some .local:=by first|exact .inl rfl|exact .inr rfl|assumption):wpAny M A (storeName X.env x u) Q E s:=by
 obtain⟨m,hn,hl⟩:=id I.loc;have hcls:(X.env.scope.kind == .class||(X.env.scope.kind == .module&&X.env.locals != X.env.globals))=false:=by rw[I.ok.kind];rfl
 have hiσ:i<σ.length:=by rw[I.len];exact (yma.mp hi).1
 have cne:=I.cne;have tracked:∀{a:Addr} {h':Heap},(∃o,s.heap.get? a=some o∧H a=none)->yzf a s.heap h'->HOk X.prog X.w H h':=λ{a h'} ha hs b ob e=>by
  obtain⟨_,_,hfree⟩:=ha;refine (I.hok b ob e).stay (λc w' hc q=>(hs.2 c ?_).trans q) (λ_ q=>q) λ_ _ q=>q;rintro rfl
  rcases hc with rfl|hc
  ·rw[hfree] at e;cases e
  ·rw[hfree] at hc;cases hc
 rcases hx with hk|hk
 ·refine wpAny_storeName_local hk hn (λh' hn' hs=>?_) hcls;obtain⟨oL,_,_,hoL,_⟩:=id hn;refine h _ ⟨I.ok,I.os,I.bare,⟨λb o e n hb hx=>?_,λb o e n hb hx=>?_,I.base.free,λb o e hx=>?_,I.base.tups,I.base.frzs,I.base.tbls⟩,⟨_,hn',λj y v' e1 e2 e3=>?_⟩,λy c e=>?_,I.free,I.freeC,λp hp=>?_,tracked ⟨oL,hoL,I.free⟩ hs,by simpa using I.len⟩ ⟨_,hs,.inl rfl⟩
  ·exact (hs.2 b (ydb (yra (yoa e) I.ok.above))).trans (I.base.keep b o e n hb hx)
  ·obtain⟨sl,e1⟩:=I.base.slot b o e n hb hx;exact⟨sl,(hs.2 b (ydb (yra (yoa e) I.ok.above))).trans e1⟩
  ·obtain⟨o',e1⟩:=I.base.there b o e hx;exact⟨o',(hs.2 b (ydb (yra (yoa e) I.ok.above))).trans e1⟩
  ·by_cases hj:j=i
   ·subst hj;rw[hi] at e1;cases e1;rw[ybd hiσ] at e2;cases e2;exact⟨u,r,.inl ⟨hk,by simp⟩⟩
   ·rw[ybf (yvc hj)] at e2;obtain⟨u',r',q⟩:=hl j y v' e1 e2 e3;refine⟨u',r',?_⟩
    rcases q with⟨k,e⟩|⟨k,c,e,z⟩
    ·refine .inl ⟨k,?_⟩;have:y≠x:=λe=>hj (zgcb hN e1 (e▸hi));simp[this,e]
    ·exact .inr ⟨k,c,e,z.sameBut hs (cne y c e)⟩
  ·obtain⟨w',z⟩:=I.cell y c e;exact⟨w',z.sameBut hs (cne y c e)⟩
  ·obtain⟨e,n,ne,nf,d⟩:=I.pin p hp;exact⟨(hs.2 p.1 ne).trans e,n,ne,nf,d⟩
 ·have hfn:X.fn x=true:=by
   rcases hf with z|z
   ·exact z
   ·rw[z] at hk;cases hk
  obtain⟨c,hc⟩:=I.ok.has x (.inl hk);obtain⟨w',z⟩:=I.cell x c hc;refine wpAny_storeName_cell I.ok.kind hk hc z (λh' hc' hs=>?_);obtain⟨oc,hoc,hocd⟩:=id z;refine h { s with heap:=h' } ⟨I.ok,I.os,I.bare,⟨λb o e n hb hx=>?_,λb o e n hb hx=>?_,I.base.free,λb o e hx=>?_,I.base.tups,I.base.frzs,I.base.tbls⟩,⟨m,hn.sameBut hs (yvc (cne x c hc)),λj y v' e1 e2 e3=>?_⟩,λy c' e=>?_,I.free,I.freeC,λp hp=>?_,tracked ⟨oc,hoc,I.freeC x c hc⟩ hs,by simpa using I.len⟩ ⟨c,hs,.inr hc⟩
  ·exact (hs.2 b (ydb (yra (yoa e) (I.ok.cab x c hfn hc)))).trans (I.base.keep b o e n hb hx)
  ·obtain⟨sl,e1⟩:=I.base.slot b o e n hb hx;exact⟨sl,(hs.2 b (ydb (yra (yoa e) (I.ok.cab x c hfn hc)))).trans e1⟩
  ·obtain⟨o',e1⟩:=I.base.there b o e hx;exact⟨o',(hs.2 b (ydb (yra (yoa e) (I.ok.cab x c hfn hc)))).trans e1⟩
  ·by_cases hj:j=i
   ·subst hj;rw[hi] at e1;cases e1;rw[ybd hiσ] at e2;cases e2;exact⟨u,r,.inr ⟨.inl hk,c,hc,hc'⟩⟩
   ·rw[ybf (yvc hj)] at e2;obtain⟨u',r',q⟩:=hl j y v' e1 e2 e3;refine⟨u',r',?_⟩
    rcases q with q|⟨k,c',e,z'⟩
    ·exact .inl q
    ·refine .inr ⟨k,c',e,z'.sameBut hs ?_⟩;rintro rfl;exact hj (zgcb hN e1 (I.ok.inj _ _ _ e hc▸hi))
  ·by_cases hcc:c'=c
   ·subst hcc;exact⟨_,hc'⟩
   ·obtain⟨w2,z2⟩:=I.cell y c' e;exact⟨w2,z2.sameBut hs hcc⟩
  ·obtain⟨e,n,ne,nf,d⟩:=I.pin p hp;refine⟨(hs.2 p.1 ?_).trans e,n,ne,nf,d⟩;intro q;rw[q,hoc] at e;have q':oc=p.2:=yub e;exact d w' (by rw[← q'];exact hocd)
theorem zcr {M:Model}{A:Around}{E:Value->Shared->Prop}{i:Nat}{x:Str}{v:V}{u:Value}{Q:Unit->Shared->Prop}(I:Inv X pins σ H s)(hN:X.N.Nodup)(hi:X.N[i]?=some x)(hx:Loc X.env.scope x)(r:RelV v u)
  (h:∀s',Inv X pins (σ.set i (some v)) H s'->Q () s') (hf:X.fn x=true∨X.env.scope.names.lookup x=some .local:=by first|exact .inl rfl|exact .inr rfl|assumption):wpAny M A (storeName X.env x u) Q E s :=
 zceb I hN hi hx r (λs' I' _=>h s' I') hf
theorem Inv.call' {s':Shared}{ch:List Addr}(I:Inv X pins σ H s)(ho:s'.os=s.os)(u:Un (frs X.stack) ch H H' s.heap s'.heap)(hok:HOk X.prog X.w H' s'.heap)(hg:yhm s'.gens)
  (hch:∀b∈ch,(b∈X.ex∨X.s₀.heap.objs.size≤b)∧b≠X.env.locals∧(∀x c,X.env.cells.lookup x=some c->c≠b)∧∀p∈X.pn++pins,p.1≠b):Inv X pins σ H' s':=by
 obtain⟨h',g',d',t',o'⟩:=s';have e:o'=s.os:=ho;subst e;exact I.call (g':=g') (t':=t') (d':=d') u hok hg hch
end
abbrev XK:=Value->Option Addr->Hp->Prop
abbrev St:=List (Option V)
abbrev VK:=V->Hp->Prop
abbrev TE:=St->Hp->VK->Prop
abbrev TT:=St->Hp->(Bool->Hp->Prop)->Prop
abbrev TA:=St->Hp->(List V->Hp->Prop)->Prop
structure Ends where
 nx:St->Hp->Prop
 rt:VK
 bk:St->Hp->Prop:=λ_ _=>False
 ct:St->Hp->Prop:=λ_ _=>False
abbrev TS:=Ends->St->Hp->Prop
def EP (X:Cx)(pins:List (Addr×Obj))(σ:St)(Q:VK)(u:Value)(s':Shared):Prop:=Ex2 λv H'=>Inv X pins σ H' s'∧RelV v u∧Q v H'
def TP (X:Cx)(pins:List (Addr×Obj))(σ:St)(Q:Bool->Hp->Prop)(b:Bool)(s':Shared):Prop:=∃H',Inv X pins σ H' s'∧Q b H'
def AP (X:Cx)(pins:List (Addr×Obj))(σ:St)(Q:List V->Hp->Prop)(us:List Value)(s':Shared):Prop:=Ex2 λvs H'=>Inv X pins σ H' s'∧Vals vs us∧Q vs H'
def SP (X:Cx)(pins:List (Addr×Obj))(D:Ends)(f:Flow)(s':Shared):Prop :=
 match f with
 | .next=>∃ σ' H',Inv X pins σ' H' s'∧D.nx σ' H'
 | .brk=>∃ σ' H',Inv X pins σ' H' s'∧D.bk σ' H'
 | .cont=>∃ σ' H',Inv X pins σ' H' s'∧D.ct σ' H'
 | .ret u=>∃v σ' H',Inv X pins σ' H' s'∧RelV v u∧D.rt v H'
def PE (X:Cx)(e:Expr)(t:TE):Prop :=
 ∀(pins:List (Addr×Obj)) (s:Shared) (σ:St) (H:Hp) (Q:VK),Inv X pins σ H s->t σ H Q->wpAny (model X.prog X.w) X.A (eval e X.env) (EP X pins σ Q) X.xe s
def PT (X:Cx)(e:Expr)(t:TT):Prop :=
 ∀(pins:List (Addr×Obj)) (s:Shared) (σ:St) (H:Hp) (Q:Bool->Hp->Prop),Inv X pins σ H s->t σ H Q->wpAny (model X.prog X.w) X.A (isTrue e X.env (eval e X.env)) (TP X pins σ Q) X.xe s
def PW (X:Cx)(e:Expr)(t:TT):Prop :=
 ∀(whole:Sem Value) (pins:List (Addr×Obj)) (s:Shared) (σ:St) (H:Hp) (Q:Bool->Hp->Prop),Inv X pins σ H s->t σ H Q->wpAny (model X.prog X.w) X.A (isTrue e X.env whole) (TP X pins σ Q) X.xe s
theorem PW.pt {X:Cx}{e:Expr}{t:TT}(h:PW X e t):PT X e t:=h _
def PA (X:Cx)(es:List Expr)(t:TA):Prop :=
 ∀(pos:Pos) (pins:List (Addr×Obj)) (s:Shared) (σ:St) (H:Hp) (Q:List V->Hp->Prop),Inv X pins σ H s->t σ H Q->wpAny (model X.prog X.w) X.A (spliced (backTo pos (yzc es X.env))) (AP X pins σ Q) X.xe s
def PS (X:Cx)(st:Stmt)(t:TS):Prop :=
 ∀(pins:List (Addr×Obj)) (s:Shared) (σ:St) (H:Hp) (D:Ends),Inv X pins σ H s->t D σ H->wpAny (model X.prog X.w) X.A (exec st X.env) (SP X pins D) X.xe s
def PSs (X:Cx)(st:List Stmt)(t:TS):Prop :=
 ∀(pins:List (Addr×Obj)) (s:Shared) (σ:St) (H:Hp) (D:Ends),Inv X pins σ H s->t D σ H->wpAny (model X.prog X.w) X.A (execs st X.env) (SP X pins D) X.xe s
theorem thn {α:Type}{t:Sem α}{Q Q':α->Shared->Prop}{M:Model}{A:Around}{E:Value->Shared->Prop}{s:Shared}(h:wpAny M A t Q E s)(hQ:∀a s,Q a s->Q' a s):wpAny M A t Q' E s:=yed h hQ λ_ _ x=>x
end L2
namespace L2
open PySem PySem.Spec PyProof.Rows
section
variable {X:Cx}
def tVar (i:Nat):TE:=fun σ H Q=>∃v,σ[i]?=some (some v)∧Q v H
def tC (v:V):TE:=λ_ H Q=>Q v H
theorem zmbc {i:Nat}{x:Str}{pos:Pos}(hN:X.N[i]?=some x)(hv:Vis X.env.scope x)(hd:(x==("__debug__":Str))=false:=by decide)(hcd:(x==("__classdict__":Str))=false:=by decide):PE X (.Name x pos) (tVar i):=by
 intro pins s σ H Q I h;obtain⟨v,e,h⟩:=h;obtain⟨m,hn,hl⟩:=I.loc;obtain⟨u,r,l⟩:=hl i x v hN e hv;have fin:EP X pins σ Q u s:=⟨v,H,I,r,h⟩
 rcases l with⟨hk,hm⟩|⟨hk,c,hc,hcell⟩
 ·exact wpAny_Name (wpAny_loadName_local I.ok.kind hk hn hm fin) hd
 ·rcases hk with hk|hk
  ·exact wpAny_Name (wpAny_loadName_cell I.ok.kind hk hc hcell fin) hd
  ·exact wpAny_Name (wpAny_loadName_free I.ok.kind hk hc hcell fin hcd) hd
theorem zga {i j pos}:PE X (.Constant (.int i) j pos) (tC (.int i)):=λ_ _ _ H _ I h=>wpAny_Constant_int ⟨.int i,H,I.tok _,⟨_,rfl⟩,h⟩
theorem zrv {b j pos}:PE X (.Constant (.bool b) j pos) (tC (.bl b)):=λ_ _ _ H _ I h=>Constant_bool ⟨.bl b,H,I,rfl,h⟩
theorem zyk {j pos}:PE X (.Constant .none j pos) (tC .non):=λ_ _ _ H _ I h=>Constant_none ⟨.non,H,I,rfl,h⟩
theorem zja {x j pos}:PE X (.Constant (.str x) j pos) (tC (.str x)):=λ_ _ _ H _ I h=>Calls.Constant_str ⟨.str x,H,I.tok _,⟨_,rfl⟩,h⟩
def Gl (X:Cx)(x:Str):Prop:=X.env.kindOf x=some .globalImplicit
theorem zgy {E:Value->Shared->Prop}{pins:List (Addr×Obj)}{s:Shared}{σ:St}{H:Hp}{x:Str}{u:Value}{pos:Pos}{Q:Value->Shared->Prop}(I:Inv X pins σ H s)(hg:Gl X x)(hm:X.mg x=some u)(h:Q u s)
  (hd:(x==("__debug__":Str))=false:=by decide):wpAny (model X.prog X.w) X.A (eval (.Name x pos) X.env) Q E s :=
 ytk I.ok.kind hg (Calls.loadGlobal_global (by rw[I.ok.glob];exact I.mod.glob.keeps I.bk) hm h) hd
theorem ziy {E:Value->Shared->Prop}{pins:List (Addr×Obj)}{s:Shared}{σ:St}{H:Hp}{x:Str}{u:Value}{pos:Pos}{Q:Value->Shared->Prop}(I:Inv X pins σ H s)(hg:Gl X x)(hm:X.mg x=none)(hv:yyf x=some u)(h:Q u s)
  (hn:x ≠ "__name__":=by decide) (hd:(x==("__debug__":Str))=false:=by decide):wpAny (model X.prog X.w) X.A (eval (.Name x pos) X.env) Q E s:=by
 obtain⟨mb,h1,h2⟩:=I.mod.blt;exact ytk I.ok.kind hg (Calls.loadGlobal_builtin (by rw[I.ok.glob];exact I.mod.glob.keeps I.bk) hm (by rw[I.ok.blt];exact h1.keeps I.bk) ((h2 x hn).trans hv) h) hd
theorem zqc {x:Str}{v:V}{u:Value}{pos:Pos}(hg:Gl X x)(hm:X.mg x=some u)(r:RelV v u)(hd:(x==("__debug__":Str))=false:=by decide):PE X (.Name x pos) (tC v) :=
 λ_ _ _ H _ I h=>zgy I hg hm ⟨v,H,I,r,h⟩ hd
theorem zpe {x:Str}{v:V}{u:Value}{pos:Pos}(hg:Gl X x)(hm:X.mg x=none)(hv:yyf x=some u)(r:RelV v u)(hn:x ≠ "__name__":=by decide)(hd:(x==("__debug__":Str))=false:=by decide):PE X (.Name x pos) (tC v) :=
 λ_ _ _ H _ I h=>ziy I hg hm hv ⟨v,H,I,r,h⟩ hn hd
variable {a b:Expr}{ta tb:TE}{pos:Pos}
def tB (t:TE):TT:=fun σ H Q=>t σ H λx H1=>∃c,x = .bl c∧Q c H1
theorem zif {e:Expr}{t:TE}(h:PE X e t)(he:∀whole,isTrue e X.env whole=(do let v ← whole;standAt e.pos;yen [v] (truthy v)):=by intro _;rfl):PT X e (tB t):=by
 intro pins s σ H Q I hw;refine isTrue_plain (thn (h pins s σ H _ I hw) λv s1 ⟨x,H1,I1,r1,q1⟩=>?_) (he _);obtain⟨d,rfl,q⟩:=q1;cases r1;exact yzd ⟨H1,I1,q⟩
variable {tA tB':TT}{rest:List Expr}
def tAnd (t u:TT):TT:=fun σ H Q=>t σ H λc H1=>if c=true then u σ H1 Q else Q false H1
def tOr (t u:TT):TT:=fun σ H Q=>t σ H λc H1=>if c=true then Q true H1 else u σ H1 Q
def tNot (t:TT):TT:=fun σ H Q=>t σ H λc H1=>Q (!c) H1
theorem ztbb (ha:PT X a tA):PW X (.BoolOp .And [a] pos) tA:=by
 intro wh pins s σ H Q I h;refine isTrue_and (thn (ha pins s σ H Q I h) λc s1 e=>?_);cases c with
 | true=>exact isTrue_and_nil e
 | false=>exact e
theorem zrn (ha:PT X a tA):PW X (.BoolOp .Or [a] pos) tA:=by
 intro wh pins s σ H Q I h;refine isTrue_or (thn (ha pins s σ H Q I h) λc s1 e=>?_);cases c with
 | false=>exact isTrue_or_nil e
 | true=>exact e
theorem zblb (ha:PT X a tA)(hb:PW X (.BoolOp .And (b::rest) pos) tB'):PW X (.BoolOp .And (a::b::rest) pos) (tAnd tA tB'):=by
 intro wh pins s σ H Q I h;refine isTrue_and (thn (ha pins s σ H _ I h) λc s1 ⟨H1,I1,q1⟩=>?_);cases c with
 | true=>exact hb wh pins s1 σ H1 Q I1 q1
 | false=>exact⟨H1,I1,q1⟩
theorem zqp (ha:PT X a tA)(hb:PW X (.BoolOp .Or (b::rest) pos) tB'):PW X (.BoolOp .Or (a::b::rest) pos) (tOr tA tB'):=by
 intro wh pins s σ H Q I h;refine isTrue_or (thn (ha pins s σ H _ I h) λc s1 ⟨H1,I1,q1⟩=>?_);cases c with
 | true=>exact⟨H1,I1,q1⟩
 | false=>exact hb wh pins s1 σ H1 Q I1 q1
theorem zwj (ha:PT X a tA):PT X (.UnaryOp .Not a pos) (tNot tA):=by
 intro pins s σ H Q I h;exact isTrue_not (ha pins s σ H (λc H1=>Q (!c) H1) I h)
def zxdc (ta tb:TE):TE:=fun σ H Q=>ta σ H λx H1=>∃c,x = .bl c∧if c=true then tb σ H1 Q else Q (.bl false) H1
def tOrV (ta tb:TE):TE:=fun σ H Q=>ta σ H λx H1=>∃c,x = .bl c∧if c=true then Q (.bl true) H1 else tb σ H1 Q
theorem zsx {op}{t:TE}(h:PE X a t):PE X (.BoolOp op [a] pos) t:=λpins s σ H Q I hw=>BoolOp_one (h pins s σ H Q I hw)
theorem zwu (ha:PE X a ta)(hb:PE X (.BoolOp .And (b::rest) pos) tb):PE X (.BoolOp .And (a::b::rest) pos) (zxdc ta tb):=by
 intro pins s σ H Q I h;refine BoolOp_and (thn (ha pins s σ H _ I h) λv s1 ⟨x,H1,I1,r1,q1⟩=>?_);obtain⟨c,rfl,q1⟩:=q1;cases r1;refine yzd ?_;cases c with
 | true=>exact hb pins s1 σ H1 Q I1 q1
 | false=>exact⟨.bl false,H1,I1,rfl,q1⟩
theorem zfec (ha:PE X a ta)(hb:PE X (.BoolOp .Or (b::rest) pos) tb):PE X (.BoolOp .Or (a::b::rest) pos) (tOrV ta tb):=by
 intro pins s σ H Q I h;refine BoolOp_or (thn (ha pins s σ H _ I h) λv s1 ⟨x,H1,I1,r1,q1⟩=>?_);obtain⟨c,rfl,q1⟩:=q1;cases r1;refine yzd ?_;cases c with
 | false=>exact hb pins s1 σ H1 Q I1 q1
 | true=>exact⟨.bl true,H1,I1,rfl,q1⟩
def tIf (t:TT)(ta tb:TE):TE:=fun σ H Q=>t σ H λc H1=>if c=true then ta σ H1 Q else tb σ H1 Q
theorem zflb {c:Expr}(hc:PT X c tA)(ha:PE X a ta)(hb:PE X b tb):PE X (.IfExp c a b pos) (tIf tA ta tb):=by
 intro pins s σ H Q I h;refine wpAny_IfExp (thn (hc pins s σ H _ I h) λd s1 ⟨H1,I1,q1⟩=>?_);cases d with
 | true=>exact ha pins s1 σ H1 Q I1 q1
 | false=>exact hb pins s1 σ H1 Q I1 q1
end
end L2
namespace L2
open PySem PySem.Spec PyProof.Rows
def SqL (K:yba)(H:Hp)(a:Addr)(xs:List V):Prop :=
 Rd H a (.lst xs) ∨
  Ex3 λ(o:Obj) (its:Array Value) (n:Nat)=>K.lookup a=some o∧o.cls = .type "list" ∧ o.dict=none∧o.data = .seq its n∧its.size≤yxa∧Vals xs its.toList
def SqT (K:yba)(H:Hp)(a:Addr)(xs:List V):Prop :=
 Rd H a (.tup xs) ∨
  Ex3 λ(o:Obj) (its:Array Value) (n:Nat)=>K.lookup a=some o∧o.cls = .type "tuple" ∧ o.data = .seq its n∧its.size≤yxa∧Vals xs its.toList
def absV:Value->Option V
 | .none=>some .non
 | .bool b=>some (.bl b)
 | .int i _=>some (.int i)
 | .str x _=>some (.str x)
 | .bytes b _=>some (.byt b)
 | .float b _=>some (.flt b)
 | .ref a=>some (.ref a)
 | .type n=>some (.ty n)
 | _=>none
theorem RelV.abs {x:V}{u:Value}(r:RelV x u):absV u=some x:=by
 cases x with
 | non=>cases r;rfl
 | bl _=>cases r;rfl
 | int _=>obtain⟨t,rfl⟩:=r;rfl
 | str _=>obtain⟨t,rfl⟩:=r;rfl
 | byt _=>obtain⟨t,rfl⟩:=r;rfl
 | flt _=>obtain⟨t,rfl⟩:=r;rfl
 | ref _=>cases r;rfl
 | ty _=>cases r;rfl
theorem RelV.inj {x y:V}{u:Value}(r:RelV x u)(q:RelV y u):x=y:=yub (r.abs.symm.trans q.abs)
theorem Vals.inj:∀{xs ys:List V} {us:List Value},Vals xs us->Vals ys us->xs=ys
 | _,_,_,.nil,.nil=>rfl
 | _,_,_,.cons r t,.cons r' t'=>by rw[r.inj r',Vals.inj t t']
section
variable {X:Cx}{pins:List (Addr×Obj)}{σ:St}{H:Hp}{s:Shared}{a:Addr}{xs ys:List V}
theorem SqL.of {K:yba}(h:H a=some (.lst xs)):SqL K H a xs:=.inl (.inl h)
theorem SqT.of {K:yba}(h:H a=some (.tup xs)):SqT K H a xs:=.inl (.inl h)
theorem Inv.list (I:Inv X pins σ H s)(h:SqL X.K H a xs):∃its:List Value,Vals xs its∧PlainL s.heap a its.toArray∧xs.length≤yxa:=by
 rcases h with h|⟨o,its,n,hk,hc,hd,hs,hz,r⟩
 ·obtain⟨z,its,n,r,e⟩:=h.ok I.hok;exact⟨its,r,⟨_,n,e,rfl,rfl,rfl⟩,z⟩
 ·refine⟨its.toList,r,⟨o,n,I.kIn a o hk,hc,hd,by simpa using hs⟩,?_⟩;have e:=r.length;simp only[ywb] at e;omega
theorem Inv.tuple (I:Inv X pins σ H s)(h:SqT X.K H a xs):∃its:List Value,Vals xs its∧IsTup s.heap a its.toArray∧xs.length≤yxa:=by
 rcases h with h|⟨o,its,n,hk,hc,hs,hz,r⟩
 ·obtain⟨z,its,r,p⟩:=h.ok I.hok;exact⟨its,r,p,z⟩
 ·refine⟨its.toList,r,⟨o,I.kIn a o hk,hc,n,by simpa using hs⟩,?_⟩;have e:=r.length;simp only[ywb] at e;omega
theorem Inv.zcw (I:Inv X pins σ H s)(h:SqL X.K H a xs)(h':SqL X.K H a ys):xs=ys:=by
 obtain⟨its,r,⟨o,n,e,_,_,d⟩,_⟩:=I.list h;obtain⟨its',r',⟨o',n',e',_,_,d'⟩,_⟩:=I.list h';rw[e] at e';cases e';rw[d] at d';injection d' with d1 _
 have:its=its':=by simpa using congrArg Array.toList d1
 subst this;exact r.inj r'
theorem Inv.zlob (I:Inv X pins σ H s)(h:SqT X.K H a xs)(h':SqT X.K H a ys):xs=ys:=by
 obtain⟨its,r,⟨o,e,_,n,d⟩,_⟩:=I.tuple h;obtain⟨its',r',⟨o',e',_,n',d'⟩,_⟩:=I.tuple h';rw[e] at e';cases e';rw[d] at d';injection d' with d1 _
 have:its=its':=by simpa using congrArg Array.toList d1
 subst this;exact r.inj r'
end
abbrev Cx.wish (X:Cx)(E:Value->Shared->Prop):Cx:={ X with xe:=E }
abbrev Cx.nox (X:Cx):Cx:=X.wish λ_ _=>False
theorem Cx.Ok.wish {X:Cx}(ok:X.Ok)(E:Value->Shared->Prop):(X.wish E).Ok :=
 ⟨ok.mod,ok.kind,ok.glob,ok.blt,ok.above,ok.inj,ok.has,ok.cab,ok.hd,ok.frames,ok.stk,ok.exf,ok.bs,ok.bsz,ok.noex,ok.exfs,ok.funs,ok.frf⟩
theorem Cx.Ok.zyt {X:Cx}{E:Value->Shared->Prop}(ok:(X.wish E).Ok):X.Ok :=
 ⟨ok.mod,ok.kind,ok.glob,ok.blt,ok.above,ok.inj,ok.has,ok.cab,ok.hd,ok.frames,ok.stk,ok.exf,ok.bs,ok.bsz,ok.noex,ok.exfs,ok.funs,ok.frf⟩
section
variable {X:Cx}{pins:List (Addr×Obj)}{σ:St}{H:Hp}{s:Shared}{E:Value->Shared->Prop}
theorem Inv.wish (I:Inv X pins σ H s)(E:Value->Shared->Prop):Inv (X.wish E) pins σ H s:=⟨I.ok.wish E,I.os,I.bare,I.base,I.loc,I.cell,I.free,I.freeC,I.pin,I.hok,I.len⟩
theorem Inv.zyt (I:Inv (X.wish E) pins σ H s):Inv X pins σ H s:=⟨I.ok.zyt,I.os,I.bare,I.base,I.loc,I.cell,I.free,I.freeC,I.pin,I.hok,I.len⟩
theorem SP.zyt {D:Ends}{f:Flow}{s':Shared}(h:SP (X.wish E) pins D f s'):SP X pins D f s':=by
 cases f with
 | next=>obtain⟨σ',H',I,q⟩:=h;exact⟨σ',H',I.zyt,q⟩
 | brk=>obtain⟨σ',H',I,q⟩:=h;exact⟨σ',H',I.zyt,q⟩
 | cont=>obtain⟨σ',H',I,q⟩:=h;exact⟨σ',H',I.zyt,q⟩
 | ret u=>obtain⟨v,σ',H',I,r,q⟩:=h;exact⟨v,σ',H',I.zyt,r,q⟩
theorem PSs.nox {st:List Stmt}{t:TS}(h:PSs X.nox st t):PSs X st t:=λpins s σ H D I hw =>
 yed (h pins s σ H D (I.wish _) hw) (λ_ _ q=>q.zyt) λ_ _ z=>yse z
end
section
variable {X:Cx}{st:Stmt}{rest:List Stmt}{t u:TS}{e:Expr}{te:TE}{pos:Pos}
def zlwb:TS:=λD σ H=>D.nx σ H
def tSeq (t u:TS):TS:=λD σ H=>t { D with nx:=u D } σ H
theorem zya:PSs X [] zlwb:=λ_ _ σ H _ I h=>yri ⟨σ,H,I,h⟩
theorem zca (h1:PS X st t)(h2:PSs X rest u):PSs X (st::rest) (tSeq t u):=by
 intro pins s σ H D I h;refine wpAny_execs_cons (thn (h1 pins s σ H { D with nx:=u D } I h) λf s1 q=>?_);cases f with
 | next =>
  obtain⟨σ',H',I',q⟩:=q;exact h2 pins s1 σ' H' D I' q
 | ret v=>exact q
 | brk=>exact q
 | cont=>exact q
theorem zea (h1:PS X st t):PSs X [st] t:=by
 intro pins s σ H D I h;refine wpAny_execs_cons (thn (h1 pins s σ H D I h) λf s1 q=>?_);cases f with
 | next=>exact yri q
 | ret v=>exact q
 | brk=>exact q
 | cont=>exact q
theorem Inv.quiet {pins:List (Addr×Obj)}{σ:St}{H:Hp}{s:Shared}(I:Inv X pins σ H s):interactive X.env=false:=by simp[interactive,I.ok.kind]
def zvdc (te:TE):TS:=λD σ H=>te σ H λ_ H1=>D.nx σ H1
theorem zvc (he:PE X e te)(hs:yxq e none pos.line X.env=pure false:=by rfl):PS X (.Expr e pos) (zvdc te):=by
 intro pins s σ H D I h;exact wpAny_Expr_any (thn (he pins s σ H _ I h) λv s1 ⟨x,H1,I1,r1,q1⟩=>⟨σ,H1,I1,q1⟩) I.quiet hs
def tRet (te:TE):TS:=λD σ H=>te σ H D.rt
theorem zwa (he:PE X e te):PS X (.Return (some e) pos) (tRet te):=by
 intro pins s σ H D I h;exact wpAny_Return_some (thn (he pins s σ H _ I h) λv s1 ⟨x,H1,I1,r1,q1⟩=>⟨x,σ,H1,I1,r1,q1⟩)
def tIfS (c:TT)(t u:TS):TS:=λD σ H=>c σ H λb H1=>if b=true then t D σ H1 else u D σ H1
theorem zvb {c:Expr}{a b:List Stmt}{tc:TT}(hc:PT X c tc)(ha:PSs X a t)(hb:PSs X b u):PS X (.If c a b pos) (tIfS tc t u):=by
 intro pins s σ H D I h;refine wpAny_If (thn (hc pins s σ H _ I h) λd s1 ⟨H1,I1,q1⟩=>?_);cases d with
 | true=>exact ha pins s1 σ H1 D I1 q1
 | false=>exact hb pins s1 σ H1 D I1 q1
end
abbrev TG:=V->St->Hp->(St->Hp->Prop)->Prop
abbrev TGs:=List V->St->Hp->(St->Hp->Prop)->Prop
def PG (X:Cx)(target:Expr)(t:TG):Prop :=
 ∀(pins:List (Addr×Obj)) (s:Shared) (σ:St) (H:Hp) (v:V) (u:Value) (Q:St->Hp->Prop),Inv X pins σ H s->RelV v u->t v σ H Q →
  wpAny (model X.prog X.w) X.A (assign target X.env u) (λ_ s'=>∃ σ' H',Inv X pins σ' H' s'∧Q σ' H') X.xe s
def PGs (X:Cx)(ts:List Expr)(t:TGs):Prop :=
 ∀(pins:List (Addr×Obj)) (s:Shared) (σ:St) (H:Hp) (vs:List V) (us:List Value) (Q:St->Hp->Prop),Inv X pins σ H s->Vals vs us->t vs σ H Q →
  wpAny (model X.prog X.w) X.A (assignInOrder ((yqh ts X.env).map (·.2)) us) (λ_ s'=>∃ σ' H',Inv X pins σ' H' s'∧Q σ' H') X.xe s
abbrev TSet:=V->V->V->Hp->(Hp->Prop)->Prop
def PSet (X:Cx)(t:TSet):Prop :=
 ∀(pins:List (Addr×Obj)) (s:Shared) (σ:St) (H:Hp) (o i v:V) (ov iv u:Value) (Q:Hp->Prop),Inv X pins σ H s->RelV o ov->RelV i iv->RelV v u->t o i v H Q →
  wpAny (model X.prog X.w) X.A (setItem ov iv u) (λ_ s'=>∃H',Inv X pins σ H' s'∧Q H') X.xe s
abbrev TIp:=V->V->Hp->VK->Prop
def PIp (X:Cx)(op:yuq)(t:TIp):Prop :=
 ∀(pins:List (Addr×Obj)) (s:Shared) (σ:St) (H:Hp) (x y:V) (v u:Value) (Q:VK),Inv X pins σ H s->RelV x v->RelV y u->t x y H Q →
  wpAny (model X.prog X.w) X.A (inplaceOp op v u) (EP X pins σ Q) X.xe s
section
variable {X:Cx}{pos:Pos}
def zny (i:Nat):TG:=λv σ H Q=>Q (σ.set i (some v)) H
theorem zfb {i:Nat}{x:Str}(hN:X.N.Nodup)(hi:X.N[i]?=some x)(hx:Loc X.env.scope x)(hf:X.fn x=true∨X.env.scope.names.lookup x=some .local:=by first|exact .inl rfl|exact .inr rfl|assumption):PG X (.Name x pos) (zny i):=by
 intro pins s σ H v u Q I r h;exact wpAny_assign_Name (zcr I hN hi hx r (λs' I'=>⟨_,H,I',h⟩) hf)
def gNil:TGs:=λvs σ H Q=>vs=[]∧Q σ H
def ztec (t:TG)(u:TGs):TGs:=λvs σ H Q=>Ex2 λv r=>vs=v::r∧t v σ H fun σ' H'=>u r σ' H' Q
theorem zet:PGs X [] gNil:=by
 intro pins s σ H vs us Q I r h;obtain⟨e,h⟩:=h;subst e;cases r;exact assignInOrder_nil ⟨σ,H,I,h⟩
theorem zqf {e:Expr}{es:List Expr}{t:TG}{u:TGs}(h1:PG X e t)(h2:PGs X es u)
  (hs:(yqh (e::es) X.env).map (·.2)=assign e X.env::(yqh es X.env).map (·.2):=by rfl):PGs X (e::es) (ztec t u):=by
 intro pins s σ H vs us Q I r h;obtain⟨v,vr,e1,h⟩:=h;subst e1;cases r with
 | cons r rr =>
  rw[hs];refine assignInOrder_cons (thn (h1 pins s σ H _ _ _ I r h) λ_ s1 ⟨σ1,H1,I1,q1⟩=>?_);exact h2 pins s1 σ1 H1 _ _ Q I1 rr q1
def gTup (K:yba)(n:Nat)(t:TGs):TG:=λv σ H Q=>Ex2 λa xs=>v = .ref a∧SqT K H a xs∧xs.length=n∧t xs σ H Q
theorem zweb {es:List Expr}{k:Nat}{t:TGs}{n:Nat}(hc:X.calm=true)(h:PGs X es t)
  (hn:(yqh es X.env).length=n:=by rfl) (hst:(yqh es X.env).findIdx? (·.1)=none:=by rfl):PG X (.Tuple es k pos) (gTup X.K n t):=by
 intro pins s σ H v u Q I r hw;obtain⟨a,xs,e1,hq,hl,hw⟩:=hw;subst e1;cases r;obtain⟨its,rv,ht,hz⟩:=I.tuple hq;refine assign_Tuple_tuple (I.ok.hd hc) ht (by simp[hn,← hl,rv.length]) hst λh' hx=>?_;have I1:Inv X pins σ H { s with heap:=h' }:=I.kept (t':=s.toks) λb o e=>hx b o (ydb (yoa e)) e;exact h pins _ σ H xs _ Q I1 (by simpa using rv) hw
def gSub (to ti:TE)(t:TSet):TG:=λv σ H Q=>to σ H λo H1=>ti σ H1 λi H2=>t o i v H2 λH3=>Q σ H3
theorem zgvb {o i:Expr}{to ti:TE}{t:TSet}(ho:PE X o to)(hi:PE X i ti)(hs:PSet X t)
  (ha:∀v,assign (.Subscript o i pos) X.env v=(do
   let ov ← yen [v] (eval o X.env)
   let iv ← yen [v,ov] (eval i X.env)
   standAt pos
   yen [v,ov,iv] (setItem ov iv v)
   release [v,ov,iv] []):=by intro _;rfl):PG X (.Subscript o i pos) (gSub to ti t):=by
 intro pins s σ H v u Q I r h;rw[ha];refine yca (yyc (thn (ho pins s σ H _ I h) λov s1 ⟨x,H1,I1,r1,q1⟩=>?_));refine yca (yyc (thn (hi pins s1 σ H1 _ I1 q1) λiv s2 ⟨y,H2,I2,r2,q2⟩=>?_));refine yca (yim (yca (yyc (thn (hs pins s2 σ H2 x y v ov iv u _ I2 r1 r2 r q2) λ_ s3 ⟨H3,I3,q3⟩=>?_))));exact wpAny_release ⟨σ,H3,I3,q3⟩
def tAsg (te:TE)(g:TG):TS:=λD σ H=>te σ H λx H1=>g x σ H1 D.nx
theorem zdlb {tg e:Expr}{te:TE}{g:TG}(he:PE X e te)(hg:PG X tg g)(hs:swapsWithSole [tg] e pos.line X.env=pure false:=by rfl)(hw:swappedStores [tg] e X.env=pure none:=by rfl)
  (h1:(yqh [tg] X.env).map (·.2)=[assign tg X.env]:=by rfl):PS X (.Assign [tg] e pos) (tAsg te g):=by
 intro pins s σ H D I h;refine wpAny_Assign_stores (thn (he pins s σ H _ I h) λv s1 ⟨x,H1,I1,r1,q1⟩=>?_) hs hw;rw[h1];exact thn (hg pins s1 σ H1 x v _ I1 r1 q1) λ_ s2 q=>q
theorem zqa {i:Nat}{x:Str}{e:Expr}{te:TE}{pos':Pos}(hN:X.N.Nodup)(hi:X.N[i]?=some x)(hx:Loc X.env.scope x)(he:PE X e te)(hs:yxq e (some (.Name x pos')) pos.line X.env=pure false:=by rfl)(hf:X.fn x=true∨X.env.scope.names.lookup x=some .local:=by first|exact .inl rfl|exact .inr rfl|assumption) :
  PS X (.Assign [.Name x pos'] e pos) (tAsg te (zny i)):=by
 intro pins s σ H D I h;refine wpAny_Assign_Name (thn (he pins s σ H _ I h) λv s1 ⟨y,H1,I1,r1,q1⟩=>?_) hs;exact zcr I1 hN hi hx r1 (λs2 I2=>⟨_,H1,I2,q1⟩) hf
def tAug (i:Nat)(te:TE)(ti:TIp):TS:=λD σ H=>∃x,σ[i]?=some (some x)∧te σ H λy H1=>ti x y H1 λz H2=>D.nx (σ.set i (some z)) H2
theorem zkbc {i:Nat}{x:Str}{e:Expr}{te:TE}{op:yuq}{ti:TIp}{pos':Pos}(hN:X.N.Nodup)(hi:X.N[i]?=some x)(hx:Loc X.env.scope x)(he:PE X e te)(ho:PIp X op ti)(hf:X.fn x=true∨X.env.scope.names.lookup x=some .local:=by first|exact .inl rfl|exact .inr rfl|assumption) :
  PS X (.AugAssign (.Name x pos') op e pos) (tAug i te ti):=by
 intro pins s σ H D I h;obtain⟨v,e1,h⟩:=h;obtain⟨m,hn,hl⟩:=I.loc;have vis:Vis X.env.scope x:=by rcases hx with k|k;exact .inl k;exact .inr (.inl k)
 obtain⟨u,r,l⟩:=hl i x v hi e1 vis;refine wpAny_AugAssign_Name ?_;have go:wpAny (model X.prog X.w) X.A (eval e X.env) (λw s₂=>wpAny (model X.prog X.w) X.A (inplaceOp op u w) (λr s₃=>wpAny (model X.prog X.w) X.A (storeName X.env x r) (λ_=>SP X pins D .next) X.xe s₃) X.xe s₂) X.xe s:=by
  refine thn (he pins s σ H _ I h) λw s1 ⟨y,H1,I1,r1,q1⟩=>?_;refine thn (ho pins s1 σ H1 v y u w _ I1 r r1 q1) λz s2 ⟨zv,H2,I2,r2,q2⟩=>?_;exact zcr I2 hN hi hx r2 (λs3 I3=>⟨_,H2,I3,q2⟩) hf
 rcases l with⟨hk,hm⟩|⟨hk,c,hc,hcell⟩
 ·exact wpAny_loadName_local I.ok.kind hk hn hm go
 ·rcases hk with hk|hk
  ·exact wpAny_loadName_cell I.ok.kind hk hc hcell go
  ·rcases hx with k|k
   ·have:X.env.scope.names.lookup x=some .free:=hk;rw[k] at this;cases this
   ·have:X.env.scope.names.lookup x=some .free:=hk;rw[k] at this;cases this
def ipI (f:Int->Int->Int):TIp:=λx y H Q=>Ex2 λi j=>x = .int i∧y = .int j∧Q (.int (f i j)) H
theorem zucc:PIp X .Add (ipI λi j=>i+j):=by
 intro pins s σ H x y v u Q I r1 r2 h;obtain⟨i,j,e1,e2,q⟩:=h;subst e1;subst e2;obtain⟨t,rfl⟩:=r1;obtain⟨t',rfl⟩:=r2;exact iadd_int ⟨.int _,H,I.tok _,⟨_,rfl⟩,q⟩
end
section
variable {X:Cx}{pos:Pos}
def zbac (c:TT)(tb:TS):TS:=λD σ H=>∃W:Nat->St->Hp->Prop,(∃m,W m σ H)∧∀m σ H,W m σ H →
 c σ H λb H1=>if b=true then ∃N:St->Hp->Prop,(∀ σ' H',N σ' H'->∃m',m'<m∧W m' σ' H')∧tb { D with nx:=N,ct:=N,bk:=D.nx } σ H1 else D.nx σ H1
theorem ztsb {c:Expr}{body:List Stmt}{tc:TT}{tb:TS}(hp:PassesOwn (model X.prog X.w) X.A X.env X.xe)(hc:PT X c tc)(hb:PSs X body tb):PS X (.While c body [] pos) (zbac tc tb):=by
 intro pins s σ H D I h;obtain⟨W,⟨m0,w0⟩,turn⟩:=h;refine wpAny_While (codeAny_whileLoop (λn s'=>∃ σ' H',Inv X pins σ' H' s'∧W n σ' H') ?_ m0 ⟨σ,H,I,w0⟩);rintro n s1 ⟨σ1,H1,I1,w1⟩;refine yng hp (thn (hc pins s1 σ1 H1 _ I1 (turn n σ1 H1 w1)) λb s2 ⟨H2,I2,q2⟩=>?_);cases b with
 | true =>
  obtain⟨N,hN,q2⟩:=q2;rw[if_pos rfl];refine yng hp (thn (hb pins s2 σ1 H2 _ I2 q2) λf s3 q3=>?_);cases f with
  | next =>
   obtain⟨σ3,H3,I3,n3⟩:=q3;obtain⟨m',hm,w3⟩:=hN σ3 H3 n3;exact⟨m',hm,σ3,H3,I3,w3⟩
  | cont =>
   obtain⟨σ3,H3,I3,n3⟩:=q3;obtain⟨m',hm,w3⟩:=hN σ3 H3 n3;exact⟨m',hm,σ3,H3,I3,w3⟩
  | brk=>exact q3
  | ret v=>exact q3
 | false =>
  rw[if_neg ylb];exact yri ⟨σ1,H2,I2,q2⟩
end
structure It where
 go:Nat->Hp->Prop
 yld:Nat->Hp->V->Hp->Prop
 stop:Nat->Hp->Prop
def FpOk (X:Cx)(pins:List (Addr×Obj))(H:Hp)(b:Addr):Prop :=
 H b=none∧b≠X.env.locals∧b∉X.fs∧(b∈X.ex∨X.s₀.heap.objs.size≤b)∧(∀x c,X.env.cells.lookup x=some c->c≠b)∧∀p∈X.pn++pins,p.1≠b
theorem Inv.fpOk {X:Cx}{pins:List (Addr×Obj)}{σ:St}{H H':Hp}{s:Shared}{b:Addr}(I:Inv X pins σ H s)(hb:s.heap.objs.size≤b)(hn:H' b=none):FpOk X pins H' b:=by
 refine⟨hn,yji (yra I.lt hb),I.nofs hb,.inr (yab I.sz hb),λx c e z=>?_,λp hp z=>?_⟩
 ·obtain⟨v,q⟩:=I.cell x c e;exact absurd (yra q.lt (by rw[z];exact hb)) (yqc _)
 ·exact absurd (yra (yoa (I.pin p hp).1) (by rw[z];exact hb)) (yqc _)
structure Turn (P:ybc)(w:World)(K:yba)(tg:Expr)(J:It)(fp:List Addr)(it:Addr)(tn:Nat->Heap->Prop):Prop where
 mem:it∈fp
 obj:∀i h,tn i h->∀b∈fp,∃o,h.get? b=some o∧∀v,o.data ≠ .cell v
 keep:∀i h h',tn i h->(∀b∈fp,∀o,h.get? b=some o->h'.get? b=some o)->tn i h'
 item:∀(X:Cx),X.prog=P->X.w=w->X.K=K->X.calm=true->∀(i:Nat) (pins:List (Addr×Obj)) (s:Shared) (σ:St) (H:Hp) (E:Value->Shared->Prop),Inv X pins σ H s->(∀b∈fp,FpOk X pins H b)->tn i s.heap->J.go i H →
  wpAny (model P w) X.A (pyNext (.ref it)) (λr s1=>∃u,r=some u ∧
   wpAny (model P w) X.A (yek tg (.ref it) u) (λ_ s2=>Ex2 λx H'=>Inv X pins σ H' s2∧RelV x u∧J.yld i H x H'∧tn (i+1) s2.heap∧∀b∈fp,H' b=none) E s1) E s
 done:∀(X:Cx),X.prog=P->X.w=w->X.K=K->X.calm=true->∀(i:Nat) (pins:List (Addr×Obj)) (s:Shared) (σ:St) (H:Hp) (E:Value->Shared->Prop),Inv X pins σ H s->(∀b∈fp,FpOk X pins H b)->tn i s.heap->J.stop i H →
  wpAny (model P w) X.A (pyNext (.ref it)) (λr s1=>r=none∧Inv X pins σ H s1) E s
 self:∀(A:Around) (i:Nat) (s:Shared) (Q:Value->Shared->Prop) (E:Value->Shared->Prop),tn i s.heap->Q (.ref it) s->wpAny (model P w) A (pyIter (.ref it)) Q E s
abbrev TI:=St->Hp->(It->Hp->Prop)->Prop
def PIE (X:Cx)(pins:List (Addr×Obj))(σ:St)(tg:Expr)(R:It->Hp->Prop)(itv:Value)(s2:Shared):Prop :=
 Ex5 λ(it:Addr) (fp:List Addr) (tn:Nat->Heap->Prop) (J:It) (H':Hp)=>itv = .ref it∧Inv X pins σ H' s2∧Turn X.prog X.w X.K tg J fp it tn∧tn 0 s2.heap∧(∀b∈fp,FpOk X pins H' b)∧R J H'
def PI (X:Cx)(tg iter:Expr)(wi:TI):Prop :=
 ∀(pins:List (Addr×Obj)) (s:Shared) (σ:St) (H:Hp) (R:It->Hp->Prop),Inv X pins σ H s->wi σ H R →
  wpAny (model X.prog X.w) X.A (eval iter X.env) (λv s1=>wpAny (model X.prog X.w) X.A (pyIter v) (PIE X pins σ tg R) X.xe s1) X.xe s
theorem zmqb {M:Model}{A:Around}{E:Value->Shared->Prop}{s:Shared}{tg:Expr}{it:Addr}{u:Value}{o:Obj}{n:String}{vs:Array Value}{Q:Unit->Shared->Prop}(ho:s.heap.get? it=some o)(hc:o.cls = .type n)(hd:o.data = .fields vs)
  (hn:["enumerate","zip","dict_itemiterator","dict_reverseitemiterator","odict_iterator","itertools.zip_longest","itertools.pairwise"].contains n=false) (hQ:Q () s):wpAny M A (yek tg (.ref it) u) Q E s:=by
 unfold yek;cases tg<;>first
  | exact yka hQ
  | (cases u<;>first
    | exact yka hQ
    | (refine yca (ykp ho ?_)
       rw[hc,hd];show wpAny M A (if (["enumerate","zip","dict_itemiterator","dict_reverseitemiterator","odict_iterator","itertools.zip_longest","itertools.pairwise"].contains n&&vs[0]?==some (rawInt _))=true then _ else _) Q E s
       rw[if_neg (by intro h;rw[hn,yig] at h;cases h)];exact yka hQ))
def Itl (K:yba)(a:Addr):It :=
 ⟨λi H=>Ex2 λxs x=>SqL K H a xs∧xs[i]?=some x,λi H x H'=>H'=H∧∀xs,SqL K H a xs->xs[i]?=some x,λi H=>∃xs,SqL K H a xs∧xs.length≤i⟩
def Itt (K:yba)(a:Addr):It :=
 ⟨λi H=>Ex2 λxs x=>SqT K H a xs∧xs[i]?=some x,λi H x H'=>H'=H∧∀xs,SqT K H a xs->xs[i]?=some x,λi H=>∃xs,SqT K H a xs∧xs.length≤i⟩
def Itr (lo:Int)(n:Nat):It:=⟨λi _=>i<n,λi H x H'=>H'=H∧x = .int (lo+i),λi _=>n≤i⟩
theorem zkob {P:ybc}{w:World}{K:yba}{tg:Expr}(a it:Addr):Turn P w K tg (Itl K a) [it] it (λi h=>h.IsListIter it a i) where
 mem:=by simp
 obj:=λi h st b hb=>by
  have e:b=it:=by simpa using hb
  subst e;obtain⟨o,e,c,d⟩:=st;exact⟨o,e,λv z=>by rw[d] at z;cases z⟩
 keep:=λi h h' st k=>st.at λo e=>k it (by simp) o e
 item:=by
  intro X hP hw hK hc i pins s σ H E I hf st hg;subst hP hw hK;obtain⟨xs,x,hq,hx⟩:=hg;obtain⟨its,rv,p,hz⟩:=I.list hq;obtain⟨u,hu,ru⟩:=rv.get hx;obtain⟨f0,f1,f2,f3,f4,f5⟩:=hf it (by simp);refine ycj st p.isList (x:=u) (by simpa using hu) λh' st' sb=>?_;have I1:Inv X pins σ H { s with heap:=h' }:=I.turned (t':=s.toks) (λb o hb e=>(sb.2 b hb).trans e) f0 f1 f3 f4 f5;obtain⟨o,e,c,d⟩:=id st';exact⟨u,rfl,zmqb (s:={ s with heap:=h' }) e c d (by decide) ⟨x,H,I1,ru,⟨rfl,λys hy=>by rw[I.zcw hy hq];exact hx⟩,st',λb hb=>(hf b hb).1⟩⟩
 done:=by
  intro X hP hw hK hc i pins s σ H E I hf st hg;subst hP hw hK;obtain⟨xs,hq,hx⟩:=hg;obtain⟨its,rv,p,hz⟩:=I.list hq;obtain⟨f0,f1,f2,f3,f4,f5⟩:=hf it (by simp);have hl:=rv.length;exact yoj (I.ok.hd hc) st p.isList (by simp;omega) λh' eb=>⟨rfl,I.turned (t':=s.toks) (λb o hb e=>eb b o hb e) f0 f1 f3 f4 f5⟩
 self:=λ_ _ _ _ _ st h=>wpAny_pyIter_listiter st h
theorem zmmb {P:ybc}{w:World}{K:yba}{tg:Expr}(a it:Addr):Turn P w K tg (Itt K a) [it] it (λi h=>h.IsTupleIter it a i) where
 mem:=by simp
 obj:=λi h st b hb=>by
  have e:b=it:=by simpa using hb
  subst e;obtain⟨o,e,c,d⟩:=st;exact⟨o,e,λv z=>by rw[d] at z;cases z⟩
 keep:=λi h h' st k=>st.at λo e=>k it (by simp) o e
 item:=by
  intro X hP hw hK hc i pins s σ H E I hf st hg;subst hP hw hK;obtain⟨xs,x,hq,hx⟩:=hg;obtain⟨its,rv,p,hz⟩:=I.tuple hq;obtain⟨u,hu,ru⟩:=rv.get hx;obtain⟨f0,f1,f2,f3,f4,f5⟩:=hf it (by simp);refine wpAny_pyNext_tuple_item st (show s.heap.IsTuple a its.toArray from p) (x:=u) (by simpa using hu) λh' st' sb=>?_;have I1:Inv X pins σ H { s with heap:=h' }:=I.turned (t':=s.toks) (λb o hb e=>(sb.2 b hb).trans e) f0 f1 f3 f4 f5;obtain⟨o,e,c,d⟩:=id st';exact⟨u,rfl,zmqb (s:={ s with heap:=h' }) e c d (by decide) ⟨x,H,I1,ru,⟨rfl,λys hy=>by rw[I.zlob hy hq];exact hx⟩,st',λb hb=>(hf b hb).1⟩⟩
 done:=by
  intro X hP hw hK hc i pins s σ H E I hf st hg;subst hP hw hK;obtain⟨xs,hq,hx⟩:=hg;obtain⟨its,rv,p,hz⟩:=I.tuple hq;obtain⟨f0,f1,f2,f3,f4,f5⟩:=hf it (by simp);have hl:=rv.length;exact wpAny_pyNext_tuple_end (I.ok.hd hc) st (show s.heap.IsTuple a its.toArray from p) (by simp;omega) λh' eb=>⟨rfl,I.turned (t':=s.toks) (λb o hb e=>eb b o hb e) f0 f1 f3 f4 f5⟩
 self:=λ_ _ _ _ _ st h=>wpAny_pyIter_tupleiter st h
theorem znmb {P:ybc}{w:World}{K:yba}{tg:Expr}(it:Addr)(lo:Int)(n:Nat):Turn P w K tg (Itr lo n) [it] it (λi h=>IsRangeIter h it (lo+(i:Nat)*1) ((n:Int)-(i:Nat)) 1) where
 mem:=by simp
 obj:=λi h st b hb=>by
  have e:b=it:=by simpa using hb
  subst e;exact⟨_,st,λv z=>by
   have z':Data.fields _=Data.cell v:=z;cases z'⟩
 keep:=λi h h' st k=>k it (by simp) _ st
 item:=by
  intro X hP hw hK hc i pins s σ H E I hf st hg;subst hP hw hK;obtain⟨f0,f1,f2,f3,f4,f5⟩:=hf it (by simp);have W:=Walks.range (prog:=X.prog) (w:=X.w) (I.ok.hd hc) it lo 1 n;refine W.item i s _ _ hg st λv h' tk hv st' kk=>?_;obtain⟨t,rfl⟩:=hv;have I1:Inv X pins σ H { s with heap:=h',toks:=tk }:=I.turned (λb o hb e=>kk b o (by simpa using hb) e) f0 f1 f3 f4 f5;refine⟨_,rfl,zmqb (s:={ s with heap:=h',toks:=tk }) (n:="range_iterator") st' rfl rfl (by decide) ⟨.int (lo+i),H,I1,⟨t,?_⟩,⟨rfl,rfl⟩,st',λb hb=>(hf b hb).1⟩⟩;rw[Int.mul_one]
 done:=by
  intro X hP hw hK hc i pins s σ H E I hf st hg;subst hP hw hK;obtain⟨f0,f1,f2,f3,f4,f5⟩:=hf it (by simp);exact wpAny_pyNext_range_end (I.ok.hd hc) st (by have:n≤i:=hg;omega) λh' eb=>⟨rfl,I.turned (t':=s.toks) (λb o hb e=>eb b o hb e) f0 f1 f3 f4 f5⟩
 self:=λ_ _ _ _ _ st h=>wpAny_pyIter_rangeiter st h
end L2
namespace L2
open PySem PySem.Spec PyProof.Rows
section
variable {X:Cx}{tg:Expr}
def zxcc (K:yba)(tl:TE):TI:=fun σ H R=>tl σ H λx H1=>∃a,x = .ref a∧(∃xs,SqL K H1 a xs)∧R (Itl K a) H1
def iTup (K:yba)(tl:TE):TI:=fun σ H R=>tl σ H λx H1=>∃a,x = .ref a∧(∃xs,SqT K H1 a xs)∧R (Itt K a) H1
theorem zyd {l:Expr}{tl:TE}(hl:PE X l tl):PI X tg l (zxcc X.K tl):=by
 intro pins s σ H R I h;refine thn (hl pins s σ H _ I h) λv s1 ⟨x,H1,I1,r1,q1⟩=>?_;obtain⟨a,e,⟨xs,hq⟩,q⟩:=q1;subst e;cases r1;obtain⟨its,rv,p,hz⟩:=I1.list hq;refine yog p.isList ?_;refine⟨s1.heap.objs.size,[s1.heap.objs.size],_,_,H1,rfl,I1.kept (t':=s1.toks) λb o e=>yea _ e,zkob a _,⟨_,ysa _ rfl,rfl,rfl⟩,λb hb=>?_,q⟩;have e:b=s1.heap.objs.size:=by simpa using hb
 subst e;exact I1.fpOk (yja _) (I1.hok.fresh (yja _))
theorem zveb {l:Expr}{tl:TE}(hl:PE X l tl):PI X tg l (iTup X.K tl):=by
 intro pins s σ H R I h;refine thn (hl pins s σ H _ I h) λv s1 ⟨x,H1,I1,r1,q1⟩=>?_;obtain⟨a,e,⟨xs,hq⟩,q⟩:=q1;subst e;cases r1;obtain⟨its,rv,p,hz⟩:=I1.tuple hq;refine wpAny_pyIter_tuple (show s1.heap.IsTuple a its.toArray from p) ?_;refine⟨s1.heap.objs.size,[s1.heap.objs.size],_,_,H1,rfl,I1.kept (t':=s1.toks) λb o e=>yea _ e,zmmb a _,⟨_,ysa _ rfl,rfl,rfl⟩,λb hb=>?_,q⟩;have e:b=s1.heap.objs.size:=by simpa using hb
 subst e;exact I1.fpOk (yja _) (I1.hok.fresh (yja _))
theorem zrsb {pins:List (Addr×Obj)}{σ:St}{H:Hp}{s:Shared}{R:It->Hp->Prop}{E:Value->Shared->Prop}{lo hi:Int}{t u v:Tok}{tk:Nat}(I:Inv X pins σ H s)(h1:-(2 ^ 62)≤lo)(h2:lo<2 ^ 62)(h3:-(2 ^ 62)≤hi)(h4:hi<2 ^ 62)
  (q:R (Itr lo (hi-lo).toNat) H):wpAny (model X.prog X.w) X.A (pyIter (.ref s.heap.objs.size)) (PIE X pins σ tg R) E { s with heap:=s.heap.push { cls:=.type "range",data:=.fields #[.int lo t,.int hi u,.int 1 v] },toks:=tk }:=by
 refine wpAny_pyIter_range (IsRange.new ..) (small_one h1 h2 h3 h4) ?_;have I1:Inv X pins σ H { s with heap:=s.heap.push { cls:=.type "range",data:=.fields #[.int lo t,.int hi u,.int 1 v] },toks:=tk }:=I.kept λb o e=>yea _ e;refine⟨(s.heap.push { cls:=.type "range",data:=.fields #[.int lo t,.int hi u,.int 1 v] }).objs.size,[(s.heap.push { cls:=.type "range",data:=.fields #[.int lo t,.int hi u,.int 1 v] }).objs.size],_,_,H,rfl,
  I1.kept (t':=tk) λb o e=>yea _ e,znmb _ lo (hi-lo).toNat,?_,λb hb=>?_,q⟩
 ·have e1:lo+((0:Nat):Int)*1=lo:=by simp
  have e2:(((hi-lo).toNat:Nat):Int)-((0:Nat):Int)=ywe.Range.rangeSize lo hi 1:=by rw[rangeSize_one];split<;>omega
  show IsRangeIter _ _ (lo+((0:Nat):Int)*1) ((((hi-lo).toNat:Nat):Int)-((0:Nat):Int)) 1
  rw[e1,e2];exact ysa _ rfl
 ·have e:b=(s.heap.push { cls:=.type "range",data:=.fields #[.int lo t,.int hi u,.int 1 v] }).objs.size:=by simpa using hb
  subst e;exact I1.fpOk (yja _) (I1.hok.fresh (yja _))
def zsec (ta:TA):TI:=fun σ H R=>ta σ H λvs H1=>∃j:Int,vs=[.int j] ∧ -(2 ^ 62)≤j∧j<2 ^ 62∧R (Itr 0 j.toNat) H1
theorem zuf {a:Expr}{ta:TA}{p pos:Pos}(hg:Gl X "range")(hm:X.mg "range" = none)(ha:PA X [a] ta)(hs:yzc [a] X.env=[(false,eval a X.env)]:=by rfl):PI X tg (.Call (.Name "range" p) [a] [] pos) (zsec ta):=by
 intro pins s σ H R I h;refine Call_ (ziy I hg hm boot_range (yce (thn (ha pos pins s σ H _ I h) λus s1 ⟨vs,H1,I1,r1,q1⟩=>?_) hs rfl));obtain⟨j,e,q1,q2,q⟩:=q1;subst e;cases r1 with
 | cons r rr =>
  cases rr;obtain⟨t,rfl⟩:=r;exact call_range_1 (zrsb I1 (by omega) (by omega) q1 q2 (by simpa using q))
def tFor (wi:TI)(g:TG)(tb:TS):TS:=λD σ H=>wi σ H λJ H1=>∃W:Nat->Nat->St->Hp->Prop,(∃m,W 0 m σ H1)∧∀i m σ H,W i m σ H →
 (J.stop i H∧D.nx σ H)∨(J.go i H∧∃N:St->Hp->Prop,(∀ σ' H',N σ' H'->∃m',m'<m∧W (i+1) m' σ' H')∧∀x H',J.yld i H x H'->g x σ H' fun σ2 H2=>tb { D with nx:=N,ct:=N,bk:=D.nx } σ2 H2)
def zvu (fp:List Addr)(h:Heap):List (Addr×Obj):=fp.filterMap λb=>(h.get? b).map λo=>(b,o)
theorem zro {fp:List Addr}{h:Heap}{b:Addr}{o:Obj}(hb:b∈fp)(e:h.get? b=some o):(b,o)∈zvu fp h:=yag.mpr ⟨b,hb,by rw[e];rfl⟩
theorem ztpb {fp:List Addr}{h:Heap}{p:Addr×Obj}(hp:p∈zvu fp h):p.1∈fp∧h.get? p.1=some p.2:=by
 obtain⟨b,hb,e⟩:=yag.mp hp;cases q:h.get? b with
 | none=>rw[q] at e;cases e
 | some o =>
  rw[q] at e;have e':(b,o)=p:=yub e;subst e';exact⟨hb,q⟩
theorem Inv.pinned {pins:List (Addr×Obj)}{σ:St}{H:Hp}{s:Shared}{fp:List Addr}(I:Inv X pins σ H s)(hf:∀b∈fp,FpOk X pins H b)(ho:∀b∈fp,∃o,s.heap.get? b=some o∧∀v,o.data ≠ .cell v):Inv X (pins++zvu fp s.heap) σ H s :=
 I.zsn λp hp=>(yua.mp hp).elim (λz=>I.pin p (yqb _ z)) λz=>by
  obtain⟨hb,e⟩:=ztpb z;obtain⟨f0,f1,f2,_⟩:=hf p.1 hb;obtain⟨o,e',d⟩:=ho p.1 hb;rw[e] at e';cases e';exact⟨e,f0,f1,f2,d⟩
theorem Inv.zebb {pins pl:List (Addr×Obj)}{σ:St}{H:Hp}{s:Shared}(I:Inv X (pins++pl) σ H s):Inv X pins σ H s:=I.zsn λp hp=>I.pin p (yqb _ (ywc _ hp))
theorem zur {iter:Expr}{body:List Stmt}{wi:TI}{g:TG}{tb:TS}{pos:Pos}(hp:PassesOwn (model X.prog X.w) X.A X.env X.xe)(hc:X.calm=true)(hi:PI X tg iter wi)(hg:PG X tg g)(hb:PSs X body tb)
  (hs:∀x,yfj iter X.env x=pure x:=by intro _;rfl):PS X (.For tg iter body [] pos) (tFor wi g tb):=by
 intro pins s σ H D I h;refine wpAny_For (thn (hi pins s σ H _ I h) λv s1 h1=>thn h1 λitv s2 h2=>?_) hs;obtain⟨it,fp,tn,J,H2,e,I2,T,st2,f2,W,⟨m0,w0⟩,turn⟩:=h2;subst e;have stat:∀{H':Hp},(∀b∈fp,H' b=none)->∀b∈fp,FpOk X pins H' b:=λhn b hb=>⟨hn b hb,(f2 b hb).2⟩;refine codeAny_forLoop_any (λn s'=>∃i σ' H',Inv X pins σ' H' s'∧tn i s'.heap∧(∀b∈fp,H' b=none)∧W i n σ' H') ?_ m0 ⟨0,σ,H2,I2,st2,λb hb=>(f2 b hb).1,w0⟩;rintro n s3 ⟨i,σ3,H3,I3,st3,fr3,w3⟩
 rcases turn i n σ3 H3 w3 with⟨stop,qn⟩|⟨go,N,hN,step⟩
 ·refine yng hp (thn (T.done X rfl rfl rfl hc i pins s3 σ3 H3 X.xe I3 (stat fr3) st3 stop) λr s4 ⟨hr,I4⟩=>?_);subst hr;exact yri ⟨σ3,H3,I4,qn⟩
 ·refine yng hp (thn (T.item X rfl rfl rfl hc i pins s3 σ3 H3 X.xe I3 (stat fr3) st3 go) λr s4 ⟨u,hr,h4⟩=>?_);subst hr;refine yng hp (thn h4 λ_ s5 ⟨x,H5,I5,r5,y5,st5,fr5⟩=>?_);have I5':=I5.pinned (stat fr5) (T.obj _ _ st5);refine yng hp (thn (hg _ s5 σ3 H5 x u _ I5' r5 (step x H5 y5)) λ_ s6 ⟨σ6,H6,I6,q6⟩=>?_);refine yng hp (thn (hb _ s6 σ6 H6 _ I6 q6) λf s7 q7=>?_);have again:∀{σ7:St} {H7:Hp},Inv X (pins++zvu fp s5.heap) σ7 H7 s7->N σ7 H7->∃m,m<n∧∃i σ' H',Inv X pins σ' H' s7∧tn i s7.heap∧(∀b∈fp,H' b=none)∧W i m σ' H':=λ{σ7 H7} I7 n7=>by
   obtain⟨m',hm,w7⟩:=hN σ7 H7 n7;refine⟨m',hm,i+1,σ7,H7,I7.zebb,T.keep _ _ _ st5 λb hb o e=>(I7.pin (b,o) (yqb _ (yqb _ (zro hb e)))).1,λb hb=>?_,w7⟩;obtain⟨o,e,d⟩:=T.obj _ _ st5 b hb;exact (I7.pin (b,o) (yqb _ (yqb _ (zro hb e)))).2.1
  cases f with
  | next=>obtain⟨σ7,H7,I7,n7⟩:=q7;exact again I7 n7
  | cont=>obtain⟨σ7,H7,I7,n7⟩:=q7;exact again I7 n7
  | brk=>obtain⟨σ7,H7,I7,q7⟩:=q7;exact⟨σ7,H7,I7.zebb,q7⟩
  | ret v=>obtain⟨x7,σ7,H7,I7,r7,q7⟩:=q7;exact⟨x7,σ7,H7,I7.zebb,r7,q7⟩
end
theorem zcub {K:yba}{a:Addr}{xs:List V}{g:TG}{tb:TS}{D:Ends}{σ:St}{H:Hp}(Pv:Nat->St->Hp->Prop)(h0:Pv 0 σ H)(hl:∀i σ H,i≤xs.length->Pv i σ H->SqL K H a xs)
  (hs:∀i x σ H,xs[i]?=some x->Pv i σ H->g x σ H fun σ2 H2=>tb { D with nx:=Pv (i+1),ct:=Pv (i+1),bk:=D.nx } σ2 H2) (hd:∀ σ H,Pv xs.length σ H->D.nx σ H) :
  ∃W:Nat->Nat->St->Hp->Prop,(∃m,W 0 m σ H)∧∀i m σ H,W i m σ H →
   ((Itl K a).stop i H∧D.nx σ H)∨((Itl K a).go i H∧∃N:St->Hp->Prop,(∀ σ' H',N σ' H'->∃m',m'<m∧W (i+1) m' σ' H')∧∀x H',(Itl K a).yld i H x H'->g x σ H' fun σ2 H2=>tb { D with nx:=N,ct:=N,bk:=D.nx } σ2 H2):=by
 refine⟨λi m σ H=>m=xs.length-i∧i≤xs.length∧Pv i σ H,⟨xs.length,by simp,yrb _,h0⟩,?_⟩;rintro i m σ H ⟨rfl,hi,p⟩;have q:=hl i σ H hi p
 by_cases hlt:i<xs.length
 ·refine .inr ⟨⟨xs,xs[i],q,by simp[hlt]⟩,Pv (i+1),fun σ' H' p'=>⟨xs.length-(i+1),by omega,rfl,hlt,p'⟩,λx H' y=>?_⟩;obtain⟨e,y⟩:=y;subst e;exact hs i x σ _ (y xs q) p
 ·have e:i=xs.length:=by omega
  subst e;exact .inl ⟨⟨xs,q,yja _⟩,hd σ H p⟩
theorem zvyb {K:yba}{a:Addr}{xs:List V}{g:TG}{tb:TS}{D:Ends}{σ:St}{H:Hp}(Pv:Nat->St->Hp->Prop)(h0:Pv 0 σ H)(hl:∀i σ H,i≤xs.length->Pv i σ H->SqT K H a xs)
  (hs:∀i x σ H,xs[i]?=some x->Pv i σ H->g x σ H fun σ2 H2=>tb { D with nx:=Pv (i+1),ct:=Pv (i+1),bk:=D.nx } σ2 H2) (hd:∀ σ H,Pv xs.length σ H->D.nx σ H) :
  ∃W:Nat->Nat->St->Hp->Prop,(∃m,W 0 m σ H)∧∀i m σ H,W i m σ H →
   ((Itt K a).stop i H∧D.nx σ H)∨((Itt K a).go i H∧∃N:St->Hp->Prop,(∀ σ' H',N σ' H'->∃m',m'<m∧W (i+1) m' σ' H')∧∀x H',(Itt K a).yld i H x H'->g x σ H' fun σ2 H2=>tb { D with nx:=N,ct:=N,bk:=D.nx } σ2 H2):=by
 refine⟨λi m σ H=>m=xs.length-i∧i≤xs.length∧Pv i σ H,⟨xs.length,by simp,yrb _,h0⟩,?_⟩;rintro i m σ H ⟨rfl,hi,p⟩;have q:=hl i σ H hi p
 by_cases hlt:i<xs.length
 ·refine .inr ⟨⟨xs,xs[i],q,by simp[hlt]⟩,Pv (i+1),fun σ' H' p'=>⟨xs.length-(i+1),by omega,rfl,hlt,p'⟩,λx H' y=>?_⟩;obtain⟨e,y⟩:=y;subst e;exact hs i x σ _ (y xs q) p
 ·have e:i=xs.length:=by omega
  subst e;exact .inl ⟨⟨xs,q,yja _⟩,hd σ H p⟩
theorem zms {lo:Int}{n:Nat}{g:TG}{tb:TS}{D:Ends}{σ:St}{H:Hp}(Pv:Nat->St->Hp->Prop)(h0:Pv 0 σ H)
  (hs:∀i σ H,i<n->Pv i σ H->g (.int (lo+i)) σ H fun σ2 H2=>tb { D with nx:=Pv (i+1),ct:=Pv (i+1),bk:=D.nx } σ2 H2) (hd:∀ σ H,Pv n σ H->D.nx σ H) :
  ∃W:Nat->Nat->St->Hp->Prop,(∃m,W 0 m σ H)∧∀i m σ H,W i m σ H →
   ((Itr lo n).stop i H∧D.nx σ H)∨((Itr lo n).go i H∧∃N:St->Hp->Prop,(∀ σ' H',N σ' H'->∃m',m'<m∧W (i+1) m' σ' H')∧∀x H',(Itr lo n).yld i H x H'->g x σ H' fun σ2 H2=>tb { D with nx:=N,ct:=N,bk:=D.nx } σ2 H2):=by
 refine⟨λi m σ H=>m=n-i∧i≤n∧Pv i σ H,⟨n,by simp,yrb _,h0⟩,?_⟩;rintro i m σ H ⟨rfl,hi,p⟩
 by_cases hlt:i<n
 ·refine .inr ⟨hlt,Pv (i+1),fun σ' H' p'=>⟨n-(i+1),by omega,rfl,hlt,p'⟩,λx H' y=>?_⟩;obtain⟨e,y⟩:=y;subst e y;exact hs i σ _ hlt p
 ·have e:i=n:=by omega
  subst e;exact .inl ⟨yja _,hd σ H p⟩
end L2
namespace L2
open PySem PySem.Spec PyProof.Rows
abbrev R2:=V->V->Hp->VK->Prop
def OpR (X:Cx)(f:Value->Value->Sem Value)(r:R2):Prop :=
 ∀(pins:List (Addr×Obj)) (s:Shared) (σ:St) (H:Hp) (x y:V) (v u:Value) (Q:VK),Inv X pins σ H s->RelV x v->RelV y u->r x y H Q →
  wpAny (model X.prog X.w) X.A (f v u) (EP X pins σ Q) X.xe s
def zqh (X:Cx)(f:Value)(r:List V->Hp->VK->Prop):Prop :=
 ∀(pins:List (Addr×Obj)) (s:Shared) (σ:St) (H:Hp) (xs:List V) (us:List Value) (Q:VK),Inv X pins σ H s->Vals xs us->r xs H Q →
  wpAny (model X.prog X.w) X.A (call f us) (EP X pins σ Q) X.xe s
def TruR (X:Cx)(r:V->Hp->(Bool->Hp->Prop)->Prop):Prop :=
 ∀(pins:List (Addr×Obj)) (s:Shared) (σ:St) (H:Hp) (x:V) (v:Value) (Q:Bool->Hp->Prop),Inv X pins σ H s->RelV x v->r x H Q →
  wpAny (model X.prog X.w) X.A (truthy v) (TP X pins σ Q) X.xe s
def tOp (r:R2)(ta tb:TE):TE:=fun σ H Q=>ta σ H λx H1=>tb σ H1 λy H2=>r x y H2 Q
def rI (C:Int->Int->Prop)(g:Int->Int->V):R2:=λx y H Q=>Ex2 λi j=>x = .int i∧y = .int j∧C i j∧Q (g i j) H
def rI0 (g:Int->Int->V):R2:=λx y H Q=>Ex2 λi j=>x = .int i∧y = .int j∧Q (g i j) H
section
variable {X:Cx}{a b c:Expr}{ta tb tc:TE}{pos:Pos}
theorem binT (ha:PE X a ta)(hb:PE X b tb){pins:List (Addr×Obj)}{s:Shared}{σ:St}{H:Hp}{R:V->V->Hp->Prop}(I:Inv X pins σ H s)
  (h:ta σ H λx H1=>tb σ H1 λy H2=>R x y H2) {Q:Value->Shared->Prop} {f:Value->Value->Sem Value}
  (hf:∀v u s2 x y H2,Inv X pins σ H2 s2->RelV x v->RelV y u->R x y H2->wpAny (model X.prog X.w) X.A (f v u) Q X.xe s2) :
  wpAny (model X.prog X.w) X.A (eval a X.env) (λv s₁=>wpAny (model X.prog X.w) X.A (eval b X.env) (λu s₂=>wpAny (model X.prog X.w) X.A (f v u) Q X.xe s₂) X.xe s₁) X.xe s:=by
 refine thn (ha pins s σ H _ I h) λv s1 ⟨x,H1,I1,r1,q1⟩=>?_;refine thn (hb pins s1 σ H1 _ I1 q1) λu s2 ⟨y,H2,I2,r2,q2⟩=>?_;exact hf v u s2 x y H2 I2 r1 r2 q2
theorem zub {op:yuq}{r:R2}(ho:OpR X (yrh op) r)(ha:PE X a ta)(hb:PE X b tb):PE X (.BinOp a op b pos) (tOp r ta tb):=by
 intro pins s σ H Q I h;exact wpAny_BinOp (binT ha hb I h λv u s2 x y H2 I2 rx ry q=>ho pins s2 σ H2 x y v u Q I2 rx ry q)
theorem opI {f:Value->Value->Sem Value}{C:Int->Int->Prop}{g:Int->Int->Int}
  (rule:∀(i j:Int) (t u:Tok) (s:Shared) (Q:Value->Shared->Prop) (E:Value->Shared->Prop),C i j->Q (.int (g i j) s.toks) { s with toks:=s.toks+1 }->wpAny (model X.prog X.w) X.A (f (.int i t) (.int j u)) Q E s) :
  OpR X f (rI C λi j=>.int (g i j)):=by
 intro pins s σ H x y v u Q I rx ry h;obtain⟨i,j,rfl,rfl,hc,q⟩:=h;obtain⟨t,rfl⟩:=rx;obtain⟨t',rfl⟩:=ry;exact rule i j t t' s _ _ hc ⟨.int (g i j),H,I.tok _,⟨_,rfl⟩,q⟩
theorem opI0 {f:Value->Value->Sem Value}{g:Int->Int->Int}
  (rule:∀(i j:Int) (t u:Tok) (s:Shared) (Q:Value->Shared->Prop) (E:Value->Shared->Prop),Q (.int (g i j) s.toks) { s with toks:=s.toks+1 }->wpAny (model X.prog X.w) X.A (f (.int i t) (.int j u)) Q E s) :
  OpR X f (rI0 λi j=>.int (g i j)):=by
 intro pins s σ H x y v u Q I rx ry h;obtain⟨i,j,rfl,rfl,q⟩:=h;obtain⟨t,rfl⟩:=rx;obtain⟨t',rfl⟩:=ry;exact rule i j t t' s _ _ ⟨.int (g i j),H,I.tok _,⟨_,rfl⟩,q⟩
theorem opB0 {f:Value->Value->Sem Value}{g:Int->Int->Bool}
  (rule:∀(i j:Int) (t u:Tok) (s:Shared) (Q:Value->Shared->Prop) (E:Value->Shared->Prop),Q (.bool (g i j)) s->wpAny (model X.prog X.w) X.A (f (.int i t) (.int j u)) Q E s) :
  OpR X f (rI0 λi j=>.bl (g i j)):=by
 intro pins s σ H x y v u Q I rx ry h;obtain⟨i,j,rfl,rfl,q⟩:=h;obtain⟨t,rfl⟩:=rx;obtain⟨t',rfl⟩:=ry;exact rule i j t t' s _ _ ⟨.bl (g i j),H,I,rfl,q⟩
def CDiv (i j:Int):Prop:=0<j∧j<1073741824
def CMul (i j:Int):Prop:=(-(2 ^ 64)<i∧i<2 ^ 64)∨(-(2 ^ 64)<j∧j<2 ^ 64)
theorem CMul.ok {i j:Int}(h:CMul i j):IntMulOk i j:=by
 rcases h with⟨h1,h2⟩|⟨h1,h2⟩
 ·exact .of_left (intBits_le_64 h1 h2)
 ·exact .of_right (intBits_le_64 h1 h2)
theorem zlh:OpR X (yrh .Add) (rI0 λi j=>.int (i+j)):=opI0 λ_ _ _ _ _ _ _ q=>add_int q
theorem zux:OpR X (yrh .Sub) (rI0 λi j=>.int (i-j)):=opI0 λ_ _ _ _ _ _ _ q=>sub_int q
theorem zrab:OpR X (yrh .Mult) (rI CMul λi j=>.int (i*j)):=opI λ_ _ _ _ _ _ _ hc q=>mul_int q hc.ok
theorem zbyb:OpR X (yrh .FloorDiv) (rI CDiv λi j=>.int (i / j)):=opI λi j _ _ _ _ _ hc q=>by
 have h1:(0:Int)<j:=hc.1;have h2:j<1073741824:=hc.2;exact floordiv_int (by omega) (by rw[Int.fdiv_eq_ediv_of_nonneg i (by omega)];exact q) (.inl (PyProof.noPylong_small (by omega)))
theorem zcp:OpR X (yrh .Mod) (rI (λ_ j=>0<j) λi j=>.int (i % j)):=opI λi j _ _ _ _ _ hc q=>by
 have h1:(0:Int)<j:=hc;exact mod_int' (by omega) (by rw[Int.fmod_eq_emod_of_nonneg i (by omega)];exact q)
end
def scal:V->V->Bool
 | .non,.non=>true|.non,.int _=>true|.int _,.non=>true|.non,.bl _=>true|.bl _,.non=>true|.non,.str _=>true|.str _,.non=>true
 | .int _,.int _=>true|.bl _,.bl _=>true|.str _,.str _=>true|.byt _,.byt _=>true
 | .int _,.str _=>true|.str _,.int _=>true|.bl _,.str _=>true|.str _,.bl _=>true
 | _,_=>false
def rEq:R2:=λx y H Q=>scal x y=true∧Q (.bl (decide (x=y))) H
def rNe:R2:=λx y H Q=>scal x y=true∧Q (.bl (!decide (x=y))) H
theorem zvqb {i j:Int}:decide (V.int i=V.int j)=(i==j):=by
 rw[yfk];simp
theorem ztvb {i j:Bool}:decide (V.bl i=V.bl j)=(i==j):=by
 rw[yfk];simp
theorem zuqb {i j:Str}:decide (V.str i=V.str j)=(i==j):=by
 rw[yfk];simp
theorem zwqb {i j:Array UInt8}:decide (V.byt i=V.byt j)=(i.toList==j.toList):=by
 rw[yfk];cases i;cases j;simp
section
variable {X:Cx}{a b c:Expr}{ta tb tc:TE}{pos:Pos}
theorem zzc {pins:List (Addr×Obj)}{σ:St}{H:Hp}{s:Shared}{Q:VK}{k k':Bool}(I:Inv X pins σ H s)(q:Q (.bl k) H)(e:k=k'):EP X pins σ Q (.bool k') s:=by
 subst e;exact⟨.bl k,H,I,rfl,q⟩
theorem zzd:OpR X (yde .Eq) rEq:=by
 intro pins s σ H x y v u Q I rx ry h;obtain⟨hs,q⟩:=h;cases x with
 | non =>
  cases rx;cases y with
  | non=>cases ry;exact PySem.EqNone.eq_none_none (zzc I q (by simp))
  | bl j=>cases ry;exact PySem.EqNone.eq_none_bool (zzc I q (by simp))
  | int j=>obtain⟨t',rfl⟩:=ry;exact PySem.EqNone.eq_none_int (zzc I q (by simp))
  | str j=>obtain⟨t',rfl⟩:=ry;exact PySem.EqNone.eq_none_str (zzc I q (by simp))
  | _=>exact absurd (show false=true from hs) ylb
 | bl i =>
  cases rx;cases y with
  | non=>cases ry;exact PySem.EqNone.eq_bool_none (zzc I q (by simp))
  | bl j=>cases ry;exact eq_bool (zzc I q ztvb)
  | str j=>obtain⟨t',rfl⟩:=ry;exact PySem.EqMixed.eq_bool_str (zzc I q (by simp))
  | _=>exact absurd (show false=true from hs) ylb
 | int i =>
  obtain⟨t,rfl⟩:=rx;cases y with
  | non=>cases ry;exact PySem.EqNone.eq_int_none (zzc I q (by simp))
  | int j=>obtain⟨t',rfl⟩:=ry;exact eq_int (zzc I q zvqb)
  | str j=>obtain⟨t',rfl⟩:=ry;exact PySem.EqMixed.eq_int_str (zzc I q (by simp))
  | _=>exact absurd (show false=true from hs) ylb
 | str i =>
  obtain⟨t,rfl⟩:=rx;cases y with
  | non=>cases ry;exact PySem.EqNone.eq_str_none (zzc I q (by simp))
  | bl j=>cases ry;exact PySem.EqMixed.eq_str_bool (zzc I q (by simp))
  | int j=>obtain⟨t',rfl⟩:=ry;exact PySem.EqMixed.eq_str_int (zzc I q (by simp))
  | str j=>obtain⟨t',rfl⟩:=ry;exact eq_str (zzc I q zuqb)
  | _=>exact absurd (show false=true from hs) ylb
 | byt i =>
  obtain⟨t,rfl⟩:=rx;cases y with
  | byt j=>obtain⟨t',rfl⟩:=ry;exact PySem.W.eq_bytes (zzc I q zwqb)
  | _=>exact absurd (show false=true from hs) ylb
 | _=>cases y<;>exact absurd (show false=true from hs) ylb
theorem zsv:OpR X (yde .NotEq) rNe:=by
 intro pins s σ H x y v u Q I rx ry h;obtain⟨hs,q⟩:=h;cases x with
 | non =>
  cases rx;cases y with
  | non=>cases ry;exact PySem.EqNone.ne_none_none (zzc I q (by simp))
  | bl j=>cases ry;exact PySem.EqNone.ne_none_bool (zzc I q (by simp))
  | int j=>obtain⟨t',rfl⟩:=ry;exact PySem.EqNone.ne_none_int (zzc I q (by simp))
  | str j=>obtain⟨t',rfl⟩:=ry;exact PySem.EqNone.ne_none_str (zzc I q (by simp))
  | _=>exact absurd (show false=true from hs) ylb
 | bl i =>
  cases rx;cases y with
  | non=>cases ry;exact PySem.EqNone.ne_bool_none (zzc I q (by simp))
  | bl j=>cases ry;exact ne_bool (zzc I q (congrArg not ztvb))
  | str j=>obtain⟨t',rfl⟩:=ry;exact PySem.EqMixed.ne_bool_str (zzc I q (by simp))
  | _=>exact absurd (show false=true from hs) ylb
 | int i =>
  obtain⟨t,rfl⟩:=rx;cases y with
  | non=>cases ry;exact PySem.EqNone.ne_int_none (zzc I q (by simp))
  | int j=>obtain⟨t',rfl⟩:=ry;exact ne_int (zzc I q (congrArg not zvqb))
  | str j=>obtain⟨t',rfl⟩:=ry;exact PySem.EqMixed.ne_int_str (zzc I q (by simp))
  | _=>exact absurd (show false=true from hs) ylb
 | str i =>
  obtain⟨t,rfl⟩:=rx;cases y with
  | non=>cases ry;exact PySem.EqNone.ne_str_none (zzc I q (by simp))
  | bl j=>cases ry;exact PySem.EqMixed.ne_str_bool (zzc I q (by simp))
  | int j=>obtain⟨t',rfl⟩:=ry;exact PySem.EqMixed.ne_str_int (zzc I q (by simp))
  | str j=>obtain⟨t',rfl⟩:=ry;exact ne_str (zzc I q (congrArg not zuqb))
  | _=>exact absurd (show false=true from hs) ylb
 | byt i =>
  obtain⟨t,rfl⟩:=rx;cases y with
  | byt j=>obtain⟨t',rfl⟩:=ry;exact PySem.W.ne_bytes (zzc I q (congrArg not zwqb))
  | _=>exact absurd (show false=true from hs) ylb
 | _=>cases y<;>exact absurd (show false=true from hs) ylb
theorem zpbc:OpR X (yde .Lt) (rI0 λi j=>.bl (decide (i<j))):=opB0 λ_ _ _ _ _ _ _ q=>lt_int q
theorem zsz:OpR X (yde .LtE) (rI0 λi j=>.bl (decide (i≤j))):=opB0 λ_ _ _ _ _ _ _ q=>le_int q
theorem zbfb:OpR X (yde .Gt) (rI0 λi j=>.bl (decide (j<i))):=opB0 λ_ _ _ _ _ _ _ q=>gt_int q
theorem zafb:OpR X (yde .In) (λx y H Q=>Ex2 λi j=>x = .str i∧y = .str j∧Q (.bl (!(yid j i 0 j.length 1).isEmpty)) H):=by
 intro pins s σ H x y v u Q I rx ry h;obtain⟨i,j,rfl,rfl,q⟩:=h;obtain⟨t,rfl⟩:=rx;obtain⟨t',rfl⟩:=ry;exact in_str (zzc I q rfl)
theorem zklb:OpR X (yde .Is) (λx y H Q=>y = .non∧Q (.bl (decide (x = .non))) H):=by
 intro pins s σ H x y v u Q I rx ry h;obtain⟨rfl,q⟩:=h;cases ry;refine is_none_gen (zzc I q ?_);cases x<;>first
  | (cases rx;rfl)
  | (obtain⟨t,rfl⟩:=rx;rfl)
theorem zrpb:OpR X (yde .IsNot) (λx y H Q=>y = .non∧Q (.bl (!decide (x = .non))) H):=by
 intro pins s σ H x y v u Q I rx ry h;obtain⟨rfl,q⟩:=h;cases ry;refine isnot_none_gen (zzc I q ?_);cases x<;>first
  | (cases rx;rfl)
  | (obtain⟨t,rfl⟩:=rx;rfl)
theorem zza (b:Expr){op:CmpOp}(h:op ≠ .In:=by decide)(h2:op ≠ .NotIn:=by decide):yjm op b=false:=by
 have e1:(op==CmpOp.In)=false:=by cases op<;>first|rfl|exact absurd rfl h
 have e2:(op==CmpOp.NotIn)=false:=by cases op<;>first|rfl|exact absurd rfl h2
 cases b<;>simp[yjm,e1,e2]
theorem zkh {op:CmpOp}{r:R2}(ho:OpR X (yde op) r)(ha:PE X a ta)(hb:PE X b tb)(hm:yjm op b=false):PE X (.Compare a [op] [b] pos) (tOp r ta tb):=by
 intro pins s σ H Q I h;exact wpAny_Compare1 (binT ha hb I h λv u s2 x y H2 I2 rx ry q=>ho pins s2 σ H2 x y v u Q I2 rx ry q) hm
def zcac (t:TE):TT:=fun σ H Q=>t σ H λx H'=>∃k,x = .bl k∧Q k H'
theorem zta {op:CmpOp}{r:R2}(ho:OpR X (yde op) r)(ha:PE X a ta)(hb:PE X b tb)(hm:yjm op b=false):PT X (.Compare a [op] [b] pos) (zcac (tOp r ta tb)):=by
 intro pins s σ H Q I h;refine wpAny_isTrue_Compare1 (thn (ha pins s σ H _ I h) λv s1 ⟨x,H1,I1,r1,q1⟩=>thn (hb pins s1 σ H1 _ I1 q1) λu s2 ⟨y,H2,I2,r2,q2⟩ =>
  thn (ho pins s2 σ H2 x y v u _ I2 r1 r2 q2) λc s3 ⟨z,H3,I3,r3,k,e,q3⟩=>?_) hm
 subst e;cases r3;exact yzd ⟨H3,I3,q3⟩
def zwub (r r':R2)(ta tb tc:TE):TE:=fun σ H Q=>ta σ H λx H1=>tb σ H1 λy H2=>r x y H2 λz H3=>∃k,z = .bl k ∧
 (if k=true then tc σ H3 λw' H4=>r' y w' H4 Q else Q (.bl false) H3)
theorem zilb {op op':CmpOp}{r r':R2}(ho:OpR X (yde op) r)(ho':OpR X (yde op') r')(ha:PE X a ta)(hb:PE X b tb)(hc:PE X c tc)
  (hm:lastMarks [op,op'] [b,c]=false:=by with_unfolding_all rfl):PE X (.Compare a [op,op'] [b,c] pos) (zwub r r' ta tb tc):=by
 intro pins s σ H Q I h;refine Compare_chain (thn (ha pins s σ H _ I h) λv s1 ⟨x,H1,I1,r1,q1⟩=>chain_link (thn (hb pins s1 σ H1 _ I1 q1) λu s2 ⟨y,H2,I2,r2,q2⟩ =>
  thn (ho pins s2 σ H2 x y v u _ I2 r1 r2 q2) λd s3 ⟨z,H3,I3,r3,k,e,q3⟩=>?_)) hm
 subst e;cases r3;refine yzd ?_;cases k with
 | false=>exact ite_ff ⟨.bl false,H3,I3,rfl,q3⟩
 | true=>exact ite_tt (chain_last (thn (hc pins s3 σ H3 _ I3 q3) λw' s4 ⟨z',H4,I4,r4,q4⟩=>ho' pins s4 σ H4 y z' u w' Q I4 r2 r4 q4))
theorem zclb {op op':CmpOp}{r r':R2}(ho:OpR X (yde op) r)(ho':OpR X (yde op') r')(ha:PE X a ta)(hb:PE X b tb)(hc:PE X c tc)
  (hm:lastMarks [op,op'] [b,c]=false:=by with_unfolding_all rfl):PT X (.Compare a [op,op'] [b,c] pos) (zcac (zwub r r' ta tb tc)):=by
 intro pins s σ H Q I h;refine isTrue_chain (thn (ha pins s σ H _ I h) λv s1 ⟨x,H1,I1,r1,q1⟩=>test_link (thn (hb pins s1 σ H1 _ I1 q1) λu s2 ⟨y,H2,I2,r2,q2⟩ =>
  thn (ho pins s2 σ H2 x y v u _ I2 r1 r2 q2) λd s3 ⟨z,H3,I3,r3,k,e,q3⟩=>?_)) hm
 subst e;cases r3;refine yzd ?_;cases k with
 | false =>
  obtain⟨k',e',q'⟩:=q3;cases e';exact ite_ff ⟨H3,I3,q'⟩
 | true =>
  refine ite_tt (test_last (thn (hc pins s3 σ H3 _ I3 q3) λw' s4 ⟨z',H4,I4,r4,q4⟩=>thn (ho' pins s4 σ H4 y z' u w' _ I4 r2 r4 q4) λd' s5 ⟨z2,H5,I5,r5,k2,e2,q5⟩=>?_));subst e2;cases r5;exact yzd ⟨H5,I5,q5⟩
def TruV (K:yba)(x:V)(H:Hp)(k:Bool):Prop :=
 match x with
 | .non=>k=false
 | .bl b=>k=b
 | .int i=>k=(i != 0)
 | .str y=>y.length≤yxa∧k=((y.length:Int) != 0)
 | .byt y=>y.size≤yxa∧k=((y.size:Int) != 0)
 | .ref p=>(∃xs,SqL K H p xs∧k = !xs.isEmpty)∨(∃xs,SqT K H p xs∧k = !xs.isEmpty)∨∃kvs,H p=some (.dK kvs)∧k = !kvs.isEmpty
 | _=>False
theorem zgnb {κ:Type}{kvs:List (κ×V)}{vs:List (κ×Value)}(r:KV kvs vs):(!vs.isEmpty) = !kvs.isEmpty:=by
 cases r<;>rfl
theorem zvab {xs:List V}{its:List Value}(r:Vals xs its):(!its.toArray.isEmpty) = !xs.isEmpty:=by
 cases r<;>simp
theorem zey:(yxa:Nat)<2 ^ 63:=by rw[sizeLine_eq];decide
theorem zxzb:TruR X (λx H Q=>∃k,TruV X.K x H k∧Q k H):=by
 intro pins s σ H x v Q I rx h;obtain⟨k,e,q⟩:=h;have hl:=zey;have hs:yxa=16777216:=sizeLine_eq;cases x with
 | non =>
  cases rx;have e':k=false:=e;subst e';exact truthy_none ⟨H,I,q⟩
 | bl b =>
  cases rx;have e':k=b:=e;subst e';exact yzd ⟨H,I,q⟩
 | int i =>
  obtain⟨t,rfl⟩:=rx;have e':k=(i != 0):=e;subst e';exact PySem.P.truthy_int ⟨H,I,q⟩
 | str y =>
  obtain⟨t,rfl⟩:=rx;obtain⟨hy,e'⟩:y.length≤yxa∧k=((y.length:Int) != 0):=e;subst e';exact PySem.P.truthy_str (by omega) ⟨H,I.tok _,q⟩
 | byt y =>
  obtain⟨t,rfl⟩:=rx;obtain⟨hy,e'⟩:y.size≤yxa∧k=((y.size:Int) != 0):=e;subst e';exact PySem.W.truthy_bytes (by omega) ⟨H,I.tok _,q⟩
 | ref p =>
  cases rx;have e':(∃xs,SqL X.K H p xs∧k = !xs.isEmpty)∨(∃xs,SqT X.K H p xs∧k = !xs.isEmpty)∨∃kvs,H p=some (.dK kvs)∧k = !kvs.isEmpty:=e
  rcases e' with⟨xs,hx,e'⟩|⟨xs,hx,e'⟩|⟨kvs,hx,e'⟩
  ·subst e';obtain⟨its,r,pl,hz⟩:=I.list hx;have hlen:=r.length;exact wpAny_truthy_list pl.isList (by simp only[yta];omega) ⟨H,I.tok _,by rw[zvab r];exact q⟩
  ·subst e';obtain⟨its,r,pl,hz⟩:=I.tuple hx;have hlen:=r.length;exact truthy_tuple pl (by simp only[yta];omega) ⟨H,I.tok _,by rw[zvab r];exact q⟩
  ·subst e';obtain⟨hz,hS,vs,r,m⟩:kvs.length≤yxa∧(p==sysModules)=false∧∃vs,KV kvs vs∧s.heap.DictOf (zkib X.prog X.w) p vs:=I.hok p _ hx;have hlen:kvs.length=vs.length:=Paired.length r;exact wpAny_truthy_dict hS m (by omega) ⟨H,I.tok _,by rw[zgnb r];exact q⟩
 | _=>exact (show False from e).elim
theorem zssb (ha:PE X a ta)(he:∀whole,isTrue a X.env whole=(do let v ← whole;standAt a.pos;yen [v] (truthy v))) :
  PT X a (fun σ H Q=>ta σ H λx H'=>∃k,TruV X.K x H' k∧Q k H'):=by
 intro pins s σ H Q I h;exact isTrue_plain (thn (ha pins s σ H _ I h) λv s1 ⟨x,H1,I1,r1,q1⟩=>zxzb pins s1 σ H1 x v Q I1 r1 q1) (he _)
theorem zwg:OpR X (yrh .Add) (λx y H Q=>Ex2 λi j=>x = .str i∧y = .str j∧i.length+j.length≤yxa∧Q (.str (i++j)) H):=by
 intro pins s σ H x y v u Q I rx ry h;obtain⟨i,j,rfl,rfl,hz,q⟩:=h;obtain⟨t,rfl⟩:=rx;obtain⟨t',rfl⟩:=ry;exact add_str (λt' tk=>⟨.str (i++j),H,I.tok _,⟨_,rfl⟩,q⟩) hz
theorem vals1 {x:V}{us:List Value}(r:Vals [x] us):∃u,us=[u]∧RelV x u:=by
 cases r with
 | cons r1 r2=>cases r2;exact⟨_,rfl,r1⟩
theorem vals2 {x y:V}{us:List Value}(r:Vals [x,y] us):Ex2 λu w'=>us=[u,w']∧RelV x u∧RelV y w':=by
 cases r with
 | cons r1 r2 =>
  cases r2 with
  | cons r3 r4=>cases r4;exact⟨_,_,rfl,r1,r3⟩
theorem zwy:zqh X (.type "int") (λxs H Q=>(∃i,xs=[.int i]∧Q (.int i) H)∨∃k,xs=[.bl k]∧Q (.int (if k then 1 else 0)) H):=by
 intro pins s σ H xs us Q I r h
 rcases h with⟨i,rfl,q⟩|⟨k,rfl,q⟩
 ·obtain⟨u,rfl,t,rfl⟩:=vals1 r;exact call_int_int ⟨.int i,H,I,⟨_,rfl⟩,q⟩
 ·obtain⟨u,rfl,r1⟩:=vals1 r;cases r1;exact call_int_bool ⟨.int (if k then 1 else 0),H,I.tok _,⟨_,rfl⟩,q⟩
theorem zfj:zqh X (.type "str") (λxs H Q=>∃i,xs=[.int i]∧i.natAbs.log2<1920∧Q (.str (toString i)) H):=by
 intro pins s σ H xs us Q I r h;obtain⟨i,rfl,hz,q⟩:=h;obtain⟨u,rfl,t,rfl⟩:=vals1 r;exact PySem.P.str_of_int hz ⟨.str _,H,I.tok _,⟨_,rfl⟩,q⟩
end
end L2
namespace L2
open PySem PySem.Spec PyProof.Rows
structure ObjM (h:Heap)(x dx C:Addr)(mA:Str->Option Value):Prop where
 obj:h.get? x=some (ylf C dx)
 ns:h.Ns1 dx mA
 ne:dx≠x
theorem zzpb {h:Heap}{dx:Addr}{mA:Str->Option Value}(n:h.Ns1 dx mA):∃od,h.get? dx=some od∧∀name,yjl name od=some (mA name):=by
 obtain⟨o,es,ep,ho,hd,hk,_,hm⟩:=n;refine⟨o,ho,λname=>?_⟩;have e:=hm name;unfold nsFind findBy at e;rw[← Array.find?_toList] at e;unfold yjl;rw[hd];dsimp only
 split
 ·rename_i y q;rw[q] at e;exact congrArg some e
 ·rename_i q;rw[q] at e;have a:es.toList.any (·.refKey)=false:=by
   rw[List.any_eq_false];intro y hy;obtain⟨z,t,hkey⟩:=hk y (Array.mem_toList_iff.mp hy);simp[DictEntry.refKey,hkey]
  have a':¬ es.toList.any (·.refKey)=true:=by rw[a];exact ylb
  rw[if_neg a'];exact congrArg some e
theorem ObjM.look {h:Heap}{x dx C:Addr}{mA:Str->Option Value}(I:ObjM h x dx C mA):∃od,PySem.W.InstAt h x (ylf C dx) C (some od)∧∀name,yjl name od=some (mA name) :=
 let ⟨od,ho,hl⟩:=zzpb I.ns
 ⟨od,⟨I.obj,rfl,rfl,ho⟩,hl⟩
section
variable {prog:ybc}{w:World}{A:Around}{E:Value->Shared->Prop}{s:Shared}{K:yba}{x dx C f:Addr}{mA:Str->Option Value}{name:Str}{v:Value}
theorem get_map {expr:Bool}{Q:Value->Shared->Prop}(X:K.In s.heap)(I:ObjM s.heap x dx C mA)(hg:yxe K C name=true)(hh:yhf K C=true)
  (ha:ybb K (.ref C) name=some none) (hv:mA name=some v) (hv':ykq v=true) (h:Q v { s with toks:=s.toks+1 }) :
  wpAny (model prog w) A (getAttr (.ref x) name expr) Q E s:=by
 obtain⟨od,J,hl⟩:=I.look;exact PySem.W.get_value X J (ygk hg).1 (PySem.W.findObj_own hh ha rfl (by rw[hl,hv])) hv' h
theorem zaub {pl:Sem Bool}{Q:Value×List Value->Shared->Prop}(X:K.In s.heap)(I:ObjM s.heap x dx C mA)(hg:yxe K C name=true)
  (hf:ybb K (.ref C) name=some (some (.ref f))) (ht:yyk K (.ref f)=true) (hv:mA name=none) (h:Q (.ref f,[.ref x]) s) :
  wpAny (model prog w) A (yyq (.ref x) name pl) Q E s:=by
 obtain⟨od,J,hl⟩:=I.look;exact PySem.W.method_fn X J (ygk hg).1 (ygk hg).2 hf (beq_iff_eq.mp ht) (by show (yjl name od).map (·.isSome)=some false;rw[hl,hv];rfl) h
theorem zexb {ns:List Str}{Q:Unit->Shared->Prop}(X:K.In s.heap)(I:ObjM s.heap x dx C mA)
  (hs:ybb K (.ref C) "__setattr__" = some (some (.builtin "object.__setattr__"))) (hp:ypg K C=true) (ht:yfn K C name=some none) (hh:yhf K C=true)
  (hw:ydn mA ns) (hsz:ns.length≤yxa)
  (h:∀h',ObjM h' x dx C (λy=>if y=name then some v else mA y)->yzf dx s.heap h'->Q () { s with heap:=h',toks:=s.toks+2 }) :
  wpAny (model prog w) A (setAttr (.ref x) name v) Q E s:=by
 obtain⟨od,J,hl⟩:=I.look;refine PySem.W.set_plain X J hs (PySem.W.osa_open (s:={ s with toks:=s.toks+1 }) (r:=none) X J hp ht λb=>?_);obtain⟨cd,hc,hd'⟩:=PySem.W.any_some hh;have hx:s.heap.get? x=some ⟨.ref C,some dx,.plain,#[]⟩:=I.obj;refine yca (yka (yca (yca (wpAny_loadPart hx (yca (yjr.here (s:={ s with toks:=s.toks+1 }) (PySem.W.looks_clsIn X hc) ?_))))));rw[hd'];refine yka (a:=some dx) (yca (yka (yca ?_)));refine wpAny_nsSet1 (s:={ s with toks:=s.toks+1 }) I.ns λh' hn2 hs2=>?_;obtain⟨oD,esD,epD,hoD,hdD,hcD⟩:=hn2.count (ydn.cons name v hw);refine yca (wpAny_lookBehind hoD (by rw[hdD];exact pastItsLine_dict (yab hcD (by rw[yga];omega))) ?_);exact yka (h _ ⟨(hs2.2 _ (yvc I.ne)).trans I.obj,hn2,I.ne⟩ hs2)
theorem zntb {R:Result->Shared->Prop}{vs:List Value}{kw:List (Str×Value)}(X:K.In s.heap)(hm:ygn K C=true)
  (hi:ybb K (.ref C) "__init__" = some (some (.ref f))) (hf:PySem.W.typeIn K (.ref f)=some (.type "function"))
  (h:yvh (model prog w) (A.under (.builtin "type.__call__" ⟨.ref C::vs,kw⟩)) (.call (.ref f) ⟨.ref (s.heap.objs.size+1)::vs,kw⟩) (PySem.W.InitBack (s.heap.objs.size+1) R)
   { s with heap:=(s.heap.push yae).push (ylf C s.heap.objs.size) }) :
  yvh (model prog w) A (.call (.ref C) ⟨vs,kw⟩) R s:=by
 obtain⟨hh,g,d,t,os⟩:=s;exact PySem.W.make_core (PySem.W.makes_of X hm) (ywh X hi) (λself=>PySem.W.bind_fn X self hf) (.inl rfl) h
end
def putF (f:Str)(v:V):List (Str×V)->List (Str×V)
 | []=>[(f,v)]
 | (g,x)::r=>if g=f then (g,v)::r else (g,x)::putF f v r
theorem zdy (f g:Str)(v:V):∀fs:List (Str×V),(putF f v fs).lookup g=if g=f then some v else fs.lookup g
 | []=>by
  show yje g [(f,v)]=_
  by_cases h:g=f
  ·have hb:(g==f)=true:=beq_iff_eq.mpr h;simp only[yje,hb,if_pos h]
  ·have hb:(g==f)=false:=beq_eq_false_iff_ne.mpr h;simp only[yje,hb,if_neg h]
 | (k,x)::r=>by
  have ih:=zdy f g v r;rw[show putF f v ((k,x)::r)=(if k=f then (k,v)::r else (k,x)::putF f v r) from rfl]
  by_cases hk:k=f
  ·rw[if_pos hk]
   by_cases h:g=k
   ·have hb:(g==k)=true:=beq_iff_eq.mpr h;simp only[yje,hb,if_pos (h.trans hk)]
   ·have hb:(g==k)=false:=beq_eq_false_iff_ne.mpr h;simp only[yje,hb,if_neg (λe:g=f=>h (e.trans hk.symm))]
  ·rw[if_neg hk]
   by_cases h:g=k
   ·have hb:(g==k)=true:=beq_iff_eq.mpr h;simp only[yje,hb,if_neg (λe:g=f=>hk (h.symm.trans e))]
   ·have hb:(g==k)=false:=beq_eq_false_iff_ne.mpr h;simp only[yje,hb];exact ih
theorem zjy (f:Str)(v:V):∀fs:List (Str×V),f∈(putF f v fs).map (·.1)∧∀g,g∈fs.map (·.1)->g∈(putF f v fs).map (·.1)
 | []=>⟨by simp[putF],λg h=>by simp at h⟩
 | (k,x)::r=>by
  obtain⟨i1,i2⟩:=zjy f v r;rw[show putF f v ((k,x)::r)=(if k=f then (k,v)::r else (k,x)::putF f v r) from rfl]
  by_cases hk:k=f
  ·rw[if_pos hk];subst hk;exact⟨by simp,λg h=>by simpa using h⟩
  ·rw[if_neg hk];refine⟨?_,λg h=>?_⟩
   ·rw[ygb];exact yla _ i1
   ·rw[ygb] at h ⊢
    rcases yia.mp h with e|e
    ·exact yia.mpr (.inl e)
    ·exact yla _ (i2 g e)
theorem zfy (f:Str)(v:V):∀fs:List (Str×V),(putF f v fs).length≤fs.length+1
 | []=>by simp[putF]
 | (k,x)::r=>by
  have ih:=zfy f v r;rw[show putF f v ((k,x)::r)=(if k=f then (k,v)::r else (k,x)::putF f v r) from rfl]
  by_cases hk:k=f
  ·rw[if_pos hk,yga,yga];omega
  ·rw[if_neg hk,yga,yga];omega
theorem RelO.some_of {v:V}{o:Option Value}(r:RelO (some v) o):∃u,o=some u∧RelV v u:=by
 cases o with
 | none=>exact (show False from r).elim
 | some u=>exact⟨u,rfl,r⟩
theorem RelO.none_of {o:Option Value}(r:RelO none o):o=none:=by
 cases o with
 | none=>rfl
 | some u=>exact (show False from r).elim
theorem zlqb {v:V}{u:Value}(r:RelV v u):ykq u=true:=by
 cases v with
 | non=>cases (show u=Value.none from r);rfl
 | bl b=>cases (show u=Value.bool b from r);rfl
 | int i=>obtain⟨t,e⟩:=(show ∃t,u=Value.int i t from r);cases e;rfl
 | str x=>obtain⟨t,e⟩:=(show ∃t,u=Value.str x t from r);cases e;rfl
 | byt b=>obtain⟨t,e⟩:=(show ∃t,u=Value.bytes b t from r);cases e;rfl
 | flt b=>obtain⟨t,e⟩:=(show ∃t,u=Value.float b t from r);cases e;rfl
 | ref a=>cases (show u=Value.ref a from r);rfl
 | ty n=>cases (show u=Value.type n from r);rfl
section
variable {P:ybc}{w:World}{H H':Hp}{h h':Heap}{a C dx:Addr}{fs fs':List (Str×V)}
theorem zncb (hok:HOk P w H h)(e:H a=some (.ins C dx fs)):∃mA,ObjM h a dx C mA∧(∀f,RelO (fs.lookup f) (mA f))∧ydn mA (fs.map (·.1))∧fs.length≤1000∧H dx=some (.own a):=by
 obtain⟨d,z,ne,ob,mA,n,r,q⟩:=(show zwl P w H h a (.ins C dx fs) from hok a _ e);exact⟨mA,⟨ob,n,ne⟩,r,q,z,d⟩
end
structure Cls (K:yba)(C:Addr):Prop where
 pg:yxe K C ypj=true
 hd:yhf K C=true
 po:ypg K C=true
 sa:ybb K (.ref C) "__setattr__" = some (some (.builtin "object.__setattr__"))
theorem Cls.get {K:yba}{C:Addr}(c:Cls K C)(f:Str):yxe K C f=true:=c.pg
def ztf (K:yba)(C:Addr)(f:Str):Prop:=ybb K (.ref C) f=some none
theorem ztf.taker {K:yba}{C:Addr}{f:Str}(n:ztf K C f):yfn K C f=some none:=by
 unfold yfn;rw[show ybb K (.ref C) f=some none from n];rfl
structure Con (K:yba)(C:Addr)(f:Str)(v:V)(u:Value):Prop where
 at_:ybb K (.ref C) f=some (some u)
 rel:RelV v u
 get:ygj K u "__get__" = some none
 cp:PySem.W.copiedNames.contains f=false
structure Meth (K:yba)(C:Addr)(m:Str)(f:Addr):Prop where
 at_:ybb K (.ref C) m=some (some (.ref f))
 fn:yyk K (.ref f)=true
 kp:yff K (.ref f)=true
section
variable {X:Cx}{pins:List (Addr×Obj)}{σ:St}{H:Hp}{s:Shared}{a C dx:Addr}{fs:List (Str×V)}{f:Str}{v:V}{A:Around}{E:Value->Shared->Prop}
theorem zyab {b:Bool}{Q:Value->Shared->Prop}(I:Inv X pins σ H s)(e:H a=some (.ins C dx fs))(c:Cls X.K C)(n:ztf X.K C f)(l:fs.lookup f=some v)
  (h:∀u s',Inv X pins σ H s'->RelV v u->Q u s'):wpAny (model X.prog X.w) A (getAttr (.ref a) f b) Q E s:=by
 obtain⟨mA,O,r,_,_,_⟩:=zncb I.hok e;obtain⟨u,hu,ru⟩:=RelO.some_of (v:=v) (o:=mA f) (by rw[← l];exact r f);exact get_map I.kIn O (c.get f) c.hd n hu (zlqb ru) (h u _ (I.tok _) ru)
theorem zxab {m:Str}{g:Addr}{pl:Sem Bool}{Q:Value×List Value->Shared->Prop}(I:Inv X pins σ H s)(e:H a=some (.ins C dx fs))(c:Cls X.K C)(k:Meth X.K C m g)(l:fs.lookup m=none)
  (h:Q (.ref g,[.ref a]) s):wpAny (model X.prog X.w) A (yyq (.ref a) m pl) Q E s:=by
 obtain⟨mA,O,r,_,_,_⟩:=zncb I.hok e;have hn:mA m=none:=RelO.none_of (by rw[← l];exact r m);exact zaub I.kIn O (c.get m) k.at_ k.fn hn h
theorem zlab {y:V}{u:Value}{Q:Unit->Shared->Prop}(I:Inv X pins σ H s)(e:H a=some (.ins C dx fs))(c:Cls X.K C)(n:ztf X.K C f)(hl:fs.length<1000)(ry:RelV y u)
  (h:∀s',Inv X pins σ (upd H a (.ins C dx (putF f y fs))) s'->Q () s'):wpAny (model X.prog X.w) A (setAttr (.ref a) f u) Q E s:=by
 obtain⟨mA,O,r,wi,_,ho⟩:=zncb I.hok e;have hz:(fs.map (·.1)).length≤yxa:=by rw[yaa,sizeLine_eq];omega
 refine zexb I.kIn O c.sa c.po n.taker c.hd wi hz λh' O' sb=>h _ ?_;have hd:∃o,h'.get? dx=some o:=let ⟨o,_,_,e',_⟩:=O'.ns;⟨o,e'⟩;refine I.write (x:=a) (e:=dx) (by rw[e];exact True.intro) (.inr ho) (λb q hb z=>(sb.2 b hb).trans z) hd ?_;refine⟨by rw[zxa O.ne];exact ho,?_,O.ne,O'.obj,_,O'.ns,λg=>?_,λg hg=>?_⟩
 ·have:=zfy f y fs;omega
 ·show RelO ((putF f y fs).lookup g) (if g=f then some u else mA g);rw[zdy]
  by_cases q:g=f
  ·rw[if_pos q,if_pos q];exact ry
  ·rw[if_neg q,if_neg q];exact r g
 ·by_cases q:g=f
  ·rw[q];exact (zjy f y fs).1
  ·refine (zjy f y fs).2 g (wi g λz=>hg ?_);show (if g=f then some u else mA g)=none
   rw[if_neg q];exact z
theorem Inv.made (I:Inv X pins σ H s):Inv X pins σ (upd (upd H s.heap.objs.size (.own (s.heap.objs.size+1))) (s.heap.objs.size+1) (.ins C s.heap.objs.size []))
  { s with heap:=(s.heap.push yae).push (ylf C s.heap.objs.size) }:=by
 have e1:(s.heap.push yae).get? s.heap.objs.size=some yae:=ysa s.heap rfl;have e2:((s.heap.push yae).push (ylf C s.heap.objs.size)).get? (s.heap.objs.size+1)=some (ylf C s.heap.objs.size):=by
  have:=ysa (s.heap.push yae) (o:=ylf C s.heap.objs.size) rfl
  rwa [yvd] at this
 have e3:(s.heap.push yae).Ns s.heap.objs.size (λ_=>none):=⟨yae,#[],_,e1,rfl,(λe he=>absurd he (by simp)),λ_=>rfl⟩;have I1:=I.laid (a:=s.heap.objs.size) (o:=.own (s.heap.objs.size+1)) (h':=s.heap.push yae) (t':=s.toks) (λb u q=>yea _ q) (yja _) ⟨_,e1⟩;refine I1.laid (a:=s.heap.objs.size+1) (o:=.ins C s.heap.objs.size []) (t':=s.toks) (λb u q=>yea _ q) (yzk (yvd _ _)) ?_;have ne:s.heap.objs.size≠s.heap.objs.size+1:=ydb (yhe _);refine⟨by rw[zxa ne,zfa],yrb _,ne,e2,λ_=>none,(Heap.Ns1.of_empty e3).at λo q=>yea _ q,λ_=>True.intro,λy hy=>absurd rfl hy⟩
theorem zizb {prog:ybc}{w:World}{env:Env}{e:Expr}{f:Str}{pos:Pos}{s:Shared}{Q:Value->Shared->Prop}(hb:ysh e f env (eval e env)=eval e env)
  (h:wpAny (model prog w) A (eval e env) (λo s₁=>wpAny (model prog w) A (getAttr o f true) Q E s₁) E s):wpAny (model prog w) A (eval (.Attribute e f pos) env) Q E s :=
 Attribute_any_ h (by rw[arm_eval_Attribute,hb])
end
def tFld (K:yba)(ta:TE)(f:Str):TE:=fun σ H Q=>ta σ H λx H1=>Ex5 λa C dx fs v=>x = .ref a∧H1 a=some (.ins C dx fs)∧Cls K C∧ztf K C f∧fs.lookup f=some v∧Q v H1
def sFld (K:yba)(ta tv:TE)(f:Str):TS:=λD σ H=>tv σ H λy H1=>ta σ H1 λx H2=>Ex4 λa C dx fs=>x = .ref a∧H2 a=some (.ins C dx fs)∧Cls K C∧ztf K C f∧fs.length<1000 ∧
 D.nx σ (upd H2 a (.ins C dx (putF f y fs)))
def InOp (X:Cx)(op:yuq)(rd:V->V->Hp->VK->Prop):Prop :=
 ∀(pins:List (Addr×Obj)) (s:Shared) (σ:St) (H:Hp) (x y:V) (u v:Value) (Q:VK),Inv X pins σ H s->RelV x u->RelV y v->rd x y H Q->wpAny (model X.prog X.w) X.A (inplaceOp op u v) (EP X pins σ Q) X.xe s
def zjxb (K:yba)(ta tv:TE)(rd:V->V->Hp->VK->Prop)(f:Str):TS:=λD σ H=>ta σ H λx H1=>Ex5 λa C dx fs v=>x = .ref a∧H1 a=some (.ins C dx fs)∧Cls K C∧ztf K C f∧fs.lookup f=some v ∧
 tv σ H1 λy H2=>rd v y H2 λz H3=>Ex2 λdx' fs'=>H3 a=some (.ins C dx' fs')∧fs'.length<1000∧D.nx σ (upd H3 a (.ins C dx' (putF f z fs')))
section
variable {X:Cx}{o e value:Expr}{f:Str}{pos pos' tpos:Pos}{ta tv:TE}
theorem zsf (he:PE X e ta)(hb:ysh e f X.env (eval e X.env)=eval e X.env):PE X (.Attribute e f pos) (tFld X.K ta f):=by
 intro pins s σ H Q I h;refine zizb hb (thn (he pins s σ H _ I h) λu s1 ⟨x,H1,I1,rx,a,C,dx,fs,v,ex,ea,c,n,l,q⟩=>?_);subst ex;obtain rfl:u=Value.ref a:=rx;exact zyab I1 ea c n l λu' s2 I2 ru=>⟨v,H1,I2,ru,q⟩
theorem zfk (ha:PE X o ta)(hv:PE X value tv)(hs:yxq value (some (.Attribute o f pos')) pos.line X.env=pure false):PS X (.Assign [.Attribute o f pos'] value pos) (sFld X.K ta tv f):=by
 intro pins s σ H D I h;refine plainObj_wpAny_Assign_Attribute (thn (hv pins s σ H _ I h) λu s1 ⟨y,H1,I1,ry,q⟩=>thn (ha pins s1 σ H1 _ I1 q) λov s2 ⟨x,H2,I2,rx,a,C,dx,fs,ex,ea,c,n,l,q2⟩=>?_) hs;subst ex;obtain rfl:ov=Value.ref a:=rx;exact zlab I2 ea c n l ry λs3 I3=>⟨σ,_,I3,q2⟩
theorem znpb {op:yuq}{rd:V->V->Hp->VK->Prop}(ha:PE X o ta)(hv:PE X value tv)(hop:InOp X op rd):PS X (.AugAssign (.Attribute o f tpos) op value pos) (zjxb X.K ta tv rd f):=by
 intro pins s σ H D I h;refine wpAny_AugAssign_AttributeAny (thn (ha pins s σ H _ I h) λov s1 ⟨x,H1,I1,rx,a,C,dx,fs,v,ex,ea,c,n,l,q⟩=>?_);subst ex;obtain rfl:ov=Value.ref a:=rx;refine zyab I1 ea c n l λu s2 I2 ru=>thn (hv pins s2 σ H1 _ I2 q) λw3 s3 ⟨y,H2,I3,ry,q3⟩=>thn (hop pins s3 σ H2 v y u w3 _ I3 ru ry q3) λw4 s4 ⟨z,H3,I4,rz,dx',fs',ea',l',q4⟩=>?_;exact zlab I4 ea' c n l' rz λs5 I5=>⟨σ,_,I5,q4⟩
def rAdd:V->V->Hp->VK->Prop:=λx y H Q=>Ex2 λi j=>x = .int i∧y = .int j∧Q (.int (i+j)) H
theorem zvcc:InOp X .Add rAdd:=by
 rintro pins s σ H x y u v Q I rx ry ⟨i,j,rfl,rfl,q⟩;obtain⟨t,rfl⟩:=(show ∃t,u=Value.int i t from rx);obtain⟨t',rfl⟩:=(show ∃t',v=Value.int j t' from ry);exact PyProof.Rows.iadd_int ⟨.int (i+j),H,I.tok _,⟨_,rfl⟩,q⟩
end
section
variable {X:Cx}{pins:List (Addr×Obj)}{σ:St}{H:Hp}{s:Shared}{A:Around}{E:Value->Shared->Prop}{Q:Value->Shared->Prop}{c:Value}{b:Bool}
inductive TyOf (K:yba)(H:Hp):V->Value->Prop where
 | non:TyOf K H .non (.type "NoneType")
 | bl (x:Bool):TyOf K H (.bl x) (.type "bool")
 | int (i:Int):TyOf K H (.int i) (.type "int")
 | str (x:Str):TyOf K H (.str x) (.type "str")
 | flt (x:UInt64):TyOf K H (.flt x) (.type "float")
 | lst {a:Addr} {xs:List V} (e:H a=some (.lst xs)):TyOf K H (.ref a) (.type "list")
 | frz {a:Addr} {o:Obj} {xs:List V} (e:H a=some (.frz o (.lst xs))):TyOf K H (.ref a) (.type "list")
 | tup {a:Addr} {xs:List V} (e:H a=some (.tup xs)):TyOf K H (.ref a) (.type "tuple")
 | dK {a:Addr} {kvs:List (Key×V)} (e:H a=some (.dK kvs)):TyOf K H (.ref a) (.type "dict")
 | dT {a:Addr} {kvs:List (List Key×V)} (e:H a=some (.dT kvs)):TyOf K H (.ref a) (.type "dict")
 | ins {a C dx:Addr} {fs:List (Str×V)} (e:H a=some (.ins C dx fs)) (cl:Cls K C) (ha:ybb K (.ref C) "__class__" = some (some (.builtin "object.__class__")))
   (hn:ygj K (.builtin "object.__class__") "__get__" = some (some (.builtin "getset_descriptor.__get__"))) (htk:yhn K (.builtin "object.__class__")=some true)
   (hm:yuo K C (.type "object")=some true):TyOf K H (.ref a) (.ref C)
theorem zxfb {x:V}{u t:Value}(I:Inv X pins σ H s)(rx:RelV x u)(ty:TyOf X.K H x t)(e:yna X.K t c=some b)(h:∀tk,Q (.bool b) { s with toks:=tk }) :
  wpAny (model X.prog X.w) A (call (.builtin "isinstance") [u,c]) Q E s:=by
 cases ty with
 | non=>cases (show u=Value.none from rx);exact ykd ylp I.kIn True.intro e (λz=>nomatch z) h
 | bl y=>cases (show u=Value.bool y from rx);exact ykd ymp I.kIn True.intro e (λz=>nomatch z) h
 | int i=>obtain⟨t,q⟩:=(show ∃t,u=Value.int i t from rx);cases q;exact ykd ylq I.kIn True.intro e (λz=>nomatch z) h
 | str y=>obtain⟨t,q⟩:=(show ∃t,u=Value.str y t from rx);cases q;exact ykd ymq I.kIn True.intro e (λz=>nomatch z) h
 | flt y=>obtain⟨t,q⟩:=(show ∃t,u=Value.float y t from rx);cases q;exact ykd PySem.W.kitx_float I.kIn True.intro e (λz=>nomatch z) h
 | @lst a xs ea =>
  cases (show u=Value.ref a from rx);obtain⟨_,_,n,_,h1⟩:=(show zwl X.prog X.w H s.heap a (.lst xs) from I.hok a _ ea);exact ykd ysl I.kIn ⟨_,h1,rfl⟩ e (λz=>nomatch z) h
 | @frz a ob xs ea =>
  cases (show u=Value.ref a from rx);obtain⟨_,_,_,n,_,h1⟩:=(show zwl X.prog X.w H s.heap a (.frz ob (.lst xs)) from I.hok a _ ea);exact ykd ysl I.kIn ⟨_,h1,rfl⟩ e (λz=>nomatch z) h
 | @tup a xs ea =>
  cases (show u=Value.ref a from rx);obtain⟨_,_,_,p⟩:=(show zwl X.prog X.w H s.heap a (.tup xs) from I.hok a _ ea);obtain⟨o,h1,h2,_⟩:=p;exact ykd yvo I.kIn ⟨o,h1,h2⟩ e (λz=>nomatch z) h
 | @dK a kvs ea =>
  cases (show u=Value.ref a from rx);obtain⟨_,_,vs,_,p⟩:=(show zwl X.prog X.w H s.heap a (.dK kvs) from I.hok a _ ea);obtain⟨o,es,ep,h1,h2,_⟩:=p;exact ykd ynp I.kIn ⟨o,h1,h2.1⟩ e (λz=>nomatch z) h
 | @dT a kvs ea =>
  cases (show u=Value.ref a from rx);obtain⟨_,_,xs,_,o,es,ep,h1,h2,_⟩:=(show zwl X.prog X.w H s.heap a (.dT kvs) from I.hok a _ ea);exact ykd ynp I.kIn ⟨o,h1,h2.1⟩ e (λz=>nomatch z) h
 | @ins a C dx fs ea cl ha hn htk hm =>
  cases (show u=Value.ref a from rx);obtain⟨mA,O,_⟩:=zncb I.hok ea;obtain⟨od,J,_⟩:=O.look;exact ykd (PySem.W.kitx_own (cl.get _) cl.hd ha hn htk hm) I.kIn J e (λz=>nomatch z) h
end
end L2
namespace L2
open PySem PySem.Spec PyProof.Rows
structure Room (k:Nat)(A:Around):Prop where
 hd:A.handled=none
 dp:A.depth+3*k+5<recursionLimit
 un:A.units+16*k+200<cLine
theorem Room.mono {j k:Nat}{A:Around}(r:Room k A)(h:j≤k):Room j A:=⟨r.hd,by have:=r.dp;omega,by have:=r.un;omega⟩
theorem Room.deeper {k:Nat}{A:Around}(r:Room (k+1) A)(env:Env):Room k (A.deeper env) :=
 ⟨r.hd,by have:=r.dp;show A.depth+1+3*k+5<_;omega,by have:=r.un;show A.units+3+16*k+200<_;omega⟩
theorem zenb {A:Around}{C:Addr}{us:List Value}{kw:List (Str×Value)}:(A.under (.builtin "type.__call__" ⟨.ref C::us,kw⟩)).depth=A.depth+1:=by
 first|rfl|simp[yeq,Code.weight,Code.isCreation,Code.isGuard,Code.isCaller,Code.frames,yfq,guardIds]
theorem zdnb {A:Around}{C:Addr}{us:List Value}{kw:List (Str×Value)}:(A.under (.builtin "type.__call__" ⟨.ref C::us,kw⟩)).units=A.units+1:=by
 first|rfl|simp[yeq,Code.cUnits,Code.frames,yfq]
theorem Room.make {k:Nat}{A:Around}(r:Room (k+1) A)(C:Addr)(us:List Value)(kw:List (Str×Value)):Room k (A.under (.builtin "type.__call__" ⟨.ref C::us,kw⟩)) :=
 ⟨r.hd,by have:=r.dp;rw[zenb];omega,by have:=r.un;rw[zdnb];omega⟩
theorem Room.depth {k:Nat}{A:Around}(r:Room k A):A.depth<recursionLimit:=by have:=r.dp;omega
theorem Room.units {k:Nat}{A:Around}(r:Room k A):A.units+64<cLine:=by have:=r.un;omega
def tNil:TA:=λ_ H Q=>Q [] H
def zfac (ta:TE)(tr:TA):TA:=fun σ H Q=>ta σ H λx H1=>tr σ H1 λxs H2=>Q (x::xs) H2
section
variable {X:Cx}{e:Expr}{es:List Expr}{te:TE}{t:TA}{pos:Pos}
theorem zba:PA X [] tNil:=λ_ _ _ _ H Q I h=>yop ⟨[],H,I,.nil,h⟩
theorem zaa (ha:PE X e te)(hr:PA X es t)(hs:yzc (e::es) X.env=(false,eval e X.env)::yzc es X.env:=by rfl):PA X (e::es) (zfac te t):=by
 intro pos pins s σ H Q I h;rw[hs];show wpAny _ _ (spliced ((false,eval e X.env)::backTo pos (yzc es X.env))) _ _ s
 refine ywo (thn (ha pins s σ H _ I h) λu s1 ⟨x,H1,I1,r1,q1⟩=>?_);exact thn (hr pos pins s1 σ H1 _ I1 q1) λus s2 ⟨xs,H2,I2,r2,q2⟩=>⟨x::xs,H2,I2,.cons r1 r2,q2⟩
def tTup (t:TA):TE:=fun σ H Q=>t σ H λxs H1=>xs.length≤yxa∧∀p,H1 p=none->Q (.ref p) (upd H1 p (.tup xs))
def tLst (t:TA):TE:=fun σ H Q=>t σ H λxs H1=>xs.length≤yxa∧∀p,H1 p=none->Q (.ref p) (upd H1 p (.lst xs))
theorem zqb {x1}(h:PA X es t):PE X (.Tuple es x1 pos) (tTup t):=by
 intro pins s σ H Q I hq;refine wpAny_Tuple_spliced (thn (h pos pins s σ H _ I hq) λus s1 ⟨xs,H1,I1,r,z,q⟩=>⟨by rw[← r.length];exact z,?_⟩);have hf:H1 s1.heap.objs.size=none:=I1.hok.fresh (yja _);refine⟨.ref s1.heap.objs.size,upd H1 s1.heap.objs.size (.tup xs),I1.laid (t':=s1.toks) (λb u e=>yea _ e) (yja _) ?_,rfl,q _ hf⟩;exact⟨z,us,r,⟨_,ysa _ rfl,rfl,_,rfl⟩⟩
theorem zob (h:PA X es t):PE X (.List es pos) (tLst t):=by
 intro pins s σ H Q I hq;refine wpAny_List_spliced (thn (h pos pins s σ H _ I hq) λus s1 ⟨xs,H1,I1,r,z,q⟩=>⟨by rw[← r.length];exact z,?_⟩);have hf:H1 s1.heap.objs.size=none:=I1.hok.fresh (yja _);refine⟨.ref s1.heap.objs.size,upd H1 s1.heap.objs.size (.lst xs),I1.laid (t':=s1.toks) (λb u e=>yea _ e) (yja _) ?_,rfl,q _ hf⟩;exact⟨z,us,0,r,ysa _ rfl⟩
end
abbrev Sp:=List V->Hp->VK->XK->Prop
abbrev CXT:=List Env->Hp->Shared->XK->Value->Shared->Prop
structure Env0 (P:ybc)(w:World)(K:yba)(mg:Str->Option Value)(base:Heap)(A:Around)(outer:List Env)(s:Shared)(H:Hp):Prop where
 frames:A.frames=some outer
 mod:Mod K mg base
 bs:∀b o,base.get? b=some o->s.heap.get? b=some o∧H b=none
 bsz:base.objs.size≤s.heap.objs.size
 funs:s.heap.FunFrames base outer
 frf:∀b∈frs outer,H b=none
 hok:HOk P w H s.heap
 bare:yhm s.gens
def CE (outer:List Env)(P:ybc)(w:World)(H:Hp)(s:Shared)(Q:VK)(u:Value)(s':Shared):Prop :=
 Ex2 λv H'=>s'.os=s.os∧yhm s'.gens∧Un (frs outer) [] H H' s.heap s'.heap∧HOk P w H' s'.heap∧RelV v u∧Q v H'
def CR (CX:CXT)(outer:List Env)(P:ybc)(w:World)(H:Hp)(s:Shared)(Q:VK)(E:XK)(r:Result)(s':Shared):Prop :=
 match r with
 | .ok (.ret u)=>CE outer P w H s Q u s'
 | .ok _=>False
 | .error e=>CX outer H s E e s'
structure FnOk (P:ybc)(w:World)(K:yba)(mg:Str->Option Value)(base:Heap)(CX:CXT)(k:Nat)(f:Addr)(fd:yne)(ps:List Str)(sp:Sp):Prop where
 len:∀vs H Q E,sp vs H Q E->vs.length=ps.length
 run:∀(A:Around) (outer:List Env) (s:Shared) (H:Hp) (args:Args) (us:List Value) (vs:List V) (Q:VK) (E:XK),Room k A->Env0 P w K mg base A outer s H->ypp s fd args (ps.zip us)->Vals vs us->sp vs H Q E →
  yvh (model P w) A (.call (.ref f) args) (CR CX outer P w H s Q E) s
theorem FnOk.mono {P:ybc}{w:World}{K:yba}{mg:Str->Option Value}{base:Heap}{CX:CXT}{j k:Nat}{f:Addr}{fd:yne}{ps:List Str}{sp:Sp}(F:FnOk P w K mg base CX j f fd ps sp)(h:j≤k) :
  FnOk P w K mg base CX k f fd ps sp:=⟨F.len,λA outer s H args us vs Q E hr=>F.run A outer s H args us vs Q E (hr.mono h)⟩
theorem FnOk.imp {P:ybc}{w:World}{K:yba}{mg:Str->Option Value}{base:Heap}{CX:CXT}{k:Nat}{f:Addr}{fd:yne}{ps:List Str}{sp sp':Sp}(F:FnOk P w K mg base CX k f fd ps sp)
  (h:∀vs H Q E,sp' vs H Q E->sp vs H Q E):FnOk P w K mg base CX k f fd ps sp' :=
 ⟨λvs H Q E q=>F.len vs H Q E (h _ _ _ _ q),λA outer s H args us vs Q E hr he hb hv hs=>F.run A outer s H args us vs Q E hr he hb hv (h _ _ _ _ hs)⟩
theorem Env0.make {P:ybc}{w:World}{K:yba}{mg:Str->Option Value}{base:Heap}{A:Around}{outer:List Env}{s:Shared}{H:Hp}(e:Env0 P w K mg base A outer s H)(C:Addr)(us:List Value)(kw:List (Str×Value)) :
  Env0 P w K mg base (A.under (.builtin "type.__call__" ⟨.ref C::us,kw⟩)) outer s H:=⟨by first|exact e.frames|(simpa [yeq,Code.envs,yfq,pushEnvs] using e.frames),e.mod,e.bs,e.bsz,e.funs,e.frf,e.hok,e.bare⟩
section
variable {X:Cx}{pins:List (Addr×Obj)}{σ:St}{H:Hp}{s s':Shared}
theorem Inv.env0 (I:Inv X pins σ H s):Env0 X.prog X.w X.K X.mg X.base X.A X.stack s H :=
 ⟨I.ok.frames,I.ok.mod,I.bs,yab I.ok.bsz I.sz,I.stack,I.zthb,I.hok,I.bare⟩
theorem Inv.after {Q:VK}{u:Value}(I:Inv X pins σ H s)(h:CE X.stack X.prog X.w H s Q u s'):EP X pins σ Q u s':=by
 obtain⟨v,H',os,bare,un,hok,r,q⟩:=h;obtain⟨hh,g,d,t,os'⟩:=s';obtain rfl:os'=s.os:=os;exact⟨v,H',I.call (h':=hh) (g':=g) (d':=d) (t':=t) (ch:=[]) un hok bare (λb z=>absurd z (by simp)),r,q⟩
end
def zwdc (sp:Sp)(dvs:List V)(E:XK)(t:TA):TE:=fun σ H Q=>t σ H λvs H1=>sp (vs++dvs) H1 Q E
def zeac (C:Addr)(m:Str)(sp:Sp)(dvs:List V)(E:XK)(ta:TE)(t:TA):TE:=fun σ H Q=>ta σ H λx H1=>Ex3 λa dx fs=>x = .ref a∧H1 a=some (.ins C dx fs)∧fs.lookup m=none ∧
 t σ H1 λvs H2=>sp (x::(vs++dvs)) H2 Q E
def zudc (C:Addr)(sp:Sp)(dvs:List V)(E:XK)(t:TA):TE:=fun σ H Q=>t σ H λvs H1=>∀x dx,H1 x=none->H1 dx=none->dx≠x →
 sp (.ref x::(vs++dvs)) (upd (upd H1 dx (.own x)) x (.ins C dx [])) (λv H2=>v = .non∧Q (.ref x) H2) E
def Binds (K:yba)(fd:yne)(ps:List Str)(ds:List Value):Prop :=
 ∀(s:Shared) (us:List Value),K.In s.heap->(us++ds).length=ps.length->ypp s fd ⟨us,[]⟩ (ps.zip (us++ds))
theorem Binds.all {K:yba}{fd:yne}{ps:List Str}(h:∀us:List Value,us.length=ps.length->bindArgs fd ⟨us,[]⟩=pure (ps.zip us)):Binds K fd ps []:=λs us _ hl=>by
 rw[yfc] at hl ⊢;exact .of_eq (h us hl)
def Passes (CX:CXT)(X:Cx)(E:XK):Prop:=∀(pins:List (Addr×Obj)) (σ:St) (H:Hp) (s:Shared) (e:Value) (s':Shared),Inv X pins σ H s->CX X.stack H s E e s'->X.xe e s'
section
variable {X:Cx}{CX:CXT}{k:Nat}{f C:Addr}{fd:yne}{ps:List Str}{sp:Sp}{dvs:List V}{ds:List Value}{E:XK}{x m:Str}{p pos apos:Pos}{e o:Expr}{es:List Expr}{ta:TE}{t:TA}
theorem zdpb {pins:List (Addr×Obj)}{σ:St}{H:Hp}{s:Shared}{Q:VK}{us:List Value}{vs:List V}(F:FnOk X.prog X.w X.K X.mg X.base CX k f fd ps sp)(hr:Room k X.A)(hb:Binds X.K fd ps ds)(hd:Vals dvs ds)(hx:Passes CX X E)
  (I:Inv X pins σ H s) (r:Vals vs us) (h:sp (vs++dvs) H Q E):wpAny (model X.prog X.w) X.A (call (.ref f) us) (EP X pins σ Q) X.xe s:=by
 have r2:Vals (vs++dvs) (us++ds):=r.append hd;have hl:(us++ds).length=ps.length:=by rw[← r2.length];exact F.len _ _ _ _ h
 refine wpAny_call (yqj (F.run X.A X.stack s H ⟨us,[]⟩ (us++ds) (vs++dvs) Q E hr I.env0 (hb s us I.kIn hl) r2 h) λr s' hq=>?_);cases r with
 | error e=>exact hx pins σ H s e s' I hq
 | ok fl =>
  cases fl with
  | ret u=>exact I.after hq
  | next=>exact yse hq
  | brk=>exact yse hq
  | cont=>exact yse hq
theorem zia (F:FnOk X.prog X.w X.K X.mg X.base CX k f fd ps sp)(hr:Room k X.A)(hg:Gl X x)(hm:X.mg x=some (.ref f))(hk:yff X.K (.ref f)=true)(hb:Binds X.K fd ps ds)(hd:Vals dvs ds)(hx:Passes CX X E)
  (ha:PA X (e::es) t) (hdb:(x==("__debug__":Str))=false:=by decide) (he:yzc (e::es) X.env=(false,eval e X.env)::yzc es X.env:=by rfl) (hpl:(backTo pos (yzc es X.env)).any (·.1)=false:=by rfl) :
  PE X (.Call (.Name x p) (e::es) [] pos) (zwdc sp dvs E t):=by
 intro pins s σ H Q I h;refine ysi (zgy I hg hm ?_ hdb);refine yal (h₀:=X.base) I.ok.mod.kin hk (thn (ha pos pins s σ H _ I h) λus s1 ⟨vs,H1,I1,r,q⟩=>⟨I1.kIn,?_⟩) he hpl;exact zdpb F hr hb hd hx I1 r q
theorem zgk {pl:Sem Bool}(he:PE X o ta)(c:Cls X.K C)(hm:Meth X.K C m f)(F:FnOk X.prog X.w X.K X.mg X.base CX k f fd ps sp)(hr:Room k X.A)(hb:Binds X.K fd ps ds)(hd:Vals dvs ds)(hx:Passes CX X E)(ha:PA X (e::es) t)
  (hst:yzc (e::es) X.env=(false,eval e X.env)::yzc es X.env:=by rfl) (hpl:(backTo pos (yzc es X.env)).any (·.1)=false:=by rfl)
  (ht:eval (.Call (.Attribute o m apos) (e::es) [] pos) X.env=(do
   let ov ← eval o X.env
   standAt apos.atName
   let (f,first) ← yen [ov] (yyq ov m pl)
   callWith pos f first (backTo pos (yzc (e::es) X.env)) (yvq pos (ykm [] X.env))):=by rfl) :
  PE X (.Call (.Attribute o m apos) (e::es) [] pos) (zeac C m sp dvs E ta t):=by
 intro pins s σ H Q I h;refine yin (pl:=pl) (thn (he pins s σ H _ I h) λu s1 ⟨x,H1,I1,rx,a,dx,fs,ex,ea,l,q⟩=>?_) ht;subst ex;obtain rfl:u=Value.ref a:=rx;refine zxab I1 ea c hm l ?_;refine yal (first:=[.ref a]) (h₀:=X.base) I.ok.mod.kin hm.kp (thn (ha pos pins s1 σ H1 _ I1 q) λus s2 ⟨vs,H2,I2,r,q2⟩=>⟨I2.kIn,?_⟩) hst hpl;exact zdpb (us:=.ref a::us) (vs:=.ref a::vs) F hr hb hd hx I2 (.cons rfl r) q2
theorem zic {pl:Sem Bool}(he:PE X o ta)(c:Cls X.K C)(hm:Meth X.K C m f)(F:FnOk X.prog X.w X.K X.mg X.base CX k f fd ps sp)(hr:Room k X.A)(hb:Binds X.K fd ps ds)(hd:Vals dvs ds)(hx:Passes CX X E)
  (ht:eval (.Call (.Attribute o m apos) [] [] pos) X.env=(do
   let ov ← eval o X.env
   standAt apos.atName
   let (f,first) ← yen [ov] (yyq ov m pl)
   callWith pos f first (backTo pos (yzc [] X.env)) (yvq pos (ykm [] X.env))):=by rfl) :
  PE X (.Call (.Attribute o m apos) [] [] pos) (zeac C m sp dvs E ta tNil):=by
 intro pins s σ H Q I h;refine yin (pl:=pl) (thn (he pins s σ H _ I h) λu s1 ⟨x,H1,I1,rx,a,dx,fs,ex,ea,l,q⟩=>?_) ht;subst ex;obtain rfl:u=Value.ref a:=rx;refine zxab I1 ea c hm l ?_;exact PySem.W.callWith_K0 (first:=[.ref a]) I1.kIn hm.kp (zdpb (us:=[.ref a]) (vs:=[.ref a]) F hr hb hd hx I1 (.cons rfl .nil) q)
structure Mk (K:yba)(C f:Addr):Prop where
 makes:ygn K C=true
 init:ybb K (.ref C) "__init__" = some (some (.ref f))
 fn:yyk K (.ref f)=true
 kp:yff K (.ref C)=true
theorem zisb {pins:List (Addr×Obj)}{σ:St}{H:Hp}{s:Shared}{Q:VK}{us:List Value}{vs:List V}(M:Mk X.K C f)(F:FnOk X.prog X.w X.K X.mg X.base CX k f fd ps sp)(hr:Room (k+1) X.A)(hb:Binds X.K fd ps ds)(hd:Vals dvs ds)
  (hx:Passes CX X E) (I:Inv X pins σ H s) (r:Vals vs us)
  (h:∀x dx,H x=none->H dx=none->dx≠x->sp (.ref x::(vs++dvs)) (upd (upd H dx (.own x)) x (.ins C dx [])) (λv H2=>v = .non∧Q (.ref x) H2) E) :
  wpAny (model X.prog X.w) X.A (call (.ref C) us) (EP X pins σ Q) X.xe s:=by
 have hq:=h (s.heap.objs.size+1) s.heap.objs.size (I.hok.fresh (yzg _)) (I.hok.fresh (yja _)) (ydb (yhe _));have I2:=Inv.made (C:=C) I;have r2:Vals (V.ref (s.heap.objs.size+1)::(vs++dvs)) (Value.ref (s.heap.objs.size+1)::(us++ds)):=.cons rfl (r.append hd);have hl:(Value.ref (s.heap.objs.size+1)::us++ds).length=ps.length:=by
  have e:=r2.length;rw[F.len _ _ _ _ hq] at e;exact e.symm
 refine wpAny_call (zntb (f:=f) I.kIn M.makes M.init (beq_iff_eq.mp M.fn) (yqj (F.run _ X.stack _ _ ⟨Value.ref (s.heap.objs.size+1)::us,[]⟩ (Value.ref (s.heap.objs.size+1)::(us++ds)) _ _ E (hr.make C us [])
  (I2.env0.make C us []) (hb _ (Value.ref (s.heap.objs.size+1)::us) I2.kIn hl) r2 hq) λr s' hq'=>?_))
 cases r with
 | error e=>exact hx pins σ _ _ e s' I2 hq'
 | ok fl =>
  cases fl with
  | ret u =>
   obtain⟨v,H',I3,rv,ev,q3⟩:=I2.after hq';subst ev;exact⟨rv,⟨V.ref (s.heap.objs.size+1),H',I3,rfl,q3⟩⟩
  | next=>exact yse hq'
  | brk=>exact yse hq'
  | cont=>exact yse hq'
theorem ztx (M:Mk X.K C f)(F:FnOk X.prog X.w X.K X.mg X.base CX k f fd ps sp)(hr:Room (k+1) X.A)(hg:Gl X x)(hm:X.mg x=some (.ref C))(hb:Binds X.K fd ps ds)(hd:Vals dvs ds)(hx:Passes CX X E)
  (ha:PA X (e::es) t) (hdb:(x==("__debug__":Str))=false:=by decide) (he:yzc (e::es) X.env=(false,eval e X.env)::yzc es X.env:=by rfl) (hpl:(backTo pos (yzc es X.env)).any (·.1)=false:=by rfl) :
  PE X (.Call (.Name x p) (e::es) [] pos) (zudc C sp dvs E t):=by
 intro pins s σ H Q I h;refine ysi (zgy I hg hm ?_ hdb);refine yal (h₀:=X.base) I.ok.mod.kin M.kp (thn (ha pos pins s σ H _ I h) λus s1 ⟨vs,H1,I1,r,q⟩=>⟨I1.kIn,?_⟩) he hpl;exact zisb M F hr hb hd hx I1 r q
end
section
variable {X:Cx}{CX:CXT}{k:Nat}{f C:Addr}{fd:yne}{ps ks:List Str}{sp:Sp}{E:XK}{x m:Str}{p pos apos kpos:Pos}{e o:Expr}{es:List Expr}{kws:List yqp}{te ta:TE}{t tk:TA}{nm:Option Str}
structure zxec (K:yba)(fd:yne)(ps ks:List Str)(g:List Value->List Value->List Value)(gV:List V->List V->List V):Prop where
 to:∀(s:Shared) (us ws:List Value),K.In s.heap->(g us ws).length=ps.length->ypp s fd ⟨us,ks.zip ws⟩ (ps.zip (g us ws))
 rel:∀{vs:List V} {us:List Value} {zs:List V} {ws:List Value},Vals vs us->Vals zs ws->Vals (gV vs zs) (g us ws)
variable {g:List Value->List Value->List Value}{gV:List V->List V->List V}
end
structure zva (N P:List Str)(sc:Scope):Prop where
 kind:sc.kind = .function
 co:sc.isCoroutine=false
 gen:sc.isGenerator=false
 nd:N.Nodup
 pre:N.take P.length=P
 par:∀x∈P,sc.names.lookup x=some .local∨sc.names.lookup x=some .cell
 nofree:∀y∈sc.names,y.2 ≠ .free
theorem zmgb {kindOf:Str->Option yhd}{x:Str}:∀{binds:List (Str×Value)} {m:Str->Option Value},(∀v,(x,v)∉binds)->bindL kindOf binds m x=m x
 | [],_,_=>rfl
 | (n,v)::r,m,h=>by
  unfold bindL;rw[zmgb λw hw=>h w (yla _ hw)]
  split
  ·have:x≠n:=by rintro rfl;exact h v ypa
   simp[this]
  ·rfl
theorem zogb {kindOf:Str->Option yhd}{x:Str}:∀{binds:List (Str×Value)} {m:Str->Option Value},(∀v,(x,v)∉binds)->bindC kindOf binds m x=m x
 | [],_,_=>rfl
 | (n,v)::r,m,h=>by
  unfold bindC;rw[zogb λw hw=>h w (yla _ hw)]
  split
  ·rfl
  ·have:x≠n:=by rintro rfl;exact h v ypa
   simp[this]
theorem zngb {kindOf:Str->Option yhd}{x:Str}{v:Value}:∀{P:List Str} {vs:List Value} {i:Nat} {m:Str->Option Value},P.Nodup->P[i]?=some x->vs[i]?=some v->kindOf x=some .local →
  bindL kindOf (P.zip vs) m x=some v
 | [],_,_,_,_,h,_,_=>by simp at h
 | _::_,[],_,_,_,_,h,_=>by simp at h
 | p::P,w::vs,0,m,nd,h1,h2,hk=>by
  simp at h1 h2;subst h1;subst h2;show bindL kindOf ((p,w)::P.zip vs) m p=_
  unfold bindL;rw[zmgb λv hv=>(yhk.mp nd).1 (yjn hv).1,if_pos hk];simp
 | p::P,w::vs,i+1,m,nd,h1,h2,hk=>by
  show bindL kindOf ((p,w)::P.zip vs) m x=_
  unfold bindL;exact zngb (i:=i) (yhk.mp nd).2 (by simpa using h1) (by simpa using h2) hk
theorem zpgb {kindOf:Str->Option yhd}{x:Str}{v:Value}:∀{P:List Str} {vs:List Value} {i:Nat} {m:Str->Option Value},P.Nodup->P[i]?=some x->vs[i]?=some v->kindOf x≠some .local →
  bindC kindOf (P.zip vs) m x=some v
 | [],_,_,_,_,h,_,_=>by simp at h
 | _::_,[],_,_,_,_,h,_=>by simp at h
 | p::P,w::vs,0,m,nd,h1,h2,hk=>by
  simp at h1 h2;subst h1;subst h2;show bindC kindOf ((p,w)::P.zip vs) m p=_
  unfold bindC;rw[zogb λv hv=>(yhk.mp nd).1 (yjn hv).1,if_neg hk];simp
 | p::P,w::vs,i+1,m,nd,h1,h2,hk=>by
  show bindC kindOf ((p,w)::P.zip vs) m x=_
  unfold bindC;exact zpgb (i:=i) (yhk.mp nd).2 (by simpa using h1) (by simpa using h2) hk
def start (N:List Str)(vs:List V):St:=vs.map some++ynb (N.length-vs.length) none
def cxOf (CX:CXT)(P:ybc)(w:World)(K:yba)(mg:Str->Option Value)(base:Heap)(N:List Str)(qual:Str)(scope:Scope)(f:Addr)(cd:Value)(A:Around)(outer:List Env)(s:Shared)(H:Hp)(E:XK):Cx where
 prog:=P
 w:=w
 K:=K
 mg:=mg
 base:=base
 A:=A.deeper (envOfC qual scope s.heap.objs.size f cd)
 N:=N
 s₀:=s
 H₀:=H
 env:=envOfC qual scope s.heap.objs.size f cd
 outer:=outer
 stack:=envOfC qual scope s.heap.objs.size f cd::outer
 ex:=[]
 calm:=true
 fn:=λ_=>true
 pn:=[]
 xe:=λe s'=>wpAny (model P w) (A.deeper (envOfC qual scope s.heap.objs.size f cd)) (yrp (envOfC qual scope s.heap.objs.size f cd) e) (λ_ s''=>CX outer H s E e s'') (λe' s''=>CX outer H s E e' s'') s'
theorem zemb {sc:Scope}{n:Nat}{x:Str}(h:sc.names.lookup x=some .cell):∃c,(cellsFrom n sc.names []).lookup x=some c:=by
 have q:=yxm sc.names n [] (.inl h);exact Option.isSome_iff_exists.mp q
theorem zgqb {CX:CXT}{P:ybc}{w:World}{K:yba}{mg:Str->Option Value}{base:Heap}{N ps:List Str}{qual:Str}{scope:Scope}{f:Addr}{cd:Value}{A:Around}{outer:List Env}{s s1:Shared}{H:Hp}{E:XK}{us:List Value}{vs:List V}
  (S:zva N ps scope) (hd:A.handled=none) (e0:Env0 P w K mg base A outer s H) (hl:vs.length=ps.length) (r:Vals vs us)
  (x:InCallC s s.heap.objs.size (bindL (envOfC qual scope s.heap.objs.size f cd).kindOf (ps.zip us) λ_=>none) (cellsFrom (s.heap.objs.size+1) scope.names []) (bindC (envOfC qual scope s.heap.objs.size f cd).kindOf (ps.zip us) λ_=>none) s1) :
  Inv (cxOf CX P w K mg base N qual scope f cd A outer s H E) [] (start N vs) H s1:=by
 have hpl:ps.length≤N.length:=by have:=congrArg ynf S.pre;rw[yza] at this;omega
 obtain⟨h1,tk,rfl,hk⟩:=x.done;have noA:∀b:Addr,b∉(cxOf CX P w K mg base N qual scope f cd A outer s H E).ex:=λb z=>absurd (show b∈([]:List Addr) from z) (by simp);refine⟨⟨e0.mod,S.kind,rfl,rfl,yja _,λy z c h1 h2=>?_,λy hy=>?_,λy c _ h=>?_,λ_=>hd,Around.frames_deeper e0.frames,.inr ⟨rfl,rfl⟩,λb z=>absurd z (noA b),e0.bs,e0.bsz,λb _ _=>noA b,λb z=>absurd z (noA b),e0.funs,e0.frf⟩,
  rfl,e0.bare,Un.kept hk,⟨_,x.toInCall.ns,λi y v h1 h2 h3=>?_⟩,λy c h=>⟨_,x.cell y c h⟩,e0.hok.fresh (yja _),λy c h=>?_,λp hp=>absurd (show p∈([]:List (Addr×Obj)) from hp) (by simp),e0.hok.kept hk,?_⟩
 ·exact name_of_addr x.apart (yah h1) (yah h2)
 ·have hy:scope.names.lookup y=some .cell∨scope.names.lookup y=some .free:=hy
  rcases hy with hy|hy
  ·exact zemb hy
  ·exact absurd rfl (S.nofree _ (yah hy))
 ·exact ywg (x.above y c (yah h))
 ·have hi:i<vs.length:=by
   unfold start at h2
   by_cases hi:i<vs.length
   ·exact hi
   ·rw[yzb (by simpa using hi)] at h2;rw[yti] at h2
    split at h2<;>cases h2
  have ha:vs[i]?=some v:=by
   unfold start at h2;rw[yrc (by simpa using hi),yhb] at h2;cases e:vs[i]? with
   | none=>rw[e] at h2;cases h2
   | some a=>rw[e] at h2;cases h2;rfl
  obtain⟨u,hu,rv⟩:=r.get ha;have hp:ps[i]?=some y:=by
   rw[← S.pre,ytl (by omega)];exact h1
  have ndP:ps.Nodup:=by rw[← S.pre];exact S.nd.sublist (List.take_sublist _ _)
  refine⟨u,rv,?_⟩
  rcases S.par y (ywa hp) with k|k
  ·exact .inl ⟨k,zngb ndP hp hu k⟩
  ·obtain⟨c,e⟩:=zemb (n:=s.heap.objs.size+1) k;refine .inr ⟨.inl k,c,e,?_⟩;have q:=x.cell y c e;rw[zpgb ndP hp hu (by show scope.names.lookup y≠_;rw[k];decide)] at q;exact q
 ·exact e0.hok.fresh (ywg (x.above y c (yah h)))
 ·unfold start;show _=N.length
  rw[yha,yaa,yyb];omega
theorem zzcc {CX:CXT}{P:ybc}{w:World}{K:yba}{mg:Str->Option Value}{base:Heap}{k:Nat}{f:Addr}{name qual:Str}{params:Arguments}{body:List Stmt}{scope:Scope}{dV kV doc pm cdv ct oc:Value}{an od:Option Addr}
  {osl:Array (Option Value)} {N ps:List Str} {sp:Sp} (lk:K.lookup f=some ⟨oc,od,.func (yxg name qual params body scope dV kV doc pm an cdv ct),osl⟩) (hcd:yxh K cdv qual=true) (S:zva N ps scope)
  (len:∀vs H Q E,sp vs H Q E->vs.length=ps.length)
  (hbody:∀(A:Around) (outer:List Env) (s:Shared) (H:Hp) (vs:List V) (Q:VK) (E:XK),Room k (A.deeper (envOfC qual scope s.heap.objs.size f cdv))->sp vs H Q E →
   ∃t,PSs (cxOf CX P w K mg base N qual scope f cdv A outer s H E) body t∧t { nx:=λ_ H'=>Q .non H',rt:=Q } (start N vs) H) :
  FnOk P w K mg base CX (k+1) f (yxg name qual params body scope dV kV doc pm an cdv ct) ps sp:=by
 refine⟨len,λA outer s H args us vs Q E hr e0 hb r hsp=>?_⟩;have hl:=len _ _ _ _ hsp;have KX:K.In s.heap:=e0.mod.kin.keeps λb o e=>(e0.bs b o e).1;have lim:s.heap.NoLimit:=e0.mod.nolimit.keeps λb o e=>(e0.bs b o e).1;have hkind:∀y∈ps.zip us,scope.names.lookup y.1=some .local∨(scope.names.lookup y.1=some .cell∧((cellsFrom (s.heap.objs.size+1) scope.names []).lookup y.1).isSome=true):=λ⟨n,v⟩ hy=>by
  rcases S.par n (yjn hy).1 with q|q
  ·exact .inl q
  ·exact .inr ⟨q,yxm _ _ _ (.inl q)⟩
 refine codeAny_call_function hr.depth (KX _ _ lk) rfl S.co S.gen rfl (PySem.W.codeRec_of KX hcd) (hb _ _ _ _ ?_);refine wpAny_newFunctionEnv_cells S.kind hkind λenv he s1 x=>?_;subst he;refine⟨lim.keeps x.toInCall.keep,codeAny_func ?_⟩;obtain⟨t,ht,hq⟩:=hbody A outer s H vs Q E (hr.deeper _) hsp;have I:Inv (cxOf CX P w K mg base N qual scope f cdv A outer s H E) [] (start N vs) H s1:=zgqb S hr.hd e0 hl r x;refine yed (ht [] s1 (start N vs) H _ I hq) (λfl s' hs=>?_) λe s' hs=>hs;have fin:∀{σ':St} {H':Hp} {v:V} {u:Value},Inv (cxOf CX P w K mg base N qual scope f cdv A outer s H E) [] σ' H' s'->RelV v u->Q v H'->CE outer P w H s Q u s' :=
  λ{σ' H' v u} J rv q=>⟨v,H',J.os,J.bare,J.base,J.hok,rv,q⟩
 cases fl with
 | ret u =>
  obtain⟨v,σ',H',J,rv,q⟩:=hs;exact fin J rv q
 | next =>
  obtain⟨σ',H',J,q⟩:=hs;exact fin (v:=V.non) (u:=Value.none) J rfl q
 | brk =>
  obtain⟨_,_,_,q⟩:=hs;exact yse q
 | cont =>
  obtain⟨_,_,_,q⟩:=hs;exact yse q
end L2
namespace L2
open PySem PySem.Spec PyProof.Rows
section
variable {X:Cx}{x:Str}{p pos:Pos}{e:Expr}{es:List Expr}{t:TA}{id T:String}{r:List V->Hp->VK->Prop}
def tCB (r:List V->Hp->VK->Prop)(t:TA):TE:=fun σ H Q=>t σ H λvs H1=>r vs H1 Q
theorem zma (hc:zqh X (.builtin id) r)(hg:Gl X x)(hm:X.mg x=none)(hv:yyf x=some (.builtin id))(ha:PA X (e::es) t)(hn:x ≠ "__name__":=by decide)(hdb:(x==("__debug__":Str))=false:=by decide)
  (he:yzc (e::es) X.env=(false,eval e X.env)::yzc es X.env:=by rfl) (hpl:(backTo pos (yzc es X.env)).any (·.1)=false:=by rfl):PE X (.Call (.Name x p) (e::es) [] pos) (tCB r t):=by
 intro pins s σ H Q I h;refine ysi (ziy I hg hm hv ?_ hn hdb);exact PyProof.Rows.callWith_builtin1 (thn (ha pos pins s σ H _ I h) λus s1 ⟨vs,H1,I1,r1,q1⟩=>hc pins s1 σ H1 vs us Q I1 r1 q1) he hpl
theorem zlb (hc:zqh X (.type T) r)(hg:Gl X x)(hm:X.mg x=none)(hv:yyf x=some (.type T))(ha:PA X (e::es) t)(hn:x ≠ "__name__":=by decide)(hdb:(x==("__debug__":Str))=false:=by decide)
  (he:yzc (e::es) X.env=(false,eval e X.env)::yzc es X.env:=by rfl) (hpl:(backTo pos (yzc es X.env)).any (·.1)=false:=by rfl):PE X (.Call (.Name x p) (e::es) [] pos) (tCB r t):=by
 intro pins s σ H Q I h;refine ysi (ziy I hg hm hv ?_ hn hdb);exact yce (thn (ha pos pins s σ H _ I h) λus s1 ⟨vs,H1,I1,r1,q1⟩=>hc pins s1 σ H1 vs us Q I1 r1 q1) he hpl
end
end L2
namespace HT
open PySem PyProof.Rows
section
open PySem.SeqAt
open PySem.AutoSeq1 (wpAny_loadPart')
open PySem.MeetsSeq PySem.MeetsSeq2 PySem.MeetsSeq3
end
section
variable {prog:ybc}{w:World}{A:Around}{E:Value->Shared->Prop}{s:Shared}
theorem zdzb {t b:Addr}{vs ws:List Value}{Q:Value->Shared->Prop}(ht:IsTup s.heap t vs.toArray)(hb:IsTup s.heap b ws.toArray)(hv:vs≠[])
  (h1:ws=[]->Q (.ref t) s) (h2:ws≠[]->Q (.ref s.heap.objs.size) { s with heap:=s.heap.push { cls:=.type "tuple",data:=.seq (vs++ws).toArray } })
  (hsz:vs.length+ws.length≤yxa):wpAny (model prog w) A (yrh .Add (.ref t) (.ref b)) Q E s:=by
 obtain⟨⟨cls,dd,data,sl⟩,ho,hc,n,hd⟩:=id ht;obtain⟨⟨cls2,dd2,data2,sl2⟩,ho2,hc2,n2,hd2⟩:=id hb;simp only at hc hd hc2 hd2;subst hc hd hc2 hd2;have e:vs.toArray++ws.toArray=(vs++ws).toArray:=by simp
 by_cases hw:ws=[]
 ·exact concat_meets ⟨_,ho,rfl⟩ ⟨_,ho2,rfl⟩ noFill_tuple_add seq_tuple_add yym ylm (yul _ _)
   (tuple_addW1 t b vs.toArray ws.toArray n n2 dd dd2 sl sl2 (by simpa using hv) (by simp[hw])) ⟨ho,ho2,h1 hw⟩
 ·refine concat_meets ⟨_,ho,rfl⟩ ⟨_,ho2,rfl⟩ noFill_tuple_add seq_tuple_add yym ylm (yul _ _)
   (tuple_addW2 t b vs.toArray ws.toArray n n2 dd dd2 sl sl2 (by simpa using hv) (by simpa using hw) (by rw[yta,yta];exact hsz)) ⟨ho,ho2,?_⟩
  rw[e];exact h2 hw
def sIx (n d:Nat):Option Int->Nat
 | none=>d
 | some v=>if v<0 then (v+(n:Int)).toNat else min v.toNat n
theorem zalb (n d:Nat):sIx n d none=d:=rfl
theorem zzhb (n d k:Nat):sIx n d (some (k:Int))=min k n:=by
 show (if (k:Int)<0 then ((k:Int)+(n:Int)).toNat else min (k:Int).toNat n)=min k n
 rw[if_neg (by omega),yac]
theorem zuac (n d:Nat)(hd:d≤n)(o:Option Int):sIx n d o≤n:=by
 cases o with
 | none=>exact hd
 | some v =>
  show (if v<0 then (v+(n:Int)).toNat else min v.toNat n)≤n
  by_cases hv:v<0
  ·rw[if_pos hv];omega
  ·rw[if_neg hv];exact Nat.min_le_right _ _
theorem zyqb (v:Int)(n d:Nat):(if v<0 then max (v+(n:Int)) 0 else min v (n:Int))=((sIx n d (some v):Nat):Int):=by
 show (if v<0 then max (v+(n:Int)) 0 else min v (n:Int))=(((if v<0 then (v+(n:Int)).toNat else min v.toNat n):Nat):Int)
 by_cases hv:v<0
 ·simp only[if_pos hv];omega
 ·simp only[if_neg hv];omega
theorem ztnb (lo hi:Option Int)(n:Nat):yyh lo hi 1 (n:Int)=(((sIx n 0 lo:Nat):Int),((sIx n n hi:Nat):Int)):=by
 have h1:¬ ((1:Int)<0):=by omega
 unfold yyh;simp only[h1,if_false];refine Prod.ext ?_ ?_
 ·cases lo with
  | none=>rfl
  | some v=>exact zyqb v n 0
 ·cases hi with
  | none=>rfl
  | some v=>exact zyqb v n n
theorem zymb (i j:Nat):yjg (i:Int) (j:Int) 1=j-i:=by
 unfold yjg;have h1:(1:Int)>0:=by omega
 simp only[h1,if_true,Int.ediv_one]
 split<;>omega
theorem zjab {v:Value}{o:Option Int}{Q:Option Int->Shared->Prop}(p:IsPart v o)(h:Q o s):wpAny (model prog w) A (ywe.Slice.slicePartIndex v) Q E s:=by
 cases p with
 | none=>exact slicePart_none h
 | int i t=>exact slicePart_int h
theorem zan {sl:Addr}{vl vu:Value}{lo hi:Option Int}{n:Nat}{Q:Int×Int×Nat->Shared->Prop}(hs:s.heap.IsSliceOf sl vl vu .none)(pl:IsPart vl lo)(pu:IsPart vu hi)
  (h:Q (((sIx n 0 lo:Nat):Int),1,sIx n n hi-sIx n 0 lo) s):wpAny (model prog w) A (yuk (.ref sl) (pure (n:Int))) Q E s:=by
 obtain⟨os,hos,hcs,hds⟩:=id hs;unfold yuk ywe.Slice.sliceFields;refine yca (yca (yhj hos hds (x:=vl) rfl (yca (yhj hos hds (x:=vu) rfl (yca (yhj hos hds (x:=.none) rfl (yka ?_)))))));refine yca (slicePart_none ?_);show wpAny _ _ (if ((1:Int)==0)=true then _ else _) _ _ s
 rw[if_neg (by decide)];refine yca (zjab pl (yca (zjab pu (yca (yka ?_)))));show wpAny _ _ (match yyh lo hi 1 (n:Int) with|(lo,hi)=>pure (lo,(1:Int),yjg lo hi 1)) _ _ s
 rw[ztnb lo hi n];show wpAny _ _ (pure (((sIx n 0 lo:Nat):Int),(1:Int),yjg ((sIx n 0 lo:Nat):Int) ((sIx n n hi:Nat):Int) 1)) _ _ s
 rw[zymb];exact yka h
theorem zxsb (xs:Array Value)(i k:Nat):((ypc k).filterMap λ(m:Nat)=>xs[((i:Int)+(m:Int)*1).toNat]?).toArray=((xs.toList.drop i).take k).toArray:=by
 have e:(λ(m:Nat)=>xs[((i:Int)+(m:Int)*1).toNat]?)=λm=>xs[i+m]?:=by
  funext m
  have:((i:Int)+(m:Int)*1).toNat=i+m:=by omega
  rw[this]
 rw[e];have:=pick_run xs i k;rw[yxo] at this;have e2:((λx=>xs[x]?)∘λx=>i+x)=λm=>xs[i+m]?:=rfl;rw[e2] at this;rw[this]
theorem zgt {t sl:Addr}{items:Array Value}{vl vu:Value}{lo hi:Option Int}{Q:Value->Shared->Prop}(ht:IsTup s.heap t items)(hs:s.heap.IsSliceOf sl vl vu .none)(pl:IsPart vl lo)(pu:IsPart vu hi)
  (hw:¬ (sIx items.size 0 lo=0∧sIx items.size items.size hi=items.size))
  (h:Q (.ref s.heap.objs.size) { s with heap:=s.heap.push { cls:=.type "tuple",data:=.seq ((items.toList.drop (sIx items.size 0 lo)).take (sIx items.size items.size hi-sIx items.size 0 lo)).toArray } })
  (hsz:items.size≤yxa):wpAny (model prog w) A (ykn (.ref t) (.ref sl)) Q E s:=by
 have htake:sizeOk (.seq ((items.toList.drop (sIx items.size 0 lo)).take (sIx items.size items.size hi-sIx items.size 0 lo)).toArray):=by
  show ((items.toList.drop (sIx items.size 0 lo)).take (sIx items.size items.size hi-sIx items.size 0 lo)).toArray.size≤yxa
  rw[yta,yza,yie,ywb];omega
 have hj:sIx items.size items.size hi≤items.size:=zuac _ _ (yja _) hi;obtain⟨os,hos,hcs,hds⟩:=id hs;have hTs:s.TypeIs (.ref sl) "slice":=⟨os,hos,hcs⟩;unfold ykn
 try with_reducible refine yyc ?_
 first|refine yca (yka ?_)|skip
 refine yca (yij ht.typeIs (by decide) ?_);refine yca (ycf (name:=yrj "__getitem__") ht.typeIs yfd
  (yye yfd ht.typeIs entry_tuple_getitem ?_ (args_tuple_getitem _ _)))
 show wpAny _ _ (yvk (.ref t) >>= _) _ _ s
 refine yca (tupleItemsOf_ ht ?_);refine yca (ybl hTs ?_);rw[if_pos (by decide)];refine yca (zan hs pl pu ?_);have hno:¬ ((((sIx items.size 0 lo:Nat):Int)==0&&(1:Int)==1&&(sIx items.size items.size hi-sIx items.size 0 lo)==items.size)=true):=by
  intro q;rw[yjc,yjc] at q;have q1:((sIx items.size 0 lo:Nat):Int)=0:=eq_of_beq q.1.1;have q2:sIx items.size items.size hi-sIx items.size 0 lo=items.size:=eq_of_beq q.2;exact hw ⟨by omega,by omega⟩
 show wpAny _ _ (if (((sIx items.size 0 lo:Nat):Int)==0&&(1:Int)==1&&(sIx items.size items.size hi-sIx items.size 0 lo)==items.size)=true then _ else _) _ _ s
 rw[if_neg hno,zxsb]
 first
  | exact yca (m:=yqg _) (ygd (yka ⟨_,rfl,yka h⟩) htake)
  | exact yca (m:=yqg _) (ygd (yca (yka (yka ⟨_,rfl,yka h⟩))) htake)
  | exact yca (yca (m:=yqg _) (ygd (yka (yka ⟨_,rfl,yka h⟩)) htake))
  | exact yca (yca (m:=yqg _) (ygd (yka ⟨_,rfl,yka h⟩) htake))
end
end HT
namespace L2
open PySem PySem.Spec PyProof.Rows
abbrev TO:=St->Hp->(Option Int->Hp->Prop)->Prop
def PO (X:Cx)(e:Option Expr)(t:TO):Prop :=
 ∀(pins:List (Addr×Obj)) (s:Shared) (σ:St) (H:Hp) (Q:Option Int->Hp->Prop),Inv X pins σ H s->t σ H Q →
  wpAny (model X.prog X.w) X.A (evalPart e X.env) (λu s'=>Ex2 λo H'=>Inv X pins σ H' s'∧IsPart u o∧Q o H') X.xe s
def zrob:TO:=λ_ H Q=>Q none H
def ztdc (t:TE):TO:=fun σ H Q=>t σ H λx H1=>∃i,x = .int i∧Q (some i) H1
section
variable {X:Cx}{e:Expr}{te:TE}{lo hi:Option Expr}{tl th:TO}{pos p2:Pos}
theorem zpl:PO X none zrob:=by
 intro pins s σ H Q I h;rw[evalPart_none];exact yka ⟨none,H,I,.none,h⟩
theorem zol (h:PE X e te):PO X (some e) (ztdc te):=by
 intro pins s σ H Q I hw;rw[evalPart_some];refine thn (h pins s σ H _ I hw) λu s1 ⟨x,H1,I1,r1,q1⟩=>?_;obtain⟨i,rfl,q⟩:=q1;obtain⟨t,rfl⟩:=r1;exact⟨some i,H1,I1,.int i t,q⟩
def SlR (X:Cx)(r:V->Option Int->Option Int->Hp->VK->Prop):Prop :=
 ∀(pins:List (Addr×Obj)) (s:Shared) (σ:St) (H:Hp) (x:V) (v vl vu:Value) (lo hi:Option Int) (sl:Addr) (Q:VK),Inv X pins σ H s->RelV x v->s.heap.IsSliceOf sl vl vu .none->IsPart vl lo->IsPart vu hi->r x lo hi H Q →
  Ex2 λT id=>typeLookup (.type T) "__getitem__" = pure (some (.builtin id))∧s.TypeIs v T∧wpAny (model X.prog X.w) X.A (ykn v (.ref sl)) (EP X pins σ Q) X.xe s
def tSl (r:V->Option Int->Option Int->Hp->VK->Prop)(te:TE)(tl th:TO):TE:=fun σ H Q=>te σ H λx H1=>tl σ H1 λl H2=>th σ H2 λu H3=>r x l u H3 Q
theorem zni {r:V->Option Int->Option Int->Hp->VK->Prop}(hr:SlR X r)(he:PE X e te)(hl:PO X lo tl)(hu:PO X hi th):PE X (.Subscript e (.Slice lo hi none p2) pos) (tSl r te tl th):=by
 intro pins s σ H Q I h;refine Subscript_ (thn (he pins s σ H _ I h) λv s1 ⟨x,H1,I1,r1,q1⟩=>?_);refine wpAny_Slice (thn (hl pins s1 σ H1 _ I1 q1) λvl s2 ⟨l,H2,I2,pl,q2⟩=>thn (hu pins s2 σ H2 _ I2 q2) λvu s3 ⟨u,H3,I3,pu,q3⟩=>?_);rw[evalPart_none];refine yka ?_;have I4:Inv X pins σ H3 { s3 with heap:=s3.heap.push { cls:=.type "slice",data:=.fields #[vl,vu,.none] } }:=I3.kept (t':=s3.toks) λb ob q=>yea _ q;obtain⟨T,id,hT,ht,hg⟩:=hr pins { s3 with heap:=s3.heap.push { cls:=.type "slice",data:=.fields #[vl,vu,.none] } } σ H3 x v vl vu l u s3.heap.objs.size Q I4 r1 (Heap.IsSliceOf.new ..) pl pu q3;show wpAny (model X.prog X.w) X.A (subscriptTail e (.Slice lo hi none p2) v (.ref s3.heap.objs.size)) (EP X pins σ Q) X.xe { s3 with heap:=s3.heap.push { cls:=.type "slice",data:=.fields #[vl,vu,.none] } }
 exact tail_any (ops:=[.ref s3.heap.objs.size,v]) ht hT hg (by with_unfolding_all rfl)
def cutV (xs:List V)(lo hi:Option Int):List V:=(xs.drop (HT.sIx xs.length 0 lo)).take (HT.sIx xs.length xs.length hi-HT.sIx xs.length 0 lo)
theorem zsy (xs:List V)(lo hi:Option Int):(cutV xs lo hi).length≤xs.length:=by
 unfold cutV;rw[yza,yie];omega
def rSlT (K:yba):V->Option Int->Option Int->Hp->VK->Prop:=λx lo hi H Q=>Ex2 λa xs=>x = .ref a∧SqT K H a xs ∧
 ¬ (HT.sIx xs.length 0 lo=0∧HT.sIx xs.length xs.length hi=xs.length)∧∀p,H p=none->Q (.ref p) (upd H p (.tup (cutV xs lo hi)))
theorem zzub:SlR X (rSlT X.K):=by
 intro pins s σ H x v vl vu lo hi sl Q I rx hs pl pu h;obtain⟨a,xs,rfl,hx,hw,q⟩:=h;cases rx;obtain⟨its,r,ht,hz⟩:=I.tuple hx;have hlen:its.toArray.size=xs.length:=by rw[yta];exact r.length.symm
 refine⟨"tuple",_,yfd.lookup,ht.typeIs,?_⟩;refine HT.zgt ht hs pl pu (by rw[hlen];exact hw) ?_ (by rw[hlen];exact hz);rw[hlen];refine⟨.ref s.heap.objs.size,_,I.laid (t':=s.toks) (o:=.tup (cutV xs lo hi)) (λb ob q=>yea _ q) (yja _) ?_,rfl,q _ (I.hok.fresh (yja _))⟩;exact⟨yab (zsy xs lo hi) hz,_,(r.drop (HT.sIx xs.length 0 lo)).take (HT.sIx xs.length xs.length hi-HT.sIx xs.length 0 lo),yzq _ _⟩
def zeec (K:yba):R2:=λx y H Q=>Ex4 λa b xs ys=>x = .ref a∧y = .ref b∧SqT K H a xs∧SqT K H b ys∧xs≠[]∧xs.length+ys.length≤yxa ∧
 (ys=[]->Q (.ref a) H)∧(ys≠[]->∀p,H p=none->Q (.ref p) (upd H p (.tup (xs++ys))))
theorem Vals.zay {xs:List V}{us:List Value}(r:Vals xs us):us=[]↔xs=[]:=by
 cases r with
 | nil=>simp
 | cons _ _=>simp
theorem zspb:OpR X (yrh .Add) (zeec X.K):=by
 intro pins s σ H x y v u Q I rx ry h;obtain⟨a,b,xs,ys,rfl,rfl,ha,hb,hx,hz,q1,q2⟩:=h;cases rx;cases ry;obtain⟨its,r1,p1,_⟩:=I.tuple ha;obtain⟨its2,r2,p2,_⟩:=I.tuple hb;refine HT.zdzb p1 p2 (λz=>hx (r1.zay.mp z)) (λz=>⟨.ref a,H,I,rfl,q1 (r2.zay.mp z)⟩) (λz=>?_) (by rw[← r1.length,← r2.length];exact hz);refine⟨.ref s.heap.objs.size,_,I.laid (t':=s.toks) (o:=.tup (xs++ys)) (λb ob q=>yea _ q) (yja _) ?_,rfl,q2 (λw=>z (r2.zay.mpr w)) _ (I.hok.fresh (yja _))⟩;exact⟨by rw[yha];exact hz,_,r1.append r2,yzq _ _⟩
end
end L2
namespace L2
open PySem PySem.Spec PyProof.Rows
def ixN (n:Nat)(i:Int):Option Nat:=if 0≤i then (if i<n then some i.toNat else none) else if -(n:Int)≤i then some (i+n).toNat else none
def atI {α:Type}(xs:List α)(i:Int):Option α:=(ixN xs.length i).bind λj=>xs[j]?
theorem zfqb {n:Nat}{i:Int}{j:Nat}(h:ixN n i=some j):seqIndex? i n=some j∧j<n ∧ -(n:Int)≤i∧i<n:=by
 unfold ixN at h
 by_cases h0:0≤i
 ·rw[if_pos h0] at h
  by_cases h1:i<n
  ·rw[if_pos h1] at h;have e:i.toNat=j:=yub h;exact⟨by rw[seqIndex_of h0 h1,e],by omega,by omega,h1⟩
  ·rw[if_neg h1] at h;cases h
 ·rw[if_neg h0] at h
  by_cases h1:-(n:Int)≤i
  ·rw[if_pos h1] at h;have e:(i+n).toNat=j:=yub h;exact⟨by rw[seqIndex_neg (by omega) h1,e],by omega,h1,by omega⟩
  ·rw[if_neg h1] at h;cases h
theorem zqjb {α:Type}{xs:List α}{i:Int}{v:α}(h:atI xs i=some v):∃j,seqIndex? i xs.length=some j∧xs[j]?=some v∧j<xs.length ∧ -(xs.length:Int)≤i∧i<xs.length:=by
 unfold atI at h;cases e:ixN xs.length i with
 | none=>rw[e] at h;cases h
 | some j =>
  rw[e] at h;obtain⟨h1,h2,h3,h4⟩:=zfqb e;exact⟨j,h1,h,h2,h3,h4⟩
theorem zna {α:Type}{xs:List α}{j:Nat}{v:α}(h:xs[j]?=some v):atI xs (j:Int)=some v:=by
 have hj:j<xs.length:=(yma.mp h).1;have e:ixN xs.length (j:Int)=some j:=by
  unfold ixN;rw[if_pos (by omega),if_pos (by omega)];simp
 unfold atI;rw[e];exact h
def zpzb (b:Expr):Prop:=∀o i,subscripted b false o i=operate [o,i] (ykn o i)
def IxR (X:Cx)(r:R2):Prop :=
 ∀(value slice:Expr) (pins:List (Addr×Obj)) (s:Shared) (σ:St) (H:Hp) (x y:V) (v u:Value) (Q:VK),Inv X pins σ H s->RelV x v->RelV y u->r x y H Q →
  subscripted slice false v u=operate [v,u] (ykn v u)->wpAny (model X.prog X.w) X.A (subscriptTail value slice v u) (EP X pins σ Q) X.xe s
def MtR (X:Cx)(id:String)(r:V->List V->Hp->VK->Prop):Prop :=
 ∀(pins:List (Addr×Obj)) (s:Shared) (σ:St) (H:Hp) (x:V) (xs:List V) (v:Value) (us:List Value) (Q:VK),Inv X pins σ H s->RelV x v->Vals xs us->r x xs H Q →
  wpAny (model X.prog X.w) X.A (call (.builtin id) (v::us)) (EP X pins σ Q) X.xe s
section
variable {X:Cx}{a b:Expr}{ta tb:TE}{pos:Pos}
theorem IxR.or {r r':R2}(h:IxR X r)(h':IxR X r'):IxR X (λx y H Q=>r x y H Q∨r' x y H Q):=by
 intro value slice pins s σ H x y v u Q I rx ry q hs
 rcases q with q|q
 ·exact h value slice pins s σ H x y v u Q I rx ry q hs
 ·exact h' value slice pins s σ H x y v u Q I rx ry q hs
theorem zmb {r:R2}(hr:IxR X r)(ha:PE X a ta)(hb:PE X b tb)(hs:zpzb b):PE X (.Subscript a b pos) (tOp r ta tb):=by
 intro pins s σ H Q I h;exact Subscript_ (binT ha hb I h λv u s2 x y H2 I2 rx ry q=>hr a b pins s2 σ H2 x y v u Q I2 rx ry q (hs _ _))
def rIxL (K:yba):R2:=λx y H Q=>Ex4 λp xs i v=>x = .ref p∧y = .int i∧SqL K H p xs∧atI xs i=some v∧Q v H
def rIxT (K:yba):R2:=λx y H Q=>Ex4 λp xs i v=>x = .ref p∧y = .int i∧SqT K H p xs∧atI xs i=some v∧Q v H
def rIxS:R2:=λx y H Q=>Ex3 λz i c=>x = .str z∧y = .int i∧z.length≤yxa∧atI z.cps.toList i=some c∧Q (.str ⟨#[c]⟩) H
theorem zrb:IxR X (rIxL X.K):=by
 intro value slice pins s σ H x y v u Q I rx ry h hs;obtain⟨p,xs,i,z,rfl,rfl,hq,he,q⟩:=h;cases rx;obtain⟨t,rfl⟩:=ry;obtain⟨its,r,pl,hz⟩:=I.list hq;obtain⟨j,h1,h2,h3,h4,h5⟩:=zqjb he;obtain⟨w,ew,rw'⟩:=r.get h2;have hl:=r.length;have hn:=zey;have fin:EP X pins σ Q w s:=⟨z,H,I,rw',q⟩
 by_cases h0:0≤i
 ·have hj:i.toNat=j:=by
   rw[seqIndex_of h0 h5] at h1;exact yub h1
  exact item_listR pl.isList h0 (by omega) (by rw[hj];simpa using ew) fin hs
 ·have hj:(i+(its.toArray.size:Int)).toNat=j:=by
   rw[seqIndex_neg (by omega) h4] at h1;rw[yta,← hl];exact yub h1
  exact ydj (x:=w) pl.isList.typeIs slot_list_getitem.lookup
   (wpAny_getItem_list_neg (Q:=λr s'=>r=w∧EP X pins σ Q r s') pl.isList (by omega) (by rw[yta]<;>omega) (by omega) (by rw[hj];simpa using ew) ⟨rfl,fin⟩) hs
theorem zxb:IxR X (rIxT X.K):=by
 intro value slice pins s σ H x y v u Q I rx ry h hs;obtain⟨p,xs,i,z,rfl,rfl,hq,he,q⟩:=h;cases rx;obtain⟨t,rfl⟩:=ry;obtain⟨its,r,pl,hz⟩:=I.tuple hq;obtain⟨j,h1,h2,h3,h4,h5⟩:=zqjb he;obtain⟨w,ew,rw'⟩:=r.get h2;have hl:=r.length;have hn:=zey;have fin:EP X pins σ Q w s:=⟨z,H,I,rw',q⟩;exact ydj (x:=w) pl.typeIs slot_tuple_getitem.lookup
  (getItem_tuple (j:=j) (Q:=λr s'=>r=w∧EP X pins σ Q r s') pl (by omega) (by omega) (by rw[yta,← hl];exact h1) (by simpa using ew) ⟨rfl,fin⟩) hs
theorem zvlb:IxR X rIxS:=by
 intro value slice pins s σ H x y v u Q I rx ry h hs;obtain⟨z,i,c,rfl,rfl,hz,he,q⟩:=h;obtain⟨t,rfl⟩:=rx;obtain⟨t',rfl⟩:=ry;obtain⟨j,h1,h2,h3,h4,h5⟩:=zqjb he;have hl:z.cps.toList.length=z.length:=by simp[yxn]
 rw[hl] at h1 h4 h5;have hn:=zey;exact tail_any (yvl s z t) slot_str_getitem.lookup (getItem_str (c:=c) (by
  have e1:decide (i < -(2 ^ 63:Int))=false:=decide_eq_false (by omega);have e2:decide (i≥2 ^ 63)=false:=decide_eq_false (by omega);rw[e1,e2,yyo]) (by rw[h1];simpa using h2) ⟨.str ⟨#[c]⟩,H,I.tok _,⟨_,rfl⟩,q⟩) hs
def rIx (K:yba):R2:=λx y H Q=>rIxL K x y H Q∨rIxT K x y H Q∨rIxS x y H Q
theorem ztcc:IxR X (rIx X.K):=zrb.or (zxb.or zvlb)
theorem zcnb (its:List Value)(n j:Nat)(u:Value):yvf (·.setIfInBounds j u) { cls:=.type "list",data:=.seq its.toArray n }={ cls:=.type "list",data:=.seq (its.set j u).toArray n }:=by
 simp[yvf]
theorem Inv.lst {pins:List (Addr×Obj)}{σ:St}{H:Hp}{s:Shared}{p:Addr}{xs:List V}(I:Inv X pins σ H s)(h:H p=some (.lst xs)) :
  Ex2 λ(its:List Value) (n:Nat)=>Vals xs its∧s.heap.get? p=some { cls:=.type "list",data:=.seq its.toArray n }∧xs.length≤yxa:=by
 obtain⟨z,its,n,r,e⟩:=I.hok p _ h;exact⟨its,n,r,e,z⟩
theorem Inv.zzbc {pins:List (Addr×Obj)}{σ:St}{H:Hp}{s:Shared}{p:Addr}{xs ys:List V}{its its':List Value}{n n':Nat}{f:Obj->Obj}(I:Inv X pins σ H s)(h:H p=some (.lst xs))
  (ho:s.heap.get? p=some { cls:=.type "list",data:=.seq its.toArray n }) (hf:f { cls:=.type "list",data:=.seq its.toArray n }={ cls:=.type "list",data:=.seq its'.toArray n' }) (r:Vals ys its') (hz:ys.length≤yxa) (t:Nat) :
  Inv X pins σ (upd H p (.lst ys)) { s with heap:=s.heap.update p f,toks:=t }:=by
 have e:(s.heap.update p f).get? p=some { cls:=.type "list",data:=.seq its'.toArray n' }:=by
  rw[ysd f ho (by rw[hf]<;>rfl),hf]
 refine I.write (x:=p) (e:=p) (by rw[h];trivial) (.inl rfl) (λb u hb q=>(yoc _ _ (yvc hb)).trans q) ⟨_,e⟩ ?_;exact⟨hz,its',n',r,e⟩
def zbec:V->V->V->Hp->(Hp->Prop)->Prop:=λo i v H Q=>Ex4 λp xs k j=>o = .ref p∧i = .int k∧H p=some (.lst xs)∧ixN xs.length k=some j∧Q (upd H p (.lst (xs.set j v)))
theorem set_list:PSet X zbec:=by
 intro pins s σ H o i v ov iv u Q I ro ri rv h;obtain⟨p,xs,k,j,rfl,rfl,hp,hj,q⟩:=h;cases ro;obtain⟨t,rfl⟩:=ri;obtain⟨its,n,r,ho,hz⟩:=I.lst hp;obtain⟨h1,h2,h3,h4⟩:=zfqb hj;have hl:=r.length;have hn:=zey;have I':Inv X pins σ (upd H p (.lst (xs.set j v))) { s with heap:=s.heap.update p (yvf (·.setIfInBounds j u)) } :=
  I.zzbc hp ho (zcnb its n j u) (r.set rv j) (by rw[yrg];exact hz) s.toks
 by_cases h0:0≤k
 ·have hk:k.toNat=j:=by
   rw[seqIndex_of h0 h4] at h1;exact yub h1
  exact PySem.W.ki_setAt ho h0 (by omega) (by rw[yta,← hl];exact h4) (by rw[hk];exact⟨_,I',q⟩)
 ·have hk:(k+(its.toArray.size:Int)).toNat=j:=by
   rw[seqIndex_neg (by omega) h3] at h1;rw[yta,← hl];exact yub h1
  exact PySem.W.ki_setBack ho (by omega) (by rw[yta,← hl];exact h3) (by omega) (by rw[hk];exact⟨_,I',q⟩)
theorem zieb (lo hi:Option Int)(n:Nat):(yjj lo hi none n).1=((HT.sIx n 0 lo:Nat):Int)∧(yjj lo hi none n).2.1=((HT.sIx n n hi:Nat):Int)∧(yjj lo hi none n).2.2=1:=by
 refine⟨?_,?_,rfl⟩
 ·cases lo with
  | none=>simp[yjj,HT.sIx]
  | some i =>
   simp only[yjj,HT.sIx,ynq,show (1:Int)>0 by decide,if_true]
   by_cases h:i<0
   ·simp only[h,if_true]<;>omega
   ·simp only[h,if_false]<;>omega
 ·cases hi with
  | none=>simp[yjj,HT.sIx]
  | some i =>
   simp only[yjj,HT.sIx,ynq,show (1:Int)>0 by decide,if_true]
   by_cases h:i<0
   ·simp only[h,if_true]<;>omega
   ·simp only[h,if_false]<;>omega
theorem zgbb (its:List Value)(lo hi:Option Int):slicePick its.toArray lo hi none=((its.drop (HT.sIx its.length 0 lo)).take (HT.sIx its.length its.length hi-HT.sIx its.length 0 lo)).toArray:=by
 obtain⟨h1,h2,h3⟩:=zieb lo hi its.toArray.size;unfold slicePick;rw[h1,h2,h3];simp only[yko,pick_run,yta]<;>rfl
def rSlL (K:yba):V->Option Int->Option Int->Hp->VK->Prop:=λx lo hi H Q=>Ex2 λa xs=>x = .ref a∧SqL K H a xs∧∀p,H p=none->Q (.ref p) (upd H p (.lst (cutV xs lo hi)))
theorem zxhb:SlR X (rSlL X.K):=by
 intro pins s σ H x v vl vu lo hi sl Q I rx hs pl pu h;obtain⟨a,xs,rfl,hx,q⟩:=h;cases rx;obtain⟨its,r,ht,hz⟩:=I.list hx;have hlen:=r.length;refine⟨"list",_,slot_list_getitem.lookup,ht.isList.typeIs,?_⟩;refine wpAny_getItem_list_slice ht.isList hs pl pu .none (by simp) ?_ (by rw[yta]<;>omega);rw[zgbb,← hlen];refine⟨.ref s.heap.objs.size,_,I.laid (t':=s.toks) (o:=.lst (cutV xs lo hi)) (λb ob q=>yea _ q) (yja _) ?_,rfl,q _ (I.hok.fresh (yja _))⟩;exact⟨yab (zsy xs lo hi) hz,_,0,(r.drop (HT.sIx xs.length 0 lo)).take (HT.sIx xs.length xs.length hi-HT.sIx xs.length 0 lo),ysa _ rfl⟩
def zucb:V->Bool
 | .non=>true
 | .bl _=>true
 | .int _=>true
 | .str _=>true
 | _=>false
def eqV:V->V->Bool
 | .non,.non=>true
 | .bl a,.bl b=>a==b
 | .bl a,.int b=>(if a then 1 else 0)==b
 | .int a,.bl b=>a==(if b then 1 else 0)
 | .int a,.int b=>a==b
 | .str a,.str b=>a==b
 | _,_=>false
theorem zcdc {A:Around}{s:Shared}{y x:V}{u v:Value}(ry:RelV y u)(rx:RelV x v)(fy:zucb y=true)(fx:zucb x=true):yke A s u v (eqV y x):=by
 cases y with
 | non =>
  cases ry;cases x with
  | non=>cases rx;exact yke.same _
  | bl b=>cases rx;exact yke.none_bool b
  | int b=>obtain⟨t,rfl⟩:=rx;exact yke.none_int b t
  | str b=>obtain⟨t,rfl⟩:=rx;exact yke.none_str b t
  | _=>exact absurd (show false=true from fx) ylb
 | bl a =>
  cases ry;cases x with
  | non=>cases rx;exact yke.bool_none a
  | bl b=>cases rx;exact yke.bool_bool a b
  | int b=>obtain⟨t,rfl⟩:=rx;exact yke.bool_int a b t
  | str b=>obtain⟨t,rfl⟩:=rx;exact yke.bool_str a b t
  | _=>exact absurd (show false=true from fx) ylb
 | int a =>
  obtain⟨t',rfl⟩:=ry;cases x with
  | non=>cases rx;exact yke.int_none a t'
  | bl b=>cases rx;exact yke.int_bool a t' b
  | int b=>obtain⟨t,rfl⟩:=rx;exact yke.int_int a t' b t
  | str b=>obtain⟨t,rfl⟩:=rx;exact yso a t' b t
  | _=>exact absurd (show false=true from fx) ylb
 | str a =>
  obtain⟨t',rfl⟩:=ry;cases x with
  | non=>cases rx;exact yke.str_none a t'
  | bl b=>cases rx;exact yke.str_bool a t' b
  | int b=>obtain⟨t,rfl⟩:=rx;exact yto a t' b t
  | str b=>obtain⟨t,rfl⟩:=rx;exact yke.str_str a t' b t
  | _=>exact absurd (show false=true from fx) ylb
 | _=>exact absurd (show false=true from fy) ylb
def eqU (x:V)(u:Value):Bool:=match u with
 | .none=>eqV .non x
 | .bool b=>eqV (.bl b) x
 | .int i _=>eqV (.int i) x
 | .str z _=>eqV (.str z) x
 | _=>false
theorem zrvb {x y:V}{u:Value}(r:RelV y u)(f:zucb y=true):eqU x u=eqV y x:=by
 cases y with
 | non=>cases r;rfl
 | bl b=>cases r;rfl
 | int i=>obtain⟨t,rfl⟩:=r;rfl
 | str z=>obtain⟨t,rfl⟩:=r;rfl
 | _=>exact absurd (show false=true from f) ylb
theorem zez {x:V}:∀{xs:List V} {us:List Value},Vals xs us->xs.all zucb=true->us.any (eqU x)=xs.any λy=>eqV y x
 | _,_,.nil,_=>rfl
 | y::xs,u::us,.cons r t,f=>by
  rw[List.all_cons,yjc] at f;rw[List.any_cons,List.any_cons,zrvb r f.1,zez t f.2]
theorem zds {A:Around}{s:Shared}{x:V}{v:Value}(rx:RelV x v)(fx:zucb x=true):∀{xs:List V} {us:List Value},Vals xs us->xs.all zucb=true->∀u∈us,yke A s u v (eqU x u)
 | _,_,.nil,_=>λu hu=>by cases hu
 | y::xs,u::us,.cons r t,f=>λu' hu=>by
  rw[List.all_cons,yjc] at f
  rcases yia.mp hu with rfl|hu
  ·rw[zrvb r f.1];exact zcdc r rx f.1 fx
  ·exact zds rx fx t f.2 u' hu
def inV (x:V)(xs:List V):Bool:=xs.any λy=>eqV y x
def rIn (K:yba)(neg:Bool):R2:=λx y H Q=>Ex2 λp xs=>y = .ref p∧(SqL K H p xs∨SqT K H p xs)∧zucb x=true∧xs.all zucb=true∧Q (.bl (if neg then !inV x xs else inV x xs)) H
theorem zzi:OpR X (yde .In) (rIn X.K false):=by
 intro pins s σ H x y v u Q I rx ry h;obtain⟨p,xs,rfl,hq,fx,fs,q⟩:=h;cases ry
 rcases hq with hq|hq
 ·obtain⟨its,r,pl,hz⟩:=I.list hq;refine SeqAt.in_listAt (eqU x) pl.isList (λw hw=>zds rx fx r fs w (by simpa using hw)) ⟨.bl _,H,I,rfl,?_⟩;rw[show its.toArray.any (eqU x)=its.any (eqU x) by simp,zez r fs];exact q
 ·obtain⟨its,r,pl,hz⟩:=I.tuple hq;refine SeqAt.in_tupleAt (eqU x) pl (λw hw=>zds rx fx r fs w (by simpa using hw)) ⟨.bl _,H,I,rfl,?_⟩;rw[show its.toArray.any (eqU x)=its.any (eqU x) by simp,zez r fs];exact q
theorem zyeb:OpR X (yde .NotIn) (rIn X.K true):=by
 intro pins s σ H x y v u Q I rx ry h;obtain⟨p,xs,rfl,hq,fx,fs,q⟩:=h;cases ry
 rcases hq with hq|hq
 ·obtain⟨its,r,pl,hz⟩:=I.list hq;refine SeqAt.notIn_listAt (eqU x) pl.isList (λw hw=>zds rx fx r fs w (by simpa using hw)) ⟨.bl _,H,I,rfl,?_⟩;rw[show its.toArray.any (eqU x)=its.any (eqU x) by simp,zez r fs];exact q
 ·obtain⟨its,r,pl,hz⟩:=I.tuple hq;refine SeqAt.notIn_tupleAt (eqU x) pl (λw hw=>zds rx fx r fs w (by simpa using hw)) ⟨.bl _,H,I,rfl,?_⟩;rw[show its.toArray.any (eqU x)=its.any (eqU x) by simp,zez r fs];exact q
theorem zra:zqh X (.builtin "len") (λxs H Q=>Ex2 λp ys=>xs=[.ref p]∧(SqL X.K H p ys∨SqT X.K H p ys)∧Q (.int ys.length) H):=by
 intro pins s σ H xs us Q I r h;obtain⟨p,ys,rfl,hq,q⟩:=h;obtain⟨u,rfl,rx⟩:=vals1 r;cases rx;have hn:=zey
 rcases hq with hq|hq
 ·obtain⟨its,r',pl,hz⟩:=I.list hq;have hlen:=r'.length;exact Calls.call_len_list pl.isList (by simp only[yta]<;>omega) ⟨.int ys.length,H,I.tok _,⟨s.toks+1,by rw[yta,hlen]⟩,q⟩
 ·obtain⟨its,r',pl,hz⟩:=I.tuple hq;have hlen:=r'.length;exact len_tuple pl (by simp only[yta]<;>omega) ⟨.int ys.length,H,I.tok _,⟨s.toks+1,by rw[yta,hlen]⟩,q⟩
theorem zyn:zqh X (.builtin "len") (λxs H Q=>∃z,xs=[.str z]∧z.length≤yxa∧Q (.int z.length) H):=by
 intro pins s σ H xs us Q I r h;obtain⟨z,rfl,hz,q⟩:=h;obtain⟨u,rfl,t,rfl⟩:=vals1 r;have hn:=zey;exact len_str (by omega) ⟨.int z.length,H,I.tok _,⟨_,rfl⟩,q⟩
theorem zigb:zqh X (.type "list") (λxs H Q=>Ex2 λp ys=>xs=[.ref p]∧(SqL X.K H p ys∨SqT X.K H p ys)∧∀l,H l=none->Q (.ref l) (upd H l (.lst ys))):=by
 intro pins s σ H xs us Q I r h;obtain⟨p,ys,rfl,hq,q⟩:=h;obtain⟨u,rfl,rx⟩:=vals1 r;cases rx;have fin:∀(its:List Value),Vals ys its->ys.length≤yxa->∀(h':Heap) (c':Nat),(∀b o',s.heap.get? b=some o'->h'.get? b=some o') →
   h'.get? s.heap.objs.size=some { cls:=.type "list",dict:=none,data:=.seq its.toArray c',slots:=#[] }->EP X pins σ Q (.ref s.heap.objs.size) { s with heap:=h' }:=λits r' hz h' c' kp e =>
  ⟨.ref s.heap.objs.size,_,I.laid (t':=s.toks) kp (yja _) (show zwl X.prog X.w _ h' _ (.lst ys) from⟨hz,its,c',r',e⟩),rfl,q _ (I.hok.fresh (yja _))⟩
 rcases hq with hq|hq
 ·obtain⟨its,r',pl,hz⟩:=I.list hq;have hlen:=r'.length;obtain⟨o,ho,hc,n,hd⟩:=pl.isList;exact call_list_seq p (.inl rfl) ho hc hd (λh' c' kp e=>fin its r' hz h' c' kp e) (by simp only[yta]<;>omega)
 ·obtain⟨its,r',pl,hz⟩:=I.tuple hq;have hlen:=r'.length;obtain⟨o,ho,hc,n,hd⟩:=pl;exact call_list_seq p (.inr rfl) ho hc hd (λh' c' kp e=>fin its r' hz h' c' kp e) (by simp only[yta]<;>omega)
theorem zdc:zqh X (.type "tuple") (λxs H Q=>Ex2 λp ys=>xs=[.ref p]∧((SqL X.K H p ys∧∀l,H l=none->Q (.ref l) (upd H l (.tup ys)))∨(SqT X.K H p ys∧Q (.ref p) H))):=by
 intro pins s σ H xs us Q I r h;obtain⟨p,ys,rfl,h⟩:=h;obtain⟨u,rfl,rx⟩:=vals1 r;cases rx
 rcases h with⟨hq,q⟩|⟨hq,q⟩
 ·obtain⟨its,r',pl,hz⟩:=I.list hq;have hlen:=r'.length;refine call_tuple_list pl.isList (λh' kp=>?_) (by simp only[yta]<;>omega);have I1:Inv X pins σ H { s with heap:=h' }:=I.kept (t':=s.toks) kp;have I2:Inv X pins σ (upd H h'.objs.size (.tup ys)) { s with heap:=h'.push { cls:=.type "tuple",data:=.seq its.toArray } } :=
   I1.laid (t':=s.toks) (λb o e=>yea _ e) (yja _) (show zwl X.prog X.w _ _ _ (.tup ys) from⟨hz,its,r',yzq _ _⟩)
  exact⟨.ref h'.objs.size,_,I2,rfl,q _ (I1.hok.fresh (yja _))⟩
 ·obtain⟨its,r',pl,hz⟩:=I.tuple hq;exact call_tuple_same pl ⟨.ref p,H,I,rfl,q⟩
def tyV (K:yba)(T:String)(x:V)(H:Hp):Prop:=match x with
 | .str _=>T = "str"
 | .int _=>T = "int"
 | .ref p=>(T = "list" ∧ ∃xs,SqL K H p xs)∨(T = "tuple" ∧ ∃o,K.lookup p=some o∧o.cls = .type "tuple" ∧ o.dict=none) ∨
   (T = "dict" ∧ ((∃kvs,H p=some (.dK kvs))∨∃kvs,H p=some (.dT kvs)))∨(T = "set" ∧ Ex2 λS n=>H p=some (.set S n))
 | _=>False
theorem zuub {pins:List (Addr×Obj)}{σ:St}{H:Hp}{s:Shared}{T:String}{x:V}{v:Value}(I:Inv X pins σ H s)(r:RelV x v)(ty:tyV X.K T x H) :
  s.TypeIs v T∧∀a,v = .ref a->∃ob,s.heap.get? a=some ob∧ob.dict=none:=by
 cases x with
 | str z =>
  obtain⟨t,rfl⟩:=r;cases (show T = "str" from ty);exact⟨yvl s z t,λ_ e=>nomatch e⟩
 | int i =>
  obtain⟨t,rfl⟩:=r;cases (show T = "int" from ty);exact⟨yki s i t,λ_ e=>nomatch e⟩
 | ref p =>
  cases r
  rcases ty with⟨rfl,xs,hq⟩|⟨rfl,o,hk,hc,hd⟩|⟨rfl,hk⟩|⟨rfl,S,n,hk⟩
  ·obtain⟨its,_,pl,_⟩:=I.list hq;refine⟨pl.isList.typeIs,λa e=>?_⟩;cases e;obtain⟨o,n,e,c,hd,_⟩:=pl;exact⟨o,e,hd⟩
  ·refine⟨⟨o,I.kIn p o hk,hc⟩,λa e=>?_⟩;cases e;exact⟨o,I.kIn _ o hk,hd⟩
  ·have z:∃o,s.heap.get? p=some o∧o.ExactDict:=by
    rcases hk with⟨kvs,hk⟩|⟨kvs,hk⟩
    ·obtain⟨_,_,_,_,o,_,_,e,ex,_⟩:=I.hok p _ hk;exact⟨o,e,ex⟩
    ·obtain⟨_,_,_,_,o,_,_,e,ex,_⟩:=I.hok p _ hk;exact⟨o,e,ex⟩
   obtain⟨o,e,ex⟩:=z;refine⟨⟨o,e,ex.1⟩,λa e2=>?_⟩;cases e2;exact⟨o,e,ex.2.1⟩
  ·obtain⟨o,_,_,_,e,ex,_⟩:=I.hok p _ hk;refine⟨⟨o,e,ex.1⟩,λa e2=>?_⟩;cases e2;exact⟨o,e,ex.2.1⟩
 | _=>exact yse ty
def tBM0 (K:yba)(T:String)(r:V->List V->Hp->VK->Prop)(to:TE):TE:=fun σ H Q=>to σ H λx H1=>tyV K T x H1∧r x [] H1 Q
def tBM (K:yba)(T:String)(r:V->List V->Hp->VK->Prop)(to:TE)(t:TA):TE:=fun σ H Q=>to σ H λx H1=>tyV K T x H1∧t σ H1 λxs H2=>r x xs H2 Q
variable {o e:Expr}{es:List Expr}{to:TE}{t:TA}{name:Str}{apos cpos:Pos}{T id:String}{r:V->List V->Hp->VK->Prop}
theorem zivb (pa:PlainAttrs T)(slot:Slot T name id)(hty:typeOf (.builtin id)=pure (.type "method_descriptor"))(hm:MtR X id r)(ho:PE X o to)
  (hbase:ysh o name X.env (eval o X.env)=eval o X.env:=by rfl) (hline:(apos.endLine==cpos.line)=true:=by rfl):PE X (.Call (.Attribute o name apos) [] [] cpos) (tBM0 X.K T r to):=by
 intro pins s σ H Q I h;refine wpAny_Call_method0_late hbase hline (thn (ho pins s σ H _ I h) λv s1 ⟨x,H1,I1,r1,ty,q1⟩=>?_);obtain⟨h1,h2⟩:=zuub I1 r1 ty;exact⟨T,id,pa,slot,hty,h1,h2,yzm rfl (PySem.evalArgs_none (hm pins s1 σ H1 x [] v [] Q I1 r1 .nil q1))⟩
theorem zjf (pa:PlainAttrs T)(slot:Slot T name id)(hty:typeOf (.builtin id)=pure (.type "method_descriptor"))(hm:MtR X id r)(ho:PE X o to)(ha:PA X (e::es) t)
  (hbase:ysh o name X.env (eval o X.env)=eval o X.env:=by rfl)
  (hfew:((backTo cpos (yzc (e::es) X.env)).all (λx=>!x.1)&&(yvq cpos (ykm [] X.env)).all (λx=>x.1.isSome)
   && decide ((e::es).length+([]:List yqp).length+(if ([]:List yqp).isEmpty then 0 else 1)<30))=true:=by rfl)
  (hline:(apos.endLine==cpos.line)=true:=by rfl) (hs:yzc (e::es) X.env=(false,eval e X.env)::yzc es X.env:=by rfl) (hplain:(backTo cpos (yzc es X.env)).any (·.1)=false:=by rfl) :
  PE X (.Call (.Attribute o name apos) (e::es) [] cpos) (tBM X.K T r to t):=by
 intro pins s σ H Q I h;refine wpAny_Call_method_late hbase hfew hline rfl (thn (ho pins s σ H _ I h) λv s1 ⟨x,H1,I1,r1,ty,q1⟩=>?_);obtain⟨h1,h2⟩:=zuub I1 r1 ty;refine⟨T,id,pa,slot,hty,h1,h2,?_⟩;have hA:=ha cpos pins s1 σ H1 _ I1 q1;rw[hs] at hA ⊢;refine yzm (by show (false||(backTo cpos (yzc es X.env)).any (·.1))=false;rw[hplain]<;>rfl) (yco ?_);exact thn hA λus s2 ⟨vs,H2,I2,r2,q2⟩=>hm pins s2 σ H2 x vs v us Q I2 r1 r2 q2
end
end L2
namespace L2
open PySem PySem.Spec PyProof.Rows
def MtM (X:Cx)(id:String)(r:V->List V->Hp->VK->Prop):Prop :=
 ∀(pins:List (Addr×Obj)) (s:Shared) (σ:St) (H:Hp) (x:V) (xs:List V) (v:Value) (us:List Value) (Q:VK),Inv X pins σ H s->RelV x v->Vals xs us->r x xs H Q →
  wpAny (model X.prog X.w) X.A (call (.builtin id) (v::us)) (EP X pins σ Q) X.xe s
theorem Vals.one:∀{x:V} {us:List Value},Vals [x] us->∃u,us=[u]∧RelV x u
 | _,_,.cons r .nil=>⟨_,rfl,r⟩
theorem Vals.zero:∀{us:List Value},Vals [] us->us=[]
 | _,.nil=>rfl
theorem Vals.eraseIdx:∀{xs:List V} {us:List Value} (i:Nat),Vals xs us->Vals (xs.eraseIdx i) (us.eraseIdx i)
 | _,_,_,.nil=>.nil
 | _,_,0,.cons _ t=>t
 | _,_,i+1,.cons r t=>.cons r (Vals.eraseIdx i t)
theorem Vals.rep {xs:List V}{us:List Value}(h:Vals xs us):∀k:Nat,Vals (ynb k xs).flatten (ynb k us).flatten
 | 0=>.nil
 | k+1=>by
  rw[yle,yle,ytc,ytc];exact Vals.append h (Vals.rep h k)
theorem ztfb {α:Type}:∀(l:List α) (i:Nat),(l.eraseIdx i).length≤l.length
 | [],_=>yja _
 | _::_,0=>yzg _
 | _::r,i+1=>Nat.succ_le_succ (ztfb r i)
theorem foldl_rep (its:List Value):∀(k:Nat) (acc:List Value),
  ywl (λx1 x2=>x1++x2) acc.toArray (ynb k its.toArray)=(acc++(ynb k its).flatten).toArray
 | 0,acc=>by simp
 | k+1,acc=>by
  have e:acc.toArray++its.toArray=(acc++its).toArray:=by simp
  have e2:(acc++its)++(ynb k its).flatten=acc++(ynb (k+1) its).flatten:=by
   rw[yle,ytc,yuc]
  rw[← e2,← foldl_rep its k (acc++its),← e,yle,List.foldl_cons]
section
variable {X:Cx}{pins:List (Addr×Obj)}{σ:St}{H:Hp}{s:Shared}{l b:Addr}{xs ys zs:List V}
theorem Inv.lset {its its':List Value}{n:Nat}{f:Array Value->Array Value}{t':Nat}(I:Inv X pins σ H s)(hH:H l=some (.lst xs))
  (e:s.heap.get? l=some { cls:=.type "list",data:=.seq its.toArray n }) (hf:f its.toArray=its'.toArray) (hv:Vals ys its') (hz:ys.length≤yxa) :
  Inv X pins σ (upd H l (.lst ys)) { s with heap:=s.heap.update l (yvf f),toks:=t' }:=by
 have q:=PySem.IsL.update e f;rw[hf] at q;refine I.write (x:=l) (e:=l) (by rw[hH];exact trivial) (.inl rfl) (λb' u hb hu=>(yoc s.heap (yvf f) (yvc hb)).trans hu) ⟨_,q⟩ ?_;exact⟨hz,its',_,hv,q⟩
theorem Inv.lnew {its:List Value}{t':Nat}(I:Inv X pins σ H s)(hv:Vals ys its)(hz:ys.length≤yxa) :
  Inv X pins σ (upd H s.heap.objs.size (.lst ys)) { s with heap:=s.heap.push { cls:=.type "list",data:=.seq its.toArray },toks:=t' } :=
 I.laid (λ_ _ q=>yea _ q) (yja _) ⟨hz,its,0,hv,ysa _ rfl⟩
theorem Inv.fresh (I:Inv X pins σ H s):H s.heap.objs.size=none:=I.hok.fresh (yja _)
theorem Inv.lstM (I:Inv X pins σ H s)(hH:H l=some (.lst xs)):xs.length≤yxa∧Ex2 λ(its:List Value) (n:Nat)=>Vals xs its∧xs.length=its.length∧s.heap.get? l=some { cls:=.type "list",data:=.seq its.toArray n }:=by
 obtain⟨z,its,n,r,e⟩:=I.hok l _ hH;exact⟨z,its,n,r,r.length,e⟩
theorem znlb {n:Nat}(h:n≤yxa):ysg n=false:=by
 unfold ysg;exact decide_eq_false (by omega)
end
section
variable {X:Cx}
def zoxb:V->List V->Hp->VK->Prop:=λx vs H Q=>Ex3 λl xs y=>x = .ref l∧vs=[y]∧H l=some (.lst xs)∧xs.length<yxa∧Q .non (upd H l (.lst (xs++[y])))
theorem zae:MtM X "list.append" zoxb:=by
 intro pins s σ H x vs v us Q I rx rv h;obtain⟨l,xs,y,rfl,rfl,hH,hz,q⟩:=h;cases rx;obtain⟨u,rfl,ru⟩:=rv.one;obtain⟨z,its,n,r,hl,e⟩:=I.lstM hH;refine yte F.slot_list_append ⟨_,e,rfl⟩ F.entry_list_append (F.args_list_append_2 _ _) (PySem.list_append l its.toArray n u (by rw[yta];omega)) ⟨e,?_⟩;refine⟨.non,_,I.lset (its':=its++[u]) hH e (by simp) (r.append (.cons ru .nil)) ?_,rfl,q⟩;rw[yha,ybg];omega
def znxb:V->List V->Hp->VK->Prop:=λx vs H Q=>Ex4 λl b xs zs=>x = .ref l∧vs=[.ref b]∧H l=some (.lst xs)∧H b=some (.lst zs)∧xs.length+zs.length≤yxa∧Q .non (upd H l (.lst (xs++zs)))
theorem zby:MtM X "list.extend" znxb:=by
 intro pins s σ H x vs v us Q I rx rv h;obtain⟨l,b,xs,zs,rfl,rfl,hH,hB,hz,q⟩:=h;cases rx;obtain⟨u,rfl,ru⟩:=rv.one;cases ru;obtain⟨z,its,n,r,hl,e⟩:=I.lstM hH;obtain⟨z2,its2,n2,r2,hl2,e2⟩:=I.lstM hB;have hsz:its.toArray.size+its2.toArray.size≤yxa:=by rw[yta,yta];omega
 have hlong:¬ (!its.toArray.isEmpty&&ysg (its.toArray.size+its2.toArray.size))=true:=by
  rw[znlb hsz,ykl];exact ylb
 refine yte F.slot_list_extend ⟨_,e,rfl⟩ F.entry_list_extend (F.args_list_extend_2 _ _)
  (AutoSeq1.list_extend_list_list_0 l its.toArray n b its2.toArray n2 hlong (by rw[yta];omega) (by omega)) ⟨e,e2,?_⟩
 refine⟨.non,_,I.lset (its':=its++its2) hH e (by simp) (r.append r2) ?_,rfl,q⟩;rw[yha];omega
def zfbc:V->List V->Hp->VK->Prop:=λx vs H Q=>Ex5 λl xs i k y=>x = .ref l∧vs=[.int i]∧H l=some (.lst xs) ∧ -(2 ^ 63)≤i∧i<2 ^ 63∧seqIndex? i xs.length=some k∧xs[k]?=some y∧Q y (upd H l (.lst (xs.eraseIdx k)))
theorem zktb:MtM X "list.pop" zfbc:=by
 intro pins s σ H x vs v us Q I rx rv h;obtain⟨l,xs,i,k,y,rfl,rfl,hH,h1,h2,hk,hy,q⟩:=h;cases rx;obtain⟨u,rfl,ru⟩:=rv.one;obtain⟨t,rfl⟩:=ru;obtain⟨z,its,n,r,hl,e⟩:=I.lstM hH;obtain⟨w,hw,rw'⟩:=r.get hy;refine yte F.slot_list_pop ⟨_,e,rfl⟩ F.entry_list_pop (F.args_list_pop_2 _ _)
  (MeetsSeq.list_pop_at l its.toArray n i t k w (fitsIndex_both h1 h2) (by rw[yta,← hl];exact hk) (by rw[← yad];exact hw) (by rw[yta];omega)) ⟨e,?_⟩
 refine⟨y,_,I.lset (its':=its.eraseIdx k) hH e ?_ (r.eraseIdx k) ?_,rw',q⟩
 ·show its.toArray.eraseIdxIfInBounds k=(its.eraseIdx k).toArray;rw[List.eraseIdxIfInBounds_toArray]
 ·have:=ztfb xs k;omega
def zibc:V->List V->Hp->VK->Prop:=λx vs H Q=>Ex2 λl xs=>x = .ref l∧vs=[]∧H l=some (.lst xs)∧Q .non (upd H l (.lst []))
theorem zrlb:MtM X "list.clear" zibc:=by
 intro pins s σ H x vs v us Q I rx rv h;obtain⟨l,xs,rfl,rfl,hH,q⟩:=h;cases rx;have hus:=rv.zero;subst hus;obtain⟨z,its,n,r,hl,e⟩:=I.lstM hH;refine yte F.slot_list_clear ⟨_,e,rfl⟩ F.entry_list_clear (F.args_list_clear_1 _) (AutoSeq1.list_clear_list_0 l its.toArray n (by rw[yta];omega)) ⟨e,?_⟩;exact⟨.non,_,I.lset (its':=[]) (ys:=[]) hH e rfl .nil (yrb _),rfl,q⟩
def rCat:R2:=λx y H Q=>Ex4 λl b xs zs=>x = .ref l∧y = .ref b∧H l=some (.lst xs)∧H b=some (.lst zs)∧xs.length+zs.length≤yxa∧∀p,H p=none->Q (.ref p) (upd H p (.lst (xs++zs)))
theorem zbn:OpR X (yrh .Add) rCat:=by
 intro pins s σ H x y v u Q I rx ry h;obtain⟨l,b,xs,zs,rfl,rfl,hH,hB,hz,q⟩:=h;cases rx;cases ry;obtain⟨z,its,n,r,hl,e⟩:=I.lstM hH;obtain⟨z2,its2,n2,r2,hl2,e2⟩:=I.lstM hB;refine yoq e e2 ?_ (by rw[yta,yta];omega);have ea:its.toArray++its2.toArray=(its++its2).toArray:=by simp
 rw[ea];exact⟨.ref _,_,I.lnew (t':=s.toks) (r.append r2) (by rw[yha];omega),rfl,q _ I.fresh⟩
def rRep:R2:=λx y H Q=>Ex3 λl k xs=>x = .ref l∧y = .int k∧H l=some (.lst xs) ∧ -(2 ^ 63)≤k∧k<2 ^ 63∧xs.length*k.toNat≤yxa ∧
 ∀p,H p=none->Q (.ref p) (upd H p (.lst (ynb k.toNat xs).flatten))
theorem len_rep {α:Type}(xs:List α)(k:Nat):(ynb k xs).flatten.length=k*xs.length:=by
 induction k with
 | zero=>simp
 | succ k ih=>rw[yle,ytc,yha,ih,Nat.succ_mul,Nat.add_comm]
theorem zobc:OpR X (yrh .Mult) rRep:=by
 intro pins s σ H x y v u Q I rx ry h;obtain⟨l,k,xs,rfl,rfl,hH,h1,h2,hz,q⟩:=h;cases rx;obtain⟨t,rfl⟩:=ry;obtain⟨z,its,n,r,hl,e⟩:=I.lstM hH;have hlen:its.toArray.size*k.toNat≤yxa:=by rw[yta,← hl];exact hz
 have hcap:¬ its.toArray.size*k.toNat>(2 ^ 63-1) / 8:=by
  have:(yxa:Nat)≤(2 ^ 63-1) / 8:=by decide
  omega
 have hfit:¬ (!Builtin.List.listFitsIndex k)=true:=by
  rw[fitsIndex_both h1 h2];exact ylb
 have hlong:¬ ysg (its.toArray.size*k.toNat)=true:=by
  rw[znlb hlen];exact ylb
 have hnew:ywl (λx1 x2=>x1++x2) #[] (ynb (if its.toArray.isEmpty=true then 0 else k.toNat) its.toArray)=(ynb k.toNat its).flatten.toArray:=by
  have f0:∀m:Nat,ywl (λx1 x2=>x1++x2) #[] (ynb m its.toArray)=(ynb m its).flatten.toArray:=λm=>by
   have:=foldl_rep its m [];rw[ymh] at this;exact this
  rw[f0];cases its with
  | nil=>simp
  | cons a r'=>rw[if_neg (by simp)]
 refine ykg (T:="list") (U:="int") (by decide) ⟨_,e,rfl⟩ (λs'=>yki s' k t) noFill_list_mul yik yof repeat_list ywj.lookup
  (yte yof (yki s k t) yxj (ykj _ _) (int___rmul___int_list k t l its.toArray n)
   ⟨e,rfl,⟨_,e,rfl⟩,yte F.slot_list_mul ⟨_,e,rfl⟩ F.entry_list_mul (F.args_list_mul_2 _ _) (AutoListH.list___mul___list_int_3 l its.toArray n k t hfit hcap hlong) ⟨e,?_⟩⟩)
 rw[hnew];exact⟨.ref _,_,I.lnew (t':=s.toks) (r.rep k.toNat) (by rw[len_rep,Nat.mul_comm];exact hz),rfl,q _ I.fresh⟩
end
section
variable {prog:ybc}{w:World}{A:Around}{E:Value->Shared->Prop}{s:Shared}
end
section
variable {X:Cx}
end
end L2
namespace Att
open PySem PySem.W PySem.Calls PyProof.Rows
theorem zmy {P:Params}{h:Heap}:∀(ns:List Int) (vs:List Value),WellAll P h vs (ns.map WData.int)->yar vs ns:=by
 intro ns
 induction ns with
 | nil =>
  intro vs w;rw[ype] at w;cases w;exact .nil
 | cons n ns ih =>
  intro vs w;rw[ygb] at w;cases w with
  | cons a b =>
   cases a;exact .cons _ _ (ih _ b)
theorem zapb {l:OpenLaw}{n:Nat}(hn:l.most=some n){P:Params}{h:Heap}{args:List WData}{vals:List Value}
  (hpre:l.row.toRowW.claim.pre args=true) (hwl:WellAll P h vals args) :
  Ex3 λa vs ns=>vals=[Value.ref a]∧args=[WData.list (ns.map WData.int)]∧h.get? a=some { cls:=.type "list",data:=.seq vs.toArray }∧yar vs ns∧ns.length≤n:=by
 have hsh:WShape.hasAll [] args [.list .int]=true:=(pre_splitW hpre).1;have hc:l.pre.holds [] { args:=args }=true:=(pre_splitW hpre).2;obtain⟨d,r,rfl,h1,h2⟩:=hasAllW_cons hsh;obtain rfl:=hasAllW_nil h2;obtain⟨xs,rfl,h3⟩:=hasW_list h1;obtain⟨ns,rfl⟩:=items_int h3;have hlen:ns.length≤n:=by
  unfold OpenLaw.pre at hc;have h4:(WTm.not (.lt (.lit (.int (n:Int))) (.len (.arg 0)))).holds [] { args:=[.list (ns.map .int)] }=true:=by
   have h4:=(holds_andW hc).1;rw[hn] at h4;exact h4
  have h5:=condW_of h4 (w_not (w_lt w_lit (w_len_list (w_arg rfl))));rw[yaa] at h5;refine Nat.le_of_not_lt λq=>?_;have q':(n:Int)<((ns.length:Nat):Int):=by omega
  first
   | (rw[decide_eq_true q'] at h5;exact absurd h5 (by decide))
   | (simp at h5;omega)
 cases hwl with
 | cons w1 w2 =>
  cases w2;cases w1 with
  | list ho hall=>exact⟨_,_,ns,rfl,rfl,ho,zmy ns _ hall,hlen⟩
theorem zopb (l:OpenLaw)(args:List WData):l.row.toRowW.claim.post args (.bool true) args=true :=
 postW_of (r:=l.row.toRowW) (X:=(true==true))
  (show WShape.has [] (.bool true) .bool=true by first|rfl|decide|simp[WShape.has,WShape.arms,WShape.armsAll])
  (show (WTm.eq .res (.lit (.bool true))).value [] { args:=args,res:=some (.bool true),after:=args }=some (.bool (true==true)) from w_eq_bool (w_res rfl) w_lit) rfl
theorem zpjb {l:OpenLaw}{n:Nat}{q:ybc}{loose:List Str}{XP:(Str->Option Value)->Heap->Prop}{YP:World->Heap->Prop}{d:DefRec}
  (hn:l.most=some n) (hdf:d.params.defaults=[])
  (call:∀(w:World) (s₀ s₁:Shared) (mg mb:Str->Option Value) (fa:Addr) (o:Obj) (pm cd doc:Value) (a:Addr) (vs:List Value) (ns:List Int),
   Ground q loose [] XP w s₀ mg mb s₁.heap->YP w s₁.heap →
   s₁.heap.get? fa=some o->o.data = .func (docDef d.name d.params d.body d.scope pm cd doc)->s₁.heap.CodeRec cd d.name->mg d.name=some (.ref fa) →
   s₁.heap.get? a=some { cls:=.type "list",data:=.seq vs.toArray }->yar vs ns->ns.length≤n->s₁.gens=#[] →
   yvh (model l.prog w) ysp (.call (.ref fa) ⟨[.ref a],[]⟩) (λr s'=>r = .ok (.ret (.bool true))∧OldK s₁.heap s'.heap∧s'.os=s₁.os∧yhm s'.gens) s₁) :
  WalkO q loose XP YP l.row.toRowW d [] (λf vs=>yhr f vs):=by
 intro w s₀ s₁ mg mb G Y fa o pm cd doc dV kV ho hd hcd hD hmg hg args vals as hpre hlay hrd hwl hlo;obtain rfl:dV = .none:=Dflts.none hD hdf;obtain rfl:kV = .none:=Dflts.noKw hD;obtain⟨a,vs,ns,rfl,rfl,hobj,hints,hlen⟩:=zapb hn hpre hwl;refine enter_call (yqj (call w s₀ s₁ mg mb fa o pm cd doc a vs ns G Y ho (fd_plain hd) hcd hmg hobj hints hlen hg) λr s' hq=>?_);obtain⟨rfl,h2,h3,h4⟩:=hq;exact⟨.inl ⟨.bool true,.bool true,[],rfl,λ_=>rfl,.bool true,zopb l _,λ_=>⟨List.Pairwise.nil,λ_ hm=>(nomatch hm)⟩⟩,h2,h3,h4⟩
section
variable {prog:ybc}{w:World}{A:Around}{E:Value->Shared->Prop}{s:Shared}{K:Frag}
end
end Att
namespace L2
open PySem PySem.Spec PyProof.Rows
theorem zydb:∀{vs:List Value} {ns:List Int},yar vs ns->Vals (ns.map V.int) vs
 | _,_,.nil=>.nil
 | _,_,.cons n t h=>.cons ⟨t,rfl⟩ (zydb h)
def Only (H:Hp):Prop:=∀b,H b=none∨Ex2 λo xs=>H b=some (.frz o (.lst xs))
theorem zqtb {P:ybc}{w:World}{K:yba}{mg mb:Str->Option Value}{CX:CXT}{k:Nat}{fa a:Addr}{fd:yne}{x:Str}{sp:Sp}{s₁:Shared}{vs:List Value}{ns:List Int}
  (KX:K.In s₁.heap) (hns:s₁.heap.Ns yfb mg) (hb:s₁.heap.Ns builtinsNs mb) (hbb:∀x:Str,x ≠ "__name__"->mb x=yyf x) (hlim:s₁.heap.NoLimit) (hg:s₁.gens=#[])
  (ha:s₁.heap.get? a=some { cls:=.type "list",data:=.seq vs.toArray }) (hi:yar vs ns) (hl:ns.length≤yxa) (hr:Room k ysp)
  (F:∀base:Heap,K.In base->base.Ns yfb mg->FnOk P w K mg base CX k fa fd [x] sp) (hbind:∀(s:Shared) (u:Value),ypp s fd ⟨[u],[]⟩ [(x,u)])
  (hsp:∀H:Hp,Only H->SqL K H a (ns.map V.int)->sp [.ref a] H (λv _=>v = .bl true) λ_ _ _=>False)
  (hCX:∀H e s',CX [] H s₁ (λ_ _ _=>False) e s'->False) :
  yvh (model P w) ysp (.call (.ref fa) ⟨[.ref a],[]⟩) (λr s'=>r = .ok (.ret (.bool true))∧OldK s₁.heap s'.heap∧s'.os=s₁.os∧yhm s'.gens) s₁:=by
 have rv:=zydb hi;have lenV:=hi.length;have core:∀H:Hp,Only H->SqL K H a (ns.map V.int)->HOk P w H s₁.heap->(∀b,H b≠none->b=a)->(H a≠none->K.lookup a=none) →
   yvh (model P w) ysp (.call (.ref fa) ⟨[.ref a],[]⟩) (λr s'=>r = .ok (.ret (.bool true))∧OldK s₁.heap s'.heap∧s'.os=s₁.os∧yhm s'.gens) s₁:=by
  intro H hO hS hok hA hK;have base_of:∀{b:Addr} {o:Obj},s₁.heap.get? b=some o->H b=none->(hidT s₁.heap H).get? b=some o:=λe n=>zvtb e n;have noA:∀{b:Addr} {o:Obj} {es:Array DictEntry} {ep:Nat},s₁.heap.get? b=some o->o.data = .dict es ep->H b=none:=λ{b o es ep} e d=>by
   cases q:H b with
   | none=>rfl
   | some u =>
    have e':b=a:=hA b (by rw[q];simp);subst e';rw[ha] at e;cases e;have d':Data.seq vs.toArray _=Data.dict es ep:=d;cases d'
  have nsK:∀{b:Addr} {m:Str->Option Value},s₁.heap.Ns b m->(hidT s₁.heap H).Ns b m:=λ{b m} ⟨o,es,ep,e,d,r⟩=>⟨o,es,ep,base_of e (noA e d),d,r⟩;have hKb:K.In (hidT s₁.heap H):=λb o e=>base_of (KX b o e) (by
   cases q:H b with
   | none=>rfl
   | some u =>
    have e':b=a:=hA b (by rw[q];simp);subst e';rw[hK (by rw[q];simp)] at e;cases e)
  have hM:Mod K mg (hidT s₁.heap H):=⟨hKb,nsK hns,⟨mb,nsK hb,hbb⟩,let ⟨mc,h1,h2⟩:=hlim;⟨mc,nsK h1,h2⟩⟩;have e0:Env0 P w K mg (hidT s₁.heap H) ysp [] s₁ H:=⟨rfl,hM,λb o e=>zeyb e,yzk (zjqb _ _),trivial,λb hb=>absurd (show b∈([]:List Addr) from hb) (by simp),hok,.of_eq hg⟩;refine yqj ((F _ hKb (nsK hns)).run ysp [] s₁ H ⟨[.ref a],[]⟩ [.ref a] [.ref a] _ _ hr e0 (hbind s₁ (.ref a)) (.cons rfl .nil) (hsp H hO hS)) λr s' h=>?_;cases r with
  | error e=>exact (hCX H e s' h).elim
  | ok fl =>
   cases fl with
   | next=>exact yse h
   | brk=>exact yse h
   | cont=>exact yse h
   | ret u =>
    obtain⟨v,H',os,bare,un,hok',r',q⟩:=h;have q':v = .bl true:=q;subst q';obtain rfl:u=Value.bool true:=r';refine⟨rfl,OldK.of_keep λb o e=>?_,os,bare⟩;cases q:H b with
    | none=>exact un.keep b o e q (by intro z;exact absurd (show b∈([]:List Addr) from z) (by simp)) (by simp)
    | some u =>
     rcases hO b with z|⟨ob,xs,z⟩
     ·rw[q] at z;cases z
     ·have z2:=un.frzs b ob _ z;obtain⟨e1,_⟩:=hok b _ z;obtain⟨e2,_⟩:=hok' b _ z2;rw[e] at e1;cases e1;exact e2
 cases hk:K.lookup a with
 | some o =>
  have e:=KX a o hk;rw[ha] at e;cases e;refine core (λ_=>none) (λ_=>.inl rfl) (.inr ⟨_,vs.toArray,_,hk,rfl,rfl,rfl,by rw[yta,lenV];exact hl,by simpa using rv⟩) (λb u z=>by have z':(none:Option HO)=some u:=z;cases z') (λb z=>absurd rfl z) λz=>absurd rfl z
 | none =>
  refine core (λb=>if b=a then some (.frz { cls:=.type "list",data:=.seq vs.toArray } (.lst (ns.map V.int))) else none) (λb=>?_) (.inl (.inr ⟨{ cls:=.type "list",data:=.seq vs.toArray },if_pos rfl⟩)) (λb u z=>?_) (λb z=>?_) λ_=>hk
  ·by_cases hb:b=a
   ·exact .inr ⟨_,_,if_pos hb⟩
   ·exact .inl (if_neg hb)
  ·by_cases hb:b=a
   ·have z':=(if_pos hb).symm.trans z;cases z';subst hb;exact⟨ha,by rw[yaa];exact hl,vs,_,rv,ha⟩
   ·have z':=(if_neg hb).symm.trans z;cases z'
  ·by_cases hb:b=a
   ·exact hb
   ·exact absurd (if_neg hb) z
end L2
namespace L2
open PySem PySem.Spec PyProof.Rows
theorem zcwb {l:yln}{n k:Nat}{q:ybc}{loose:List Str}{XP:(Str->Option Value)->Heap->Prop}{YP:World->Heap->Prop}{d:DefRec}{K:Params->yba}{CX:World->CXT}{sp:World->Sp}{x:Str}
  (hn:l.most=some n) (hn2:n≤yxa) (hdf:d.params.defaults=[]) (hr:Room k ysp)
  (hY:∀(w:World) (h:Heap),YP w h->(K w.params).In h)
  (F:∀(w:World) (mg:Str->Option Value) (fa:Addr) (h:Heap),(K w.params).In h->h.Ns yfb mg->mg d.name=some (.ref fa) →
   ∃fd:yne,(∀(s:Shared) (u:Value),ypp s fd ⟨[u],[]⟩ [(x,u)]) ∧
    ∀base:Heap,(K w.params).In base->base.Ns yfb mg->FnOk l.prog w (K w.params) mg base (CX w) k fa fd [x] (sp w))
  (hsp:∀(w:World) (H:Hp) (a:Addr) (ns:List Int),ns.length≤n->Only H->SqL (K w.params) H a (ns.map V.int)->sp w [.ref a] H (λv _=>v = .bl true) λ_ _ _=>False)
  (hCX:∀(w:World) (H:Hp) (s:Shared) (e:Value) (s':Shared),CX w [] H s (λ_ _ _=>False) e s'->False) :
  ykr q loose XP YP l.row.toRowW d [] (λf vs=>yhr f vs):=by
 refine Att.zpjb hn hdf λw s₀ s₁ mg mb fa o pm cd doc a vs ns G Y ho hd hcd hmg hobj hints hlen hg=>?_;have KX:=hY w _ Y;obtain⟨fd,hb,hF⟩:=F w mg fa _ KX G.T.g hmg;exact zqtb KX G.T.g G.T.b G.T.builtins G.T.nolimit hg hobj hints (yab hlen hn2) hr hF hb (λH hO hS=>hsp w H a ns hlen hO hS) λH e s'=>hCX w H s₁ e s'
end L2
namespace L2
open PySem PySem.Spec PyProof.Rows
def inClass (s:Stmt)(j:Nat):Stmt:=match s with
 | .ClassDef _ _ _ body _ _ _ _ _ _ _=>body.getD j (.Pass ⟨0,0,0,0⟩)
 | _=>.Pass ⟨0,0,0,0⟩
def zxp (s:Stmt):Arguments:=match s with
 | .FunctionDef _ a _ _ _ _ _ _ _ _=>a
 | _=>{ posonlyargs:=[],args:=[],vararg:=none,kwonlyargs:=[],kw_defaults:=[],kwarg:=none,defaults:=[] }
def zqg (s:Stmt):List Stmt:=match s with
 | .FunctionDef _ _ b _ _ _ _ _ _ _=>b
 | _=>[]
def zka (s:Stmt):Scope:=match s with
 | .FunctionDef _ _ _ _ _ _ sc _ _ _=>sc
 | _=>{ kind:=.function,names:=[],isGenerator:=false,isCoroutine:=false }
abbrev CX0:CXT:=λ_ _ _ _ _ _=>False
abbrev E0:XK:=λ_ _ _=>False
theorem zdb {X:Cx}:Passes CX0 X E0:=λ_ _ _ _ _ _ _ h=>h.elim
structure Fun (K:yba)(x qual:Str)(st:Stmt)(f:Addr)(fd:yne):Prop where
 ex:Ex9 λ(oc:Value) (od:Option Addr) (kV doc pm:Value) (an:Option Addr) (cdv ct:Value) (osl:Array (Option Value)) =>
  fd=yxg x qual (zxp st) (zqg st) (zka st) .none kV doc pm an cdv ct∧K.lookup f=some ⟨oc,od,.func fd,osl⟩∧yxh K cdv qual=true
 kp:yff K (.ref f)=true
section
variable {P:ybc}{w:World}{K:yba}{mg:Str->Option Value}{base:Heap}
theorem Fun.ok {x qual:Str}{st:Stmt}{f:Addr}{fd:yne}{N ps:List Str}{k:Nat}{sp:Sp}(F:Fun K x qual st f fd)(S:zva N ps (zka st))(len:∀vs H Q E,sp vs H Q E->vs.length=ps.length)
  (hbody:∀(cdv:Value) (A:Around) (outer:List Env) (s:Shared) (H:Hp) (vs:List V) (Q:VK) (E:XK),Room k (A.deeper (envOfC qual (zka st) s.heap.objs.size f cdv))->sp vs H Q E →
   ∃t,PSs (cxOf CX0 P w K mg base N qual (zka st) f cdv A outer s H E).nox (zqg st) t∧t { nx:=λ_ H'=>Q .non H',rt:=Q } (start N vs) H):FnOk P w K mg base CX0 (k+1) f fd ps sp:=by
 obtain⟨oc,od,kV,doc,pm,an,cdv,ct,osl,rfl,lk,hcd⟩:=F.ex;refine zzcc lk hcd S len λA outer s H vs Q E hr hsp=>?_;obtain⟨t,h,q⟩:=hbody cdv A outer s H vs Q E hr hsp;exact⟨t,h.nox,q⟩
theorem Fun.binds {x qual:Str}{st:Stmt}{f:Addr}{fd:yne}{ps:List Str}(F:Fun K x qual st f fd)
  (h:∀(kV doc pm:Value) (an:Option Addr) (cdv ct:Value) (us:List Value),us.length=ps.length->bindArgs (yxg x qual (zxp st) (zqg st) (zka st) .none kV doc pm an cdv ct) ⟨us,[]⟩=pure (ps.zip us)):Binds K fd ps []:=by
 obtain⟨oc,od,kV,doc,pm,an,cdv,ct,osl,rfl,lk,hcd⟩:=F.ex;exact .all (h kV doc pm an cdv ct)
theorem zoqb {x qual:Str}{st:Stmt}{f:Addr}{oc:Value}{od an:Option Addr}{osl:Array (Option Value)}{kV doc pm cdv ct:Value}(l:K.lookup f=some ⟨oc,od,.func (yxg x qual (zxp st) (zqg st) (zka st) .none kV doc pm an cdv ct),osl⟩)
  (c:yxh K cdv qual=true) (k:yff K (.ref f)=true):Fun K x qual st f (yxg x qual (zxp st) (zqg st) (zka st) .none kV doc pm an cdv ct):=⟨⟨oc,od,kV,doc,pm,an,cdv,ct,osl,rfl,l,c⟩,k⟩
end
theorem zyc {n:Nat}(h:n≤1000):n<yxa:=yzo h (by decide)
section
variable {X:Cx}
theorem pv (i:Nat){x:Str}{pos:Pos}(hN:X.N[i]?=some x:=by rfl)(hv:Vis X.env.scope x:=by first|exact Or.inl rfl|exact Or.inr (Or.inl rfl)|exact Or.inr (Or.inr rfl))(hd:(x==("__debug__":Str))=false:=by decide)
  (hcd:(x==("__classdict__":Str))=false:=by decide):PE X (.Name x pos) (tVar i):=zmbc hN hv hd hcd
end
theorem iteF {A B:Prop}(h:B):if false=true then A else B:=by
 rw[if_neg ylb];exact h
theorem iteT {A B:Prop}(h:A):if true=true then A else B:=by
 rw[if_pos rfl];exact h
theorem ite2 {c A B:Prop}[Decidable c](h1:c->A)(h2:¬ c->B):if c then A else B:=by
 by_cases h:c
 ·rw[if_pos h];exact h1 h
 ·rw[if_neg h];exact h2 h
def Same (H H':Hp):Prop:=∀b o,H b=some o->H' b=some o
theorem Same.refl (H:Hp):Same H H:=λ_ _ h=>h
theorem Same.trans {H H1 H2:Hp}(a:Same H H1)(b:Same H1 H2):Same H H2:=λc o h=>b c o (a c o h)
end L2
namespace L2
open PySem PySem.Spec PyProof.Rows
def clGo (cells:List (Str×Addr)):List (Str×yhd)->List (Str×Addr)->List (Str×Addr)
 | [],cs=>cs
 | (n,k)::r,cs=>clGo cells r (if k == .free then (match cells.lookup n with|some c=>(n,c)::cs|none=>cs) else cs)
def clOf (sc:Scope)(cells:List (Str×Addr)):List (Str×Addr):=clGo cells sc.names []
theorem zjt {sc:Scope}{env:Env}(h:∀y∈sc.names,y.2 = .free->∃c,env.cells.lookup y.1=some c):closureFor sc env=pure (clOf sc env.cells):=by
 have go:∀(l:List (Str×yhd)) (cs:List (Str×Addr)),(∀y∈l,y.2 = .free->∃c,env.cells.lookup y.1=some c) →
   (forIn l cs (λ(x:Str×yhd) (r:List (Str×Addr))=>(match x with|(name,kind)=>if kind==yhd.free then (do let c ← cellOf env name;pure (ForInStep.yield ((name,c)::r))) else pure (ForInStep.yield r):Sem (ForInStep (List (Str×Addr))))))=pure (clGo env.cells l cs):=by
  intro l
  induction l with
  | nil=>intro cs _;rfl
  | cons y r ih =>
   intro cs h;obtain⟨n,k⟩:=y;have hr:∀y∈r,y.2 = .free->∃c,env.cells.lookup y.1=some c:=λy hy=>h y (yla _ hy);rw[ymn]
   by_cases hk:k = .free
   ·subst hk;obtain⟨c,e⟩:=h (n,.free) ypa rfl;have e':env.cells.lookup n=some c:=e;simp only[beq_self_eq_true,if_true,cellOf,e',pure_bind,clGo];exact ih _ hr
   ·have hb:(k==yhd.free)=false:=by simpa using hk
    simp only[hb,yqd,if_false,pure_bind,clGo];exact ih _ hr
 unfold closureFor clOf;refine Eq.trans (bind_pure _) ?_;exact go sc.names [] h
theorem zto {cells:List (Str×Addr)}:∀(l:List (Str×yhd)) (cs:List (Str×Addr)),(∀x c,cs.lookup x=some c->cells.lookup x=some c)->∀x c,(clGo cells l cs).lookup x=some c->cells.lookup x=some c
 | [],_,h,x,c,e=>h x c e
 | (n,k)::r,cs,h,x,c,e=>by
  refine zto r _ (λy d z=>?_) x c e
  by_cases hk:(k==yhd.free)=true
  ·rw[if_pos hk] at z;cases q:cells.lookup n with
   | none=>rw[q] at z;exact h y d z
   | some a =>
    rw[q] at z;have z':yje y ((n,a)::cs)=some d:=z;rw[yze] at z';cases hy:y==n with
    | true =>
     rw[hy] at z';have ey:y=n:=(by simpa using hy);rw[ey,q];exact z'
    | false =>
     rw[hy] at z';exact h y d z'
  ·rw[if_neg hk] at z;exact h y d z
theorem zbmb {cells:List (Str×Addr)}:∀(l:List (Str×yhd)) (cs:List (Str×Addr)) (x:Str),((x,yhd.free)∈l∧(∃c,cells.lookup x=some c))∨(∃c,cs.lookup x=some c)->∃c,(clGo cells l cs).lookup x=some c
 | [],cs,x,h=>by
  rcases h with⟨h,_⟩|h
  ·cases h
  ·exact h
 | (n,k)::r,cs,x,h=>by
  refine zbmb r _ x ?_;have put:(∃c,cs.lookup x=some c)->∃c,(if (k==yhd.free)=true then (match cells.lookup n with|some c=>(n,c)::cs|none=>cs) else cs).lookup x=some c:=λ⟨c,e⟩=>by
   by_cases hk:(k==yhd.free)=true
   ·rw[if_pos hk];cases q:cells.lookup n with
    | none=>exact⟨c,e⟩
    | some a =>
     show ∃c,yje x ((n,a)::cs)=some c
     rw[yze];cases hy:x==n with
     | true=>exact⟨a,rfl⟩
     | false=>exact⟨c,e⟩
   ·rw[if_neg hk];exact⟨c,e⟩
  rcases h with⟨h,c,e⟩|h
  ·rcases yia.mp h with z|z
   ·injection z with z1 z2
    subst z1;subst z2;refine .inr ⟨c,?_⟩;show yje x (match cells.lookup x with|some c=>(x,c)::cs|none=>cs)=some c
    rw[e];show yje x ((x,c)::cs)=some c
    rw[yze,beq_self_eq_true]
   ·exact .inl ⟨z,c,e⟩
  ·exact .inr (put h)
theorem ztu {env:Env}:∀{l:List (Str×yhd)} {x:Str},(∀y∈l,y.2≠yhd.cell) →
  ((l.map λ(n,k)=>if (k==yhd.free&&env.scope.kind == .function&&env.kindOf n==some .cell) then (n,yhd.cell) else (n,k)).lookup x=some .cell ∨
   (l.map λ(n,k)=>if (k==yhd.free&&env.scope.kind == .function&&env.kindOf n==some .cell) then (n,yhd.cell) else (n,k)).lookup x=some .free)->(x,yhd.free)∈l
 | [],x,_,h=>by rcases h with h|h<;>simp at h
 | (n,k)::r,x,hc,h=>by
  rw[ygb] at h;have nk:k≠yhd.cell:=hc (n,k) ypa
  by_cases hx:x=n
  ·subst hx;have kf:k = .free:=by
    by_cases q:(k==yhd.free&&env.scope.kind == .function&&env.kindOf x==some .cell)=true
    ·rw[yjc,yjc] at q
     simpa using q.1.1
    ·have e:(match (x,k) with|(n,k)=>if (k==yhd.free&&env.scope.kind == .function&&env.kindOf n==some .cell)=true then (n,yhd.cell) else (n,k))=(x,k):=if_neg q;rw[e,yze,beq_self_eq_true] at h
     rcases h with h|h
     ·exact absurd (yub h) nk
     ·exact yub h
   subst kf;exact ypa
  ·refine yla _ (ztu (env:=env) (λy hy=>hc y (yla _ hy)) ?_);have hb:(x==n)=false:=by simpa using hx
   by_cases q:(k==yhd.free&&env.scope.kind == .function&&env.kindOf n==some .cell)=true
   ·have e:(match (n,k) with|(n,k)=>if (k==yhd.free&&env.scope.kind == .function&&env.kindOf n==some .cell)=true then (n,yhd.cell) else (n,k))=(n,yhd.cell):=if_pos q;rw[e,yze,hb] at h;exact h
   ·have e:(match (n,k) with|(n,k)=>if (k==yhd.free&&env.scope.kind == .function&&env.kindOf n==some .cell)=true then (n,yhd.cell) else (n,k))=(n,k):=if_neg q;rw[e,yze,hb] at h;exact h
def blk (X:Cx)(N':List Str)(sc:Scope)(fp:List Addr)(s:Shared)(H:Hp)(C:Addr):Cx where
 prog:=X.prog
 w:=X.w
 K:=X.K
 mg:=X.mg
 base:=X.base
 A:=X.A
 N:=N'
 s₀:=s
 H₀:=H
 env:=yyn sc (clOf sc X.env.cells) C X.env
 outer:=X.stack
 stack:=X.stack
 ex:=fp
 fn:=λ_=>false
 calm:=X.calm
 pn:=[]
 xe:=λ_ _=>False
inductive Caps (X:Cx)(sc:Scope):List Str->List Nat->Prop where
 | nil:Caps X sc [] []
 | cons {x:Str} {j:Nat} {cap:List Str} {js:List Nat} (hj:X.N[j]?=some x) (hk:X.env.kindOf x=some .cell∨X.env.kindOf x=some .free)
   (hr:(ymo sc X.env).names.lookup x=some .cell∨(ymo sc X.env).names.lookup x=some .free):Caps X sc cap js->Caps X sc (x::cap) (j::js)
structure zeb (X:Cx)(sc:Scope):Prop where
 kind:sc.kind = .function
 cell:∀y∈sc.names,y.2 ≠ .cell
 names:∀y∈sc.names,y.2 = .local->sc.names.lookup y.1=some .local
 free:∀y∈sc.names,y.2 = .free->X.env.kindOf y.1=some .cell∨X.env.kindOf y.1=some .free
def zidc (sc:Scope)(nm:List (Str×yhd)):Bool:=sc.names.all λy=>y.2 != .cell&&(y.2 != .local||sc.names.lookup y.1==some .local)&&(y.2 != .free||(nm.lookup y.1==some .cell||nm.lookup y.1==some .free))
theorem zeb.chk {X:Cx}{sc:Scope}(hk:sc.kind = .function)(h:zidc sc X.env.scope.names=true):zeb X sc:=by
 have a:=ymd.mp h;refine⟨hk,λy hy e=>?_,λy hy e=>?_,λy hy e=>?_⟩
 ·have q:=a y hy;rw[e] at q;simp at q
 ·have q:=a y hy;rw[e] at q
  simpa using q
 ·have q:=a y hy;rw[e] at q;have q':X.env.scope.names.lookup y.1=some .cell∨X.env.scope.names.lookup y.1=some .free:=by simpa using q
  exact q'
def zne (n:Nat)(js:List Nat)(σ:St):St:=ynb n none++js.map λj=>(σ[j]?).join
theorem Caps.len {X:Cx}{sc:Scope}:∀{cap:List Str} {js:List Nat},Caps X sc cap js->cap.length=js.length
 | _,_,.nil=>rfl
 | _,_,.cons _ _ _ c=>by rw[yga,yga,c.len]
theorem Caps.get {X:Cx}{sc:Scope}:∀{cap:List Str} {js:List Nat},Caps X sc cap js->∀{i:Nat} {x:Str},cap[i]?=some x →
  ∃j,js[i]?=some j∧X.N[j]?=some x∧(X.env.kindOf x=some .cell∨X.env.kindOf x=some .free)∧((ymo sc X.env).names.lookup x=some .cell∨(ymo sc X.env).names.lookup x=some .free)
 | _,_,.nil,i,x,e=>by simp at e
 | _,_,.cons hj hk hr c,0,x,e=>by
  rw[ybh] at e;cases e;exact⟨_,rfl,hj,hk,hr⟩
 | _,_,.cons hj hk hr c,i+1,x,e=>by
  rw[ysc] at e;obtain⟨j,h1,h2⟩:=c.get e;exact⟨j,by rw[ysc];exact h1,h2⟩
theorem zfrb {X:Cx}{sc:Scope}{own cap:List Str}{js:List Nat}{σ:St}(C:Caps X sc cap js):(zne own.length js σ).length=(own++cap).length:=by
 unfold zne;rw[yha,yyb,yaa,yha,C.len]
theorem zlgb {n:Nat}{js:List Nat}{σ:St}{i:Nat}{v:V}(e:(zne n js σ)[i]?=some (some v)):n≤i∧∃j,js[i-n]?=some j∧σ[j]?=some (some v):=by
 unfold zne at e
 by_cases h:i<n
 ·rw[yrc (by simpa using h),yti,if_pos h] at e;cases e
 ·refine⟨by omega,?_⟩;rw[yzb (by rw[yyb];omega),yyb,yhb] at e;cases q:js[i-n]? with
  | none=>rw[q] at e;cases e
  | some j =>
   rw[q] at e;have e':(σ[j]?).join=some v:=yub e;refine⟨j,rfl,?_⟩;cases z:σ[j]? with
   | none=>rw[z] at e';cases e'
   | some o =>
    rw[z] at e';have e2:o=some v:=e';rw[e2]
theorem zuo {n:Nat}{js:List Nat}{σ σ2:St}(hd:σ2.drop n=(zne n js σ).drop n){i:Nat}{v:V}(e:(zne n js σ)[i]?=some (some v)):σ2[i]?=some (some v):=by
 have h:=(zlgb e).1;have q:(σ2.drop n)[i-n]?=((zne n js σ).drop n)[i-n]?:=by rw[hd]
 rw[ycg,ycg,show n+(i-n)=i by omega] at q;rw[q];exact e
def PTs (X:Cx)(ifs:List Expr)(t:TT):Prop :=
 ∀(pins:List (Addr×Obj)) (s:Shared) (σ:St) (H:Hp) (Q:Bool->Hp->Prop),Inv X pins σ H s->t σ H Q →
  wpAny (model X.prog X.w) X.A (forIn ifs true λc r=>if r=true then do let ok ← isTrue c X.env (eval c X.env);pure (ForInStep.yield ok) else pure (ForInStep.yield r)) (TP X pins σ Q) X.xe s
def zkwb:TT:=λ_ H Q=>Q true H
theorem zuc {X:Cx}:PTs X [] zkwb:=λ_ _ _ H _ I h=>wpAny_tests_nil ⟨H,I,h⟩
theorem zct {X:Cx}{c:Expr}{t:TT}(hc:PT X c t):PTs X [c] t:=λpins s σ H Q I h=>wpAny_tests_one (hc pins s σ H Q I h)
theorem znv {prog:ybc}{w:World}{A:Around}{R:Result->Shared->Prop}{s:Shared}{elt tg iter:Expr}{ifs:List Expr}{scope:Scope}{pos:Pos}{it acc:Value}{env:Env}(I:Nat->Shared->Prop)
  (turn:∀n s,I n s->wpAny (model prog w) A (pyNext it) (λr s₁=>match r with
   | none=>R (.ok .next) s₁
   | some v=>wpAny (model prog w) A (yek tg it v) (λ_ s₀=>wpAny (model prog w) A (assign tg env v) (λ_ s₂ =>
     wpAny (model prog w) A (forIn ifs true λc r=>if r=true then do let ok ← isTrue c env (eval c env);pure (ForInStep.yield ok) else pure (ForInStep.yield r)) (λok s₃ =>
      if ok=true then wpAny (model prog w) A (eval elt env) (λx s₄ =>
       wpAny (model prog w) A (call (.builtin "list.append") [acc,x]) (λ_ s₅=>∃m,m<n∧I m s₅) (yno (model prog w) A env λe s'=>R (.error e) s') s₄) (yno (model prog w) A env λe s'=>R (.error e) s') s₃
      else ∃m,m<n∧I m s₃) (yno (model prog w) A env λe s'=>R (.error e) s') s₂) (yno (model prog w) A env λe s'=>R (.error e) s') s₀) (yno (model prog w) A env λe s'=>R (.error e) s') s₁)
    (yno (model prog w) A env λe s'=>R (.error e) s') s)
  (n:Nat) (h:I n s) :
  yvh (model prog w) A (.compLoop (.ListComp elt [⟨tg,iter,ifs,0⟩] scope pos) 0 it acc env) R s:=by
 refine codeAny_loop rfl I (λn s hI=>?_) n h;show wpAny _ A ((compTurn (.ListComp elt [⟨tg,iter,ifs,0⟩] scope pos) 0 it acc env).onRaise (λx=>do yjk x env;theTreesLotGoes x)) _ _ s
 refine wpAny_noted ?_;rw[compTurn_list];refine yca (yim (yca (yed (turn n s hI) (λr s₁ h₁=>?_) λ_ _ h'=>h')));cases r with
 | none=>exact yka h₁
 | some v =>
  refine yca (yed h₁ (λ_ s₀ h₀=>?_) λ_ _ h'=>h');refine yca (yed h₀ (λ_ s₂ h₂=>yca (yed h₂ (λok s₃ h₃=>?_) λ_ _ h'=>h')) λ_ _ h'=>h');cases ok with
  | false=>exact yka ⟨rfl,h₃⟩
  | true =>
   exact yca (yca (yed h₃ (λx s₄ h₄=>yca (yed h₄ (λ_ s₅ h₅=>yka (yka ⟨rfl,h₅⟩)) λ_ _ h'=>h')) λ_ _ h'=>h'))
def zsdb (J:It)(H1:Hp)(g:TG)(tt:TT)(te:TE)(n:Nat)(js:List Nat)(σ:St)(Q:VK):Prop:=∃W:Nat->Nat->List V->Hp->Prop,(∃m,W 0 m [] H1)∧∀i m ys H,W i m ys H →
 (J.stop i H∧ys.length≤yxa∧∀p,H p=none->Q (.ref p) (upd H p (.lst ys))) ∨
 (J.go i H∧ys.length≤yxa∧∃N:List V->Hp->Prop,(∀ys' H',N ys' H'->∃m',m'<m∧W (i+1) m' ys' H')∧∀x H',J.yld i H x H'->g x (zne n js σ) H' fun σ2 H2=>σ2.drop n=(zne n js σ).drop n∧tt σ2 H2 λb H3 =>
  if b=true then te σ2 H3 λy H4=>N (ys++[y]) H4 else N ys H3)
def zmwb (wi:TI)(g:TG)(tt:TT)(te:TE)(n:Nat)(js:List Nat):TE:=fun σ H Q=>wi σ H λJ H1=>zsdb J H1 g tt te n js σ Q
section
variable {X:Cx}
theorem Vals.snoc {xs:List V}{us:List Value}{x:V}{u:Value}(r:Vals xs us)(q:RelV x u):Vals (xs++[x]) (us++[u]):=r.append (.cons q .nil)
theorem zkgb {pins:List (Addr×Obj)}{σ:St}{H:Hp}{s s3:Shared}{sc:Scope}{own cap:List Str}{js:List Nat}{fp:List Addr}{C:Addr}{tn:Nat->Heap->Prop}{h₁:Heap}{tk:Nat}{m:Str->Option Value}(I:Inv X pins σ H s)(S:zeb X sc)(cp:Caps X sc cap js)
  (hob:∀b∈fp,∃o,s.heap.get? b=some o∧∀v,o.data ≠ .cell v) (hf:∀b∈fp,FpOk X pins H b) (hC:s.heap.objs.size≤C) (hn:h₁.Ns C m) (old:∀b o,s.heap.get? b=some o->h₁.get? b=some o) :
  Inv (blk X (own++cap) sc fp s H C) [] (zne own.length js σ) H { s with heap:=h₁,toks:=tk }:=by
 have sub:∀x c,(clOf sc X.env.cells).lookup x=some c->X.env.cells.lookup x=some c:=zto sc.names [] (λx c e=>by simp at e);have has:∀x,((ymo sc X.env).names.lookup x=some .cell∨(ymo sc X.env).names.lookup x=some .free)->∃c,(clOf sc X.env.cells).lookup x=some c:=λx hx=>by
  have hm:=ztu (env:=X.env) (l:=sc.names) (x:=x) S.cell hx;exact zbmb sc.names [] x (.inl ⟨hm,I.ok.has x (S.free _ hm rfl)⟩)
 refine⟨⟨I.ok.mod,S.kind,I.ok.glob,I.ok.blt,hC,λx y c e1 e2=>I.ok.inj x y c (sub x c e1) (sub y c e2),has,(λx c e=>by cases e),I.ok.hd,I.ok.frames,.inl rfl,λb hb=>?_,I.bs,yab I.ok.bsz I.sz,λb o e hb=>?_,λb hb z=>?_,I.stack,I.zthb⟩,
  rfl,I.bare,Un.kept old,⟨m,hn,λi x v h1 h2 h3=>?_⟩,λx c e=>?_,I.hok.fresh hC,λx c e=>I.freeC x c (sub x c e),λp hp=>absurd (show p∈([]:List (Addr×Obj)) from hp) (by simp),I.hok.kept old,zfrb cp⟩
 ·obtain⟨o,e,_⟩:=hob b hb;refine⟨ydb (yra (yoa e) hC),λx c e=>?_⟩;exact (hf b hb).2.2.2.2.1 x c (sub x c e)
 ·obtain⟨_,_,_,h4,_,_⟩:=hf b hb
  rcases h4 with z|z
  ·exact I.ok.noex b o e z
  ·exact absurd (yra (yoa e) (yab I.ok.bsz z)) (yqc _)
 ·obtain⟨_,h2,h3,_⟩:=hf b hb
  rcases yia.mp (I.zqw b z) with q|q
  ·exact h2 q
  ·exact h3 q
 ·obtain⟨hni,j,hj,hv⟩:=zlgb h2;have h1':(own++cap)[i]?=some x:=h1;rw[yzb hni] at h1';obtain⟨j',e1,e2,e3,e4⟩:=cp.get h1';rw[hj] at e1;cases e1;obtain⟨m0,hn0,hl0⟩:=I.loc;have vis:Vis X.env.scope x:=.inr e3;obtain⟨u,ru,lk⟩:=hl0 j x v e2 hv vis;refine⟨u,ru,?_⟩
  rcases lk with⟨k,_⟩|⟨k,c,ec,hc⟩
  ·exfalso
   rcases e3 with q|q
   ·rw[q] at k;cases k
   ·rw[q] at k;cases k
  ·obtain⟨c',ec'⟩:=has x e4;have q:=sub x c' ec';rw[ec] at q;cases q;exact .inr ⟨e4,c,ec',hc.keeps old⟩
 ·obtain⟨v,z⟩:=I.cell x c (sub x c e);exact⟨v,z.keeps old⟩
theorem zajb {pins pn:List (Addr×Obj)}{σ σ':St}{H H':Hp}{s s':Shared}{sc:Scope}{N':List Str}{fp:List Addr}{C D:Addr}{h':Heap}{ys:List V}{its:List Value}{nn:Nat}(I:Inv X pins σ H s)(J:Inv (blk X N' sc fp s H C) pn σ' H' s')
  (hf:∀b∈fp,FpOk X pins H b) (hC:s.heap.objs.size≤C) (hD:s.heap.objs.size≤D) (hDC:D≠C) (hn:H' D=none) (ho:s'.heap.get? D=some { cls:=.type "list",data:=.seq its.toArray nn }) (hz:ys.length≤yxa) (rv:Vals ys its)
  (hs:yzf C s'.heap h'):Inv X pins σ (upd H' D (.lst ys)) { s' with heap:=h' }:=by
 have u:Un (frs X.stack) fp H H' s.heap s'.heap:=J.base;have low:∀b o,s.heap.get? b=some o->b≠C∧b≠D:=λb o e=>⟨ydb (yra (yoa e) hC),ydb (yra (yoa e) hD)⟩;have kp:∀b o,b≠C->s'.heap.get? b=some o->h'.get? b=some o:=λb o hb e=>(hs.2 b hb).trans e;have u2:Un (frs X.stack) fp H (upd H' D (.lst ys)) s.heap h':=by
  refine⟨λb o e n hb hx=>kp b o (low b o e).1 (u.keep b o e n hb hx),λb o e n hb hx=>?_,λb o e n hx=>?_,λb o e hx=>?_,λb xs e=>?_,λb o xs e=>?_,λb ps e=>?_⟩
  ·obtain⟨sl,q⟩:=u.slot b o e n hb hx;exact⟨sl,kp b _ (low b o e).1 q⟩
  ·rw[zxa (low b o e).2];exact u.free b o e n hx
  ·obtain⟨o',q⟩:=u.there b o e hx;exact⟨o',kp b _ (low b o e).1 q⟩
  ·have q:=u.tups b xs e;rw[zxa (zpa q hn)];exact q
  ·have q:=u.frzs b o xs e;rw[zxa (zpa q hn)];exact q
  ·obtain⟨more,q⟩:=u.tbls b ps e;exact⟨more,by rw[zxa (zpa q hn)];exact q⟩
 have nC:H' C=none:=J.free;have hok:HOk X.prog X.w (upd H' D (.lst ys)) h':=λb o e=>by
  by_cases hb:b=D
  ·subst hb;rw[zfa] at e;cases e;exact⟨hz,its,nn,rv,kp b _ hDC ho⟩
  ·rw[zxa hb] at e;refine (J.hok b o e).stay (λc v hc q=>kp c v ?_ q) (λc q=>?_) λc xs q=>?_
   ·rintro rfl
    rcases hc with z|z
    ·rw[← z,nC] at e;cases e
    ·rw[nC] at z;cases z
   ·rw[zxa (zpa q hn)];exact q
   ·rw[zxa (zpa q hn)];exact q
 have os:=J.os;have bare:=J.bare;obtain⟨hh,g,d,t,os'⟩:=s';obtain rfl:os'=s.os:=os;have z:=I.call (h':=h') (g':=g) (d':=d) (t':=t) (ch:=fp) u2 hok bare λb hb=>⟨(hf b hb).2.2.2.1,(hf b hb).2.1,(hf b hb).2.2.2.2.1,(hf b hb).2.2.2.2.2⟩;exact z
theorem zerb {elt iter tg:Expr}{ifs:List Expr}{sc:Scope}{pos:Pos}{own cap:List Str}{js:List Nat}{g:TG}{tt:TT}{te:TE}{Qf:List V->Hp->Prop}{RR:Value->Addr->Result->Shared->Prop}{E:Value->Shared->Prop}
  {pins:List (Addr×Obj)} {σ:St} {H2:Hp} {s2:Shared} {it:Addr} {fp:List Addr} {tn:Nat->Heap->Prop} {J:It} {W:Nat->Nat->List V->Hp->Prop} {m0:Nat}
  (hc:X.calm=true) (S:zeb X sc) (cp:Caps X sc cap js)
  (hg:∀fp s H C,PG (blk X (own++cap) sc fp s H C) tg g) (ht:∀fp s H C,PTs (blk X (own++cap) sc fp s H C) ifs tt) (he:∀fp s H C,PE (blk X (own++cap) sc fp s H C) elt te)
  (I2:Inv X pins σ H2 s2) (T:Turn X.prog X.w X.K tg J fp it tn) (st2:tn 0 s2.heap) (f2:∀b∈fp,FpOk X pins H2 b) (w0:W 0 m0 [] H2)
  (turn:∀i m ys H,W i m ys H->(J.stop i H∧ys.length≤yxa∧Qf ys H) ∨
   (J.go i H∧ys.length≤yxa∧∃N:List V->Hp->Prop,(∀ys' H',N ys' H'->∃m',m'<m∧W (i+1) m' ys' H')∧∀x H',J.yld i H x H'->g x (zne own.length js σ) H' fun σ2 H2=>σ2.drop own.length=(zne own.length js σ).drop own.length∧tt σ2 H2 λb H3 =>
    if b=true then te σ2 H3 λy H4=>N (ys++[y]) H4 else N ys H3))
  (hRR:∀D C H4 s4 pn ys its nn,s2.heap.objs.size≤D->s2.heap.objs.size≤C->D≠C->Inv (blk X (own++cap) sc fp s2 H2 C) pn (zne own.length js σ) H4 s4->H4 D=none->s4.heap.get? D=some { cls:=.type "list",data:=.seq its.toArray nn } →
   ys.length≤yxa->Vals ys its->Qf ys H4->RR (.ref D) C (.ok .next) s4) :
  wpAny (model X.prog X.w) X.A (newList []) (λacc s₃=>wpAny (model X.prog X.w) X.A (newFunctionEnv sc X.env.globals (clOf sc X.env.cells) [] X.env.qual none .none (some X.env)) (λcenv s₄ =>
   yvh (model X.prog X.w) X.A (.compStart (.ListComp elt [⟨tg,iter,ifs,0⟩] sc pos) 0 (.ref it) acc { cenv with scope:=ymo sc X.env }) (RR acc cenv.locals) s₄) E s₃) E s2:=by
 refine ygd (wpAny_newFunctionEnv S.cell (by intro y hy;simp at hy) (λh₁ hns₁ hsb₁=>?_) S.kind);dsimp only at hns₁ hsb₁ ⊢;generalize hH2:s2.heap.push { cls:=.type "list",dict:=none,data:=.seq ([]:List Value).toArray }=HH at hns₁ hsb₁ ⊢;generalize hDd:s2.heap.objs.size=D at hns₁ hsb₁ ⊢;generalize hCc:HH.objs.size=C at hns₁ hsb₁ ⊢;have hC:C=D+1:=by rw[← hCc,← hH2,yvd,hDd]
 have hDC:D≠C:=by rw[hC];exact ydb (yhe _)
 have hCle:s2.heap.objs.size≤C:=by rw[hDd,hC];exact yzg _
 have hDle:s2.heap.objs.size≤D:=yzk hDd;have below:∀b,b<s2.heap.objs.size->b≠C∧b≠D:=λb hb=>⟨ydb (yra hb hCle),ydb (yra hb hDle)⟩;have old:∀b o,s2.heap.get? b=some o->h₁.get? b=some o:=λb o e=>hsb₁.extBut b o (below b (yoa e)).1 (yea _ (hH2▸yea _ e));have q0:HH.get? D=some { cls:=.type "list",data:=.seq ([]:List Value).toArray 0 }:=by
  rw[← hH2,← hDd];exact ysa _ rfl
 have hacc:h₁.get? D=some { cls:=.type "list",data:=.seq ([]:List Value).toArray 0 }:=hsb₁.extBut _ _ hDC (yea _ q0);have fpo:=T.obj 0 _ st2;have fplt:∀b∈fp,b<s2.heap.objs.size:=λb hb=>by obtain⟨o,e,_⟩:=fpo b hb;exact yoa e
 have st3:tn 0 h₁:=T.keep 0 _ _ st2 λb hb o e=>old b o e;have I3:∀tk,Inv (blk X (own++cap) sc fp s2 H2 C) [] (zne own.length js σ) H2 { s2 with heap:=h₁,toks:=tk }:=λtk=>zkgb (s3:=s2) (tn:=tn) I2 S cp fpo f2 hCle hns₁ old;have stkD:∀b,s2.heap.objs.size≤b->b∉frs X.stack:=λb hb hm=>by
  obtain⟨_,o,e,_⟩:=I2.stack.mem hm;exact absurd (yra (yoa e) hb) (yqc _)
 have nD:H2 D=none:=I2.hok.fresh hDle;have stat:∀{pn:List (Addr×Obj)} {H':Hp},(∀p∈pn,p.1=D)->(∀b∈fp,H' b=none)->∀b∈fp,FpOk (blk X (own++cap) sc fp s2 H2 C) pn H' b:=λ{pn H'} hp hn b hb=>by
  refine⟨hn b hb,(below b (fplt b hb)).1,λz=>?_,.inl hb,λx c e=>?_,λp hp' z=>?_⟩
  ·obtain⟨_,h2,h3,_⟩:=f2 b hb
   rcases yia.mp (I2.zqw b z) with q|q
   ·exact h2 q
   ·exact h3 q
  ·exact (f2 b hb).2.2.2.2.1 x c (zto sc.names [] (λx c e=>by simp at e) x c e)
  ·have e:=hp p (by simpa [blk] using hp');rw[e] at z;exact (below b (fplt b hb)).2 z.symm
 have pinD:∀{H':Hp} {s':Shared} {o:Obj},Inv (blk X (own++cap) sc fp s2 H2 C) [] (zne own.length js σ) H' s'->H' D=none->s'.heap.get? D=some o->(∀v,o.data ≠ .cell v)->Inv (blk X (own++cap) sc fp s2 H2 C) [(D,o)] (zne own.length js σ) H' s':=λ{H' s' o} I' n e d =>
  I'.zsn λp hp=>by
   have q:p=(D,o):=(by simpa using hp);subst q;exact⟨e,n,hDC,stkD D hDle,d⟩
 have loop:∀s₃:Shared,s₃={ s2 with heap:=h₁,toks:=s2.toks+([]:List (Str×Value)).length } →
   yvh (model X.prog X.w) X.A (.compLoop (.ListComp elt [⟨tg,iter,ifs,0⟩] sc pos) 0 (.ref it) (.ref D) (yyn sc (clOf sc X.env.cells) C X.env)) (RR (.ref D) C) s₃:=by
  rintro s₃ rfl;refine znv (λk s'=>Ex5 λi ys its nn H'=>Inv (blk X (own++cap) sc fp s2 H2 C) [] (zne own.length js σ) H' s'∧tn i s'.heap∧(∀b∈fp,H' b=none)∧H' D=none ∧
   s'.heap.get? D=some { cls:=.type "list",data:=.seq its.toArray nn }∧Vals ys its∧W i k ys H') ?_ m0 ⟨0,[],[],0,H2,I3 _,st3,λb hb=>(f2 b hb).1,nD,hacc,.nil,w0⟩
  rintro k s3 ⟨i,ys,its,nn,H3,I3,st3,fr3,d3,o3,rv3,w3⟩;have I3':=pinD I3 d3 o3 (λv z=>by cases z);have only:∀p∈[(D,({ cls:=.type "list",data:=.seq its.toArray nn }:Obj))],p.1=D:=λp hp=>by
   rw[yda.mp hp]
  rcases turn i k ys H3 w3 with⟨stop,hz,qn⟩|⟨go,hz,N,hN,step⟩
  ·refine yed (T.done (blk X (own++cap) sc fp s2 H2 C) rfl rfl rfl hc i _ s3 _ H3 (λ_ _=>False) I3' (stat only fr3) st3 stop) (λr s4 ⟨hr,I4⟩=>?_) λ_ _ z=>z.elim;subst hr;have o4:=(I4.pin (D,_) (yqb _ (yda.mpr rfl))).1;exact hRR D C H3 s4 _ ys its nn hDle hCle hDC I4 d3 o4 hz rv3 qn
  ·refine yed (T.item (blk X (own++cap) sc fp s2 H2 C) rfl rfl rfl hc i _ s3 _ H3 (λ_ _=>False) I3' (stat only fr3) st3 go) (λr s4 ⟨u,hr,h4⟩=>?_) λ_ _ z=>z.elim;subst hr;refine yed h4 (λ_ s5 ⟨x,H5,I5,r5,y5,st5,fr5⟩=>?_) λ_ _ z=>z.elim;have I5':=I5.pinned (stat only fr5) (T.obj _ _ st5);refine yed (hg fp s2 H2 C _ s5 _ H5 x u _ I5' r5 (step x H5 y5)) (λ_ s6 ⟨σ6,H6,I6,d6,q6⟩=>?_) λ_ _ z=>z.elim;refine yed (ht fp s2 H2 C _ s6 σ6 H6 _ I6 q6) (λok s7 ⟨H7,I7,q7⟩=>?_) λ_ _ z=>z.elim;have memD:∀{o:Obj},(D,o)∈(blk X (own++cap) sc fp s2 H2 C).pn++([(D,o)]++zvu fp s5.heap):=yqb _ (ywc _ (yda.mpr rfl));have memF:∀{b:Addr} {o o':Obj},b∈fp->s5.heap.get? b=some o->(b,o)∈(blk X (own++cap) sc fp s2 H2 C).pn++([(D,o')]++zvu fp s5.heap):=λhb e=>yqb _ (yqb _ (zro hb e));have σlen:(zne own.length js σ).length=σ6.length:=by
    have a:=I6.len;have b:=I5.len;exact b.trans a.symm
   cases ok with
   | false =>
    have q7':N ys H7:=q7;obtain⟨m',hm,w7⟩:=hN _ _ q7';refine⟨m',hm,i+1,ys,its,nn,H7,(I7.zsn λp hp=>absurd hp (by simp)).weak σlen (λj v e=>zuo d6 e),T.keep _ _ _ st5 λb hb o e=>(I7.pin (b,o) (memF hb e)).1,λb hb=>?_,(I7.pin (D,_) memD).2.1,(I7.pin (D,_) memD).1,rv3,w7⟩;obtain⟨o,e,_⟩:=T.obj _ _ st5 b hb;exact (I7.pin (b,o) (memF hb e)).2.1
   | true =>
    have q7':te σ6 H7 λy H4=>N (ys++[y]) H4:=q7;refine yed (he fp s2 H2 C _ s7 σ6 H7 _ I7 q7') (λyv s8 ⟨y,H8,I8,r8,n8'⟩=>?_) λ_ _ z=>z.elim;obtain⟨m',hm,w8⟩:=hN _ _ n8';have o8:=(I8.pin (D,_) memD).1;have n8:=(I8.pin (D,_) memD).2.1;refine append_at (hsz:=by rw[yta,← rv3.length];exact hz) o8 λh9 hs9 hD9=>?_;have I8':=(I8.zsn (pins':=[]) λp hp=>absurd hp (by simp)).weak σlen (λj v e=>zuo d6 e);have I9:=I8'.turned (h':=h9) (t':=s8.toks) (it:=D) (λb o hb e=>(hs9.2 b hb).trans e) n8 hDC (.inr hDle) (λx c e z=>by
     obtain⟨v,q⟩:=I2.cell x c (zto sc.names [] (λx c e=>by simp at e) x c e);exact absurd (yra q.lt (by rw[z];exact hDle)) (yqc _)) (λp hp=>absurd (show p∈([]:List (Addr×Obj)) from hp) (by simp))
    refine⟨m',hm,i+1,ys++[y],its++[yv],nn+1,H8,I9,T.keep _ _ _ st5 λb hb o e=>(hs9.2 b (below b (fplt b hb)).2).trans (I8.pin (b,o) (memF hb e)).1,λb hb=>?_,n8,?_,rv3.snoc r8,w8⟩
    ·obtain⟨o,e,_⟩:=T.obj _ _ st5 b hb;exact (I8.pin (b,o) (memF hb e)).2.1
    ·rw[hD9,ytp]
 exact yan (loop _ rfl) (T.self X.A 0 _ _ _ st3 (loop _ rfl))
theorem zxc {elt iter tg:Expr}{ifs:List Expr}{sc:Scope}{pos:Pos}{own cap:List Str}{js:List Nat}{wi:TI}{g:TG}{tt:TT}{te:TE}(hc:X.calm=true)(S:zeb X sc)(cp:Caps X sc cap js)(hi:PI X tg iter wi)
  (hg:∀fp s H C,PG (blk X (own++cap) sc fp s H C) tg g) (ht:∀fp s H C,PTs (blk X (own++cap) sc fp s H C) ifs tt) (he:∀fp s H C,PE (blk X (own++cap) sc fp s H C) elt te)
  (hs:∀x,yfj iter X.env x=pure x:=by intro _;rfl):PE X (.ListComp elt [⟨tg,iter,ifs,0⟩] sc pos) (zmwb wi g tt te own.length js):=by
 intro pins s σ H Q I h;rw[eval_ListComp];refine yli (use:=none) rfl hs (zjt λy hy hf=>I.ok.has y.1 (S.free y hy hf)) S.kind S.names (thn (hi pins s σ H _ I h) λv s1 h1=>thn h1 λitv s2 h2=>?_);obtain⟨it,fp,tn,J,H2,e,I2,T,st2,f2,W,⟨m0,w0⟩,turn⟩:=h2;subst e;refine zerb (RR:=λacc C=>compPost (model X.prog X.w) X.A X.xe none (EP X pins σ Q) acc C) (Qf:=λys H=>∀p,H p=none->Q (.ref p) (upd H p (.lst ys))) hc S cp hg ht he I2 T st2 f2 w0 turn ?_;intro D C H4 s4 pn ys its nn hD hC hDC I4 n4 o4 hz rv q;obtain⟨m,hn,_⟩:=I4.loc;exact⟨m,hn,λh' hs'=>⟨.ref D,upd H4 D (.lst ys),zajb I2 I4 f2 hC hD hDC n4 o4 hz rv hs',rfl,q D n4⟩⟩
end
def Its (x:Str):It:=⟨λi _=>i<x.cps.size,λi H v H'=>H'=H∧∃c,x.cps[i]?=some c∧v = .str ⟨#[c]⟩,λi _=>i=x.cps.size⟩
section
variable {X:Cx}{tg:Expr}
def iStr (tl:TE):TI:=fun σ H R=>tl σ H λv H1=>∃x,v = .str x∧R (Its x) H1
theorem zow {P:ybc}{w:World}{K:yba}{tg:Expr}{ty:String}(x:Str)(t:Tok)(it:Addr)(hty:["enumerate","zip","dict_itemiterator","dict_reverseitemiterator","odict_iterator","itertools.zip_longest","itertools.pairwise"].contains ty=false)
  (W:∀A:Around,A.handled=none->Walks P w A it [it] [it] x.cps.size (SignAt x) (λi h=>h.IsStrIter it ty x t i))
  (hself:∀(A:Around) (i:Nat) (s:Shared) (Q:Value->Shared->Prop) (E:Value->Shared->Prop),s.heap.IsStrIter it ty x t i->Q (.ref it) s->wpAny (model P w) A (pyIter (.ref it)) Q E s) :
  Turn P w K tg (Its x) [it] it (λi h=>h.IsStrIter it ty x t i) where
 mem:=by simp
 obj:=λi h st b hb=>by
  have e:b=it:=by simpa using hb
  subst e;obtain⟨o,e,c,d⟩:=st;exact⟨o,e,λv z=>by rw[d] at z;cases z⟩
 keep:=λi h h' st k=>by
  obtain⟨o,e,r⟩:=st;exact⟨o,k it (by simp) o e,r⟩
 item:=by
  intro X hP hw hK hc i pins s σ H E I hf st hg;subst hP hw hK;obtain⟨f0,f1,f2,f3,f4,f5⟩:=hf it (by simp);refine (W X.A (I.ok.hd hc)).item i s _ _ hg st λv h' tk hv st' kk=>?_;obtain⟨c,u,hcx,rfl⟩:=hv;have I1:Inv X pins σ H { s with heap:=h',toks:=tk }:=I.turned (λb o hb e=>kk b o (by simpa using hb) e) f0 f1 f3 f4 f5;obtain⟨o,e,c',d⟩:=id st';exact⟨_,rfl,zmqb (s:={ s with heap:=h',toks:=tk }) e c' d hty ⟨.str ⟨#[c]⟩,H,I1,⟨u,rfl⟩,⟨rfl,c,hcx,rfl⟩,st',λb hb=>(hf b hb).1⟩⟩
 done:=by
  intro X hP hw hK hc i pins s σ H E I hf st hg;subst hP hw hK;obtain⟨f0,f1,f2,f3,f4,f5⟩:=hf it (by simp);have le:i=x.cps.size:=hg;subst le;exact (W X.A (I.ok.hd hc)).done s _ _ st λh' tk kk=>⟨rfl,I.turned (λb o hb e=>kk b o (by simpa using hb) e) f0 f1 f3 f4 f5⟩
 self:=hself
theorem zfvb {l:Expr}{tl:TE}(hl:PE X l tl):PI X tg l (iStr tl):=by
 intro pins s σ H R I h;refine thn (hl pins s σ H _ I h) λv s1 ⟨y,H1,I1,r1,q1⟩=>?_;obtain⟨x,e,q⟩:=q1;subst e;obtain⟨t,rfl⟩:=r1;have fp:∀b∈[s1.heap.objs.size],FpOk X pins H1 b:=λb hb=>by
  have e:b=s1.heap.objs.size:=by simpa using hb
  subst e;exact I1.fpOk (yja _) (I1.hok.fresh (yja _))
 cases ha:x.cps.all (· < 128)
 ·refine wpAny_pyIter_wide ha ?_;exact⟨s1.heap.objs.size,[s1.heap.objs.size],_,Its x,H1,rfl,I1.kept (t':=s1.toks) λb o e=>yea _ e,zow x t _ (by decide) (λA hA=>Walks.strWide hA _ x t) (λA i s Q E st h=>wpAny_pyIter_striter_wide st h),⟨_,ysa _ rfl,rfl,rfl⟩,fp,q⟩
 ·refine wpAny_pyIter_ascii ha ?_;exact⟨s1.heap.objs.size,[s1.heap.objs.size],_,Its x,H1,rfl,I1.kept (t':=s1.toks) λb o e=>yea _ e,zow x t _ (by decide) (λA hA=>Walks.strAscii hA _ x t) (λA i s Q E st h=>wpAny_pyIter_striter_ascii st h),⟨_,ysa _ rfl,rfl,rfl⟩,fp,q⟩
end
theorem zzcb {J:It}{len:Nat}{x:Nat->V}{H1:Hp}{g:TG}{tt:TT}{te:TE}{n:Nat}{js:List Nat}{σ:St}{Q:VK}(Pv:Nat->List V->Hp->Prop)(hgo:∀i ys H,Pv i ys H->i<len->J.go i H)(hst:∀ys H,Pv len ys H->J.stop len H)
  (hy:∀i ys H v H',Pv i ys H->i<len->J.yld i H v H'->H'=H∧v=x i) (h0:Pv 0 [] H1) (hz:∀i ys H,Pv i ys H->ys.length≤yxa)
  (hs:∀i ys H,i<len->Pv i ys H->g (x i) (zne n js σ) H fun σ2 H2=>σ2.drop n=(zne n js σ).drop n∧tt σ2 H2 λb H3=>if b=true then te σ2 H3 λy H4=>Pv (i+1) (ys++[y]) H4 else Pv (i+1) ys H3)
  (hd:∀ys H,Pv len ys H->∀p,H p=none->Q (.ref p) (upd H p (.lst ys))):zsdb J H1 g tt te n js σ Q:=by
 refine⟨λi m ys H=>m=len-i∧i≤len∧Pv i ys H,⟨len,by simp,yrb _,h0⟩,?_⟩;rintro i m ys H ⟨rfl,hi,p⟩
 by_cases hlt:i<len
 ·refine .inr ⟨hgo i ys H p hlt,hz i ys H p,Pv (i+1),λys' H' p'=>⟨len-(i+1),by omega,rfl,hlt,p'⟩,λv H' y=>?_⟩;obtain⟨e,ev⟩:=hy i ys H v H' p hlt y;subst e ev;exact hs i ys _ hlt p
 ·have e:i=len:=by omega
  subst e;exact .inl ⟨hst ys H p,hz _ ys H p,hd ys H p⟩
theorem zgub {t:Str}{H1:Hp}{g:TG}{tt:TT}{te:TE}{n:Nat}{js:List Nat}{σ:St}{Q:VK}(Pv:Nat->List V->Hp->Prop)(h0:Pv 0 [] H1)(hz:∀i ys H,Pv i ys H->ys.length≤yxa)
  (hs:∀i c ys H,t.cps[i]?=some c->Pv i ys H->g (.str ⟨#[c]⟩) (zne n js σ) H fun σ2 H2=>σ2.drop n=(zne n js σ).drop n∧tt σ2 H2 λb H3=>if b=true then te σ2 H3 λy H4=>Pv (i+1) (ys++[y]) H4 else Pv (i+1) ys H3)
  (hd:∀ys H,Pv t.cps.size ys H->∀p,H p=none->Q (.ref p) (upd H p (.lst ys))):zsdb (Its t) H1 g tt te n js σ Q:=by
 refine zzcb (len:=t.cps.size) (x:=λi=>.str ⟨#[t.cps.getD i 0]⟩) Pv (λi ys H _ h=>h) (λys H _=>rfl) (λi ys H v H' _ hlt y=>?_) h0 hz (λi ys H hlt p=>?_) hd
 ·obtain⟨e,c,hc,ev⟩:=y;refine⟨e,?_⟩;rw[ev,ynh,hc];rfl
 ·have hc:t.cps[i]?=some (t.cps.getD i 0):=by
   rw[ynh,ywd hlt];rfl
  exact hs i _ ys H hc p
theorem zbd {K:yba}{a:Addr}{xs:List V}{H1:Hp}{g:TG}{tt:TT}{te:TE}{n:Nat}{js:List Nat}{σ:St}{Q:VK}(Pv:Nat->List V->Hp->Prop)(hl:∀i ys H,Pv i ys H->SqL K H a xs)(h0:Pv 0 [] H1)(hz:∀i ys H,Pv i ys H->ys.length≤yxa)
  (hs:∀i x ys H,xs[i]?=some x->Pv i ys H->g x (zne n js σ) H fun σ2 H2=>σ2.drop n=(zne n js σ).drop n∧tt σ2 H2 λb H3=>if b=true then te σ2 H3 λy H4=>Pv (i+1) (ys++[y]) H4 else Pv (i+1) ys H3)
  (hd:∀ys H,Pv xs.length ys H->∀p,H p=none->Q (.ref p) (upd H p (.lst ys))):zsdb (Itl K a) H1 g tt te n js σ Q:=by
 refine zzcb (len:=xs.length) (x:=λi=>xs.getD i .non) Pv (λi ys H p hlt=>⟨xs,xs[i],hl i ys H p,by simp[hlt]⟩) (λys H p=>⟨xs,hl _ ys H p,yja _⟩) (λi ys H v H' p hlt y=>?_) h0 hz (λi ys H hlt p=>?_) hd
 ·obtain⟨e,y⟩:=y;refine⟨e,?_⟩;rw[ycc,y xs (hl i ys H p)];rfl
 ·refine hs i _ ys H ?_ p;rw[ycc,yqa hlt];rfl
theorem zjw {K:yba}{a:Addr}{xs:List V}{H1:Hp}{g:TG}{tt:TT}{te:TE}{n:Nat}{js:List Nat}{σ:St}{Q:VK}(Pv:Nat->List V->Hp->Prop)(hl:∀i ys H,Pv i ys H->SqT K H a xs)(h0:Pv 0 [] H1)(hz:∀i ys H,Pv i ys H->ys.length≤yxa)
  (hs:∀i x ys H,xs[i]?=some x->Pv i ys H->g x (zne n js σ) H fun σ2 H2=>σ2.drop n=(zne n js σ).drop n∧tt σ2 H2 λb H3=>if b=true then te σ2 H3 λy H4=>Pv (i+1) (ys++[y]) H4 else Pv (i+1) ys H3)
  (hd:∀ys H,Pv xs.length ys H->∀p,H p=none->Q (.ref p) (upd H p (.lst ys))):zsdb (Itt K a) H1 g tt te n js σ Q:=by
 refine zzcb (len:=xs.length) (x:=λi=>xs.getD i .non) Pv (λi ys H p hlt=>⟨xs,xs[i],hl i ys H p,by simp[hlt]⟩) (λys H p=>⟨xs,hl _ ys H p,yja _⟩) (λi ys H v H' p hlt y=>?_) h0 hz (λi ys H hlt p=>?_) hd
 ·obtain⟨e,y⟩:=y;refine⟨e,?_⟩;rw[ycc,y xs (hl i ys H p)];rfl
 ·refine hs i _ ys H ?_ p;rw[ycc,yqa hlt];rfl
theorem zdi {lo:Int}{len:Nat}{H1:Hp}{g:TG}{tt:TT}{te:TE}{n:Nat}{js:List Nat}{σ:St}{Q:VK}(Pv:Nat->List V->Hp->Prop)(h0:Pv 0 [] H1)(hz:∀i ys H,Pv i ys H->ys.length≤yxa)
  (hs:∀i ys H,i<len->Pv i ys H->g (.int (lo+i)) (zne n js σ) H fun σ2 H2=>σ2.drop n=(zne n js σ).drop n∧tt σ2 H2 λb H3=>if b=true then te σ2 H3 λy H4=>Pv (i+1) (ys++[y]) H4 else Pv (i+1) ys H3)
  (hd:∀ys H,Pv len ys H->∀p,H p=none->Q (.ref p) (upd H p (.lst ys))):zsdb (Itr lo len) H1 g tt te n js σ Q :=
 zzcb (len:=len) (x:=λi=>.int (lo+i)) Pv (λi ys H _ h=>h) (λys H _=>yja _) (λi ys H v H' _ hlt y=>y) h0 hz (λi ys H hlt p=>hs i ys H hlt p) hd
section
variable {X:Cx}
def rSlS:V->Option Int->Option Int->Hp->VK->Prop:=λx lo hi H Q=>∃t,x = .str t∧t.length≤yxa∧∀t',t'=ynn t lo hi->t'.length≤t.length->Q (.str t') H
theorem zavb:SlR X rSlS:=by
 intro pins s σ H x v vl vu lo hi sl Q I rx hs pl pu h;obtain⟨t,rfl,hz,q⟩:=h;obtain⟨tk,rfl⟩:=rx;have fin:∀{l u:Option (Int×Tok)},l.map (·.1)=lo->u.map (·.1)=hi->(∀k t',EP X pins σ Q (.str (ynn t (l.map (·.1)) (u.map (·.1))) t') { s with toks:=k }):=λ{l u} e1 e2 k t' =>
  ⟨.str _,H,I.tok k,⟨t',rfl⟩,by rw[e1,e2];exact q _ rfl (PyProof.Txt.length_slice_le t _ _)⟩
 refine⟨"str",_,F.slot_str_getitem.lookup,yvl _ _ _,?_⟩;cases pl with
 | none =>
  cases pu with
  | none=>exact ych (l:=none) (u:=none) (st:=none) hs rfl (ykk ⟨yab (yon t _ _) hz,λt' k=>fin (l:=none) (u:=none) rfl rfl k t'⟩)
  | int j tj=>exact ych (l:=none) (u:=some (j,tj)) (st:=none) hs rfl (ykk ⟨yab (yon t _ _) hz,λt' k=>fin (l:=none) (u:=some (j,tj)) rfl rfl k t'⟩)
 | int i ti =>
  cases pu with
  | none=>exact ych (l:=some (i,ti)) (u:=none) (st:=none) hs rfl (ykk ⟨yab (yon t _ _) hz,λt' k=>fin (l:=some (i,ti)) (u:=none) rfl rfl k t'⟩)
  | int j tj=>exact ych (l:=some (i,ti)) (u:=some (j,tj)) (st:=none) hs rfl (ykk ⟨yab (yon t _ _) hz,λt' k=>fin (l:=some (i,ti)) (u:=some (j,tj)) rfl rfl k t'⟩)
theorem zbob:∀{bs:List Bool} {us:List Value},Vals (bs.map V.bl) us->us=bs.map Value.bool
 | [],us,r=>by rw[ype] at r;cases r;rfl
 | b::bs,us,r=>by
  rw[ygb] at r;cases r with
  | cons r1 r2=>rw[ygb,zbob r2,show _=Value.bool b from r1]
theorem zfdb (hc:X.calm=true):zqh X (.builtin "all") (λxs H Q=>Ex2 λ(a:Addr) (bs:List Bool)=>xs=[.ref a]∧SqL X.K H a (bs.map V.bl)∧Q (.bl (bs.all id)) H):=by
 intro pins s σ H xs us Q I r h;obtain⟨a,bs,rfl,hq,q⟩:=h;obtain⟨u,rfl,ru⟩:=vals1 r;cases ru;obtain⟨its,rv,p,hz⟩:=I.list hq;have e:=zbob rv;have hlt:a<s.heap.objs.size:=by obtain⟨o,n,e,_⟩:=p;exact yoa e
 refine call_all_walk (yog p.isList ?_);refine⟨s.heap.objs.size,_,_,_,_,_,λi=>bs.getD i true,rfl,Walks.list (show X.A.in1.handled=none from I.ok.hd hc) s.heap.objs.size a (ydb hlt) its.toArray,⟨⟨_,ysa _ rfl,rfl,rfl⟩,p.isList.push _⟩,?_,?_⟩
 ·intro i v s' Q' E' hP hQ;have hP':its[i]?=some v:=by simpa using hP
  rw[e,yhb] at hP';cases z:bs[i]? with
  | none=>rw[z] at hP';cases hP'
  | some b =>
   rw[z] at hP';have ev:Value.bool b=v:=yub hP';subst ev;have hQ':Q' (bs.getD i true) s':=hQ;rw[ycc,z] at hQ';exact yzd hQ'
 ·intro h' tk kk;refine⟨.bl _,H,I.kept (t':=tk) λb o e=>kk b o (λz=>?_) (yea _ e),?_,q⟩
  ·have z':b=s.heap.objs.size:=by simpa using z
   exact absurd (yoa e) (by rw[z'];exact yqc _)
  ·show Value.bool _=Value.bool _
   congr 1
   rw[yta,e,yaa];have go:∀l:List Bool,(ypc l.length).all (λi=>l.getD i true)=l.all id:=λl=>by
    have q:=range_getD l true;have e2:((ypc l.length).map λj=>l.getD j true).all id=(ypc l.length).all λi=>l.getD i true:=by
     rw[List.all_map];rfl
    rw[← e2,q]
   exact go bs
theorem zbc:zqh X (.builtin "isinstance") (λxs H Q=>Ex4 λx c t b=>xs=[x,c]∧TyOf X.K H x t∧((∃n,c = .ty n∧yna X.K t (.type n)=some b)∨(∃a,c = .ref a∧yna X.K t (.ref a)=some b))∧Q (.bl b) H):=by
 intro pins s σ H xs us Q I r h;obtain⟨x,c,t,b,rfl,ty,hc,q⟩:=h;obtain⟨u,u',rfl,r1,r2⟩:=vals2 r
 rcases hc with⟨n,rfl,e⟩|⟨a,rfl,e⟩
 ·cases (show u'=Value.type n from r2);exact zxfb I r1 ty e λtk=>⟨.bl b,H,I.tok tk,rfl,q⟩
 ·cases (show u'=Value.ref a from r2);exact zxfb I r1 ty e λtk=>⟨.bl b,H,I.tok tk,rfl,q⟩
mutual
inductive DV (K:yba)(H:Hp):V->PyData->Prop where
 | non:DV K H .non .none
 | bl (b:Bool):DV K H (.bl b) (.bool b)
 | int (i:Int):DV K H (.int i) (.int i)
 | str (x:Str):DV K H (.str x) (.str x)
 | lst {a:Addr} {xs:List V} {ds:List PyData}:SqL K H a xs->DVs K H xs ds->DV K H (.ref a) (.list ds)
 | tup {a:Addr} {xs:List V} {ds:List PyData}:SqT K H a xs->DVs K H xs ds->DV K H (.ref a) (.tuple ds)
inductive DVs (K:yba)(H:Hp):List V->List PyData->Prop where
 | nil:DVs K H [] []
 | cons {x:V} {d:PyData} {xs:List V} {ds:List PyData}:DV K H x d->DVs K H xs ds->DVs K H (x::xs) (d::ds)
end
mutual
theorem DV.reads {pins:List (Addr×Obj)}{σ:St}{H:Hp}{s:Shared}(I:Inv X pins σ H s):∀{x:V} {d:PyData} {u:Value},DV X.K H x d->RelV x u->∃as,Reads s.heap u d as
 | _,_,_,.non,r=>by cases r;exact⟨_,.none⟩
 | _,_,_,.bl b,r=>by cases r;exact⟨_,.bool b⟩
 | _,_,_,.int i,r=>by obtain⟨t,rfl⟩:=r;exact⟨_,.int i t⟩
 | _,_,_,.str x,r=>by obtain⟨t,rfl⟩:=r;exact⟨_,.str x t⟩
 | _,_,_,.lst hq hs,r=>by
  cases r;obtain⟨its,rv,⟨o,n,e,c,_,d⟩,_⟩:=I.list hq;obtain⟨as,q⟩:=hs.reads I rv;exact⟨_,.list e c d (by simpa using q)⟩
 | _,_,_,.tup hq hs,r=>by
  cases r;obtain⟨its,rv,⟨o,e,c,n,d⟩,_⟩:=I.tuple hq;obtain⟨as,q⟩:=hs.reads I rv;exact⟨_,.tuple e c d (by simpa using q)⟩
theorem DVs.reads {pins:List (Addr×Obj)}{σ:St}{H:Hp}{s:Shared}(I:Inv X pins σ H s):∀{xs:List V} {ds:List PyData} {us:List Value},DVs X.K H xs ds->Vals xs us->∃as,ReadsAll s.heap us ds as
 | _,_,_,.nil,.nil=>⟨_,.nil⟩
 | _,_,_,.cons h hs,.cons r rs=>by
  obtain⟨as,q⟩:=h.reads I r;obtain⟨bs,p⟩:=hs.reads I rs;exact⟨_,.cons q p⟩
end
theorem zqbc (hu:X.A.units+64<cLine):OpR X (yde .Eq) (λx y H Q=>Ex2 λd e=>DV X.K H x d∧DV X.K H y e∧ycd d=true∧ycd e=true∧Q (.bl (ywf d e)) H):=by
 intro pins s σ H x y v u Q I rx ry h;obtain⟨d,e,hd,he,s1,s2,q⟩:=h;obtain⟨as,r1⟩:=hd.reads I rx;obtain⟨bs,r2⟩:=he.reads I ry;exact eq_dataH r1 r2 s1 s2 hu ⟨.bl _,H,I,rfl,q⟩
theorem zzeb (hu:X.A.units+64<cLine):OpR X (yde .NotEq) (λx y H Q=>Ex2 λd e=>DV X.K H x d∧DV X.K H y e∧ycd d=true∧ycd e=true∧Q (.bl (!PyData.eqv d e)) H):=by
 intro pins s σ H x y v u Q I rx ry h;obtain⟨d,e,hd,he,s1,s2,q⟩:=h;obtain⟨as,r1⟩:=hd.reads I rx;obtain⟨bs,r2⟩:=he.reads I ry;exact ne_dataH r1 r2 s1 s2 hu ⟨.bl _,H,I,rfl,q⟩
end
end L2
namespace L2
open PySem PyProof.Rows
set_option genInjectivity false in
structure Gf (K:yba)(mg:Str->Option Value)(x q:Str)(st:Stmt) where
 f:Addr
 d:yne
 F:Fun K x q st f d
 m:mg x=some (.ref f)
set_option genInjectivity false in
structure Mf (K:yba)(C:Addr)(x q:Str)(st:Stmt) where
 f:Addr
 d:yne
 F:Fun K x q st f d
 M:Meth K C x f
set_option genInjectivity false in
structure If (K:yba)(C:Addr)(x q:Str)(st:Stmt) where
 f:Addr
 d:yne
 F:Fun K x q st f d
 M:Mk K C f
section
variable {K:yba}{mg:Str->Option Value}{h:Heap}{C f:Addr}{x q:Str}{st:Stmt}{oc:Value}{od an:Option Addr}{sl:Array (Option Value)}{kV dc pm cd ct:Value}
def gf_of (X:K.In h)(G:h.Ns yfb mg)(a:yjb K yfb x=some (some (.ref f)))
  (l:K.lookup f=some ⟨oc,od,.func (yxg x q (zxp st) (zqg st) (zka st) .none kV dc pm an cd ct),sl⟩) (c:yxh K cd q=true) (k:yff K (.ref f)=true):Gf K mg x q st :=
 ⟨f,_,zoqb l c k,yxb X G a⟩
def mf_of (a:ybb K (.ref C) x=some (some (.ref f)))(i:yyk K (.ref f)=true)
  (l:K.lookup f=some ⟨oc,od,.func (yxg x q (zxp st) (zqg st) (zka st) .none kV dc pm an cd ct),sl⟩) (c:yxh K cd q=true) (k:yff K (.ref f)=true):Mf K C x q st :=
 ⟨f,_,zoqb l c k,⟨a,i,k⟩⟩
def if_of (a:ybb K (.ref C) "__init__" = some (some (.ref f)))(i:yyk K (.ref f)=true)
  (l:K.lookup f=some ⟨oc,od,.func (yxg x q (zxp st) (zqg st) (zka st) .none kV dc pm an cd ct),sl⟩) (c:yxh K cd q=true) (k:yff K (.ref f)=true)
  (mk:ygn K C=true) (kc:yff K (.ref C)=true):If K C x q st :=
 ⟨f,_,zoqb l c k,⟨mk,a,i,kc⟩⟩
theorem zdcc {fa:Addr}(g:Gf K mg x q st)(e:mg x=some (.ref fa)):g.f=fa:=by
 have z:=g.m.symm.trans e;injection z with z
 injection z
end
section
variable {P:ybc}{w:World}{K:yba}{mg:Str->Option Value}{base:Heap}{C:Addr}{x q:Str}{st:Stmt}{N ps:List Str}{k:Nat}{sp:Sp}
theorem Gf.ok (g:Gf K mg x q st)(S:zva N ps (zka st))
  (hb:∀(f:Addr) (cdv:Value) (A:Around) (outer:List Env) (s:Shared) (H:Hp) (vs:List V) (Q:VK) (E:XK),Room k (A.deeper (envOfC q (zka st) s.heap.objs.size f cdv))->sp vs H Q E->let X:=(cxOf CX0 P w K mg base N q (zka st) f cdv A outer s H E).nox;∃t,PSs X (zqg st) t∧t { nx:=λ_ H'=>Q .non H',rt:=Q } (start N vs) H)
  (len:∀vs H Q E,sp vs H Q E->vs.length=ps.length:=by intro _ _ _ _ h;cases h;rename_i h;rw[h.1];rfl):FnOk P w K mg base CX0 (k+1) g.f g.d ps sp:=g.F.ok S len (hb g.f)
theorem Mf.ok (g:Mf K C x q st)(S:zva N ps (zka st))
  (hb:∀(f:Addr) (cdv:Value) (A:Around) (outer:List Env) (s:Shared) (H:Hp) (vs:List V) (Q:VK) (E:XK),Room k (A.deeper (envOfC q (zka st) s.heap.objs.size f cdv))->sp vs H Q E->let X:=(cxOf CX0 P w K mg base N q (zka st) f cdv A outer s H E).nox;∃t,PSs X (zqg st) t∧t { nx:=λ_ H'=>Q .non H',rt:=Q } (start N vs) H)
  (len:∀vs H Q E,sp vs H Q E->vs.length=ps.length:=by intro _ _ _ _ h;cases h;rename_i h;rw[h.1];rfl):FnOk P w K mg base CX0 (k+1) g.f g.d ps sp:=g.F.ok S len (hb g.f)
theorem If.ok (g:If K C x q st)(S:zva N ps (zka st))
  (hb:∀(f:Addr) (cdv:Value) (A:Around) (outer:List Env) (s:Shared) (H:Hp) (vs:List V) (Q:VK) (E:XK),Room k (A.deeper (envOfC q (zka st) s.heap.objs.size f cdv))->sp vs H Q E->let X:=(cxOf CX0 P w K mg base N q (zka st) f cdv A outer s H E).nox;∃t,PSs X (zqg st) t∧t { nx:=λ_ H'=>Q .non H',rt:=Q } (start N vs) H)
  (len:∀vs H Q E,sp vs H Q E->vs.length=ps.length:=by intro _ _ _ _ h;cases h;rename_i h;rw[h.1];rfl):FnOk P w K mg base CX0 (k+1) g.f g.d ps sp:=g.F.ok S len (hb g.f)
theorem FnOk.up {CX:CXT}{f:Addr}{d:yne}{m:Nat}(h:FnOk P w K mg base CX k f d ps sp)(le:k≤m:=by first|decide|omega):FnOk P w K mg base CX m f d ps sp:=h.mono le
end
theorem sz0:0≤yxa:=by decide
theorem sz1:1≤yxa:=by decide
theorem sz2:2≤yxa:=by decide
theorem sz3:3≤yxa:=by decide
theorem sz4:4≤yxa:=by decide
theorem sz5:5≤yxa:=by decide
theorem sz7:7≤yxa:=by decide
def scB (N P:List Str)(sc:Scope):Bool :=
 decide (sc.kind = .function)&&(!sc.isCoroutine&&(!sc.isGenerator&&(decide N.Nodup&&(decide (N.take P.length=P) &&
  (P.all (λx=>decide (sc.names.lookup x=some .local∨sc.names.lookup x=some .cell))&&sc.names.all λy=>decide (y.2 ≠ .free))))))
theorem scOf {N P:List Str}{sc:Scope}(h:scB N P sc=true):zva N P sc:=by
 unfold scB at h;simp only[yjc,yup,decide_eq_true_eq,ymd] at h;obtain⟨a,b,c,d,e,f,g⟩:=h;exact⟨a,b,c,d,e,f,g⟩
end L2
namespace L2
open PySem PySem.Spec PyProof.Rows
section
variable {X:Cx}
theorem zin:∀{ys:List Str} {us:List Value},Vals (ys.map V.str) us->ymm us ys
 | [],us,r=>by rw[ype] at r;cases r;exact .nil
 | y::ys,us,r=>by
  rw[ygb] at r;cases r with
  | cons r1 r2 =>
   obtain⟨t,e⟩:=r1;subst e;exact .cons y t (zin r2)
theorem zbeb:∀l:List (Str×Tok),Vals ((l.map (·.1)).map V.str) (strValues l)
 | []=>.nil
 | (x,t)::r=>.cons ⟨t,rfl⟩ (zbeb r)
theorem zqj:MtR X "str.join" (λx xs H Q=>Ex3 λsep a ys=>x = .str sep∧xs=[.ref a]∧SqL X.K H a (ys.map V.str)∧(ys.map (·.length)).sum+ys.length*sep.length≤16777216∧Q (.str (yfa sep ys)) H):=by
 intro pins s σ H x xs v us Q I rx rs h;obtain⟨sep,a,ys,rfl,rfl,hq,hz,q⟩:=h;obtain⟨t,rfl⟩:=rx;obtain⟨u,rfl,ru⟩:=vals1 rs;cases ru;obtain⟨its,rv,p,_⟩:=I.list hq;refine join_list (items:=its.toArray) (ys:=ys) p.isList (by simpa using zin rv) hz λt' k=>⟨.str _,H,I.tok k,⟨t',rfl⟩,?_⟩;have e:Txt.join sep ys=yfa sep ys:=by first|rfl|exact ypn sep ys
 rw[e];exact q
theorem zbw:MtR X "str.split" (λx xs H Q=>Ex2 λt y=>x = .str t∧xs=[.str y]∧(y.length==0)=false∧t.length+2≤yxa∧∀l,H l=none->Q (.ref l) (upd H l (.lst ((yeb t y).map V.str)))):=by
 intro pins s σ H x xs v us Q I rx rs h;obtain⟨x,y,rfl,rfl,hy,hsz,q⟩:=h;obtain⟨t,rfl⟩:=rx;obtain⟨u,rfl,ru⟩:=vals1 rs;obtain⟨tu,rfl⟩:=ru;have hn:(ytg x (yid x y 0 x.length (x.length+1)) y.length).length≤yxa:=by
  have e1:=StrLaws.occ_length_le x y 0 x.length (x.length+1);rw[length_partsBetween];omega
 have fin:∀(l:List (Str×Tok)) (k:Nat),l.map (·.1)=yeb x y->l.length≤yxa->EP X pins σ Q (.ref s.heap.objs.size) { s with heap:=s.heap.push { cls:=.type "list",data:=.seq (strValues l).toArray },toks:=k }:=λl k e hl=>by
  refine⟨.ref s.heap.objs.size,upd H s.heap.objs.size (.lst ((yeb x y).map V.str)),I.laid (t':=k) (λb o e=>yea _ e) (yja _) ⟨?_,strValues l,_,?_,ysa _ rfl⟩,rfl,q _ (I.hok.fresh (yja _))⟩
  ·rw[← e,yaa,yaa];exact hl
  ·rw[← e];exact zbeb l
 cases h1:(decide (x.length<y.length)||decide (yei x<yei y))
 ·cases hf:(yid x y 0 x.length (x.length+1)).isEmpty
  ·refine yte yum (yvl _ _ _) yxl (ycl _ _) (meets_str_split_sep x y t tu h1 hy hf (by omega) hn) ?_;show wants _ _ _ { s with toks:=_,heap:=s.heap.push { cls:=.type "list",data:=.seq (strsFrom s.toks (ytg x (yid x y 0 x.length (x.length+1)) y.length)).toArray } }
   rw[strsFrom_eq];refine fin (numbered s.toks _) _ ((numbered_texts _ _).trans ((if_neg (ne_true_of_eq_false h1)).trans (if_neg (ne_true_of_eq_false hf))).symm) ?_;have e:=congrArg ynf (numbered_texts s.toks (ytg x (yid x y 0 x.length (x.length+1)) y.length));rw[yaa] at e;omega
  ·exact yte yum (yvl _ _ _) yxl (ycl _ _) (meets_str_split_not_found x y t tu h1 hy hf)
    (fin [(x,t)] s.toks ((if_neg (ne_true_of_eq_false h1)).trans (if_pos hf)).symm (by show 1≤yxa;decide))
 ·exact yte yum (yvl _ _ _) yxl (ycl _ _) (meets_str_split_cannot_occur x y t tu h1)
   (fin [(x,t)] s.toks (if_pos h1).symm (by show 1≤yxa;decide))
theorem zggb:zqh X (.type "str") (λxs H Q=>∃x,xs=[.str x]∧Q (.str x) H):=by
 intro pins s σ H xs us Q I r h;obtain⟨x,rfl,q⟩:=h;obtain⟨u,rfl,t,rfl⟩:=vals1 r;exact PySem.P.str_of_str ⟨.str x,H,I,⟨t,rfl⟩,q⟩
theorem zedb:zqh X (.type "int") (λxs H Q=>Ex2 λx n=>xs=[.str x]∧yll x=some n∧x.length≤640∧Q (.int n) H):=by
 intro pins s σ H xs us Q I r h;obtain⟨x,n,rfl,hn,hl,q⟩:=h;obtain⟨u,rfl,t,rfl⟩:=vals1 r;exact PySem.W.KIN.call_text hn hl ⟨.int n,H,I.tok _,⟨_,rfl⟩,q⟩
theorem zox {i:Nat}{x:Str}{elt iter tg:Expr}{ifs:List Expr}{sc:Scope}{pos spos pos':Pos}{own cap:List Str}{js:List Nat}{wi:TI}{g:TG}{tt:TT}{te:TE}(hN:X.N.Nodup)(hix:X.N[i]?=some x)(hx:Loc X.env.scope x)
  (hc:X.calm=true) (S:zeb X sc) (cp:Caps X sc cap js) (hi:PI X tg iter wi)
  (hg:∀fp s H C,PG (blk X (own++cap) sc fp s H C) tg g) (ht:∀fp s H C,PTs (blk X (own++cap) sc fp s H C) ifs tt) (he:∀fp s H C,PE (blk X (own++cap) sc fp s H C) elt te)
  (hsw:yxq (.ListComp elt [⟨tg,iter,ifs,0⟩] sc pos) (some (.Name x pos')) spos.line X.env=pure true:=by rfl) (hs:∀x,yfj iter X.env x=pure x:=by intro _;rfl)
  (hf:X.fn x=true∨X.env.scope.names.lookup x=some .local:=by first|exact .inl rfl|exact .inr rfl|assumption) :
  PS X (.Assign [.Name x pos'] (.ListComp elt [⟨tg,iter,ifs,0⟩] sc pos) spos) (tAsg (zmwb wi g tt te own.length js) (zny i)):=by
 intro pins s σ H D I h;rw[exec_Assign_Name_used _ _ _ _ hsw];refine yca (yim (yca ?_));show wpAny _ X.A (do let _ ← comprehension (.ListComp elt [⟨tg,iter,ifs,0⟩] sc pos) sc X.env _ (newList []) false (eval iter X.env) (some (assign (.Name x pos') X.env))) _ _ s
 refine yca (yed (yli (use:=some (assign (.Name x pos') X.env)) (Q:=λ_ s'=>SP X pins D .next s') rfl hs (zjt λy hy hf=>I.ok.has y.1 (S.free y hy hf)) S.kind S.names
  (thn (hi pins s σ H _ I h) λv s1 h1=>thn h1 λitv s2 h2=>?_)) (λ_ s' hq=>yka (yka hq)) λ_ _ e=>e)
 obtain⟨it,fp,tn,J,H2,e,I2,T,st2,f2,W,⟨m0,w0⟩,turn⟩:=h2;subst e;refine zerb (RR:=λacc C=>compPost (model X.prog X.w) X.A X.xe (some (assign (.Name x pos') X.env)) (λ_ s'=>SP X pins D .next s') acc C) (Qf:=λys H=>∀p,H p=none->D.nx (σ.set i (some (.ref p))) (upd H p (.lst ys))) hc S cp hg ht he I2 T st2 f2 w0 turn ?_;intro DD C H4 s4 pn ys its nn hD hC hDC I4 n4 o4 hz rv q;have I5:Inv X pins σ (upd H4 DD (.lst ys)) s4:=zajb (h':=s4.heap) I2 I4 f2 hC hD hDC n4 o4 hz rv (yyl ..);obtain⟨m,hn,_⟩:=I4.loc;have hn':s4.heap.Ns C m:=hn;show wpAny _ X.A (assign (.Name x pos') X.env (.ref DD)) _ _ s4
 refine wpAny_assign_Name (zceb I5 hN hix hx (v:=.ref DD) (u:=.ref DD) rfl (λs6 I6 ⟨a,hsb,ha⟩=>?_) hf);have lt2:X.env.locals<s2.heap.objs.size:=I2.lt;have cellC:∀y c,X.env.cells.lookup y=some c->c≠C:=λy c e=>by
  obtain⟨v,z⟩:=I2.cell y c e;exact ydb (yra z.lt hC)
 have aC:C≠a:=by
  rcases ha with rfl|ha
  ·exact yji (yra lt2 hC)
  ·exact yvc (cellC _ _ ha)
 refine⟨m,hn'.sameBut hsb aC,λh' hs'=>?_⟩;have nC:(upd H4 DD (.lst ys)) C=none:=by rw[zxa (yvc hDC)];exact I4.free
 have I7:=I6.turned (h':=h') (t':=s6.toks) (it:=C) (λb o hb e=>(hs'.2 b hb).trans e) nC (yji (yra lt2 hC)) (.inr (yab I2.sz hC)) cellC (λp hp=>by
  exact ydb (yra (yoa (I2.pin p hp).1) hC))
 exact⟨_,_,I7,q DD n4⟩
def Itv (K:yba)(a:Addr)(xs:List V):It :=
 ⟨λi H=>SqL K H a xs∧i<xs.length,λi H x H'=>H'=H∧xs[xs.length-1-i]?=some x,λi H=>SqL K H a xs∧i=xs.length⟩
def iRev (K:yba)(ta:TA):TI:=fun σ H R=>ta σ H λvs H1=>Ex2 λa xs=>vs=[.ref a]∧SqL K H1 a xs∧R (Itv K a xs) H1
theorem zrrb {P:ybc}{w:World}{K:yba}{tg:Expr}(a it:Addr)(xs:List V):Turn P w K tg (Itv K a xs) [it] it (λi h=>i≤xs.length∧h.IsRevIter it a ((xs.length:Int)-1-(i:Int))) where
 mem:=by simp
 obj:=λi h st b hb=>by
  have e:b=it:=by simpa using hb
  subst e;obtain⟨_,o,e,c,d⟩:=st;exact⟨o,e,λv z=>by rw[d] at z;cases z⟩
 keep:=λi h h' st k=>⟨st.1,st.2.at λo e=>k it (by simp) o e⟩
 item:=by
  intro X hP hw hK hc i pins s σ H E I hf st hg;subst hP hw hK;obtain⟨hq,hlt⟩:=hg;obtain⟨f0,f1,f2,f3,f4,f5⟩:=hf it (by simp);obtain⟨its,rv,p,hz⟩:=I.list hq;have hl:=rv.length;have hx:xs[xs.length-1-i]?=some (xs[xs.length-1-i]'(by omega)):=yqa (by omega);obtain⟨u,hu,ru⟩:=rv.get hx;have hit:=st.2;rw[show (xs.length:Int)-1-(i:Int)=((xs.length-1-i:Nat):Int) by omega] at hit;refine wpAny_pyNext_rev_item hit p.isList (x:=u) (by simpa using hu) λh' hit' hs'=>?_;rw[show ((xs.length-1-i:Nat):Int)-1=(xs.length:Int)-1-((i+1:Nat):Int) by omega] at hit';have I1:Inv X pins σ H { s with heap:=h' }:=I.turned (t':=s.toks) (λb o hb e=>(hs'.2 b hb).trans e) f0 f1 f3 f4 f5;obtain⟨o,e,c',d⟩:=id hit';exact⟨u,rfl,zmqb (s:={ s with heap:=h' }) e c' d (by decide) ⟨_,H,I1,ru,⟨rfl,hx⟩,⟨hlt,hit'⟩,λb hb=>(hf b hb).1⟩⟩
 done:=by
  intro X hP hw hK hc i pins s σ H E I hf st hg;subst hP hw hK;obtain⟨hq,e⟩:=hg;obtain⟨f0,f1,f2,f3,f4,f5⟩:=hf it (by simp);have hit:=st.2;rw[show (xs.length:Int)-1-(i:Int) = -1 by omega] at hit;exact wpAny_pyNext_rev_end (I.ok.hd hc) hit λh' he'=>⟨rfl,I.turned (t':=s.toks) (λb o hb e=>he' b o hb e) f0 f1 f3 f4 f5⟩
 self:=λ_ _ _ _ _ st h=>wpAny_pyIter_revIter st.2 h
theorem boot_reversed:yyf "reversed" = some (.type "reversed"):=by decide +kernel
theorem zdib {tg a:Expr}{ta:TA}{p pos:Pos}(hg:Gl X "reversed")(hm:X.mg "reversed" = none)(ha:PA X [a] ta)(hs:yzc [a] X.env=[(false,eval a X.env)]:=by rfl):PI X tg (.Call (.Name "reversed" p) [a] [] pos) (iRev X.K ta):=by
 intro pins s σ H R I h;refine Call_ (ziy I hg hm boot_reversed (yce (thn (ha pos pins s σ H _ I h) λus s1 ⟨vs,H1,I1,r1,q1⟩=>?_) hs rfl));obtain⟨b,xs,e,hq,q⟩:=q1;subst e;obtain⟨u,rfl,ru⟩:=vals1 r1;cases ru;obtain⟨its,rv,pl,hz⟩:=I1.list hq;have hl:=rv.length;refine call_reversed_list pl.isList ?_;have hit:(s1.heap.push (revObj b ((its.toArray.size:Int)-1))).IsRevIter s1.heap.objs.size b ((xs.length:Int)-1-((0:Nat):Int)):=by
  refine⟨_,ysa _ rfl,rfl,?_⟩;show Data.fields #[.ref b,rawInt _]=Data.fields #[.ref b,rawInt _]
  rw[yta,← hl,show (xs.length:Int)-1-((0:Nat):Int)=(xs.length:Int)-1 by omega]
 refine wpAny_pyIter_revIter (s:={ s1 with heap:=s1.heap.push (revObj b ((its.toArray.size:Int)-1)) }) hit ?_;refine⟨s1.heap.objs.size,[s1.heap.objs.size],_,_,H1,rfl,I1.kept (t':=s1.toks) λb o e=>yea _ e,zrrb b _ xs,⟨yrb _,hit⟩,λc hc=>?_,q⟩;have e:c=s1.heap.objs.size:=by simpa using hc
 subst e;exact I1.fpOk (yja _) (I1.hok.fresh (yja _))
end
theorem zwyb {K:yba}{a:Addr}{xs:List V}{g:TG}{tb:TS}{D:Ends}{σ:St}{H:Hp}(Pv:Nat->St->Hp->Prop)(h0:Pv 0 σ H)(hl:∀i σ H,i≤xs.length->Pv i σ H->SqL K H a xs)
  (hs:∀i x σ H,i<xs.length->xs[xs.length-1-i]?=some x->Pv i σ H->g x σ H fun σ2 H2=>tb { D with nx:=Pv (i+1),ct:=Pv (i+1),bk:=D.nx } σ2 H2) (hd:∀ σ H,Pv xs.length σ H->D.nx σ H) :
  ∃W:Nat->Nat->St->Hp->Prop,(∃m,W 0 m σ H)∧∀i m σ H,W i m σ H →
   ((Itv K a xs).stop i H∧D.nx σ H)∨((Itv K a xs).go i H∧∃N:St->Hp->Prop,(∀ σ' H',N σ' H'->∃m',m'<m∧W (i+1) m' σ' H')∧∀x H',(Itv K a xs).yld i H x H'->g x σ H' fun σ2 H2=>tb { D with nx:=N,ct:=N,bk:=D.nx } σ2 H2):=by
 refine⟨λi m σ H=>m=xs.length-i∧i≤xs.length∧Pv i σ H,⟨xs.length,by simp,yrb _,h0⟩,?_⟩;rintro i m σ H ⟨rfl,hi,p⟩;have q:=hl i σ H hi p
 by_cases hlt:i<xs.length
 ·refine .inr ⟨⟨q,hlt⟩,Pv (i+1),fun σ' H' p'=>⟨xs.length-(i+1),by omega,rfl,hlt,p'⟩,λx H' y=>?_⟩;obtain⟨e,y⟩:=y;subst e;exact hs i x σ _ hlt y p
 ·have e:i=xs.length:=by omega
  subst e;exact .inl ⟨⟨q,rfl⟩,hd σ H p⟩
end L2
namespace L2
open PySem PySem.Spec PyProof.Rows
section
variable {X:Cx}{a:Addr}{D:List (Str×yvp)}
theorem zxeb (T:ybr X.base a D):OpR X (yde .NotIn) (λx y H Q=>∃k,x = .str k∧y = .ref a∧Q (.bl (!KTD.inKeys k D)) H):=by
 intro pins s σ H x y v u Q I rx ry h;obtain⟨k,rfl,rfl,q⟩:=h;obtain⟨t,rfl⟩:=rx;cases ry;exact KTD.notin_text ⟨T,I.bk⟩ ⟨.bl _,H,I.tok _,rfl,q⟩
theorem zovb (T:ybr X.base a D):IxR X (λx y H Q=>Ex2 λk i=>x = .ref a∧y = .str k∧ylg k D=some (.flat (.int i))∧Q (.int i) H):=by
 intro value slice pins s σ H x y v u Q I rx ry h hs;obtain⟨k,i,rfl,rfl,hd,q⟩:=h;cases rx;obtain⟨tk,rfl⟩:=ry;have T':KTD.Here X.base s.heap a D:=⟨T,I.bk⟩;refine subscriptTail_builtin_flat T'.typeIs yug.lookup ?_ hs;unfold ykn
 try with_reducible refine yyc ?_
 refine yca (yij T'.typeIs (by decide) ?_);refine yca (ycf (name:=yrj "__getitem__") T'.typeIs yug
  (yye yug T'.typeIs entry_dict_getitem ?_ (args_dict_getitem _ _)))
 show wpAny _ _ (dictGet a (.str k tk) >>= _) _ _ s
 refine yca (KTD.dictGet_text T' (λd v ha hv=>?_) λhn=>?_)
 ·rw[hd] at ha;cases ha;have hv':Reads s.heap v (.int i) []:=hv s.heap;obtain⟨t,rfl⟩:∃t,v=Value.int i t:=by
   cases hv' with
   | int _ t=>exact⟨t,rfl⟩
  have fin:EP X pins σ Q (.int i t) { s with toks:=s.toks+1 }:=⟨.int i,H,I.tok _,⟨t,rfl⟩,q⟩;exact yka ⟨Value.int i t,rfl,yka ⟨λb z=>(nomatch z),fin⟩⟩
 ·rw[hd] at hn;cases hn
end
end L2
namespace L2
open PySem PySem.Spec PyProof.Rows
section
variable {X:Cx}
@[irreducible] def rStrAny:List V->Hp->VK->Prop:=λxs H Q=>(∃x,xs=[.str x]∧Q (.str x) H)∨∃i:Int,xs=[.int i]∧i.natAbs.log2<1920∧Q (.str (toString i)) H
theorem zmf:zqh X (.type "str") rStrAny:=by
 intro pins s σ H xs us Q I r h;unfold rStrAny at h
 rcases h with h|h
 ·exact zggb pins s σ H xs us Q I r h
 ·exact zfj pins s σ H xs us Q I r h
end
end L2
namespace L2
open PySem PySem.Spec PyProof.Rows
section
variable (K:yba){X:Cx}{a b o e:Expr}{es:List Expr}{ta tb to te:TE}{t:TA}{name f:Str}{apos cpos pos:Pos}{T id:String}{r:V->List V->Hp->VK->Prop}
theorem zfw (hK:X.K=K:=by rfl):IxR X (rIxL K):=hK▸zrb
theorem zdqb (hK:X.K=K:=by rfl):IxR X (rIxT K):=hK▸zxb
theorem zcdb (hK:X.K=K:=by rfl):zqh X (.builtin "len") (λxs H Q=>Ex2 λp ys=>xs=[.ref p]∧(SqL K H p ys∨SqT K H p ys)∧Q (.int ys.length) H):=hK▸zra
theorem zxj (hK:X.K=K:=by rfl):zqh X (.type "list") (λxs H Q=>Ex2 λp ys=>xs=[.ref p]∧(SqL K H p ys∨SqT K H p ys)∧∀l,H l=none->Q (.ref l) (upd H l (.lst ys))):=hK▸zigb
theorem zyxb (he:PE X e ta)(hb:ysh e f X.env (eval e X.env)=eval e X.env)(hK:X.K=K:=by rfl):PE X (.Attribute e f pos) (tFld K ta f):=hK▸zsf he hb
theorem zayb (hu:X.A.units+64<cLine)(hK:X.K=K:=by rfl):OpR X (yde .NotEq) (λx y H Q=>Ex2 λd e=>DV K H x d∧DV K H y e∧ycd d=true∧ycd e=true∧Q (.bl (!PyData.eqv d e)) H):=hK▸zzeb hu
end
end L2
namespace SSet
open PySem PySem.Spec PyProof.Rows
theorem zacc (t:ydg)(n:Nat):(t.orStandIn n).led=t.led∧(t.plain=false->(t.orStandIn n).plain=false):=by
 unfold ydg.orStandIn
 split
 ·exact⟨rfl,id⟩
 ·exact⟨rfl,λ_=>rfl⟩
theorem zkyb (t:ydg)(es:Array (Int×Value))(h:Int)(x:Value):(layNew t es h x).2.1.led=t.led:=by
 unfold layNew
 split
 ·exact (zacc _ _).1
 ·rfl
theorem zaqb (t:ydg)(es:Array (Int×Value))(k:Nat):(yzn t es k).2.1.led=t.led∧(t.plain=false->(yzn t es k).2.1.plain=false):=by
 unfold yzn
 split
 ·rename_i u order e;have q:u.led=t.led∧u.plain=t.plain:=by
   unfold ydg.relaid ydg.laid at e;simp only[bind,Option.bind,pure] at e
   split at e
   ·cases e
   ·injection e with e
    injection e with e _
    rw[← e];exact⟨rfl,rfl⟩
  dsimp only
  split
  ·exact⟨q.1,λz=>q.2.trans z⟩
  ·exact⟨rfl,λ_=>rfl⟩
 ·exact⟨rfl,λ_=>rfl⟩
def SS (prog:ybc)(w:World)(h:Heap)(a:Addr)(D:List Str)(b:Bool):Prop :=
 ∃o es ep t,h.get? a=some o∧o.ExactSet∧o.data = .set es ep t∧ywp (yjd prog w) es.toList∧(es.toList.map λe=>strOf e.2).Perm D∧es.size<yzl∧t.fits es.size=true∧t.led=b∧(es.size=0∨t.plain=false)
section
variable {prog:ybc}{w:World}{A:Around}{E:Value->Shared->Prop}{s:Shared}
theorem SS.keep {h h':Heap}{a:Addr}{D:List Str}{b:Bool}(x:SS prog w h a D b)(k:∀o,h.get? a=some o->h'.get? a=some o):SS prog w h' a D b:=by
 obtain⟨o,es,ep,t,ho,r⟩:=x;exact⟨o,es,ep,t,k _ ho,r⟩
theorem zsvb {es:List (Int×Value)}(h:ywp (yjd prog w) es){e:Int×Value}(he:e∈es):∃x t,e.2 = .str x t∧e.1=(yjd prog w).hash x:=by
 obtain⟨⟨k,hk,hh⟩,_⟩:=h e he;obtain⟨t,et⟩:=ydk (x:=k) (v:=e.2) hk;exact⟨k,t,et,hh⟩
theorem zmib {es:List (Int×Value)}{D:List Str}{x:Str}(hel:ywp (yjd prog w) es)(hp:(es.map λe=>strOf e.2).Perm D) :
  x∈D↔∃e∈es,(yjd prog w).is x e.2=true:=by
 rw[← hp.mem_iff,ysb]
 constructor
 ·rintro⟨e,he,rfl⟩;obtain⟨y,t,e1,_⟩:=zsvb hel he;refine⟨e,he,?_⟩;rw[e1];show yph y (.str y t)=true
  simp[yph]
 ·rintro⟨e,he,hi⟩;obtain⟨t,e1⟩:=ydk (x:=x) (v:=e.2) hi;exact⟨e,he,by rw[e1];rfl⟩
theorem zwkb {g:Bool->Sem Unit}(hg:∀(b:Bool) (s₁:Shared) (Q':Unit->Shared->Prop),Q' () s₁->wpAny (model prog w) A (g b) Q' E s₁)
  {a:Addr} {o:Obj} {es:Array (Int×Value)} {ep:Nat} {t:ydg} (ho:s.heap.get? a=some o) (hex:o.ExactSet) (hd:o.data = .set es ep t)
  {fs:Array (Int×Value)} {u:ydg} {D:List Str} {b:Bool} (hel:ywp (yjd prog w) fs.toList) (hp:(fs.toList.map λe=>strOf e.2).Perm D) (hb:fs.size<yzl) (hf:u.fits fs.size=true) (hl:u.led=b) (hpl:u.plain=false)
  {dm:Bool} {R:Option Bool->Shared->Prop} (h:∀h',yzf a s.heap h'->SS prog w h' a D b->R (some true) { s with heap:=h' }) :
  wpAny (model prog w) A (do
    storeSet a fs u
    if (!dm&&u.tooFull)=true then do
        g (yzn u fs (yfh fs.size)).2.2
        storeSet a (yzn u fs (yfh fs.size)).1 (yzn u fs (yfh fs.size)).2.1
        pure (some true)
     else pure (some true)) R E s:=by
 have lim:∀{n:Nat},n<yzl->n≤yxa:=λz=>yam z;refine yca (wpAny_storeSet_of ho hd ?_ (lim hb));have k1:(s.heap.update a (ybm fs u)).get? a=some { o with data:=.set fs (ep+1) u }:=by
  have z:=ysd (ybm fs u) ho (by rw[ycr fs u hd];rfl);rw[ycr fs u hd] at z;exact z
 have b1:=yoo s.heap a (ybm fs u)
 split
 ·have p2:=relayAll_perm u fs (yfh fs.size);have f2:=relayAll_fits u fs (yfh fs.size);obtain⟨l2,q2⟩:=zaqb u fs (yfh fs.size);generalize yzn u fs (yfh fs.size)=R2 at p2 f2 l2 q2 ⊢;obtain⟨fs2,u2,gv⟩:=R2;dsimp only at p2 f2 l2 q2 ⊢;have z2:fs2.size=fs.size:=by rw[← ywb,p2.length_eq,ywb]
  refine yca (hg _ _ _ ?_);refine yca (wpAny_storeSet_of k1 rfl ?_ (lim (by rw[z2];exact hb)));have k2:((s.heap.update a (ybm fs u)).update a (ybm fs2 u2)).get? a=some { o with data:=.set fs2 (ep+1+1) u2 }:=by
   have z:=ysd (ybm fs2 u2) k1 (by rw[ycr fs2 u2 rfl];rfl);rw[ycr fs2 u2 rfl] at z;exact z
  exact yka (h _ (b1.trans (yoo _ a _)) ⟨_,fs2,_,u2,k2,hex,rfl,ywp.perm hel p2,(p2.map _).trans hp,by rw[z2];exact hb,f2,l2.trans hl,.inr (q2 hpl)⟩)
 ·exact yka (h _ b1 ⟨_,fs,_,u,k1,hex,rfl,hel,hp,hb,hf,hl,.inr hpl⟩)
theorem add_str {a:Addr}{D:List Str}{b:Bool}{x:Str}{tk:Tok}{Q:Bool->Shared->Prop}(hS:SS prog w s.heap a D b)(hroom:D.length+1<yzl)
  (h:∀h' r,yzf a s.heap h'->SS prog w h' a (if x∈D then D else D++[x]) b->Q r { s with heap:=h' }) :
  wpAny (model prog w) A (setAddHashed a (.str x tk) ((yjd prog w).hash x)) Q E s:=by
 obtain⟨o,es,ep,t,ho,hex,hd,hel,hp,hb,hf,hl,hpl⟩:=hS;have key:(yjd prog w).is x (.str x tk)=true:=by
  show yph x (.str x tk)=true
  simp[yph]
 have hz:es.size=D.length:=by rw[← hp.length_eq,yaa,ywb]
 unfold setAddHashed setAddHashedIn;refine yyc (yca (yif ho hd hf ?_));dsimp only;rw[byScan_of (x:=.str x tk) rfl hb hel];simp only[↓reduceIte];unfold setAddByScan;refine yca (yca (yxp (yca (wpAny_setScan_of key ho hd hf hel ?_))));have mi:=zmib (x:=x) hel hp;cases hr:List.findIdx? (λe=>(yjd prog w).is x e.2) es.toList with
 | some j =>
  obtain⟨hj,hpj,_⟩:=List.findIdx?_eq_some_iff_getElem.mp hr;have hin:x∈D:=mi.mpr ⟨_,ypq hj,hpj⟩;dsimp only;refine yka (yka ?_);have z:=h s.heap false (yyl a s.heap);rw[if_pos hin] at z;exact z ⟨o,es,ep,t,ho,hex,hd,hel,hp,hb,hf,hl,hpl⟩
 | none =>
  have hno:¬ x∈D:=λhin=>by
   obtain⟨e,he,hi⟩:=mi.mp hin;have z:=List.findIdx?_eq_none_iff.mp hr e he;rw[hi] at z;cases z
  simp only[if_neg hno] at h;dsimp only;have p1:=layNew_perm t es ((yjd prog w).hash x) (.str x tk);have f1:=layNew_fits t es ((yjd prog w).hash x) (.str x tk);have l1:=zkyb t es ((yjd prog w).hash x) (.str x tk);generalize layNew t es ((yjd prog w).hash x) (.str x tk)=L at p1 f1 l1 ⊢;obtain⟨fs,u,dm,gave⟩:=L;dsimp only at p1 f1 l1 ⊢;rw[yyp] at p1;have el1:ywp (yjd prog w) fs.toList:=(hel.push key rfl).perm p1;have pp:(fs.toList.map λe=>strOf e.2).Perm (D++[x]):=by
   refine (p1.map _).trans ?_;rw[yva];exact ycm.append hp (yml _)
  have z1:fs.size=D.length+1:=by rw[← ywb,p1.length_eq,yha,ywb,hz];rfl
  have give:∀(c:Bool) (s₁:Shared) (Q':Unit->Shared->Prop),Q' () s₁->wpAny (model prog w) A (match c with|true=>rule "set.scan.the-table-gave-way"|false=>pure ()) Q' E s₁:=λc s₁ Q' q=>by
   cases c
   ·exact yka q
   ·exact yxp q
  refine yca (give _ _ _ ?_)
  split
  ·refine yca ?_;rw[hashByValue_scannable 8 (x:=.str x tk) rfl];refine yka ?_;refine zwkb (b:=b) (D:=D++[x]) give ho hex hd el1 pp (by omega) (ydg.fits_plain_off f1) (l1.trans hl) rfl ?_;intro h' sb S';exact yka (h h' _ sb S')
  ·rename_i np;refine yca (yka ?_);simp only[↓reduceIte];refine zwkb (b:=b) (D:=D++[x]) give ho hex hd el1 pp (by omega) f1 (l1.trans hl) (by simpa using np) ?_;intro h' sb S';exact yka (h h' _ sb S')
def dd (xs:List Str):List Str:=xs.foldl (λD x=>if x∈D then D else D++[x]) []
theorem zqy (xs:List Str)(x:Str):dd (xs++[x])=if x∈dd xs then dd xs else dd xs++[x]:=by
 unfold dd;rw[List.foldl_append];rfl
theorem zczb:∀n (xs:List Str),(dd (xs.take n)).length≤n
 | 0,xs=>yja 0
 | n+1,xs=>by
  have ih:=zczb n xs;rw[yob];cases e:xs[n]? with
  | none =>
   rw[ydl,yfc];omega
  | some x =>
   rw[yxc,zqy]
   split
   ·omega
   ·rw[yha,ybg];omega
theorem zqrb {R:Result->Shared->Prop}{I S:Addr}{fp wr:List Addr}{n:Nat}{P:Nat->Value->Prop}{St:Nat->Heap->Prop}{b:Bool}(W:Walks prog w A.in1 I fp wr n P St)(hSf:S∉fp)(xs:List Str)
  (hval:∀i v,P i v->∃x t,xs[i]?=some x∧v = .str x t) (hn:n+1<yzl) :
  ∀(k i:Nat) (s:Shared),n-i=k->i≤n->St i s.heap->SS prog w s.heap S (dd (xs.take i)) b →
   (∀h' tk,SS prog w h' S (dd (xs.take n)) b->(∀c o,c∉S::wr->s.heap.get? c=some o->h'.get? c=some o)->R (.ok (.ret .none)) { s with heap:=h',toks:=tk }) →
   yvh (model prog w) A (.builtin "set.update.loop" ⟨[.ref S,.ref I],[]⟩) R s:=by
 have nw:S∉wr:=λz=>hSf (W.sub _ z);intro k
 induction k with
 | zero =>
  intro i s hk hi st hS hR;obtain rfl:i=n:=by omega
  refine yqe yzh ?_;rw[yge ygf _];show wpAny _ A.in1 (pyNext (.ref I) >>= _) _ _ s
  refine yca (W.done s _ _ st λh' tk keep=>?_);show wpAny _ A.in1 (ret Value.none) _ _ _
  exact yka (hR h' tk (hS.keep λo e=>keep S o nw e) λc o hc e=>keep c o (λz=>hc (yla _ z)) e)
 | succ k ih =>
  intro i s hk hi st hS hR;have hlt:i<n:=by omega
  refine yqe yzh ?_;rw[yge ygf _];show wpAny _ A.in1 (pyNext (.ref I) >>= _) _ _ s
  refine yca (W.item i s _ _ hlt st λv h1 tk hP st1 keep=>?_);obtain⟨x,t,hx,rfl⟩:=hval i v hP;have hS1:SS prog w h1 S (dd (xs.take i)) b:=hS.keep λo e=>keep S o nw e;show wpAny _ A.in1 (yen [Value.str x t] (setAdd S (.str x t)) >>= _) _ _ _
  refine yca (yyc ?_);unfold setAdd;refine yyc (yca ((yjd prog w).pyHash (k:=x) (by show yph x (.str x t)=true;simp[yph]) ?_));have hle:=zczb i xs;refine add_str (b:=b) (D:=dd (xs.take i)) (s:={ s with heap:=h1,toks:=tk+1 }) hS1 (by omega) λh2 r sb S2=>?_;have e2:(if x∈dd (xs.take i) then dd (xs.take i) else dd (xs.take i)++[x])=dd (xs.take (i+1)):=by
   rw[yob,hx,yxc,zqy]
  rw[e2] at S2;refine yka ⟨ydh ygf _,ih (i+1) _ (by omega) hlt (W.frame _ h1 _ st1 λc hc o e=>?_) S2 λh3 tk3 S3 keep3=>?_⟩
  ·rw[sb.2 c (λz:c=S=>hSf (by rw[← z];exact hc))];exact e
  ·refine hR h3 tk3 S3 λc o hc e=>keep3 c o hc ?_;show h2.get? c=some o
   rw[sb.2 c (λz:c=S=>hc (by rw[z];exact ypa))];exact keep c o (λz=>hc (yla _ z)) e
abbrev empt (w:World):Obj:={ cls:=.type "set",dict:=none,data:=.set #[] 0 (.fresh 0 0 (!w.params.followText "set-order")) }
theorem zgyb (v:Value){Q1:Value->Shared->Prop}(h:Q1 (.ref s.heap.objs.size) { s with heap:=s.heap.push (empt w) }) :
  yvh (model prog w) A (.call (.builtin "set.__new__") ⟨[.type "set",v],[]⟩) (wants Q1 E) s:=by
 refine codeAny_of_tree ?_;have sb:=sub_set_self;show wpAny _ A.in1 (yvm "set.__new__" ⟨[.type "set",v],[]⟩ >>= λ_=>again (.builtin "set.__new__" ⟨[.type "set",v],[]⟩)) _ _ s
 refine yca (ypo (PySem.F.newCall_set_1 v) (yka ⟨ydh yqn _,yqe PySem.F.entry_set_new ?_⟩));rw[yge yqn _];obtain⟨hp,gn,dr,tk,os⟩:=s;unfold ywe.«set.__new__»;unfold ywe.Frozenset.newClass;dsimp only
 wp_walk
 refine ybi (yka ?_);dsimp only[newObj];refine yca (wpAny_alloc (yka (yka ?_)));exact h
theorem zsob:∀{us:List Value} {xs:List Str},ymm us xs->∀(i:Nat) (v:Value),us[i]?=some v->∃x t,xs[i]?=some x∧v = .str x t
 | _,_,.nil,i,v,e=>by simp at e
 | _,_,.cons x t r,0,v,e=>by
  rw[ybh] at e;cases e;exact⟨x,t,rfl,rfl⟩
 | _,_,.cons x t r,i+1,v,e=>by
  rw[ysc] at e;obtain⟨y,u,h1,h2⟩:=zsob r i v e;exact⟨y,u,by rw[ysc];exact h1,h2⟩
theorem zbzb (h:Heap):SS prog w (h.push (empt w)) h.objs.size [] (!w.params.followText "set-order") :=
 ⟨_,#[],0,_,ysa _ rfl,⟨rfl,rfl,rfl⟩,rfl,λe he=>by simp at he,.nil,by decide,by rfl,rfl,.inl rfl⟩
theorem set_list {l:Addr}{its:Array Value}{xs:List Str}{Q:Value->Shared->Prop}(hh:A.handled=none)(hl:s.heap.IsList l its)(hi:ymm its.toList xs)(hb:its.size+1<yzl)
  (h:∀(h':Heap) (tk:Nat),SS prog w h' s.heap.objs.size (dd xs) (!w.params.followText "set-order")->(∀c o,s.heap.get? c=some o->h'.get? c=some o)->Q (.ref s.heap.objs.size) { s with heap:=h',toks:=tk }) :
  wpAny (model prog w) A (call (.type "set") [.ref l]) Q E s:=by
 obtain⟨cM,tM,mro⟩:=yee.mro;have made:=yee.made;have subs:=yee.sub;have notT:=yee.notType;have canC:=yee.canCreate;have chk:=PySem.F.typeCall_set_1 (.ref l);refine wpAny_call (codeAny_of_tree ?_);show wpAny _ _ (callAny (.type "set") ⟨[.ref l],[]⟩) _ _ _
 refine yka ⟨yap _ (by decide +kernel),yqe PySem.F.entry_type_call ?_⟩;rw[Around.under_plain (weight_type_call_type "set" [Value.ref l] []) rfl]
 repeat (any_goals (first|assumption|wp_step))
 refine yqj (zgyb (.ref l) (E:=E) (Q1:=λob s1=>ob = .ref s.heap.objs.size∧s1={ s with heap:=s.heap.push (empt w) }) ⟨rfl,rfl⟩) λr s1 hr=>?_;cases r with
 | error e=>exact hr
 | ok fl =>
  cases fl with
  | ret ob =>
   obtain⟨rfl,rfl⟩:=hr;have g0:(s.heap.push (empt w)).get? s.heap.objs.size=some (empt w):=ysa _ rfl;have ty0:yck { s with heap:=s.heap.push (empt w) } (.ref s.heap.objs.size) "set":=⟨_,g0,rfl⟩;have lk:=yee.init.lookup;have bd:=yee.init.bind (.ref s.heap.objs.size)
   repeat (any_goals (first|assumption|wp_step))
   refine yqj (yak (R:=wants (λr s2=>r = .none∧∃h' tk,s2={ s with heap:=h',toks:=tk }∧SS prog w h' s.heap.objs.size (dd xs) (!w.params.followText "set-order") ∧
     (∀c o,s.heap.get? c=some o->h'.get? c=some o)) E) yee.init.plain PySem.F.entry_set_init (check_set_init_1 ty0 ?_)) λr2 s2 hr2=>?_
   ·obtain⟨ol,e1,e2,nl,e3⟩:=hl;obtain⟨oc,od,oD,osl⟩:=ol;dsimp only at e2 e3;subst e2 e3;have e1':(s.heap.push (empt w)).get? l=some { cls:=.type "list",dict:=od,data:=.seq its nl,slots:=osl }:=yea _ e1;have q1:=PySem.F.sub_list_set;have q2:=PySem.F.sub_list_frozenset;have q3:(Value.type "list" == Value.type "dict")=false:=by decide
    have L1:(s.heap.push (empt w)).IsList l its:=⟨_,e1',rfl,nl,rfl⟩;have lt:l<s.heap.objs.size:=yoa e1;unfold ywe.«set.__init__» noKeywords ywe.Frozenset.updateFrom;generalize hPI:pyIter=PI
    wp_walk
    subst hPI;refine yog L1 (yca (wpAny_runValue ?_));have ne:l≠(s.heap.push (empt w)).objs.size:=by
     rw[yvd];exact ydb (ynd lt)
    have nf:s.heap.objs.size∉[(s.heap.push (empt w)).objs.size,l]:=by
     rw[yvd];intro z
     rcases yia.mp z with z|z
     ·exact absurd z (ydb (yhe _))
     ·exact absurd (yda.mp z) (yji lt)
    have hv:∀(i:Nat) (v:Value),its[i]?=some v->∃x t,xs[i]?=some x∧v = .str x t:=λi v e=>zsob hi i v (by rw[yad];exact e);have hx:xs.take its.size=xs:=yya (by rw[← ywb,hi.length];exact yja _);refine zqrb (b:=!w.params.followText "set-order") (Walks.list (by simp[hh]) _ l ne its) nf xs hv hb (its.size-0) 0 _ (by omega) (yrb _) ⟨⟨_,ysa _ rfl,rfl,rfl⟩,L1.push _⟩ ?S0 ?R0
    case S0=>exact (zbzb s.heap).keep λo e=>yea _ e
    case R0 =>
     intro h' tk S' keep;rw[hx] at S';show wpAny _ _ _ _ _ _
     refine yka ?_;show wpAny _ _ (ret Value.none) _ _ _
     refine yka ⟨rfl,h',tk,rfl,S',λc o e=>?_⟩;have clt:=yoa e;refine keep c o ?_ (yea _ (yea _ e));rw[yvd];intro z
     rcases yia.mp z with z|z
     ·exact absurd z (ydb clt)
     ·exact absurd (yda.mp z) (ydb (ynd clt))
   ·cases r2 with
    | error e=>exact hr2
    | ok fl2 =>
     cases fl2 with
     | ret r =>
      obtain⟨rfl,h',tk,rfl,S',keep⟩:=hr2
      repeat (any_goals (first|assumption|wp_step))
      exact h _ _ S' keep
     | next=>exact hr2.elim
     | brk=>exact hr2.elim
     | cont=>exact hr2.elim
  | next=>exact hr.elim
  | brk=>exact hr.elim
  | cont=>exact hr.elim
end
end SSet
namespace SSet
open PySem PySem.Spec PyProof.Rows
theorem zibb:Slot "set_iterator" "__next__" "set_iterator.__next__":=.of (owner:="set_iterator") (n:="__next__") (by rw[typeLookup_type,yrn];kernel_rfl) (by decide +kernel) (by decide +kernel) (by decide +kernel) (by first|exact .inl (by decide +kernel)|exact .inr (by decide +kernel)) (by rw[ylo];kernel_rfl)
theorem zzyb:entryFor table "set_iterator.__next__" = some ywe.«set_iterator.__next__»:=entryFor_of_fast (by kernel_rfl)
theorem zkzb (v:Value):argsOk "set_iterator.__next__" ⟨[v],[]⟩:=by unfold argsOk;kernel_rfl
theorem zazb:entryFor table "set.__iter__" = some ywe.«frozenset.__iter__»:=entryFor_alias (id':="frozenset.__iter__") (by kernel_rfl) rfl (by decide +kernel) (by kernel_rfl)
theorem zzob:Slot "set_iterator" "__iter__" "set_iterator.__iter__":=.of (owner:="set_iterator") (n:="__iter__") (by rw[typeLookup_type,yrn];kernel_rfl) (by decide +kernel) (by decide +kernel) (by decide +kernel) (by first|exact .inl (by decide +kernel)|exact .inr (by decide +kernel)) (by rw[ylo];kernel_rfl)
theorem zyyb:entryFor table "set_iterator.__iter__" = some ywe.«dict_keyiterator.__iter__»:=entryFor_alias (id':="dict_keyiterator.__iter__") (by kernel_rfl) rfl (by decide +kernel) (by kernel_rfl)
theorem zjzb (v:Value):argsOk "set_iterator.__iter__" ⟨[v],[]⟩:=by unfold argsOk;kernel_rfl
def zmdb (h:Heap)(it a:Addr)(first:Value)(i n ep:Nat):Prop:=h.get? it=some { cls:=.type "set_iterator",dict:=none,data:=.fields #[first,rawInt i,.ref a,rawInt n,rawInt ep],slots:=#[] }
def SObj (h:Heap)(a:Addr)(es:Array (Int×Value))(ep:Nat)(t:ydg):Prop:=∃o,h.get? a=some o∧o.cls = .type "set" ∧ o.data = .set es ep t∧t.fits es.size=true
theorem SObj.keep {h h':Heap}{a:Addr}{es:Array (Int×Value)}{ep:Nat}{t:ydg}(x:SObj h a es ep t)(k:∀o,h.get? a=some o->h'.get? a=some o):SObj h' a es ep t:=by
 obtain⟨o,ho,r⟩:=x;exact⟨o,k _ ho,r⟩
section
variable {prog:ybc}{w:World}{A:Around}{E:Value->Shared->Prop}{s:Shared}
theorem zmdb.typeIs {it a:Addr}{f:Value}{i n ep:Nat}(h:zmdb s.heap it a f i n ep):s.TypeIs (.ref it) "set_iterator":=⟨_,h,rfl⟩
theorem zdeb {Q:Option Value->Shared->Prop}{F:Fin->Shared->Prop}(hh:A.handled=none)(hQ:∀h',(∀b o,s.heap.get? b=some o->h'.get? b=some o)->Q none { s with heap:=h' }) :
  wpAny (model prog w) A.in1 (newExc (.type "StopIteration") [] >>= λx=>raiseNew x) F (λe s'=>wpAny (model prog w) A (do
     let b ← yao e (Value.type "StopIteration")
     if b=true then pure none else throw e) Q E s') s:=by
 refine yca ?_;simp only[newExc,newTuple];refine yca (ygd ?_ (by size_fits));refine yca (m:=firstArgMember _ _) (ypo (a:=Value.none) (by first|rfl|(simp only[firstArgMember];rfl)) (ygd ?_ (by size_fits)));simp only[raiseNew];refine yca (wpAny_handled ?_);rw[show A.in1.handled=none from hh];refine yca (yka (wpAny_throw ?_));refine yca (yaf (b:=true) (T:="StopIteration") ⟨_,ysa _ rfl,rfl⟩ isSubtype_stop ?_);exact yka (hQ _ λb o e=>yea _ (yea _ e))
theorem zicb {it a:Addr}{f:Value}{i n ep:Nat}{es:Array (Int×Value)}{t:ydg}{Q:Option Value->Shared->Prop}(hit:zmdb s.heap it a f i n ep)(hs:SObj s.heap a es ep t)(hn:es.size=n)
  (h:wpAny (model prog w) A.in1 (match f with
      | Value.int slot tok=>do
       let r ← ysn a slot.toNat i ep
       match r with
        | some (x,nx)=>do
         ybp (Value.ref it) 0 (rawInt nx)
         ybp (Value.ref it) 1 (rawInt ((i:Int)+1))
         ret x
        | none=>do
         ybp (Value.ref it) 2 Value.none
         let y ← newExc (Value.type "StopIteration") []
         raiseNew y
      | x=>do
       let r ← ydm f
       match r with
        | some places =>
         match places[i]? with
         | some (Value.int place tok)=>do
          let x ← setNextDrawn a place.toNat ep
          ybp (Value.ref it) 1 (rawInt ((i:Int)+1))
          ret x
         | some val=>unsupported "internal:set_iterator"
         | none=>do
          ybp (Value.ref it) 0 (rawInt 0)
          ybp (Value.ref it) 2 Value.none
          let y ← newExc (Value.type "StopIteration") []
          raiseNew y
        | x=>unsupported "internal:set_iterator")
   (λfin s'=>∃v,fin=Fin.done (Flow.ret v)∧wpAny (model prog w) A (pure (some v)) Q E s')
   (λe s'=>wpAny (model prog w) A (do
     let b ← yao e (Value.type "StopIteration")
     if b=true then pure none else throw e) Q E s') s):wpAny (model prog w) A (pyNext (.ref it)) Q E s:=by
 obtain⟨oS,hoS,hcS,hdS,hf⟩:=id hs;unfold pyNext;refine yca (wpAny_attempt (ycf (name:=yrj "__next__") hit.typeIs zibb (yye zibb hit.typeIs zzyb ?_ (zkzb _))));unfold ywe.«set_iterator.__next__»;refine yca (yka ?_);refine yca (wpAny_fieldsOf hit rfl ?_);show wpAny _ _ (setEntries a >>= _) _ _ _
 refine yca (wpAny_setEntries_of hoS hdS hf ?_);rw[if_neg (by rw[hn];simp[rawInt])];exact h
theorem zbnb {it a tp:Addr}{i n ep:Nat}{es:Array (Int×Value)}{t:ydg}{pl:Array Value}{j:Nat}{tk:Tok}{e:Int×Value}{Q:Option Value->Shared->Prop}
  (hit:zmdb s.heap it a (.ref tp) i n ep) (hs:SObj s.heap a es ep t) (hn:es.size=n) (htp:IsTup s.heap tp pl) (hpl:pl[i]?=some (.int j tk)) (he:es[j]?=some e)
  (hQ:∀h',zmdb h' it a (.ref tp) (i+1) n ep->yzf it s.heap h'->Q (some e.2) { s with heap:=h' }):wpAny (model prog w) A (pyNext (.ref it)) Q E s:=by
 obtain⟨oS,hoS,hcS,hdS,hf⟩:=id hs;refine zicb hit hs hn ?_;dsimp only;obtain⟨oT,hoT,hcT,nT,hdT⟩:=htp;have sq:∀{Q':Option (Array Value)->Shared->Prop},Q' (some pl) s->wpAny (model prog w) A.in1 (ydm (.ref tp)) Q' (λe s'=>wpAny (model prog w) A (do
     let b ← yao e (Value.type "StopIteration")
     if b=true then pure none else throw e) Q E s') s:=λq=>by
  unfold ydm;refine yca (ykp hoT ?_);rw[hdT];exact yka q
 refine yca (sq ?_);dsimp only;rw[hpl];dsimp only;rw[yac];unfold setNextDrawn;refine yca (yca (yif hoS hdS hf ?_));dsimp only;rw[if_neg (by simp),he];refine yka ?_;refine yca (yeg hit (by simp) λh' g sb=>?_);refine yka ⟨_,rfl,yka (hQ h' ?_ sb)⟩;exact g
theorem zqqb {it a tp:Addr}{i n ep:Nat}{es:Array (Int×Value)}{t:ydg}{pl:Array Value}{Q:Option Value->Shared->Prop}(hh:A.handled=none)
  (hit:zmdb s.heap it a (.ref tp) i n ep) (hs:SObj s.heap a es ep t) (hn:es.size=n) (htp:IsTup s.heap tp pl) (hpl:pl[i]?=none)
  (hQ:∀h',(∀b o,b≠it->s.heap.get? b=some o->h'.get? b=some o)->Q none { s with heap:=h' }):wpAny (model prog w) A (pyNext (.ref it)) Q E s:=by
 refine zicb hit hs hn ?_;dsimp only;obtain⟨oT,hoT,hcT,nT,hdT⟩:=htp;have sq:∀{Q':Option (Array Value)->Shared->Prop},Q' (some pl) s->wpAny (model prog w) A.in1 (ydm (.ref tp)) Q' (λe s'=>wpAny (model prog w) A (do
     let b ← yao e (Value.type "StopIteration")
     if b=true then pure none else throw e) Q E s') s:=λq=>by
  unfold ydm;refine yca (ykp hoT ?_);rw[hdT];exact yka q
 refine yca (sq ?_);dsimp only;rw[hpl];dsimp only;refine yca (yeg hit (by simp) λh1 g1 sb1=>?_);refine yca (yeg g1 (by simp) λh2 g2 sb2=>?_);refine zdeb hh λh' k=>hQ h' λb o nb e=>k b o ?_;show h2.get? b=some o
 rw[sb2.2 b nb,sb1.2 b nb];exact e
end
end SSet
namespace SSet
open PySem PySem.Spec PyProof.Rows
theorem pull {α:Type}:∀{l:List α} {i:Nat} (h:i<l.length),(l[i]::l.eraseIdx i).Perm l
 | [],i,h=>by simp at h
 | x::r,0,h=>yml _
 | x::r,i+1,h=>by
  have ih:=pull (l:=r) (i:=i) (by simpa using h);exact (ycm.swap x _ _).trans (ycm.cons x ih)
theorem zqpb {α:Type}(nx:Nat->Nat):∀(k j:Nat) (left:List α) (out:Array α),left.length=k->(ynr nx k j left out).toList.Perm (out.toList++left)
 | 0,j,left,out,h=>by
  have e:left=[]:=ydf.mp h;subst e;rw[yfc];exact yml _
 | k+1,j,left,out,h=>by
  have hlt:nx j % left.length<left.length:=Nat.mod_lt _ (by omega);unfold ynr;rw[yqa hlt];dsimp only;refine (zqpb nx k (j+1) _ _ (by rw[ywk hlt];omega)).trans ?_;rw[yyp,yuc];exact ycm.append_left _ (pull hlt)
theorem zppb {α:Type}(nx:Nat->Nat)(xs:Array α):(ylk nx xs).toList.Perm xs.toList:=by
 have q:=zqpb nx xs.size 0 xs.toList #[] (by simp);unfold ylk
 simpa using q
section
variable {prog:ybc}{w:World}{A:Around}{E:Value->Shared->Prop}{s:Shared}
theorem znnb {src:Source}{n:Nat}{Q:Nat->Shared->Prop}(hn:n≠0)(h:∀i d,i<n->Q i { s with drawn:=d }):wpAny (model prog w) A (choose src n) Q E s:=fun Γ p hΓ=>by
 unfold choose;show Sem.wp _ _ (.choose src n .pure) _ _ _ _
 rw[Sem.wp_choose];exact⟨hn,h _ _ (Nat.mod_lt _ (by omega))⟩
theorem zylb {α:Type}:∀(n:Nat) (xs:List α) (s:Shared) (Q:List α->Shared->Prop),xs.length=n->(∀ys d,ys.Perm xs->Q ys { s with drawn:=d })->wpAny (model prog w) A (drawOrder n xs) Q E s
 | 0,xs,s,Q,hl,h=>by
  have e:xs=[]:=ydf.mp hl;subst e;exact yka (h [] s.drawn (yml _))
 | n+1,[],s,Q,hl,h=>by cases hl
 | n+1,x::r,s,Q,hl,h=>by
  unfold drawOrder;refine yca (znnb (by simp) λi d hi=>?_);rw[yqa hi];dsimp only;refine yca (zylb n _ _ _ (by rw[ywk hi];omega) λys d2 hp=>?_);exact yka (h _ d2 ((ycm.cons _ hp).trans (pull hi)))
theorem zwfb {it a:Addr}{f:Value}{i n ep:Nat}{Q:Value->Shared->Prop}(hit:zmdb s.heap it a f i n ep)(h:Q (.ref it) s):wpAny (model prog w) A (pyIter (.ref it)) Q E s:=by
 refine wpAny_pyIter_slot hit.typeIs zzob (yye zzob hit.typeIs zyyb ?_ (zjzb _));show wpAny _ _ (ret (Value.ref it)) _ _ s
 exact yka ⟨_,rfl,"set_iterator",_,hit.typeIs,zibb.lookup,h⟩
theorem zqhb (hh:A.handled=none){it a tp:Addr}(h1:a≠it)(h2:tp≠it)(es:Array (Int×Value))(ep:Nat)(t:ydg)(js:List Nat)(hl:js.length=es.size)(hj:∀j∈js,j<es.size) :
  Walks prog w A it [it,a,tp] [it] es.size (λi v=>∃j e,js[i]?=some j∧es[j]?=some e∧v=e.2) (λi h=>zmdb h it a (.ref tp) i es.size ep∧SObj h a es ep t∧IsTup h tp (js.map λ(j:Nat)=>rawInt j).toArray) where
 sub:=λb hb=>by
  have e:b=it:=by simpa using hb
  rw[e];exact ypa
 frame:=λi h h' st k=>⟨k it (by simp) _ st.1,st.2.1.keep λo e=>k a (by simp) o e,let ⟨o,e,r⟩:=st.2.2;⟨o,k tp (by simp) o e,r⟩⟩
 item:=λi s Q E hi st hQ=>by
  have hi':i<js.length:=by omega
  have ej:js[i]?=some js[i]:=yqa hi';have hlt:js[i]<es.size:=hj _ (ypq hi');have ee:es[js[i]]?=some es[js[i]]:=ywd hlt;refine zbnb (j:=js[i]) (tk:=0) (e:=es[js[i]]) st.1 st.2.1 rfl st.2.2 ?_ ee λh' g sb=>?_
  ·rw[ysj,yhb,ej];rfl
  ·exact hQ _ h' s.toks ⟨_,_,ej,ee,rfl⟩ ⟨g,st.2.1.keep λo e=>(sb.2 a h1).trans e,let ⟨o,e,r⟩:=st.2.2;⟨o,(sb.2 tp h2).trans e,r⟩⟩ λb o hb e=>(sb.2 b λz=>hb (by rw[z];exact ypa)).trans e
 done:=λs Q E st hQ=>by
  refine zqqb hh st.1 st.2.1 rfl st.2.2 ?_ λh' k=>hQ h' s.toks λb o hb e=>k b o (λz=>hb (by rw[z];exact ypa)) e;rw[ysj,yhb,yfg (by omega)];rfl
 self:=λi s Q E st h=>zwfb st.1 h
theorem zxdb (hh:A.handled=none){it a:Addr}(h1:a≠it)(es:Array (Int×Value))(ep:Nat)(t:ydg)(ord:List Value)(R:Nat->Nat->Prop)
  (hs:∀(A:Around) (E:Value->Shared->Prop) (i slot:Nat) (s:Shared) (Q:Option (Value×Nat)->Shared->Prop),i<es.size->R slot i->SObj s.heap a es ep t->(∀x nx,ord[i]?=some x->R nx (i+1)->Q (some (x,nx)) s)->wpAny (model prog w) A (ysn a slot i ep) Q E s)
  (he:∀(A:Around) (E:Value->Shared->Prop) (slot:Nat) (s:Shared) (Q:Option (Value×Nat)->Shared->Prop),R slot es.size->SObj s.heap a es ep t->Q none s->wpAny (model prog w) A (ysn a slot es.size ep) Q E s) :
  Walks prog w A it [it,a] [it] es.size (λi v=>ord[i]?=some v) (λi h=>(∃slot:Nat,zmdb h it a (rawInt slot) i es.size ep∧R slot i)∧SObj h a es ep t) where
 sub:=λb hb=>by
  have e:b=it:=by simpa using hb
  rw[e];exact ypa
 frame:=λi h h' ⟨⟨slot,g,r⟩,so⟩ k=>⟨⟨slot,k it (by simp) _ g,r⟩,so.keep λo e=>k a (by simp) o e⟩
 item:=λi s Q E hi st hQ=>by
  obtain⟨⟨slot,g,r⟩,so⟩:=st;refine zicb g so rfl ?_;show wpAny _ _ (ysn a ((slot:Int).toNat) i ep >>= _) _ _ _
  rw[yac];refine yca (hs _ _ i slot s _ hi r so λx nx hx r'=>?_);dsimp only;refine yca (yeg g (by simp) λh2 g2 sb2=>?_);refine yca (yeg g2 (by simp) λh3 g3 sb3=>?_);have sb:∀b,b≠it->h3.get? b=s.heap.get? b:=λb nb=>(sb3.2 b nb).trans (sb2.2 b nb);refine yka ⟨_,rfl,yka (hQ _ h3 s.toks hx ⟨⟨nx,g3,r'⟩,so.keep λo e=>(sb a h1).trans e⟩ λb o hb e=>(sb b λz=>hb (by rw[z];exact ypa)).trans e)⟩
 done:=λs Q E st hQ=>by
  obtain⟨⟨slot,g,r⟩,so⟩:=st;refine zicb g so rfl ?_;show wpAny _ _ (ysn a ((slot:Int).toNat) es.size ep >>= _) _ _ _
  rw[yac];refine yca (he _ _ slot s _ r so ?_);dsimp only;refine yca (yeg g (by simp) λh2 g2 sb2=>?_);refine zdeb hh λh' k=>hQ h' s.toks λb o hb e=>k b o ?_;exact (sb2.2 b λz=>hb (by rw[z];exact ypa)).trans e
 self:=λi s Q E ⟨⟨slot,g,_⟩,_⟩ h=>zwfb g h
end
end SSet
namespace SSet
open PySem PySem.Spec PyProof.Rows
theorem zlr {α:Type}{vs ord:List α}(hl:vs.length=ord.length)(h:∀(i:Nat) v,vs[i]?=some v->ord[i]?=some v):vs=ord:=by
 refine List.ext_getElem? λi=>?_
 by_cases hi:i<vs.length
 ·rw[yqa hi];exact (h i _ (yqa hi)).symm
 ·rw[yfg (by omega),yfg (by omega)]
section
variable {prog:ybc}{w:World}{A:Around}{E:Value->Shared->Prop}{s:Shared}
theorem zvcb {es:List (Int×Value)}{D:List Str}{vs:List Value}(hel:ywp (yjd prog w) es)(hp:(es.map λe=>strOf e.2).Perm D)(hv:vs.Perm (es.map (·.2))):∃ys,ymm vs ys∧ys.Perm D:=by
 refine⟨vs.map strOf,strsAre_map vs λv hm=>?_,?_⟩
 ·obtain⟨e,he,rfl⟩:=ysb.mp (hv.mem_iff.mp hm);obtain⟨x,t,e1,_⟩:=zsvb hel he;exact⟨x,t,e1⟩
 ·refine (hv.map strOf).trans ?_;rw[yud];exact hp
theorem zlnb {es:Array (Int×Value)}{js:List Nat}(hj:js.Perm (ypc es.size)){vs:List Value}(hl:vs.length=es.size)(h:∀(i:Nat) v,vs[i]?=some v->∃j e,js[i]?=some j∧es[j]?=some e∧v=e.2):vs.Perm (es.toList.map (·.2)):=by
 have ev:vs=js.map λj=>(es.toList.getD j (0,.none)).2:=by
  refine zlr (by rw[yaa,hj.length_eq,ylc,hl]) λi v hv=>?_;obtain⟨j,e,h1,h2,rfl⟩:=h i v hv;rw[yhb,h1];show some (es.toList.getD j (0,.none)).2=some e.2
  rw[ycc,yad,h2];rfl
 rw[ev];refine (hj.map _).trans (ycm.of_eq ?_);refine zlr (by simp) λi v hv=>?_;rw[yhb] at hv
 by_cases hi:i<es.size
 ·rw[yfi hi] at hv;have hv':(es.toList.getD i (0,.none)).2=v:=yub hv;rw[yhb,← hv',ycc,yqa (by simpa using hi)];rfl
 ·rw[yfg (by simp;omega)] at hv;cases hv
theorem zrtb {a:Addr}{D:List Str}{Q:Value->Shared->Prop}(hh:A.handled=none)(hS:SS prog w s.heap a D (!w.params.followText "set-order"))
  (h:∀(h':Heap) (d':Drawn) (I:Addr) (n:Nat) (fp:List Addr) (P:Nat->Value->Prop) (St:Nat->Heap->Prop),(∀b o,s.heap.get? b=some o->h'.get? b=some o)->s.heap.objs.size≤I->(∀b∈fp,b=a∨s.heap.objs.size≤b) →
   Walks prog w A I fp [I] n P St->St 0 h'->n=D.length->(∀vs:List Value,vs.length=n->(∀(i:Nat) v,vs[i]?=some v->P i v)->∃ys,ymm vs ys∧ys.Perm D)->Q (.ref I) { s with heap:=h',drawn:=d' }) :
  wpAny (model prog w) A (pyIter (.ref a)) Q E s:=by
 obtain⟨o,es,ep,t,ho,hex,hd,hel,hp,hb,hf,hl,hpl⟩:=hS;have hT:s.TypeIs (.ref a) "set":=⟨o,ho,hex.1⟩;have so:SObj s.heap a es ep t:=⟨o,ho,hex.1,hd,hf⟩;have hz:es.size=D.length:=by rw[← hp.length_eq,yaa,ywb]
 have alt:a<s.heap.objs.size:=yoa ho;refine wpAny_pyIter_slot hT ytn (yye ytn hT zazb ?_ (PySem.F.args_set_iter_1 _));unfold ywe.«frozenset.__iter__»;refine yca (m:=ywe.Frozenset.slot0 "__iter__" _) (yka ?_);refine yca (m:=ywe.Frozenset.sizeOf a) (yca (wpAny_setEntries_of ho hd hf (yka ?_)));refine yca (m:=setDrawn a) (yca (yif ho hd hf (yca (m:=ybo) (yca (ybi (yka (yka ?_)))))));dsimp only;have jp:∀{first:Value} {h1:Heap} {d1:Drawn},SObj h1 a es ep t->Q (.ref h1.objs.size) { s with heap:=h1.push { cls:=.type "set_iterator",dict:=none,data:=.fields #[first,rawInt (0:Nat),.ref a,rawInt es.size,rawInt ep],slots:=#[] },drawn:=d1 } →
   wpAny (model prog w) A.in1 (do
    let e ← setEpoch a
    let v ← newFields "set_iterator" [first,rawInt 0,Value.ref a,rawInt es.size,rawInt e]
    ret v) (λfin s'=>∃v,fin=Fin.done (Flow.ret v)∧∃T' r,s'.TypeIs v T'∧typeLookup (Value.type T') (yrj "__next__")=pure (some r)∧Q v s') E { s with heap:=h1,drawn:=d1 }:=by
  intro first h1 d1 ⟨o1,e1,e2,e3,e4⟩ q
  refine yca (m:=setEpoch a) (yca (yif e1 e3 e4 (yka ?_)));refine yca (m:=newFields _ _) (ygd (yka ⟨_,rfl,"set_iterator",_,⟨_,ysa _ rfl,rfl⟩,zibb.lookup,?_⟩));exact q
 split
 ·rename_i hc;have hc':(!w.params.followText "set-order" && (!t.plain&&decide (es.size>1)))=true:=hc;refine yca (zylb es.size (ypc es.size) s _ (by simp) λjs d1 pj=>?_);refine yca (wpAny_newTuple ?_ (by rw[yaa,pj.length_eq,ylc];exact yam hb));have jl:js.length=es.size:=by rw[pj.length_eq,ylc]
  have jm:∀j∈js,j<es.size:=λj hj=>yjo.mp (pj.mem_iff.mp hj);refine jp (so.keep λo e=>yea _ e) ?_;have sz:(s.heap.push { cls:=.type "tuple",data:=.seq (js.map λ(j:Nat)=>rawInt j).toArray }).objs.size=s.heap.objs.size+1:=yvd _ _;refine h _ d1 _ es.size _ _ _ (λb o e=>yea _ (yea _ e)) (by rw[sz];exact yzg _) ?_ (zqhb (a:=a) (tp:=s.heap.objs.size) hh ?_ ?_ es ep t js jl jm) ⟨?_,?_,?_⟩ hz λvs hv hP=>zvcb hel hp (zlnb pj hv hP)
  ·intro b hb';rw[sz] at hb'
   rcases yia.mp hb' with z|z
   ·exact .inr (by rw[z];exact yzg _)
   ·rcases yia.mp z with z|z
    ·exact .inl z
    ·exact .inr (by rw[yda.mp z];exact yja _)
  ·rw[sz];exact ydb (ynd alt)
  ·rw[sz];exact ydb (yhe _)
  ·exact ysa _ rfl
  ·exact so.keep λo e=>yea _ (yea _ e)
  ·exact⟨_,yea _ (ysa _ rfl),rfl,_,rfl⟩
 ·rename_i hc;have hc':¬ (!w.params.followText "set-order" && (!t.plain&&decide (es.size>1)))=true:=hc;refine yca (yka (jp (h1:=s.heap) (d1:=s.drawn) so ?_));have fpk:∀b∈[s.heap.objs.size,a],b=a∨s.heap.objs.size≤b:=λb hb'=>by
   rcases yia.mp hb' with z|z
   ·exact .inr (by rw[z];exact yja _)
   ·exact .inl (yda.mp z)
  have ne:a≠s.heap.objs.size:=ydb alt;cases ft:w.params.followText "set-order" with
  | true =>
   have bt:∀{A':Around} {E':Value->Shared->Prop} {s':Shared} {Q':Bool->Shared->Prop},Q' true s'->wpAny (model prog w) A' ybo Q' E' s':=λ{A' E' s' Q'} q=>by
    unfold ybo;refine yca (ybi (yka ?_));show Q' (w.params.followText "set-order") s'
    rw[ft];exact q
   have stp:∀(A:Around) (E:Value->Shared->Prop) (i slot:Nat) (s:Shared) (Q:Option (Value×Nat)->Shared->Prop),SObj s.heap a es ep t->Q (((ylk (w.params.setOrder a ep) es)[i]?).map λe=>(e.2,slot)) s->wpAny (model prog w) A (ysn a slot i ep) Q E s:=by
    intro A E i slot s Q ⟨o1,e1,e2,e3,e4⟩ q;unfold ysn;refine yca (yif e1 e3 e4 ?_);dsimp only;refine yca (bt ?_);rw[if_pos rfl,if_neg (by simp)];unfold setWalk;refine yca (yca (yif e1 e3 e4 (yca (bt ?_))));rw[if_pos rfl];exact yca (ybi (yka (yka q)))
   have po:=zppb (w.params.setOrder a ep) es;have pz:(ylk (w.params.setOrder a ep) es).size=es.size:=(by rw[← ywb,po.length_eq,ywb]);refine h _ s.drawn _ es.size _ _ _ (λb o e=>yea _ e) (yja _) fpk (zxdb (a:=a) hh ne es ep t ((ylk (w.params.setOrder a ep) es).toList.map (·.2)) (λslot _=>slot=0) ?_ ?_) ⟨⟨0,ysa _ rfl,rfl⟩,so.keep λo e=>yea _ e⟩ hz λvs hv hP=>?_
   ·intro A E i slot s Q hi r so' q;have e1:(ylk (w.params.setOrder a ep) es)[i]?=some (ylk (w.params.setOrder a ep) es)[i]:=ywd (by omega);refine stp A E i slot s Q so' ?_;rw[e1];exact q _ _ (by rw[yhb,yad,e1];rfl) r
   ·intro A E slot s Q r so' q;refine stp A E _ slot s Q so' ?_;rw[yej (by omega)];exact q
   ·refine zvcb hel hp ?_;have e1:vs=(ylk (w.params.setOrder a ep) es).toList.map (·.2):=zlr (by rw[hv,yaa,ywb,pz]) hP;rw[e1];exact po.map _
  | false =>
   rw[ft] at hc' hl;have sm:es.size≤1:=by
    rcases hpl with z|z
    ·omega
    ·rw[z] at hc';simp at hc';exact hc'
   have bt:∀{A':Around} {E':Value->Shared->Prop} {s':Shared} {Q':Bool->Shared->Prop},Q' false s'->wpAny (model prog w) A' ybo Q' E' s':=λ{A' E' s' Q'} q=>by
    unfold ybo;refine yca (ybi (yka ?_));show Q' (w.params.followText "set-order") s'
    rw[ft];exact q
   have stp:∀(A:Around) (E:Value->Shared->Prop) (i slot:Nat) (s:Shared) (Q:Option (Value×Nat)->Shared->Prop),SObj s.heap a es ep t->Q (match es[ygh t.place slot]?,t.place[ygh t.place slot]? with|some (_,x),some j=>some (x,j+1)|_,_=>none) s->wpAny (model prog w) A (ysn a slot i ep) Q E s:=by
    intro A E i slot s Q ⟨o1,e1,e2,e3,e4⟩ q;unfold ysn;refine yca (yif e1 e3 e4 ?_);dsimp only;refine yca (bt ?_);rw[if_neg (by simp)];have nd:¬ (!t.plain&&decide (es.size>1))=true:=by
     rw[decide_eq_false (by omega),ykl];exact ylb
    refine yoh (λz=>absurd z nd) (λ_=>?_);have nl:¬ (!t.led && !es.isEmpty)=true:=by
     rw[hl];simp
    refine yca (yoh (λz=>absurd z nl) (λ_=>yka ?_));exact yka q
   have ps:t.place.size=es.size:=by
    have z:=hf;unfold ydg.fits at z;simp at z;exact z.1
   refine h _ s.drawn _ es.size _ _ _ (λb o e=>yea _ e) (yja _) fpk (zxdb (a:=a) hh ne es ep t (es.toList.map (·.2)) (λslot i=>(i=0∧slot=0)∨(i=1∧∃j,t.place=#[j]∧slot=j+1)) ?_ ?_) ⟨⟨0,ysa _ rfl,.inl ⟨rfl,rfl⟩⟩,so.keep λo e=>yea _ e⟩ hz λvs hv hP=>?_
   ·intro A E i slot s Q hi r so' q;have i0:i=0:=(by omega);subst i0;have s0:slot=0:=by
     rcases r with⟨_,z⟩|⟨z,_⟩
     ·exact z
     ·cases z
    subst s0;obtain⟨j,ej⟩:∃j,t.place=#[j]:=by
     rcases Array.size_eq_one_iff.mp (show t.place.size=1 by omega) with⟨j,z⟩
     exact⟨j,z⟩
    have e1:es[0]?=some es[0]:=ywd hi;refine stp A E 0 0 s Q so' ?_;have bl:ygh t.place 0=0:=by
     rw[ej];simp[ygh,yzp]
    rw[bl,e1,ej];exact q _ _ (by rw[yhb,yad,e1];rfl) (.inr ⟨rfl,j,ej,rfl⟩)
   ·intro A E slot s Q r so' q;refine stp A E _ slot s Q so' ?_;have en:es[ygh t.place slot]?=none:=by
     rcases r with⟨z,y⟩|⟨z,j,ej,y⟩
     ·exact yej (by omega)
     ·have bl:ygh t.place slot=1:=by
       rw[ej,y];simp[ygh,yzp]
      rw[bl];exact yej (by omega)
    rw[en];exact q
   ·refine zvcb hel hp ?_;have e1:vs=es.toList.map (·.2):=zlr (by rw[hv,yaa,ywb]) hP;rw[e1]
end
end SSet
namespace SSet
open PySem PySem.Spec PyProof.Rows PySem.W
section
variable {prog:ybc}{w:World}{A:Around}{E:Value->Shared->Prop}{s:Shared}
theorem zutb {r:Addr}{Q:Bool->Shared->Prop}(ty:s.TypeIs (.ref r) "set")(q:Q false s):wpAny (model prog w) A (ymk (.ref r)) Q E s:=by
 unfold ymk;refine yca (wpAny_specialOf ty PySem.F.slot_set_len.lookup ?_);generalize hx:("set.__len__":String)=nm
 wp_delta
 rw[show splitId nm=some ("set","__len__") from by subst hx;decide +kernel];subst hx;refine yca (yaf (b:=true) (T:="set") ty (by rw[ylo];kernel_rfl) ?_);refine yoh (λz=>absurd z (by decide)) (λ_=>?_);refine yoh (λ_=>?_) (λz=>absurd (by decide +kernel) z);exact yca (ybl ty (yka q))
theorem zyib {a:Addr}{D:List Str}{R:List Value->Shared->Prop}(hh:A.handled=none)(hS:SS prog w s.heap a D (!w.params.followText "set-order"))
  (h:∀(h':Heap) (d':Drawn) (tk:Nat) (vs:List Value) (ys:List Str),(∀b o,s.heap.get? b=some o->h'.get? b=some o)->s.heap.objs.size<h'.objs.size->ymm vs ys->ys.Perm D->R vs { s with heap:=h',drawn:=d',toks:=tk }) :
  wpAny (model prog w) A (collect (.ref a)) R E s:=by
 obtain⟨oA,hoA⟩:∃o,s.heap.get? a=some o:=let ⟨o,_,_,_,e,_⟩:=hS;⟨o,e⟩;have alt:a<s.heap.objs.size:=yoa hoA;have dz:D.length≤yxa:=by
  obtain⟨o,es,ep,t,_,_,_,_,hp,hb,_⟩:=hS;rw[← hp.length_eq,yaa,ywb];exact yam hb
 have nSa:s.heap.objs.size≠a:=yji alt;unfold collect;refine yca (wpAny_runValue (yqe entry_proto_collect' ?_));rw[yge PySem.F.plain_proto_collect _];show wpAny _ A.in1 (newList [] >>= λl=>again (.builtin "list.__iadd__" ⟨[l,.ref a],[]⟩)) _ _ s
 refine yca (ygd (yka ⟨ydh ynm _,yqe entry_list_iadd' ?_⟩));rw[yge ynm _];show wpAny _ A.in1 (ynk (.ref s.heap.objs.size) (.ref a) (.ref s.heap.objs.size)) _ _ _
 unfold ynk;have S1:SS prog w (s.heap.push { cls:=.type "list",data:=.seq ([]:List Value).toArray }) a D (!w.params.followText "set-order"):=hS.keep λo e=>yea _ e;have g1:(s.heap.push { cls:=.type "list",data:=.seq ([]:List Value).toArray }).get? s.heap.objs.size=some { cls:=.type "list",dict:=none,data:=.seq #[] 0,slots:=#[] }:=ysa _ rfl;have k1:∀b o,s.heap.get? b=some o->(s.heap.push { cls:=.type "list",data:=.seq ([]:List Value).toArray }).get? b=some o:=λb o e=>yea _ e;generalize s.heap.push { cls:=.type "list",data:=.seq ([]:List Value).toArray }=h1 at S1 g1 k1 ⊢;have ty1:yck { s with heap:=h1 } (.ref a) "set":=by
  obtain⟨o,es,ep,t,ho,hex,_⟩:=S1;exact⟨o,ho,hex.1⟩
 refine yca (ybl (T:="set") ty1 ?_);have ns:yem (.ref s.heap.objs.size) (.ref a)=false:=by simp[yem,nSa]
 simp only[ns,show (Value.type "set" == Value.type "list")=false by decide,show (Value.type "set" == Value.type "tuple")=false by decide,yyo,yqd,if_false];refine yca (zrtb (s:={ s with heap:=h1 }) (A:=A.in1) hh S1 λh2 d2 I n fp P St k2 hI hfp W st hn hv=>?_);have ty2:yck { s with heap:=h2,drawn:=d2 } (.ref a) "set":=by
  obtain⟨o,e,c⟩:=ty1;exact⟨o,k2 _ _ e,c⟩
 have slt:s.heap.objs.size<h1.objs.size:=yoa g1;have nf:s.heap.objs.size∉fp:=λz=>by
  rcases hfp _ z with z|z
  ·exact nSa z
  ·exact absurd (yra slt z) (yqc _)
 have key:∀(R':Result->Shared->Prop) (h3:Heap) (c:Nat),St 0 h3->(∀b o,b≠s.heap.objs.size->h2.get? b=some o->h3.get? b=some o)->h3.get? s.heap.objs.size=some { cls:=.type "list",dict:=none,data:=.seq #[] c,slots:=#[] } →
   (∀(h4:Heap) (tk:Nat) (vs:List Value) (ys:List Str) (c':Nat),(∀b o,s.heap.get? b=some o->h4.get? b=some o)->ymm vs ys->ys.Perm D->h4.get? s.heap.objs.size=some { cls:=.type "list",dict:=none,data:=.seq vs.toArray c',slots:=#[] }->R' (.ok (.ret (.ref s.heap.objs.size))) { s with heap:=h4,drawn:=d2,toks:=tk }) →
   yvh (model prog w) A (.builtin "list.extend.loop" ⟨[.ref s.heap.objs.size,.ref I,.ref s.heap.objs.size],[]⟩) R' { s with heap:=h3,drawn:=d2 }:=by
  intro R' h3 c st3 k3 g3 hR;refine codeAny_extend_loopS W.toS (by omega) s.heap.objs.size nf _ n 0 _ #[] c rfl (yrb _) st3 g3 (ItemsOf.nil _) λs' acc c' mv g' ia=>?_;rw[Moved.eq_with mv];obtain⟨ys,sy,py⟩:=hv acc.toList (by rw[ywb];exact ia.1) λi v e=>ia.2 i v (by rw[← yad];exact e);refine hR s'.heap s'.toks acc.toList ys c' (λb o e=>?_) sy py (by rw[ymg];exact g');have nb:b≠s.heap.objs.size:=ydb (yoa e);refine mv.heap b o (λz=>?_) (k3 b o nb (k2 b o (k1 b o e)))
  rcases yia.mp z with z|z
  ·exact nb z
  ·have bi:b=I:=yda.mp z;have:=yoa (k1 b o e);rw[bi] at this;exact absurd (yra this hI) (yqc _)
 have g2:=k2 _ _ g1;have fin:∀(h4:Heap) (tk:Nat) (vs:List Value) (ys:List Str) (c':Nat),(∀b o,s.heap.get? b=some o->h4.get? b=some o)->ymm vs ys->ys.Perm D->h4.get? s.heap.objs.size=some { cls:=.type "list",dict:=none,data:=.seq vs.toArray c',slots:=#[] } →
   wpAny (model prog w) A (load s.heap.objs.size >>= λo=>match o.data with
    | .seq xs _=>pure xs.toList
    | _=>unsupported "internal:collect") R E { s with heap:=h4,drawn:=d2,toks:=tk }:=λh4 tk vs ys c' k4 sy py g4=>by
  refine yca (ykp g4 ?_);show wpAny _ _ (pure vs.toArray.toList) _ _ _
  exact yka (h h4 d2 tk vs ys k4 (yoa g4) sy py)
 refine yca (yyc (zutb ty2 ?_));refine yoh (λ_=>?_) (λ_=>yka ⟨ydh ynl _,key _ h2 0 st (λb o _ e=>e) g2 fin⟩);refine yca (yxp (yca ?_));show wpAny _ _ (updateSeq s.heap.objs.size (·.push .none) >>= λ_=>updateSeq s.heap.objs.size (·.pop)) _ _ _
 refine yca (yok g2 rfl ?_);have g3:=ysd (yvf (·.push Value.none)) g2 rfl;refine yok (hz:=by seq_fits) g3 rfl ?_;have g4:=ysd (yvf (·.pop)) g3 rfl;refine yka ⟨ydh ynl _,key _ _ _ ?_ (λb o nb e=>?_) g4 fin⟩
 ·refine W.frame 0 _ _ st λb hb o e=>?_;have nb:s.heap.objs.size≠b:=λz=>nf (z▸hb);exact (yoc _ _ nb).trans ((yoc _ _ nb).trans e)
 ·exact (yoc _ _ (yvc nb)).trans ((yoc _ _ (yvc nb)).trans e)
theorem zrmb {a:Addr}{D:List Str}{Q:Value->Shared->Prop}(hh:A.handled=none)(hS:SS prog w s.heap a D (!w.params.followText "set-order"))(h64:D.length<64)
  (h:∀(h':Heap) (d':Drawn) (tk:Nat) (p:Addr) (vs:List Value) (ys:List Str) (n:Nat),(∀b o,s.heap.get? b=some o->h'.get? b=some o)->s.heap.objs.size≤p->h'.get? p=some { cls:=.type "list",data:=.seq vs.toArray n }->ymm vs ys->ys.Perm D->yom ys=true →
   Q (.ref p) { s with heap:=h',drawn:=d',toks:=tk }):wpAny (model prog w) A (call (.builtin "sorted") [.ref a]) Q E s:=by
 refine Calls.call_function_entry kind_sorted plain_sorted entry_sorted (args_sorted1 _) ?_;unfold ywe.«sorted»;refine yca (m:=checkCount "sorted" 1 1 _) (yka (yca (zyib (A:=A.in1) hh hS λh1 d1 tk vs ys k1 lt1 sy py=>?_)));have vl:vs.length<64:=by rw[sy.length,py.length_eq];exact h64
 refine yca (wpAny_newList ?_ (yab (ywg vl) (by decide)));have g1:(h1.push (seqObj "list" vs.toArray 0)).get? h1.objs.size=some (seqObj "list" vs.toArray 0):=ysa _ rfl;refine yca (yyc (yye slot_list_sort ⟨_,g1,rfl⟩ entry_list_sort (list_sort_treeK strKind_oneLt g1 sy.keysOf (λv1 v2 rest e=>keyKind_strs (by rw[← e];exact sy)) vl λst' a1 a2=>⟨_,rfl,?_⟩) (args_list_sort _)));obtain⟨zs,z1,z2,z3⟩:=sorted_out_str sy a1 a2;obtain⟨e,he⟩:=sortedHeap_at (vs:=vs) (out:=(arrOf st').map (·.2)) g1;refine yka ⟨_,rfl,h _ d1 tk h1.objs.size ((arrOf st').map (·.2)).toList zs e (λb o q=>?_) (ywg lt1) ?_ z1 (z2.trans py) z3⟩
 ·have q1:=k1 b o q;have bl:=yoa q1;rw[sortedHeap_old (ydb bl) (by rw[size_push'];exact ynd bl)];exact yea _ q1
 ·rw[ymg];exact he
end
end SSet
namespace L2
open PySem PySem.Spec PyProof.Rows
theorem strs_vals':∀{vs:List Value} {ys:List Str},ymm vs ys->Vals (ys.map V.str) vs
 | _,_,.nil=>.nil
 | _,_,.cons x t r=>.cons ⟨t,rfl⟩ (strs_vals' r)
def setO (X:Cx)(l:Addr)(D:List Str):HO:=.ext λh=>SSet.SS X.prog X.w h l D (!X.w.params.followText "set-order")
section
variable {X:Cx}
theorem Inv.zlxb {pins:List (Addr×Obj)}{σ:St}{H:Hp}{s:Shared}(I:Inv X pins σ H s)(d:Drawn):Inv X pins σ H { s with drawn:=d } :=
 I.call (h':=s.heap) (g':=s.gens) (d':=d) (t':=s.toks) (ch:=[]) (Un.kept λb o e=>e) I.hok I.bare (λb z=>absurd z (by simp))
theorem zbdb (hc:X.calm=true):zqh X (.type "set") (λxs H Q=>Ex2 λp ys=>xs=[.ref p]∧SqL X.K H p (ys.map V.str)∧ys.length≤1000∧∀l,H l=none->Q (.ref l) (upd H l (setO X l (SSet.dd ys)))):=by
 intro pins s σ H xs us Q I r h;obtain⟨p,ys,rfl,hq,hy,q⟩:=h;obtain⟨u,rfl,ru⟩:=vals1 r;cases ru;obtain⟨its,rv,pl,hz⟩:=I.list hq;have sy:=zin rv;have il:its.length=ys.length:=sy.length;refine SSet.set_list (xs:=ys) (I.ok.hd hc) pl.isList (by simpa using sy) (by rw[yta,il];have:yzl=4096:=rfl;omega) λh' tk S k=>?_;have I1:Inv X pins σ (upd H s.heap.objs.size (setO X s.heap.objs.size (SSet.dd ys))) { s with heap:=h',toks:=tk }:=I.laid (t':=tk) (λb o e=>k b o e) (yja _) ⟨S,let ⟨o,_,_,_,e,_⟩:=S;⟨o,e⟩,λh1 h2 x y=>x.keep y⟩;exact⟨.ref s.heap.objs.size,_,I1,rfl,q _ (I.hok.fresh (yja _))⟩
theorem zvy (hc:X.calm=true):zqh X (.builtin "sorted") (λxs H Q=>Ex2 λl D=>xs=[.ref l]∧H l=some (setO X l D)∧D.length<64∧∀p ys,H p=none->ys.Perm D->yom ys=true->Q (.ref p) (upd H p (.lst (ys.map V.str)))):=by
 intro pins s σ H xs us Q I r h;obtain⟨l,D,rfl,hl,h64,q⟩:=h;obtain⟨u,rfl,ru⟩:=vals1 r;cases ru;obtain⟨S,_,_⟩:=I.hok l _ hl;refine SSet.zrmb (I.ok.hd hc) S h64 λh' d' tk p vs ys n k hp g sy py so=>?_;have I0:=I.zlxb d';have vl:vs.length≤yxa:=by
  rw[sy.length,py.length_eq];exact yab (ywg h64) (by decide)
 have I1:Inv X pins σ (upd H p (.lst (ys.map V.str))) { s with heap:=h',drawn:=d',toks:=tk }:=I0.laid (t':=tk) (λb o e=>k b o e) hp ⟨by rw[yaa,← sy.length];exact vl,vs,n,strs_vals' sy,g⟩;exact⟨.ref p,_,I1,rfl,q p ys (I.hok.fresh hp) py so⟩
end
end L2
namespace L2
open PySem PySem.Spec PyProof.Rows
theorem zdub {x:Str}:∀{v:Value},KTD.flatLooks (.str x) v=true->RelV (.str x) v
 | .str y t,h=>⟨t,by rw[show x=y from beq_iff_eq.mp h]⟩
theorem zzab:∀{ss:List Str} {vs:List Value},KTD.flatsLook (ss.map PyData.str) vs=true->Vals (ss.map V.str) vs
 | [],[],_=>.nil
 | x::ss,v::vs,h=>by
  rw[ygb] at h;have h':(KTD.flatLooks (.str x) v&&KTD.flatsLook (ss.map PyData.str) vs)=true:=h;rw[yjc] at h';exact .cons (zdub h'.1) (zzab h'.2)
def TupK (K:yba)(a:Addr)(ss:List Str):Prop:=ymi (λb=>K.lookup b) (.tup (ss.map PyData.str)) (.ref a)=true
theorem TupK.sq {K:yba}{a:Addr}{ss:List Str}(h:TupK K a ss)(hz:ss.length≤1000)(H:Hp):SqT K H a (ss.map V.str):=by
 unfold TupK ymi at h;simp only at h
 split at h
 ·rename_i o ho;rw[yjc] at h;obtain⟨e1,e2⟩:=h
  split at e2
  ·rename_i vs n hd;have V:=zzab e2;have hl:=V.length;refine .inr ⟨o,vs,n,ho,beq_iff_eq.mp e1,hd,?_,V⟩;rw[yaa] at hl;have:vs.size=ss.length:=by simpa using hl.symm
   rw[this];exact yab hz (by decide)
  ·cases e2
 ·cases h
theorem zotb {K:yba}{ss:List Str}:∀{v:Value},ymi (λb=>K.lookup b) (.tup (ss.map PyData.str)) v=true->∃b,v = .ref b∧TupK K b ss
 | .ref b,h=>⟨b,rfl,h⟩
section
variable {X:Cx}{a:Addr}{D:List (Str×yvp)}
abbrev TabK (K:yba)(a:Addr)(D:List (Str×yvp)):Prop:=ydr (ymi λb=>K.lookup b) (λb=>K.lookup b) a D=true
theorem zlyb {K:yba}(hK:X.K=K)(l:TabK K a D):IxR X (λx y H Q=>Ex2 λk ss=>x = .ref a∧y = .str k∧ylg k D=some (.tup (ss.map PyData.str))∧∀b,TupK K b ss->Q (.ref b) H):=by
 subst hK;intro value slice pins s σ H x y v u Q I rx ry h hs;obtain⟨k,ss,rfl,rfl,hat,q⟩:=h;cases rx;obtain⟨tk,rfl⟩:=ry;obtain⟨_,o,es,ep,ho,hc,hd,hr⟩:=KTD.tab_of_look (R:=λd v=>ymi (λb=>X.K.lookup b) d v=true) (λ_ _ z=>z) (h:=s.heap) (λb o z=>I.kIn b o z) l;obtain⟨z,hz,hl⟩:=hr.find_some hat
 obtain⟨b,rfl,hb⟩:=zotb hl;have ty:s.TypeIs (.ref a) "dict":=⟨o,ho,hc.1⟩;refine ydj (x:=.ref b) ty yug.lookup ?_ hs;unfold ykn
 try with_reducible refine yyc ?_
 refine yca (yij ty (by decide) ?_);refine yca (ycf (name:=yrj "__getitem__") ty yug
  (yye yug ty entry_dict_getitem ?_ (args_dict_getitem _ _)))
 have fin:∀k',EP X pins σ Q (.ref b) { s with toks:=k' }:=λk'=>⟨.ref b,H,I.tok _,rfl,q b hb⟩;have fnd:findBy (λk v=>v.isStr k) es k=some (.ref b):=by
  rw[← hz];obtain⟨l⟩:=es;simp[findBy]
 show wpAny _ _ (dictGet a (.str k tk) >>= _) _ _ s
 refine yca ?_;unfold dictGet
 try with_reducible refine yyc ?_
 refine yca (wpAny_pyHash_str (yca (KTD.kt_dictFind_strs (s:={ s with toks:=s.toks+1 }) ho hd (by obtain⟨l⟩:=es;simpa using hr.exact) ?_)));rw[findBy_of_findIdx?] at fnd;cases hi:es.findIdx? λe=>e.key.isStr k with
 | none=>rw[hi] at fnd;cases fnd
 | some i =>
  rw[hi] at fnd;refine yca (wpAny_dictEntries (s:={ s with toks:=s.toks+1 }) ho hd (yka ?_));rw[show es[i]?.map (·.val)=some (.ref b) from fnd];exact yka ⟨_,rfl,yka ⟨rfl,fin _⟩⟩
end
structure Isi (K:yba)(C:Addr):Prop where
 ha:ybb K (.ref C) "__class__" = some (some (.builtin "object.__class__"))
 hn:ygj K (.builtin "object.__class__") "__get__" = some (some (.builtin "getset_descriptor.__get__"))
 ht:yhn K (.builtin "object.__class__")=some true
 hm:yuo K C (.type "object")=some true
 oStr:yna K (.ref C) (.type "str")=some false
 oInt:yna K (.ref C) (.type "int")=some false
 oTup:yna K (.ref C) (.type "tuple")=some false
 oLst:yna K (.ref C) (.type "list")=some false
 sO:yna K (.type "str") (.ref C)=some false
 iO:yna K (.type "int") (.ref C)=some false
theorem Isi.self {K:yba}{C:Addr}(h:Isi K C):yna K (.ref C) (.ref C)=some true:=by
 unfold yna;rw[if_pos (by simp)]
theorem Isi.ty {K:yba}{C a dx:Addr}{fs:List (Str×V)}{H:Hp}(h:Isi K C)(cl:Cls K C)(e:H a=some (.ins C dx fs)):TyOf K H (.ref a) (.ref C):=.ins e cl h.ha h.hn h.ht h.hm
end L2
namespace L2
open PySem PySem.Spec PyProof.Rows
section
variable {X:Cx}
theorem zqlb:MtR X "str.join" (λx xs H Q=>Ex3 λsep a ys=>x = .str sep∧xs=[.ref a]∧SqT X.K H a (ys.map V.str)∧(ys.map (·.length)).sum+ys.length*sep.length≤16777216∧Q (.str (yfa sep ys)) H):=by
 intro pins s σ H x xs v us Q I rx rs h;obtain⟨sep,a,ys,rfl,rfl,hq,hz,q⟩:=h;obtain⟨t,rfl⟩:=rx;obtain⟨u,rfl,ru⟩:=vals1 rs;cases ru;obtain⟨its,rv,p,_⟩:=I.tuple hq;refine join_tuple (items:=its.toArray) (ys:=ys) p (by simpa using zin rv) hz λt' k=>⟨.str _,H,I.tok k,⟨t',rfl⟩,?_⟩;have e:Txt.join sep ys=yfa sep ys:=by first|rfl|exact ypn sep ys
 rw[e];exact q
theorem ztv:zqh X (.builtin "sorted") (λxs H Q=>Ex2 λl zs=>xs=[.ref l]∧SqL X.K H l (zs.map V.str)∧zs.length<64∧∀p ys,H p=none->ys.Perm zs->yom ys=true->Q (.ref p) (upd H p (.lst (ys.map V.str)))):=by
 intro pins s σ H xs us Q I r h;obtain⟨l,zs,rfl,hl,h64,q⟩:=h;obtain⟨u,rfl,ru⟩:=vals1 r;cases ru;obtain⟨its,rv,pl,_⟩:=I.list hl;have sy:=zin rv;refine sorted_strs (vs:=its) (ss:=zs) pl.isList sy (by rw[sy.length];exact h64) λout ys a1 a2 a3=>?_;obtain⟨e,he⟩:=sortedAll_at s.heap its out;have vl:out.toList.length≤yxa:=by
  rw[a1.length,a2.length_eq];exact yab (ywg h64) (by decide)
 have I1:Inv X pins σ (upd H (s.heap.objs.size+1) (.lst (ys.map V.str))) { s with heap:=sortedAll s.heap its out }:=I.laid (t':=s.toks) (λb o e=>sortedAll_old e) (yzg _) ⟨by rw[yaa,← a1.length];exact vl,out.toList,e,strs_vals' a1,by rw[ymg];exact he⟩;exact⟨.ref (s.heap.objs.size+1),_,I1,rfl,q _ ys (I.hok.fresh (yzg _)) a2 a3⟩
end
end L2
namespace TSort
open PySem PyProof.Rows
abbrev IL:=List Int
section keys
variable (k:Value->IL)
def ka (xs:Array Keyed)(i:Nat):IL:=((xs[i]?).map λp=>k p.1).getD []
def Up (xs:Array Keyed)(n:Nat):Prop:=∀i j,i<j->j<n->ka k xs i<ka k xs j
def Dn (xs:Array Keyed)(n:Nat):Prop:=∀i j,i<j->j<n->ka k xs j<ka k xs i
variable {k}
end keys
structure Ok (a0:Array Keyed)(kd:SortKind)(st:SortSt):Prop where
 perm:(arrOf st).Perm a0
 kind:kindOf st=kd
 none:failedOf st=none
 pend:pendingOf st=#[]
section
variable {pr:ybc}{wo:World}{Ar:Around}{Ex:Value->Shared->Prop}{sh:Shared}{k:Value->IL}{a0:Array Keyed}{kd:SortKind}
structure Cmp (pr:ybc)(wo:World)(Ar:Around)(Ex:Value->Shared->Prop)(sh:Shared)(k:Value->IL)(a0:Array Keyed)(kd:SortKind):Prop where
 lt:∀(x y:Keyed) (st:SortSt) (R:Option Bool->SortSt->Prop),kindOf st=kd->x∈a0.toList->y∈a0.toList->k x.1≠k y.1->R (some (decide (k x.1<k y.1))) st->wpS (model pr wo) Ar Ex sh (lt' x y) R st
 un:(a0.toList.map λp=>k p.1).Nodup
end
end TSort
namespace TSort
open PySem PyProof.Rows
section
variable {pr:ybc}{wo:World}{Ar:Around}{Ex:Value->Shared->Prop}{sh:Shared}{k:Value->IL}{a0:Array Keyed}{kd:SortKind}
structure Fin (k:Value->IL)(a0:Array Keyed)(st:SortSt):Prop where
 perm:(arrOf st).Perm a0
 none:failedOf st=none
 pend:pendingOf st=#[(0,a0.size,0)]
 up:Up k (arrOf st) a0.size
end
end TSort
namespace TSort
open PySem PyProof.Rows
def kf (f:Addr->IL):Value->IL
 | .ref a=>f a
 | _=>[]
section
variable {pr:ybc}{wo:World}{Ar:Around}{Ex:Value->Shared->Prop}{sh:Shared}
end
end TSort
namespace TSort
open PySem PyProof.Rows
section
variable {pr:ybc}{wo:World}{Ar:Around}{Ex:Value->Shared->Prop}{sh:Shared}
end
end TSort
namespace L2
open PySem PyProof.Rows
section
variable {X:Cx}
end
end L2
namespace L2
open PySem PyProof.Rows
section
variable {pr:ybc}{wo:World}{Ar:Around}{Ex:Value->Shared->Prop}
theorem zxlb {it b:Addr}{vs:Array Value}(ne:b≠it):∀(n i:Nat) (sh:Shared) (R:List Value->Shared->Prop),sh.heap.IsListIter it b i->sh.heap.IsList b vs->i+n≤vs.size →
  (∀h2,h2.IsListIter it b (i+n)->yzf it sh.heap h2->R ((vs.toList.drop i).take n) { sh with heap:=h2 })->wpAny (model pr wo) Ar (draw (.ref it) n) R Ex sh
 | 0,i,sh,R,h1,_,_,k=>by
  refine (show wpAny (model pr wo) Ar (pure []) R Ex sh from yka ?_)
  simpa using k sh.heap h1 (yyl ..)
 | n+1,i,sh,R,h1,h2,le,k=>by
  have lt:i<vs.size:=by omega
  refine (show wpAny (model pr wo) Ar (pyNext (.ref it) >>= _) R Ex sh from yca (ycj h1 h2 (x:=vs[i]) (by simp[lt]) λg1 a1 b1=>?_));refine yca (yyc (zxlb ne n (i+1) _ _ a1 (h2.extBut b1.extBut ne) (by omega) λg2 a2 b2=>yka ?_));have e:vs.toList.drop i=vs[i]::vs.toList.drop (i+1):=by simp[yol,lt]
  have z:=k g2 (by rw[show i+(n+1)=i+1+n by omega];exact a2) (b1.trans b2);rw[e,List.take_succ_cons] at z;exact z
theorem zkmb {sh:Shared}{b:Addr}{vs:Array Value}{tg:List (Bool×(Value->Sem Unit))}{R:Unit->Shared->Prop}(hd:Ar.handled=none)(hl:sh.heap.IsList b vs)(hn:tg.length=vs.size)(hs:tg.findIdx? (·.1)=none)
  (k:∀h2,Heap.ExtBut sh.heap.objs.size sh.heap h2->wpAny (model pr wo) Ar (assignInOrder (tg.map (·.2)) vs.toList) R Ex { sh with heap:=h2 }) :
  wpAny (model pr wo) Ar (unpack (.ref b) tg) R Ex sh:=by
 have ne:b≠sh.heap.objs.size:=by
  obtain⟨o,ho,_⟩:=hl;exact ydb (yoa ho)
 unfold unpack;rw[hn,hs];refine yca (yyc ?_);unfold unpackItems;refine yca ?_;unfold notIterableAtAll;refine yca (wpAny_specialOf hl.typeIs slot_list_iter.lookup (yka ?_));simp only[yqd,if_false];refine yca (yyc (yog hl ?_));refine yca (yyc (zxlb ne vs.size 0 _ _ ⟨_,ysa _ rfl,rfl,rfl⟩ (hl.push _) (by omega) λg1 a1 b1=>?_));have e:List.take vs.size (ycp 0 vs.toList)=vs.toList:=by
  rw[yxd,yya (by simp)]
 rw[e,if_neg (by simp)];refine yca (yyc (yoj hd a1 ((hl.push _).extBut b1.extBut ne) (by simp) λg2 c2=>?_));simp only[Option.isSome_none,yqd,if_false];exact yka (k g2 λx o hx z=>c2 x o hx (b1.extBut x o hx (yea _ z)))
end
section
variable {X:Cx}
def gLst (K:yba)(n:Nat)(t:TGs):TG:=λv σ H Q=>Ex2 λa xs=>v = .ref a∧SqL K H a xs∧xs.length=n∧t xs σ H Q
theorem zlbc {es:List Expr}{k:Nat}{t:TGs}{n:Nat}{pos:Pos}(hc:X.calm=true)(h:PGs X es t)
  (hn:(yqh es X.env).length=n:=by rfl) (hst:(yqh es X.env).findIdx? (·.1)=none:=by rfl):PG X (.Tuple es k pos) (gLst X.K n t):=by
 intro pins s σ H v u Q I r hw;obtain⟨a,xs,rfl,hq,hl,hw⟩:=hw;cases r;obtain⟨its,rv,pl,hz⟩:=I.list hq;rw[assign_Tuple];refine yca (yim (zkmb (I.ok.hd hc) pl.isList (by simp[hn,← hl,rv.length]) hst λh2 hx=>?_));have I1:Inv X pins σ H { s with heap:=h2 }:=I.kept (t':=s.toks) λb o e=>hx b o (ydb (yoa e)) e;exact h pins _ σ H xs _ Q I1 (by simpa using rv) hw
theorem ztxb (K:yba){es:List Expr}{k:Nat}{t:TGs}{n:Nat}{pos:Pos}(hc:X.calm=true)(h:PGs X es t)
  (hn:(yqh es X.env).length=n:=by rfl) (hst:(yqh es X.env).findIdx? (·.1)=none:=by rfl) (hK:X.K=K:=by rfl):PG X (.Tuple es k pos) (gTup K n t):=hK▸zweb hc h hn hst
end
end L2
namespace L2
open PySem PyProof.Rows
section
variable {X:Cx}
inductive TyB (K:yba)(H:Hp):V->Value->Prop where
 | non:TyB K H .non (.type "NoneType")
 | bl (x:Bool):TyB K H (.bl x) (.type "bool")
 | int (i:Int):TyB K H (.int i) (.type "int")
 | str (x:Str):TyB K H (.str x) (.type "str")
 | lst {a:Addr} {xs:List V} (e:SqL K H a xs):TyB K H (.ref a) (.type "list")
 | tup {a:Addr} {xs:List V} (e:SqT K H a xs):TyB K H (.ref a) (.type "tuple")
theorem zfab:∀{ns:List String} {us:List Value},Vals (ns.map V.ty) us->us=ns.map Value.type
 | [],_,.nil=>rfl
 | n::r,_,.cons h t=>by
  rw[zfab t,show _=Value.type n from h];rfl
theorem zjgb:zqh X (.builtin "isinstance") (λxs H Q=>Ex5 λ(x:V) (tp:Addr) (t:Value) (ns:List String) (b:Bool)=>xs=[x,.ref tp]∧TyB X.K H x t∧SqT X.K H tp (ns.map V.ty)∧yai X.K t (ns.map Value.type)=some b∧Q (.bl b) H):=by
 intro pins s σ H xs us Q I r h;obtain⟨x,tp,t,ns,b,rfl,ty,ht,e,q⟩:=h;obtain⟨u,u',rfl,rx,r2⟩:=vals2 r;cases (show u'=Value.ref tp from r2);obtain⟨its,rv,⟨⟨cl,dd,da,sl⟩,g1,g2,n,g3⟩,_⟩:=I.tuple ht;cases zfab rv;simp only at g2 g3;subst g2 g3;have fin:∀tk,Ex2 λy H'=>Inv X pins σ H' { s with toks:=tk }∧RelV y (.bool b)∧Q y H':=λtk=>⟨.bl b,H,I.tok tk,rfl,q⟩;cases ty with
 | non=>cases (show u=Value.none from rx);exact yvg ylp I.kIn True.intro g1 e (λz=>nomatch z) fin
 | bl y=>cases (show u=Value.bool y from rx);exact yvg ymp I.kIn True.intro g1 e (λz=>nomatch z) fin
 | int i=>obtain⟨t,z⟩:=(show ∃t,u=Value.int i t from rx);cases z;exact yvg ylq I.kIn True.intro g1 e (λz=>nomatch z) fin
 | str y=>obtain⟨t,z⟩:=(show ∃t,u=Value.str y t from rx);cases z;exact yvg ymq I.kIn True.intro g1 e (λz=>nomatch z) fin
 | @lst a xs el =>
  cases (show u=Value.ref a from rx);obtain⟨_,_,pl,_⟩:=I.list el;obtain⟨o,h1,h2,_⟩:=pl.isList;exact yvg ysl I.kIn ⟨o,h1,h2⟩ g1 e (λz=>nomatch z) fin
 | @tup a xs el =>
  cases (show u=Value.ref a from rx);obtain⟨_,_,⟨o,h1,h2,_⟩,_⟩:=I.tuple el;exact yvg yvo I.kIn ⟨o,h1,h2⟩ g1 e (λz=>nomatch z) fin
theorem zeqb (K:yba)(hK:X.K=K:=by rfl):IxR X (rIx K):=hK▸ztcc
end
end L2
namespace L2
open PySem PySem.Spec PyProof.Rows
section
variable {κ:Type}[DecidableEq κ]
def valV (kvs:List (κ×V))(k:κ):Option V:=(kvs.find? λkv=>decide (kv.1=k)).map (·.2)
end
section
variable {P:ybc}{w:World}{H:Hp}{h:Heap}{a:Addr}
end
section
variable {X:Cx}{pins:List (Addr×Obj)}{σ:St}{H:Hp}{s:Shared}{a:Addr}{y v:V}{u r:Value}{o:Option V}{A:Around}{E:Value->Shared->Prop}
end
section
variable {X:Cx}{pins:List (Addr×Obj)}{σ:St}{H:Hp}{s:Shared}{a:Addr}{kvs:List (Key×V)}{k:Key}{u:Value}{A:Around}{E:Value->Shared->Prop}
end
section
variable {X:Cx}{o i e value:Expr}{pos pos' tpos:Pos}{td ty tv:TE}
end
section
variable {X:Cx}{pos:Pos}
end
structure M1 (X:Cx)(o:Expr)(m:Str)(apos:Pos)(e:Expr)(cpos:Pos):Prop where
 base:ysh o m X.env (eval o X.env)=eval o X.env
 few:((backTo cpos (yzc [e] X.env)).all (λx=>!x.1)&&(yvq cpos (ykm [] X.env)).all (λx=>x.1.isSome)
  && decide (([e]:List Expr).length+([]:List yqp).length+(if ([]:List yqp).isEmpty then 0 else 1)<30))=true
 line:(apos.endLine==cpos.line)=true
 trees:backTo cpos (yzc [e] X.env)=[(false,eval e X.env)]
structure M2 (X:Cx)(o:Expr)(m:Str)(apos:Pos)(e f:Expr)(cpos:Pos):Prop where
 base:ysh o m X.env (eval o X.env)=eval o X.env
 few:((backTo cpos (yzc [e,f] X.env)).all (λx=>!x.1)&&(yvq cpos (ykm [] X.env)).all (λx=>x.1.isSome)
  && decide (([e,f]:List Expr).length+([]:List yqp).length+(if ([]:List yqp).isEmpty then 0 else 1)<30))=true
 line:(apos.endLine==cpos.line)=true
 trees:backTo cpos (yzc [e,f] X.env)=[(false,eval e X.env),(false,eval f X.env)]
section
variable {X:Cx}{pins:List (Addr×Obj)}{σ:St}{H:Hp}{s:Shared}{a:Addr}{y d:V}{u r:Value}{o:Option V}{A:Around}{E:Value->Shared->Prop}
end
section
variable {X:Cx}{o e f:Expr}{apos cpos:Pos}{td ty tx:TE}
end
section
variable {X:Cx}{pins:List (Addr×Obj)}{σ:St}{H:Hp}{s:Shared}{a:Addr}{kvs:List (Key×V)}{A:Around}{E:Value->Shared->Prop}
end
section
variable {X:Cx}{pins:List (Addr×Obj)}{σ:St}{H:Hp}{s:Shared}{a:Addr}{y:V}{u:Value}{A:Around}{E:Value->Shared->Prop}
end
end L2
namespace L2
open PySem PyProof.Rows
section
variable {pr:ybc}{wo:World}{Ar:Around}{Ex:Value->Shared->Prop}{sh:Shared}
end
section
variable {X:Cx}{pins:List (Addr×Obj)}{σ:St}{H:Hp}{s:Shared}{h':Heap}
theorem Inv.zewb {t':Nat}{p q:Addr}(I:Inv X pins σ H s)(k:∀b o,b≠p->b≠q->s.heap.get? b=some o->h'.get? b=some o)(fp:FpOk X pins H p)(fq:FpOk X pins H q):Inv X pins σ H { s with heap:=h',toks:=t' }:=by
 have o1:∀b u,H b=some u->b≠p:=λb u e z=>by
  rw[z,fp.1] at e;cases e
 have o2:∀b u,H b=some u->b≠q:=λb u e z=>by
  rw[z,fq.1] at e;cases e
 have kk:∀b o,b∉[p,q]->s.heap.get? b=some o->h'.get? b=some o:=λb o hb e=>k b o (λz=>hb (by simp[z])) (λz=>hb (by simp[z])) e;refine I.step (g':=s.gens) (d':=s.drawn) (ch:=[p,q]) (λb hb=>?_) (λb o _ _ hc e _=>kk b o hc e) (λb o _ _ hc e _=>⟨o.slots,kk b o hc e⟩) (λ_ _ _ _ n=>n)
  (λb o hc e=>⟨o,kk b o hc e⟩) (λ_ _ e=>e) (λ_ _ _ e=>e) (λb ps e=>⟨#[],by rw[e];simp⟩) (λm hm=>?_) (λb u e=>?_) I.bare
 ·have e:b=p∨b=q:=by simpa using hb
  rcases e with e|e
  ·rw[e];exact⟨fp.2.2.2.1,fp.2.1,fp.2.2.2.2.1,fp.2.2.2.2.2⟩
  ·rw[e];exact⟨fq.2.2.2.1,fq.2.1,fq.2.2.2.2.1,fq.2.2.2.2.2⟩
 ·obtain⟨o,es,ep,ho,r⟩:=hm;exact⟨o,es,ep,k _ o (yvc fp.2.1) (yvc fq.2.1) ho,r⟩
 ·refine (I.hok b u e).stay (λc v hc z=>?_) (λ_ z=>z) λ_ _ z=>z
  rcases hc with y|y
  ·rw[y];rw[y] at z;exact k b v (o1 b u e) (o2 b u e) z
  ·exact k c v (o1 c _ y) (o2 c _ y) z
end
section
variable {X:Cx}
theorem zdrb:yyf "enumerate" = some (.type "enumerate"):=by decide +kernel
end
end L2
namespace L2
open PySem PyProof.Rows
section
variable {X:Cx}{e st:Expr}{te ts:TE}{p2 pos:Pos}
end
end L2
namespace DL
open PySem PySem.Spec PyProof.Rows
section
variable {prog:ybc}{w:World}{A:Around}{E:Value->Shared->Prop}{s:Shared}
section
variable {κ:Type}[DecidableEq κ]{knd:KeyKind prog w κ}
end
end
end DL
namespace L2
open PySem PyProof.Rows
section
variable {X:Cx}
end
end L2
namespace SSet
open PySem PySem.Spec PyProof.Rows
section
variable {prog:ybc}{w:World}{A:Around}{E:Value->Shared->Prop}{s:Shared}
end
end SSet
namespace L2
open PySem PyProof.Rows
section
variable {X:Cx}
end
end L2
namespace L2
open PySem PySem.Spec PyProof.Rows PySem.MeetsSeq
section
variable {X:Cx}
end
end L2
namespace L2
open PySem PyProof.Rows
section
variable {X:Cx}
end
end L2
namespace DK
open PySem PySem.Spec PyProof.Rows
section
variable {prog:ybc}{w:World}{A:Around}{E:Value->Shared->Prop}{s:Shared}
end
end DK
namespace L2
open PySem PyProof.Rows
section
variable {X:Cx}{pins:List (Addr×Obj)}{σ:St}{H:Hp}{s:Shared}
end
section
variable {X:Cx}
end
end L2
namespace L2
open PySem PyProof.Rows
section
variable {X:Cx}
end
end L2
namespace L2
open PySem PyProof.Rows
section
open PySem.SeqAt PySem.MeetsSeq
open AutoSeq1 (wpAny_loadPart')
end
section
variable {X:Cx}
end
section
open TSort
end
section
variable {pr:ybc}{wo:World}{A:Around}{R:Result->Shared->Prop}{I S:Addr}{fp wr:List Addr}{n:Nat}{P:Nat->Value->Prop}{St:Nat->Heap->Prop}{h0:Heap}
end
section
variable {pr:ybc}{wo:World}{A:Around}{E:Value->Shared->Prop}{s:Shared}
end
section
variable {X:Cx}
end
end L2
namespace ISet
open PySem PySem.Spec PyProof.Rows
def Rise (xs:Array Nat):Prop:=xs.toList.Pairwise (· < ·)
structure RT (t:ydg):Prop where
 rise:Rise t.place
 none:t.dummies=#[]
end ISet
namespace ISet
open PySem PySem.Spec PyProof.Rows
section
variable {prog:ybc}{w:World}{A:Around}{E:Value->Shared->Prop}{s:Shared}
def dd (xs:List Int):List Int:=xs.foldl (λD x=>if x∈D then D else D++[x]) []
end
end ISet
namespace ISet
open PySem PySem.Spec PyProof.Rows PySem.W
section
variable {prog:ybc}{w:World}{A:Around}{E:Value->Shared->Prop}{s:Shared}
end
end ISet
namespace ISet
open PySem PySem.Spec PyProof.Rows PySem.W
section
variable {prog:ybc}{w:World}{A:Around}{E:Value->Shared->Prop}{s:Shared}
end
end ISet
namespace SumL
open PySem PySem.Spec PyProof.Rows
def LO (xs:Array Value)(n:Nat):Obj:={ cls:=.type "list",dict:=none,data:=.seq xs n,slots:=#[] }
def catF (ls:Nat->List Value):Nat->Nat->List Value
 | _,0=>[]
 | i,k+1=>ls i++catF ls (i+1) k
section
variable {prog:ybc}{w:World}{A:Around}{R:Result->Shared->Prop}
theorem loop {I ax S:Addr}(hh:A.in1.handled=none)(items:Array Value)(b:Nat->Addr)(ls:Nat->List Value)(hI:I≠S)(hax:ax≠I)(haxS:ax≠S)
  (hitm:∀i,i<items.size->items[i]?=some (.ref (b i))) (hb:∀i,i<items.size->b i≠I∧b i≠S) :
  ∀(k i:Nat) (s:Shared) (T:Addr) (acc:List Value) (ca c:Nat),items.size-i=k->i≤items.size->s.heap.IsListIter I ax i->s.heap.IsList ax items →
  (∀j,i≤j->j<items.size->∃n,s.heap.get? (b j)=some (LO (ls j).toArray n))->s.heap.get? S=some (LO #[.ref T] c)->s.heap.get? T=some (LO acc.toArray ca)->T≠I->T≠S->acc.length+(catF ls i k).length≤yxa →
  (∀h' T' c',(∀b o,b≠I->b≠S->s.heap.get? b=some o->h'.get? b=some o)->h'.get? T'=some (LO (acc++catF ls i k).toArray c')->(k=0->T'=T)->(0<k->s.heap.objs.size≤T')->R (.ok (.ret (.ref T'))) { s with heap:=h' }) →
  yvh (model prog w) A (.builtin "sum.loop" ⟨[.ref I,.ref S,rawInt 2,rawInt 0],[]⟩) R s:=by
 intro k
 induction k with
 | zero =>
  intro i s T acc ca c hk hi hit hl hbs hS hT tI tS hz hR;have hin:i=items.size:=by omega
  refine yqe F.entry_sum_loop ?_;rw[yge yci _];show wpAny _ A.in1 (ydm (.ref S) >>= _) _ _ s
  refine yca (wpAny_seqItems hS rfl ?_);show wpAny _ A.in1 (tryCatch (pyNext (.ref I)) _ >>= _) _ _ s
  refine yca (wpAny_tryCatch (yoj hh hit hl (by rw[hin];simp) λh' he'=>?_));refine yka (hR h' T ca (λb o hbI _ e=>he' b o hbI e) ?_ (λ_=>rfl) (λz=>absurd z (yqc _)));show h'.get? T=some (LO (acc++[]).toArray ca)
  rw[yfc];exact he' T _ tI hT
 | succ k ih =>
  intro i s T acc ca c hk hi hit hl hbs hS hT tI tS hz hR;have hlt:i<items.size:=by omega
  obtain⟨nb,hbi⟩:=hbs i (yja _) hlt;obtain⟨bI,bS⟩:=hb i hlt;refine yqe F.entry_sum_loop ?_;rw[yge yci _];show wpAny _ A.in1 (ydm (.ref S) >>= _) _ _ s
  refine yca (wpAny_seqItems hS rfl ?_);show wpAny _ A.in1 (tryCatch (pyNext (.ref I)) _ >>= _) _ _ s
  refine yca (wpAny_tryCatch (ycj hit hl (x:=.ref (b i)) (hitm i hlt) λh' hit' hs'=>?_));have hS':h'.get? S=some (LO #[.ref T] c):=(hs'.2 S (yvc hI)).trans hS;have hT':h'.get? T=some (LO acc.toArray ca):=(hs'.2 T tI).trans hT;have hb':h'.get? (b i)=some (LO (ls i).toArray nb):=(hs'.2 _ bI).trans hbi;have hz':acc.length+((ls i).length+(catF ls (i+1) k).length)≤yxa:=by
   have:=hz;simp only[catF,yha] at this;omega
  show wpAny _ A.in1 ((yen [Value.ref (b i)] (yrh .Add (.ref T) (.ref (b i)))).attempt >>= _) _ _ _
  refine yca (wpAny_attempt (yyc (yoq (items:=acc.toArray) (items2:=(ls i).toArray) (n:=ca) (n2:=nb) hT' hb' ?_ (by simp only[yta];omega))));have hS1:(h'.push { cls:=.type "list",data:=.seq (acc.toArray++(ls i).toArray) }).get? S=some (LO #[.ref T] c):=yea _ hS';show wpAny _ A.in1 (updateSeq S (λ_=>#[.ref h'.objs.size]) >>= _) _ _ { s with heap:=h'.push { cls:=.type "list",data:=.seq (acc.toArray++(ls i).toArray) } }
  refine yca ?_;refine yok hS1 rfl ?_;have hS2:=ysd (yvf λ_=>#[Value.ref h'.objs.size]) hS1 rfl;refine yca (wpAny_letGo ?_);refine yca ?_;refine yok hS2 rfl (yka ⟨ydh yci _,?_⟩);have hS3:=ysd (yvf λ_=>#[Value.ref h'.objs.size]) hS2 rfl;have ke:∀x o,x≠S->h'.get? x=some o->(((h'.push { cls:=.type "list",data:=.seq (acc.toArray++(ls i).toArray) }).update S (yvf λ_=>#[Value.ref h'.objs.size])).update S (yvf λ_=>#[Value.ref h'.objs.size])).get? x=some o:=λx o hx e =>
   (yoc _ _ (yvc hx)).trans ((yoc _ _ (yvc hx)).trans (yea _ e))
  have nS:h'.objs.size≠S:=λz=>yqc _ (z▸yoa hS');have nI:h'.objs.size≠I:=λz=>by
   obtain⟨o,ho,_⟩:=id hit';exact yqc _ (z▸yoa ho)
  refine ih (i+1) _ h'.objs.size (acc++ls i) 0 _ (by omega) (by omega) (hit'.at λo e=>ke I o hI e) (hl.at λo e=>ke ax o haxS ((hs'.2 ax hax).trans e)) (λj h1 h2=>?_) hS3 ?_ nI nS ?_ λh2 T' c' k1 k2 k3 k4=>?_
  ·obtain⟨n,e⟩:=hbs j (by omega) h2;exact⟨n,ke _ _ (hb j h2).2 ((hs'.2 _ (hb j h2).1).trans e)⟩
  ·refine (yoc _ _ (yvc nS)).trans ((yoc _ _ (yvc nS)).trans ?_);rw[List.append_toArray];exact ysa _ rfl
  ·rw[yha];omega
  ·refine hR h2 T' c' (λx o hxI hxS e=>k1 x o hxI hxS (ke x o hxS ((hs'.2 x hxI).trans e))) ?_ (λz=>absurd z (Nat.succ_ne_zero _)) λ_=>?_
   ·rw[k2,catF,yuc]
   ·have sz:h'.objs.size=s.heap.objs.size:=hs'.1;cases k with
    | zero=>exact yzk (by rw[k3 rfl,sz])
    | succ k =>
     have:=k4 (Nat.succ_pos _);have e2:(((h'.push { cls:=.type "list",data:=.seq (acc.toArray++(ls i).toArray) }).update S (yvf λ_=>#[Value.ref h'.objs.size])).update S (yvf λ_=>#[Value.ref h'.objs.size])).objs.size=h'.objs.size+1:=by
      rw[yqq,yqq];exact yvd _ _
     have t2:h'.objs.size+1≤T':=(by rw[← e2];exact this);omega
end
section
variable {prog:ybc}{w:World}{A:Around}{E:Value->Shared->Prop}{s:Shared}
theorem zzgb (a b:Value):argsOk "sum" ⟨[a,b],[]⟩:=by unfold argsOk;kernel_rfl
theorem zbrb {l st:Addr}{items:Array Value}{n0:Nat}{Q:Value->Shared->Prop}(b:Nat->Addr)(ls:Nat->List Value)(hh:A.in1.handled=none)(hl:s.heap.IsList l items)(hst:s.heap.get? st=some (LO #[] n0))
  (hitm:∀i,i<items.size->items[i]?=some (.ref (b i))) (hbs:∀j,j<items.size->∃n,s.heap.get? (b j)=some (LO (ls j).toArray n)) (h0:0<items.size) (hz:(catF ls 0 items.size).length≤yxa)
  (h:∀h' T c,(∀b o,s.heap.get? b=some o->h'.get? b=some o)->h'.get? T=some (LO (catF ls 0 items.size).toArray c)->s.heap.objs.size≤T->Q (.ref T) { s with heap:=h' }) :
  wpAny (model prog w) A (call (.builtin "sum") [.ref l,.ref st]) Q E s:=by
 refine call_function_tree F.kind_sum F.plain_sum F.entry_sum (zzgb _ _) ?_;unfold ywe.«sum»;simp only[yga,yre];rw[if_neg (by decide)];refine yca (ypo (show ypk "sum" ["start"] 0 ⟨[.ref st],[]⟩=pure [some (.ref st)] from rfl) ?_);refine yca (yog hl ?_);refine yca (yka ?_);have hst1:(s.heap.push { cls:=.type "list_iterator",data:=.fields #[.ref l,.int 0 0] }).get? st=some (LO #[] n0):=yea _ hst;have ty:yck { s with heap:=s.heap.push { cls:=.type "list_iterator",data:=.fields #[.ref l,.int 0 0] } } (.ref st) "list":=⟨_,hst1,rfl⟩;simp only[ymn,List.forIn_nil];refine yca (yca (yca (yaf (T:="list") (b:=false) ty F.sub_list_str ?_)));simp only[yqd,if_false];refine yka (yca (yca (yaf (T:="list") (b:=false) ty F.sub_list_bytes ?_)));simp only[yqd,if_false];refine yka (yca (yca (yaf (T:="list") (b:=false) ty ydo ?_)));simp only[yqd,if_false];refine yka (yka ?_);refine yca (ygd ?_);refine yka ⟨ydh yci _,?_⟩;have lt:l<s.heap.objs.size:=by obtain⟨o,ho,_⟩:=id hl;exact yoa ho
 have stt:st<s.heap.objs.size:=yoa hst;have sz:(s.heap.push { cls:=.type "list_iterator",data:=.fields #[.ref l,.int 0 0] }).objs.size=s.heap.objs.size+1:=yvd _ _;have hbl:∀j,j<items.size->b j<s.heap.objs.size:=λj hj=>by
  obtain⟨n,e⟩:=hbs j hj;exact yoa e
 have k2:∀x o,s.heap.get? x=some o->((s.heap.push { cls:=.type "list_iterator",data:=.fields #[.ref l,.int 0 0] }).push { cls:=.type "list",data:=.seq #[.ref st] }).get? x=some o:=λx o e=>yea _ (yea _ e);refine loop (I:=s.heap.objs.size) (ax:=l) (S:=(s.heap.push { cls:=.type "list_iterator",data:=.fields #[.ref l,.int 0 0] }).objs.size) hh items b ls (ydb (by rw[sz];exact yhe _)) (ydb lt) (ydb (by rw[sz];exact ynd lt)) hitm (λi hi=>⟨ydb (hbl i hi),ydb (by rw[sz];exact ynd (hbl i hi))⟩) items.size 0 _ st [] n0 0 rfl (yrb _) ?_ ?_ (λj _ hj=>?_) ?_ ?_ (ydb stt) (ydb (by rw[sz];exact ynd stt)) (by simpa using hz) λh' T c q1 q2 _ q4=>?_
 ·exact⟨_,yea _ (ysa _ rfl),rfl,rfl⟩
 ·exact hl.at λo e=>k2 _ _ e
 ·obtain⟨n,e⟩:=hbs j hj;exact⟨n,k2 _ _ e⟩
 ·exact ysa _ rfl
 ·exact k2 _ _ hst
 ·refine h h' T c (λx o e=>q1 x o ?_ ?_ (k2 _ _ e)) ?_ ?_
  ·exact ydb (yoa e)
  ·exact ydb (by rw[sz];exact ynd (yoa e))
  ·rw[q2,ymh]
  ·have:=q4 h0;have e2:((s.heap.push { cls:=.type "list_iterator",data:=.fields #[.ref l,.int 0 0] }).push { cls:=.type "list",data:=.seq #[.ref st] }).objs.size=s.heap.objs.size+2:=by rw[yvd,sz]
   have t2:s.heap.objs.size+2≤T:=(by rw[← e2];exact this);omega
end
end SumL
namespace L2
open PySem PyProof.Rows
section
variable {X:Cx}
end
end L2
namespace L2
open PySem PySem.Spec PyProof.Rows
theorem ints_of:∀{vs:List Value} {ys:List Int},Vals (ys.map V.int) vs->yar vs ys
 | _,[],.nil=>.nil
 | _,y::r,.cons h t=>by
  obtain⟨tk,rfl⟩:=h;exact .cons y tk (ints_of t)
section
variable {X:Cx}
end
end L2
namespace L2
open PySem PySem.Spec PyProof.Rows PySem.MeetsSeq
section
variable {X:Cx}
theorem zezb {v:Value}{r1 r2:List V->Hp->VK->Prop}(a:zqh X v r1)(b:zqh X v r2):zqh X v (λxs H Q=>r1 xs H Q∨r2 xs H Q):=by
 intro pins s σ H xs us Q I r h
 rcases h with h|h
 ·exact a pins s σ H xs us Q I r h
 ·exact b pins s σ H xs us Q I r h
end
end L2
namespace HT
open PySem PySem.Spec PyProof.Rows L2
section
variable {prog:ybc}{w:World}{A:Around}{E:Value->Shared->Prop}{s:Shared}
theorem zwp {t sl:Addr}{items:Array Value}{vl vu:Value}{lo hi:Option Int}{Q:Value->Shared->Prop}(ht:IsTup s.heap t items)(hs:s.heap.IsSliceOf sl vl vu .none)(pl:IsPart vl lo)(pu:IsPart vu hi)
  (hw:sIx items.size 0 lo=0∧sIx items.size items.size hi=items.size) (h:Q (.ref t) s):wpAny (model prog w) A (ykn (.ref t) (.ref sl)) Q E s:=by
 obtain⟨os,hos,hcs,hds⟩:=id hs;have hTs:s.TypeIs (.ref sl) "slice":=⟨os,hos,hcs⟩;unfold ykn
 try with_reducible refine yyc ?_
 first|refine yca (yka ?_)|skip
 refine yca (yij ht.typeIs (by decide) ?_);refine yca (ycf (name:=yrj "__getitem__") ht.typeIs yfd
  (yye yfd ht.typeIs entry_tuple_getitem ?_ (args_tuple_getitem _ _)))
 show wpAny _ _ (yvk (.ref t) >>= _) _ _ s
 refine yca (tupleItemsOf_ ht ?_);refine yca (ybl hTs ?_);rw[if_pos (by decide)];refine yca (zan hs pl pu ?_);have hyes:((((sIx items.size 0 lo:Nat):Int)==0&&(1:Int)==1&&(sIx items.size items.size hi-sIx items.size 0 lo)==items.size)=true):=by
  rw[hw.1,hw.2];simp
 show wpAny _ _ (if (((sIx items.size 0 lo:Nat):Int)==0&&(1:Int)==1&&(sIx items.size items.size hi-sIx items.size 0 lo)==items.size)=true then _ else _) _ _ s
 rw[if_pos hyes];refine yca (m:=ywe.Tuple.tupleIsExact _) (yca (ybl ht.typeIs (yka ?_)));refine yoh (λ_=>?_) (λz=>absurd (by decide) z);exact yca (yxp (yka ⟨_,rfl,yka h⟩))
end
end HT
namespace L2
open PySem PySem.Spec PyProof.Rows
def rSlA (K:yba):V->Option Int->Option Int->Hp->VK->Prop:=λx lo hi H Q=>Ex2 λa xs=>x = .ref a∧SqT K H a xs ∧
 ((HT.sIx xs.length 0 lo=0∧HT.sIx xs.length xs.length hi=xs.length)->Q (.ref a) H)∧(¬ (HT.sIx xs.length 0 lo=0∧HT.sIx xs.length xs.length hi=xs.length)->∀p,H p=none->Q (.ref p) (upd H p (.tup (cutV xs lo hi))))
section
variable {X:Cx}
theorem zwhb:SlR X (rSlA X.K):=by
 intro pins s σ H x v vl vu lo hi sl Q I rx hs pl pu h;obtain⟨a,xs,rfl,hx,q1,q2⟩:=h
 by_cases c:HT.sIx xs.length 0 lo=0∧HT.sIx xs.length xs.length hi=xs.length
 ·cases rx;obtain⟨its,r,ht,hz⟩:=I.tuple hx;have hlen:its.toArray.size=xs.length:=by rw[yta];exact r.length.symm
  refine⟨"tuple",_,yfd.lookup,ht.typeIs,?_⟩;exact HT.zwp ht hs pl pu (by rw[hlen];exact c) ⟨.ref a,H,I,rfl,q1 c⟩
 ·exact zzub pins s σ H (.ref a) v vl vu lo hi sl Q I rx hs pl pu ⟨a,xs,rfl,hx,c,q2 c⟩
end
end L2
namespace L2
open PySem PySem.Spec PyProof.Rows PySem.MeetsSeq
theorem zoj:fillsNumberSlot (.type "tuple") "mul" = pure false :=
 PySem.fillsNumberSlot_seq (id:="tuple.__mul__") (r:=some (.builtin "tuple.__rmul__")) ybn.lookup (by decide +kernel) ypm.lookup (by decide +kernel)
theorem zon:seqRepeat? (.type "tuple")=pure (some (.builtin "tuple.__mul__")):=by
 unfold seqRepeat?;rw[yrq (T:="tuple") (name:="__mul__") (id:="tuple.__mul__") ybn.lookup (by decide +kernel),yrq (T:="tuple") (name:="__rmul__") (id:="tuple.__rmul__") ypm.lookup (by decide +kernel)];rfl
theorem zys (a:Int)(t:Tok)(l:Addr)(items:Array Value)(n:Nat)(dd:Option Addr)(sl:Array (Option Value)) :
  Meets (ywe.«int.__rmul__» ⟨[.int a t,.ref l],[]⟩) (λ_ R s=>s.heap.get? l=some { cls:=.type "tuple",dict:=dd,data:=.seq items n,slots:=sl }∧R (.ok (.ret Value.notImplemented)) s) :=
 .of_wp λprog w A R s h=>by obtain⟨hp,g,d,tk,os⟩:=s;obtain⟨hl,h⟩:=h;wp_walk;exact⟨_,rfl,h⟩
theorem mulT (l:Addr)(items:Array Value)(n:Nat)(k:Int)(u:Tok)(dd:Option Addr)(sl:Array (Option Value))(h0:¬ items.isEmpty=true)(h2:2≤k)(h3:k<2 ^ 63)(hz:¬ ytf (items.size*k)=true) :
  Meets (ywe.«tuple.__mul__» ⟨[.ref l,.int k u],[]⟩) (λ_ R s=>s.heap.get? l=some { cls:=.type "tuple",dict:=dd,data:=.seq items n,slots:=sl }∧R (.ok (.ret (Value.ref s.heap.objs.size))) { s with heap:=s.heap.push { cls:=Value.type "tuple",data:=Data.seq (ywl (λx1 x2=>x1++x2) #[] (ynb k.toNat items)) },toks:=s.toks }):=by
 refine .of_wp λprog w A R s h=>?_;obtain⟨hp,g,d,tk,os⟩:=s;obtain⟨hl,h⟩:=h;unfold ywe.«tuple.__mul__»
 wp_walk using wpAny_loadPart' hl
 refine yun (decide_eq_false (by rw[Bool.or_eq_true_iff,decide_eq_true_iff,decide_eq_true_iff];omega)) ?_
 wp_walk using wpAny_loadPart' hl
 have e0:items.isEmpty=false:=by simpa using h0
 have sz:(items.size:Int)*k≤(yxa:Int):=by
  unfold ytf at hz
  simpa using hz
 refine yun (decide_eq_false (by rw[e0,Bool.false_or,beq_iff_eq];omega)) ?_
 wp_walk using wpAny_loadPart' hl
 refine yun (decide_eq_false (by rw[e0,yyo,decide_eq_true_iff];omega)) ?_;dsimp only;have sl8:(yxa:Int)≤(2 ^ 63-1) / 8:=by decide
 rw[if_neg (by omega),if_neg hz];have hsz:(ywl (λx1 x2=>x1++x2) #[] (ynb k.toNat items)).size≤yxa:=by
  rw[AutoListH.size_joined,Array.size_empty,ygq];have:((k.toNat*items.size:Nat):Int)≤(yxa:Int):=by
   rw[Int.natCast_mul,yqo (by omega),Int.mul_comm];exact sz
  omega
 wp_walk
 exact⟨_,rfl,h⟩
section
variable {X:Cx}
def zcec (K:yba):R2:=λx y H Q=>Ex3 λa xs k=>x = .ref a∧y = .int k∧SqT K H a xs∧xs≠[]∧2≤k∧k<2 ^ 63∧xs.length*k.toNat≤yxa∧∀p,H p=none->Q (.ref p) (upd H p (.tup (ynb k.toNat xs).flatten))
theorem zwbb:OpR X (yrh .Mult) (zcec X.K):=by
 intro pins s σ H x y v u Q I rx ry h;obtain⟨a,xs,k,rfl,rfl,ha,hx,h2,h3,hz,q⟩:=h;cases rx;obtain⟨t,rfl⟩:=ry;obtain⟨its,r,p1,_⟩:=I.tuple ha;obtain⟨⟨cls,dd,data,sl⟩,ho,hc,n,hd⟩:=id p1;simp only at hc hd;subst hc hd;have hl:=r.length;have hne:¬ its.toArray.isEmpty=true:=by
  intro z;refine hx (r.zay.mp ?_)
  simpa using z
 have hlong:¬ ytf ((its.toArray.size:Int)*k)=true:=by
  unfold ytf;rw[yta,← hl];have:((xs.length*k.toNat:Nat):Int)≤(yxa:Int):=by omega
  rw[Int.natCast_mul,yqo (by omega)] at this
  simpa using this
 have hnew:ywl (λx1 x2=>x1++x2) #[] (ynb k.toNat its.toArray)=(ynb k.toNat its).flatten.toArray:=by
  have:=foldl_rep its k.toNat [];rw[ymh] at this;exact this
 refine ykg (T:="tuple") (U:="int") (by decide) ⟨_,ho,rfl⟩ (λs'=>yki s' k t) zoj yik yof zon ywj.lookup
  (yte yof (yki s k t) yxj (ykj _ _) (zys k t a its.toArray n dd sl)
   ⟨ho,rfl,⟨_,ho,rfl⟩,yte ywm ⟨_,ho,rfl⟩ yfm (yel _ _) (mulT a its.toArray n k t dd sl hne h2 h3 hlong) ⟨ho,?_⟩⟩)
 rw[hnew];refine⟨.ref s.heap.objs.size,_,I.laid (t':=s.toks) (o:=.tup (ynb k.toNat xs).flatten) (λb ob q=>yea _ q) (yja _) ?_,rfl,q _ (I.hok.fresh (yja _))⟩;exact⟨by rw[len_rep,Nat.mul_comm];exact hz,_,r.rep k.toNat,yzq _ _⟩
end
end L2
namespace L2
open PySem PySem.Spec PyProof.Rows PySem.MeetsSeq
theorem ztkb {ls:Nat->List Value}:∀(yss:List (List V)) (i:Nat),(∀j ys,yss[j]?=some ys->Vals ys (ls (i+j)))->Vals yss.flatten (SumL.catF ls i yss.length)
 | [],_,_=>.nil
 | ys::r,i,h=>by
  rw[ytc,yga,SumL.catF];refine Vals.append (h 0 ys rfl) (ztkb r (i+1) λj zs e=>?_);have:=h (j+1) zs (by rw[ysc];exact e);rw[show i+1+j=i+(j+1) by omega];exact this
def rowAt (h:Heap)(a:Addr):List Value:=match h.get? a with
 | some o=>(match o.data with|.seq xs _=>xs.toList|_=>[])
 | none=>[]
section
variable {X:Cx}
theorem zadb (hc:X.calm=true):zqh X (.builtin "sum") (λxs H Q=>Ex2 λ(l:Addr) (ns:List Int)=>xs=[.ref l]∧SqL X.K H l (ns.map V.int)∧Q (.int ns.sum) H):=by
 intro pins s σ H xs us Q I r h;obtain⟨l,ns,rfl,hl,q⟩:=h;obtain⟨u,rfl,ru⟩:=vals1 r;cases ru;obtain⟨its,rv,pl,_⟩:=I.list hl;have sy:=ints_of rv;obtain⟨ys,ey⟩:=AllInts.items sy.allInts;have pl2:=pl.isList;rw[ey] at pl2;have en:(ys.toList.map (·.1))=ns:=by
  rw[← nums_intItems,← ey];exact sy.numsOf
 refine sum_intListG (show X.A.handled=none from I.ok.hd hc) pl2 λh' tk t' hk=>?_;rw[preSum_eq,yya (by simp),en];exact⟨.int _,H,I.kept (t':=tk) hk,⟨t',rfl⟩,q⟩
theorem zxz (hc:X.calm=true):zqh X (.builtin "sum") (λxs H Q=>Ex4 λ(a st:Addr) (bs:List Addr) (yss:List (List V))=>xs=[.ref a,.ref st]∧H a=some (.lst (bs.map V.ref))∧H st=some (.lst [])∧bs.length=yss.length∧(∀(i:Nat) b ys,bs[i]?=some b->yss[i]?=some ys->H b=some (.lst ys))∧bs≠[]∧yss.flatten.length≤yxa∧∀p,H p=none->Q (.ref p) (upd H p (.lst yss.flatten))):=by
 intro pins s σ H xs us Q I r h;obtain⟨a,st,bs,yss,rfl,ha,hst,hlen,hrow,hne,hz,q⟩:=h;obtain⟨u,u2,rfl,ru,ru2⟩:=vals2 r;cases ru;cases ru2;obtain⟨z,its,n,rv,hl,e⟩:=I.lstM ha;obtain⟨z0,its0,n0,rv0,hl0,e0⟩:=I.lstM hst;cases rv0;have lb:its.toArray.size=bs.length:=by rw[yta,← hl,yaa]
 have hit:∀i,i<its.toArray.size->its.toArray[i]?=some (.ref (bs.getD i 0)):=by
  intro i hi;rw[lb] at hi;obtain⟨u,hu,ru⟩:=rv.get (i:=i) (x:=.ref bs[i]) (by rw[yhb,yqa hi];rfl);cases ru;rw[ysj,hu,ycc,yqa hi];rfl
 have hrows:∀j,j<its.toArray.size->∀ys,yss[j]?=some ys->Vals ys (rowAt s.heap (bs.getD j 0))∧∃m,s.heap.get? (bs.getD j 0)=some (SumL.LO (rowAt s.heap (bs.getD j 0)).toArray m):=by
  intro j hj ys hy;rw[lb] at hj;have eb:bs.getD j 0=bs[j]:=by rw[ycc,yqa hj];rfl
  obtain⟨z,it2,m,r2,hl2,e2⟩:=I.lstM (hrow j _ ys (yqa hj) hy);rw[← eb] at e2;have er:rowAt s.heap (bs.getD j 0)=it2:=by
   unfold rowAt;rw[e2]
  rw[er];exact⟨r2,m,e2⟩
 have vc:Vals yss.flatten (SumL.catF (λj=>rowAt s.heap (bs.getD j 0)) 0 its.toArray.size):=by
  rw[lb,hlen];refine ztkb yss 0 λj ys hy=>?_;rw[ygq];exact (hrows j (by rw[lb,hlen];exact (yma.mp hy).1) ys hy).1
 have vl:=vc.length;refine SumL.zbrb (l:=a) (st:=st) (items:=its.toArray) (n0:=n0) (λi=>bs.getD i 0) (λj=>rowAt s.heap (bs.getD j 0)) (show X.A.in1.handled=none from I.ok.hd hc) ⟨_,e,rfl,n,rfl⟩ e0 hit (λj hj=>?_) ?_ (by rw[← vl];exact hz) λh' T c k1 k2 k3=>?_
 ·obtain⟨ys,hy⟩:∃ys,yss[j]?=some ys:=⟨_,yqa (by rw[← hlen,← lb];exact hj)⟩;exact (hrows j hj ys hy).2
 ·rw[lb];exact ygi.mpr hne
 ·refine⟨.ref T,_,I.laid (t':=s.toks) (o:=.lst yss.flatten) k1 k3 ?_,rfl,q _ (I.hok.fresh k3)⟩;exact⟨hz,_,c,vc,k2⟩
end
end L2
namespace L2
open PySem PySem.Spec PyProof.Rows PySem.MeetsSeq
section
variable {X:Cx}
end
end L2
namespace L2
open PySem PyProof.Rows
def EnL (h:Heap)(e it t:Addr)(i:Nat):Prop:=(∃old,IsEnum h e it (i:Int) old)∧h.IsListIter it t i∧e≠it
def Iel (K:yba)(a:Addr):It :=
 ⟨λi H=>Ex2 λxs x=>SqL K H a xs∧xs[i]?=some x,λi H x H'=>Ex2 λp v=>H p=none∧x = .ref p∧H'=upd H p (.tup [.int (i:Int),v])∧∀xs,SqL K H a xs->xs[i]?=some v,λi H=>∃xs,SqL K H a xs∧xs.length≤i⟩
theorem zomb {P:ybc}{w:World}{K:yba}{es:List Expr}{k1:Nat}{pos:Pos}(a e it:Addr):Turn P w K (.Tuple es k1 pos) (Iel K a) [e,it] e (λi h=>EnL h e it a i) where
 mem:=by simp
 obj:=λi h st b hb=>by
  have z:b=e∨b=it:=by simpa using hb
  obtain⟨⟨old,he⟩,⟨o,g1,g2,g3⟩,_⟩:=st
  rcases z with rfl|rfl
  ·exact⟨_,he,λv y=>by cases y⟩
  ·exact⟨o,g1,λv y=>by rw[g3] at y;cases y⟩
 keep:=λi h h' st k=>by
  obtain⟨⟨old,he⟩,⟨o,g1,g2⟩,n⟩:=st;exact⟨⟨old,k e (by simp) _ he⟩,⟨o,k it (by simp) _ g1,g2⟩,n⟩
 item:=by
  intro X hP hw hK hc i pins s σ H E I hf st hg;subst hP hw hK;obtain⟨xs,x,hq,hx⟩:=hg;obtain⟨its,rv,p,hz⟩:=I.list hq;obtain⟨u,hu,ru⟩:=rv.get hx;have fe:=hf e (by simp);have fi:=hf it (by simp);have ne:=st.2.2;obtain⟨⟨old,he⟩,hit,_⟩:=id st;refine wpAny_pyNext_enum_item he hit p.isList (x:=u) (by simpa using hu) ne λg e1 i1 t1 _ k1=>?_;refine⟨_,rfl,wpAny_letOwnedTupleGo_enum e1 λg2 e2 s2=>?_⟩;have lt1:e<s.heap.objs.size:=yoa he;have lt2:it<s.heap.objs.size:=by
   obtain⟨o,g1,_⟩:=hit;exact yoa g1
  have kk:∀b o,b≠e->b≠it->s.heap.get? b=some o->g2.get? b=some o:=λb o n1 n2 z=>s2.extBut b o n1 (k1 b o n1 n2 z);have tt:g2.get? s.heap.objs.size=some { cls:=.type "tuple",data:=.seq #[.int i s.toks,u] }:=s2.extBut _ _ (yji lt1) t1;have na:∀b,b<s.heap.objs.size->b≠s.heap.objs.size:=λb h=>ydb h;have I1:Inv X pins σ (upd H s.heap.objs.size (.tup [.int (i:Int),x])) { s with heap:=s.heap.push { cls:=.type "tuple",data:=.seq #[.int i s.toks,u] },toks:=s.toks+1 } :=
   I.laid (t':=s.toks+1) (λb o z=>yea _ z) (yja _) ⟨by show 2≤yxa;decide,[.int i s.toks,u],.cons ⟨_,rfl⟩ (.cons ru .nil),⟨_,ysa _ rfl,rfl,_,rfl⟩⟩
  have fo:∀b,b<s.heap.objs.size->FpOk X pins H b->FpOk X pins (upd H s.heap.objs.size (.tup [.int (i:Int),x])) b:=λb h f=>⟨by rw[zxa (na b h)];exact f.1,f.2⟩;have I2:=I1.zewb (h':=g2) (t':=s.toks+1) (p:=e) (q:=it) (λb o n1 n2 z=>by
   by_cases hb:b=s.heap.objs.size
   ·rw[hb] at z ⊢;rw[ysa _ rfl] at z;cases z;exact tt
   ·rw[yaq _ _ _ hb] at z;exact kk b o n1 n2 z) (fo e lt1 fe) (fo it lt2 fi)
  refine⟨.ref s.heap.objs.size,_,I2,rfl,⟨s.heap.objs.size,x,I.hok.fresh (yja _),rfl,rfl,λys hy=>by rw[I.zcw hy hq];exact hx⟩,⟨⟨u,e2⟩,?_,ne⟩,λb hb=>?_⟩
  ·obtain⟨o,z,r⟩:=i1;exact⟨o,s2.extBut _ _ (yvc ne) z,r⟩
  ·have z:b=e∨b=it:=by simpa using hb
   rcases z with rfl|rfl
   ·exact (fo _ lt1 fe).1
   ·exact (fo _ lt2 fi).1
 done:=by
  intro X hP hw hK hc i pins s σ H E I hf st hg;subst hP hw hK;obtain⟨xs,hq,hx⟩:=hg;obtain⟨its,rv,p,hz⟩:=I.list hq;obtain⟨f0,f1,f2,f3,f4,f5⟩:=hf it (by simp);obtain⟨⟨old,he⟩,hit,_⟩:=id st;have hl:=rv.length;exact wpAny_pyNext_enum_end (I.ok.hd hc) he hit p.isList (by simp;omega) λg eb=>⟨rfl,I.turned (t':=s.toks) (λb o hb z=>eb b o hb z) f0 f1 f3 f4 f5⟩
 self:=λ_ _ _ _ _ st h=>by
  obtain⟨⟨old,he⟩,_,_⟩:=st;exact wpAny_pyIter_enum he h
section
variable {X:Cx}
def iEnL (K:yba)(ta:TA):TI:=fun σ H R=>ta σ H λvs H1=>Ex2 λa xs=>vs=[.ref a]∧SqL K H1 a xs∧R (Iel K a) H1
theorem zelb {es:List Expr}{k1:Nat}{tp:Pos}{a:Expr}{ta:TA}{p pos:Pos}(hg:Gl X "enumerate")(hm:X.mg "enumerate" = none)(ha:PA X [a] ta)(hs:yzc [a] X.env=[(false,eval a X.env)]:=by rfl):PI X (.Tuple es k1 tp) (.Call (.Name "enumerate" p) [a] [] pos) (iEnL X.K ta):=by
 intro pins s σ H R I h;refine Call_ (ziy I hg hm zdrb (yce (thn (ha pos pins s σ H _ I h) λus s1 ⟨vs,H1,I1,r1,q1⟩=>?_) hs rfl));obtain⟨b,xs,e,hq,q⟩:=q1;subst e;obtain⟨u,rfl,ru⟩:=vals1 r1;cases ru;obtain⟨its,rv,pl,hz⟩:=I1.list hq;refine call_enumerate_list pl.isList λg en li _ kp=>?_;refine wpAny_pyIter_enum (s:={ s1 with heap:=g }) en ?_;refine⟨s1.heap.objs.size+1,[s1.heap.objs.size+1,s1.heap.objs.size],_,_,H1,rfl,I1.kept (t':=s1.toks) kp,zomb b _ _,⟨⟨_,en⟩,li,Nat.succ_ne_self _⟩,λc hc=>?_,q⟩;have z:c=s1.heap.objs.size+1∨c=s1.heap.objs.size:=by simpa using hc
 rcases z with rfl|rfl
 ·exact I1.fpOk (yzg _) (I1.hok.fresh (yzg _))
 ·exact I1.fpOk (yja _) (I1.hok.fresh (yja _))
end
theorem zpqb {K:yba}{a:Addr}{xs:List V}{g:TG}{tb:TS}{D:Ends}{σ:St}{H:Hp}(Pv:Nat->St->Hp->Prop)(h0:Pv 0 σ H)(hl:∀i σ H,i≤xs.length->Pv i σ H->SqL K H a xs)
  (hs:∀i x σ H p,xs[i]?=some x->Pv i σ H->H p=none->g (.ref p) σ (upd H p (.tup [.int (i:Int),x])) fun σ2 H2=>tb { D with nx:=Pv (i+1),ct:=Pv (i+1),bk:=D.nx } σ2 H2) (hd:∀ σ H,Pv xs.length σ H->D.nx σ H) :
  ∃W:Nat->Nat->St->Hp->Prop,(∃m,W 0 m σ H)∧∀i m σ H,W i m σ H →
   ((Iel K a).stop i H∧D.nx σ H)∨((Iel K a).go i H∧∃N:St->Hp->Prop,(∀ σ' H',N σ' H'->∃m',m'<m∧W (i+1) m' σ' H')∧∀x H',(Iel K a).yld i H x H'->g x σ H' fun σ2 H2=>tb { D with nx:=N,ct:=N,bk:=D.nx } σ2 H2):=by
 refine⟨λi m σ H=>m=xs.length-i∧i≤xs.length∧Pv i σ H,⟨xs.length,rfl,yrb _,h0⟩,?_⟩;rintro i m σ H ⟨rfl,hi,pv⟩;have sq:=hl i σ H hi pv
 by_cases lt:i<xs.length
 ·have ex:xs[i]?=some xs[i]:=yqa lt;refine .inr ⟨⟨xs,xs[i],sq,ex⟩,Pv (i+1),fun σ' H' z=>⟨xs.length-(i+1),by omega,rfl,lt,z⟩,λx H' y=>?_⟩;obtain⟨p,v,hp,rfl,rfl,hv⟩:=y;exact hs i v σ H p (hv xs sq) pv hp
 ·obtain rfl:i=xs.length:=by omega
  exact .inl ⟨⟨xs,sq,yja _⟩,hd σ H pv⟩
theorem zmnb {K:yba}{a:Addr}{xs:List V}{H1:Hp}{g:TG}{tt:TT}{te:TE}{n:Nat}{js:List Nat}{σ:St}{Q:VK}(Pv:Nat->List V->Hp->Prop)(hl:∀i ys H,Pv i ys H->SqL K H a xs)(h0:Pv 0 [] H1)(hz:∀i ys H,Pv i ys H->ys.length≤yxa)
  (hs:∀i x ys H p,xs[i]?=some x->Pv i ys H->H p=none->g (.ref p) (zne n js σ) (upd H p (.tup [.int (i:Int),x])) fun σ2 H2=>σ2.drop n=(zne n js σ).drop n∧tt σ2 H2 λb H3=>if b=true then te σ2 H3 λy H4=>Pv (i+1) (ys++[y]) H4 else Pv (i+1) ys H3)
  (hd:∀ys H,Pv xs.length ys H->∀p,H p=none->Q (.ref p) (upd H p (.lst ys))):zsdb (Iel K a) H1 g tt te n js σ Q:=by
 refine⟨λi m ys H=>m=xs.length-i∧i≤xs.length∧Pv i ys H,⟨xs.length,rfl,yrb _,h0⟩,?_⟩;rintro i m ys H ⟨rfl,hi,pv⟩;have sq:=hl i ys H pv
 by_cases lt:i<xs.length
 ·have ex:xs[i]?=some xs[i]:=yqa lt;refine .inr ⟨⟨xs,xs[i],sq,ex⟩,hz i ys H pv,Pv (i+1),λys' H' z=>⟨xs.length-(i+1),by omega,rfl,lt,z⟩,λx H' y=>?_⟩;obtain⟨p,v,hp,rfl,rfl,hv⟩:=y;exact hs i v ys H p (hv xs sq) pv hp
 ·obtain rfl:i=xs.length:=by omega
  exact .inl ⟨⟨xs,sq,yja _⟩,hz _ ys H pv,hd ys H pv⟩
end L2
namespace L2
open PySem PySem.Spec PyProof.Rows
def XAt (h:Heap)(x:Addr)(cls:Value)(T:Addr):Prop:=∃(oe oT:Obj) (vs ts:Array Value) (a0:Value),h.get? x=some oe∧(oe.cls=cls∧vs[0]?=some a0)∧oe.data = .fields vs∧vs[1]?=some (.ref T)∧T≠x∧h.get? T=some oT∧oT.data = .fields ts∧ts[3]?=some .none
def CX1 (P:ybc)(w:World):CXT:=λouter H s E e s'=>∃(x T:Addr) (cls:Value) (H':Hp),e = .ref x∧s'.os=s.os∧yhm s'.gens∧Un (frs outer) [] H H' s.heap s'.heap∧HOk P w H' s'.heap∧XAt s'.heap x cls T∧s.heap.get? x=none∧s.heap.get? T=none∧H' x=none∧H' T=none∧E cls none H'
theorem HOk.obj {P:ybc}{w:World}{H:Hp}{h:Heap}(x:HOk P w H h){a:Addr}{o:HO}(e:H a=some o):∃u,h.get? a=some u:=by
 have z:=x a o e;cases o with
 | lst xs=>obtain⟨_,_,_,_,e⟩:=z;exact⟨_,e⟩
 | tup xs=>obtain⟨_,_,_,ob,e,_⟩:=z;exact⟨_,e⟩
 | dK kvs=>obtain⟨_,_,_,_,o,_,_,e,_⟩:=z;exact⟨_,e⟩
 | dT kvs=>obtain⟨_,_,_,_,o,_,_,e,_⟩:=z;exact⟨_,e⟩
 | set S n=>obtain⟨o,_,_,_,e,_⟩:=z;exact⟨_,e⟩
 | ins C dx fs=>obtain⟨_,_,_,e,_⟩:=z;exact⟨_,e⟩
 | own y=>exact z
 | xd fs=>obtain⟨_,⟨_,_,_,e,_⟩,_⟩:=z;exact⟨_,e⟩
 | rng lo hi=>obtain⟨_,_,_,e⟩:=z;exact⟨_,e⟩
 | frz ob u=>obtain⟨e,_⟩:=z;exact⟨_,e⟩
 | tbl ps=>exact⟨_,show h.get? a=some _ from z⟩
 | met f y=>exact⟨_,show h.get? a=some _ from z⟩
 | ext φ=>exact z.2.1
section
variable {X:Cx}{pins:List (Addr×Obj)}{σ:St}{H:Hp}{s:Shared}{E:XK}
theorem zjyb (J:Inv X pins σ H s)(hs:X.stack=X.env::X.outer)(hex:X.ex=[]){B h':Heap}{x:Addr}{cls a0:Value}(fl:yfl B X.outer x cls a0 h')(up:∀b o,b=X.env.locals∨b∈X.fs->s.heap.get? b=some o->(∀vs,o.data ≠ .fields vs)->∃sl,h'.get? b=some { o with slots:=sl })
  (hB:∀b o,s.heap.get? b=some o->b∉frs X.stack->(H b≠none∨X.s₀.heap.get? b≠none)->B.get? b=some o) (n1:X.s₀.heap.get? x=none) (f1:H x=none) (e:E cls none H) :
  CX1 X.prog X.w X.outer X.H₀ X.s₀ E (.ref x) { s with heap:=h' }:=by
 obtain⟨k1,k2,k3,oe,vs,T,oT,ts,g1,g2,g3,g4,g5,g6,g7,g8,g9⟩:=fl;have nst:∀b,b∈frs X.stack->b=X.env.locals∨b∈X.fs:=λb hb=>yia.mp (J.zqw b hb);have old:∀{b:Addr} {o:Obj},X.s₀.heap.get? b=some o->b≠X.env.locals:=λ{b o} q z=>by
  exact absurd (yra (yoa q) J.ok.above) (by rw[z];exact yqc _)
 have stays:∀b o,s.heap.get? b=some o->b∉frs X.stack->(H b≠none∨X.s₀.heap.get? b≠none)->h'.get? b=some o:=λb o q n t=>k1 b o (hB b o q n t);have noEx:∀b,b∉X.ex:=λb z=>by rw[hex] at z;cases z
 have frf:∀b∈X.fs,∃o,s.heap.get? b=some o∧∀vs,o.data ≠ .fields vs:=λb hb=>(J.funs.mem hb).2;have un:Un X.fs [] X.H₀ H X.s₀.heap h':=by
  refine⟨λb o q n nf _=>?_,λb o q n nf _=>?_,λb o q n _=>J.base.free b o q n (noEx b),λb o q _=>?_,J.base.tups,J.base.frzs,J.base.tbls⟩
  ·refine stays b o (J.base.keep b o q n nf (noEx b)) (λz=>?_) (.inr (by rw[q];intro z;cases z))
   rcases nst b z with y|y
   ·exact old q y
   ·exact nf y
  ·obtain⟨sl,q2⟩:=J.base.slot b o q n nf (noEx b);obtain⟨o2,q3,q4⟩:=frf b nf;rw[q2] at q3;cases q3;obtain⟨sl2,q5⟩:=up b _ (.inr nf) q2 q4;exact⟨sl2,q5⟩
  ·obtain⟨o2,q2⟩:=J.base.there b o q (noEx b)
   by_cases c:b∈X.fs
   ·obtain⟨o3,q3,q4⟩:=frf b c;obtain⟨sl,q5⟩:=up b _ (.inr c) q3 q4;exact⟨_,q5⟩
   ·refine⟨o2,stays b o2 q2 (λz=>?_) (.inr (by rw[q];intro z;cases z))⟩
    rcases nst b z with y|y
    ·exact old q y
    ·exact c y
 have hok:HOk X.prog X.w H h':=λb u q=>(J.hok b u q).stay (λc v hc r=>by
  have tr:H c≠none:=by
   rcases hc with z|z
   ·rw[z,q];intro y;cases y
   ·rw[z];intro y;cases y
  exact stays c v r (λz=>tr (J.zthb c z)) (.inl tr)) (λ_ z=>z) λ_ _ z=>z
 have Tn:T∉frs X.stack:=λz=>by
  rcases nst T z with y|y
  ·obtain⟨m,⟨o,es,ep,ho,hd,_⟩,_⟩:=J.loc;obtain⟨sl,q⟩:=up _ o (.inl rfl) ho λvs q=>by rw[hd] at q;cases q
   rw[y,q] at g7;cases g7;rw[show ({ o with slots:=sl }:Obj).data=o.data from rfl,hd] at g8;cases g8
  ·obtain⟨o3,q3,q4⟩:=frf T y;obtain⟨sl,q5⟩:=up T _ (.inr y) q3 q4;rw[q5] at g7;cases g7;exact q4 ts g8
 have bn:∀{o:Obj},s.heap.get? T=some o->(H T≠none∨X.s₀.heap.get? T≠none)->False:=λ{o} q t=>by
  have:=hB T o q Tn t;rw[g5] at this;cases this
 refine⟨x,T,cls,H,rfl,J.os,J.bare,un,hok,⟨oe,oT,vs,ts,a0,g1,g2,g3,g4,g6,g7,g8,g9⟩,n1,?_,f1,?_,e⟩
 ·cases q:X.s₀.heap.get? T with
  | none=>rfl
  | some o =>
   obtain⟨o2,q2⟩:=J.base.there T o q (noEx T);exact (bn q2 (.inr (by rw[q];intro z;cases z))).elim
 ·cases q:H T with
  | none=>rfl
  | some u =>
   obtain⟨o2,q2⟩:=HOk.obj J.hok q;exact (bn q2 (.inl (by rw[q];intro z;cases z))).elim
theorem leave1 (J:Inv X pins σ H s)(hs:X.stack=X.env::X.outer)(hex:X.ex=[]){x T:Addr}{cls:Value}{E':Value->Shared->Prop}(xa:XAt s.heap x cls T)(n1:X.s₀.heap.get? x=none)(n2:X.s₀.heap.get? T=none)(f1:H x=none)(f2:H T=none)(e:E cls none H) :
  wpAny (model X.prog X.w) X.A (yrp X.env (.ref x)) (λ_ s'=>CX1 X.prog X.w X.outer X.H₀ X.s₀ E (.ref x) s') E' s:=by
 obtain⟨oe,oT,vs,ts,a0,g1,g2,g3,g4,g6,g7,g8,g9⟩:=xa;have hf:X.env.frame=some X.env.locals:=by
  rcases J.ok.stk with z|z
  ·rw[hs] at z;have:=congrArg ynf z;simp at this
  ·exact z.2
 have hin:∀env∈X.env::X.outer,∀b,env.frame=some b->b∈frs X.stack++[x,T]:=λenv he b hb=>ywc _ (by rw[hs];exact yag.mpr ⟨env,he,hb⟩);have mx:x∈frs X.stack++[x,T]:=yqb _ (by simp);have mT:T∈frs X.stack++[x,T]:=yqb _ (by simp);have fl:yfl (ybe s.heap (frs X.stack++[x,T])) (X.env::X.outer) x cls a0 s.heap :=
  ⟨λb o q=>ylh _ q,ytd _ mx,yhh (by rw[← hs];exact J.stack) hin,oe,vs,T,oT,ts,g1,g2,g3,g4,ytd _ mT,g6,g7,g8,g9⟩
 refine wpAny_leaves_onW (by rw[← hs];exact J.ok.frames) hf fl λh' fl' up=>zjyb J hs hex fl' (λb o _=>up b o) (λb o q n t=>?_) n1 f1 e;refine yyg _ q λz=>?_
 rcases yua.mp z with y|y
 ·exact n y
 ·simp only[yia,yvb,or_false] at y
  rcases y with y|y
  ·rw[y] at t
   rcases t with t|t
   ·exact t f1
   ·exact t n1
  ·rw[y] at t
   rcases t with t|t
   ·exact t f2
   ·exact t n2
theorem zbcc (J:Inv X pins σ H s)(hs:X.stack=X.env::X.outer)(hex:X.ex=[]){x:Addr}{cls:Value}{args:List Value}{h1:Heap}{E':Value->Shared->Prop}(mx:Heap.MadeExcOf s.heap h1 x cls args)(e:E cls none H) :
  wpAny (model X.prog X.w) X.A (yrp X.env (.ref x)) (λ_ s'=>CX1 X.prog X.w X.outer X.H₀ X.s₀ E (.ref x) s') E' { s with heap:=h1 }:=by
 have hf:X.env.frame=some X.env.locals:=by
  rcases J.ok.stk with z|z
  ·rw[hs] at z;have:=congrArg ynf z;simp at this
  ·exact z.2
 have hin:∀env∈X.env::X.outer,∀b,env.frame=some b->b∈frs X.stack:=λenv he b hb=>by rw[hs];exact yag.mpr ⟨env,he,hb⟩
 have J1:Inv X pins σ H { s with heap:=h1 }:=J.call (h':=h1) (g':=s.gens) (d':=s.drawn) (t':=s.toks) (ch:=[]) (Un.kept λb o q=>mx.keeps b o q) (J.hok.kept λb o q=>mx.keeps b o q) J.bare (λb z=>absurd z (by simp));have n1:X.s₀.heap.get? x=none:=by
  cases q:X.s₀.heap.get? x with
  | none=>rfl
  | some o =>
   obtain⟨o2,q2⟩:=J.base.there x o q (by rw[hex];intro z;cases z);rw[mx.new] at q2;cases q2
 have f1:H x=none:=by
  cases q:H x with
  | none=>rfl
  | some u =>
   obtain⟨o2,q2⟩:=HOk.obj J.hok q;rw[mx.new] at q2;cases q2
 refine wpAny_leaves_madeW (s:={ s with heap:=h1 }) (h:=s.heap) (base:=ybe s.heap (frs X.stack)) (by rw[← hs];exact J.ok.frames) hf (λb o q=>ylh _ q) (yhh (by rw[← hs];exact J.stack) hin) mx λh' t fl' _ _ up=>?_;have z:=zjyb (s:={ s with heap:=h1 }) J1 hs hex fl' (λb o _=>up b o) (λb o q n t=>?_) n1 f1 e
 ·exact z
 ·have there:∃o2,s.heap.get? b=some o2:=by
   rcases t with t|t
   ·cases q2:H b with
    | none=>exact absurd q2 t
    | some u=>exact HOk.obj J.hok q2
   ·cases q2:X.s₀.heap.get? b with
    | none=>exact absurd q2 t
    | some u=>exact J.base.there b u q2 (by rw[hex];intro z;cases z)
  obtain⟨o2,q2⟩:=there;have q3:=mx.keeps b o2 q2;have q':h1.get? b=some o:=q;rw[q'] at q3;cases q3;exact yyg _ q2 n
end
section
variable {P:ybc}{w:World}{K:yba}{mg:Str->Option Value}{base:Heap}{N:List Str}{qual:Str}{scope:Scope}{f:Addr}{cd:Value}{A:Around}{outer:List Env}{s:Shared}{H:Hp}{E:XK}
theorem zjd:Passes (CX1 P w) (cxOf (CX1 P w) P w K mg base N qual scope f cd A outer s H E) E:=by
 intro pins σ H1 s1 e s' I h;obtain⟨x,T,cls,H',rfl,os,bare,un,hok,xa,n1,n2,f1,f2,he⟩:=h;have J:=I.call' (H':=H') (ch:=[]) os un hok bare (λb z=>absurd z (by simp));have up:∀{b:Addr},s1.heap.get? b=none->s.heap.get? b=none:=λ{b} q=>by
  cases q2:s.heap.get? b with
  | none=>rfl
  | some o =>
   obtain⟨o2,q3⟩:=I.base.there b o q2 (λz=>by cases z);rw[q] at q3;cases q3
 exact leave1 J rfl rfl xa (up n1) (up n2) f1 f2 he
end
end L2
namespace L2
open PySem PySem.Spec PyProof.Rows
abbrev zuzb:List Value:=[.type "ValueError",.type "Exception",.type "BaseException",.type "object"]
def ExcC (K:yba)(C:Addr):Prop:=ylr K C zuzb "ValueError.__new__" = true
theorem ztib {K:yba}{h:Heap}{C:Addr}(X:K.In h)(q:ExcC K C) :
  ∃bm N nm qn bs hdct sn sub ab col dd k0 k1 k2 k3 k5 mN,h.get? C=some (yqm nm qn C N bs bm hdct sn sub ab col dd k0 k1 k2 k3 k5 "ValueError.__new__")∧h.Ns N mN∧mN "__init__" = none∧OwnTail h zuzb bm:=by
 unfold ExcC ylr at q
 split at q
 ·rename_i dd cd sl ho
  split at q
  ·rename_i C' bm k0 k1 k2 k3 n k5 hm hs;simp only[yjc,beq_iff_eq,yup] at q;obtain⟨⟨⟨⟨⟨rfl,rfl⟩,hdel⟩,ht⟩,hok⟩,hni⟩:=q;obtain⟨nm,bs,mro,ns,qn,hd,sn,sub,ab,col,del⟩:=cd;dsimp only at hm hdel hok hni;subst hm hdel;have hsl:sl=#[k0,k1,k2,k3,some (.builtin "ValueError.__new__"),k5]:=by
    obtain⟨l⟩:=sl;simp only at hs;rw[hs]
   subst hsl;exact⟨bm,ns,nm,qn,bs,hd,sn,sub,ab,col,dd,k0,k1,k2,k3,k5,_,X _ _ ho,.of_isNs (PySem.W.isNs_of_in X hok),PySem.W.nsMap_none_of_in X hok hni,PySem.W.tail_of_in X ht⟩
  ·cases q
 ·cases q
def Raises (X:Cx)(E:XK):Prop:=∀(pins:List (Addr×Obj)) (σ:St) (H:Hp) (s:Shared) (x:Addr) (cls:Value) (args:List Value) (h1:Heap),Inv X pins σ H s->Heap.MadeExcOf s.heap h1 x cls args->E cls none H->X.xe (.ref x) { s with heap:=h1 }
theorem zxk {P:ybc}{w:World}{K:yba}{mg:Str->Option Value}{base:Heap}{N:List Str}{qual:Str}{scope:Scope}{f:Addr}{cd:Value}{A:Around}{outer:List Env}{s:Shared}{H:Hp}{E:XK}:Raises (cxOf (CX1 P w) P w K mg base N qual scope f cd A outer s H E) E :=
 λpins σ H1 s1 x cls args h1 I mx e=>zbcc I rfl rfl mx e
def zdac (C:Addr)(E:XK)(te:TE):TS:=λ_ σ H=>te σ H λ_ H1=>E (.ref C) none H1
theorem zse {X:Cx}{e:Expr}{te:TE}{x:Str}{np cpos pos:Pos}{C:Addr}{E:XK}(hc:X.calm=true)(hg:Gl X x)(hm:X.mg x=some (.ref C))(q:ExcC X.K C)(R:Raises X E)(he:PE X e te)
  (hdb:(x==("__debug__":Str))=false:=by decide) (hst:backTo cpos (yzc [e] X.env)=(false,eval e X.env)::[]:=by rfl) :
  PS X (.Raise (some (.Call (.Name x np) [e] [] cpos)) none pos) (zdac C E te):=by
 intro pins s σ H D I h;obtain⟨bm,N,nm,qn,bs,hdct,sn,sub,ab,col,dd,k0,k1,k2,k3,k5,mN,hC,hN,hni,TL⟩:=ztib I.mod.kin q;refine wpAny_Raise_call_subU (C:=C) (nm:=nm) (q:=qn) (N:=N) (bs:=bs) (bm:=bm) (hdct:=hdct) (sn:=sn) (sub:=sub) (ab:=ab) (col:=col) (dd:=dd) (k0:=k0) (k1:=k1) (k2:=k2) (k3:=k3) (k5:=k5) (mN:=mN)
  yxk (by decide) yxk (TL.hasType (by decide)) (I.ok.hd hc) (by rw[hst];rfl) hni (zgy I hg hm ⟨rfl,?_⟩ hdb)
 rw[hst];refine yco (ywo (thn (he pins s σ H _ I h) λv s1 ⟨y,H1,I1,r,q1⟩=>yop ⟨rfl,(by show 1≤yxa;decide),I1.bk _ _ hC,hN.keeps I1.bk,TL.keeps I1.bk,λh' e mx=>R pins σ H1 s1 e _ _ h' I1 mx q1⟩))
end L2
namespace L2
open PySem PySem.Spec PyProof.Rows
def subIn (K:yba)(C D:Addr):Bool:=match K.lookup C with
 | some ⟨_,_,.cls cd,_⟩=>cd.mro.contains (.ref D)
 | _=>false
theorem zgac {K:yba}{h:Heap}{C D:Addr}(X:K.In h)(q:subIn K C D=true){nm qn:Str}{N:Addr}{bs bm:List Value}{hdct:Bool}{sn:List Str}{sub:List Value}{ab:Bool}{col:Option Bool}{dd:Option Addr}{k0 k1 k2 k3 k5:Option Value}{newId:String}
  (hC:h.get? C=some (yqm nm qn C N bs bm hdct sn sub ab col dd k0 k1 k2 k3 k5 newId)):(Value.ref C::bm).contains (.ref D)=true:=by
 unfold subIn at q
 split at q
 ·rename_i c d cd sl ho;have z:=X _ _ ho;rw[hC] at z;unfold yqm at z;injection z with z
  injection z with _ _ z3 _
  injection z3 with z3
  rw[← z3] at q;exact q
 ·cases q
section
variable {M:Model}{A:Around}{E:Value->Shared->Prop}
theorem zwz {C D N N':Addr}{nm q nm' q':Str}{bs bm bs' bm':List Value}{hdct hdct':Bool}{sn sn':List Str}{sub sub':List Value}{ab ab':Bool}{col col':Option Bool}{dd dd':Option Addr}{k0 k1 k2 k3 k5 l0 l1 l2 l3 l5:Option Value}{newId newId':String}
  {h:Heap} {g:Array GenState} {d:Drawn} {t:Nat} {os:OsState} {e:Addr} {oe:Obj} {Q:Bool->Shared->Prop}
  (hC:h.get? C=some (yqm nm q C N bs bm hdct sn sub ab col dd k0 k1 k2 k3 k5 newId)) (hD:h.get? D=some (yqm nm' q' D N' bs' bm' hdct' sn' sub' ab' col' dd' l0 l1 l2 l3 l5 newId'))
  (he:h.get? e=some oe) (hcls:oe.cls = .ref C) (hbase:bm'.contains (.type "BaseException")=true) (hsub:(Value.ref C::bm).contains (.ref D)=true)
  (hq:Q true ⟨h,g,d,t,os⟩):wpAny M A (excMatches (.ref e) (.ref D)) Q E ⟨h,g,d,t,os⟩:=by
 have hcB:(Value.ref D::bm').contains (.type "BaseException")=true:=by rw[List.contains_cons,hbase,Bool.or_true]
 have f:=tc_notTuple;unfold excMatches
 repeat (first|(with_reducible refine yjf he ?_;rw[hcls])|with_reducible refine yjf hD ?_|(with_reducible refine wpAny_isSubtype_exc hD ?_;rw[hcB])|(with_reducible refine wpAny_isSubtype_exc hC ?_;rw[hsub])|wp_step)
 exact hq
end
def excO (x:Addr)(cls:Value):HO:=.ext λh=>∃o,h.get? x=some o∧o.cls=cls
abbrev Cx.held (X:Cx)(x:Addr)(E:Value->Shared->Prop):Cx:={ X with A:=X.A.mark (some (.ref x)),calm:=false,xe:=E }
section
variable {X:Cx}{pins:List (Addr×Obj)}{σ:St}{H:Hp}{s:Shared}
theorem Inv.held (I:Inv X pins σ H s)(x:Addr)(E:Value->Shared->Prop):Inv (X.held x E) pins σ H s :=
 ⟨⟨I.ok.mod,I.ok.kind,I.ok.glob,I.ok.blt,I.ok.above,I.ok.inj,I.ok.has,I.ok.cab,(λz=>by cases z),I.ok.frames,I.ok.stk,I.ok.exf,I.ok.bs,I.ok.bsz,I.ok.noex,I.ok.exfs,I.ok.funs,I.ok.frf⟩,I.os,I.bare,I.base,I.loc,I.cell,I.free,I.freeC,I.pin,I.hok,I.len⟩
theorem Inv.zvkb {x:Addr}{E:Value->Shared->Prop}(ok:X.Ok)(I:Inv (X.held x E) pins σ H s):Inv X pins σ H s :=
 ⟨ok,I.os,I.bare,I.base,I.loc,I.cell,I.free,I.freeC,I.pin,I.hok,I.len⟩
theorem Inv.ziac (J:Inv X pins σ H s){x T:Addr}(n1:X.s₀.heap.get? x=none)(n2:X.s₀.heap.get? T=none)(f1:H x=none)(f2:H T=none)(px:∀p∈X.pn++pins,p.1≠x∧p.1≠T)(hex:X.ex=[])
  {h':Heap} (k1:(ybe s.heap (frs X.stack++[x,T])).StaysIn h') (up:s.heap.UpToSlots h'):Inv X pins σ H { s with heap:=h' }:=by
 have noEx:∀b,b∉X.ex:=λb z=>by rw[hex] at z;cases z
 have nst:∀b,b∈frs X.stack->b=X.env.locals∨b∈X.fs:=λb hb=>yia.mp (J.zqw b hb);have keep:∀b o,s.heap.get? b=some o->b≠X.env.locals->b∉X.fs->b≠x->b≠T->h'.get? b=some o:=λb o q h1 h2 h3 h4=>by
  refine k1 b o (yyg _ q λz=>?_)
  rcases yua.mp z with y|y
  ·rcases nst b y with w|w
   ·exact h1 w
   ·exact h2 w
  ·simp only[yia,yvb,or_false] at y
   rcases y with w|w
   ·exact h3 w
   ·exact h4 w
 have old:∀{b:Addr} {o:Obj},X.s₀.heap.get? b=some o->b≠X.env.locals∧b≠x∧b≠T:=λ{b o} q =>
  ⟨λz=>absurd (yra (yoa q) J.ok.above) (by rw[z];exact yqc _),(λz=>by rw[z,n1] at q;cases q),(λz=>by rw[z,n2] at q;cases q)⟩
 have cellUp:∀{c:Addr} {v:Option Value},s.heap.IsCell c v->h'.IsCell c v:=λ{c v} hc=>by
  obtain⟨o,ho,hd⟩:=hc;obtain⟨sl,q⟩:=up c o ho λvs z=>by rw[hd] at z;cases z
  exact⟨_,q,hd⟩
 refine⟨J.ok,J.os,J.bare,?_,?_,λy c hc=>?_,J.free,J.freeC,λp hp=>?_,λb u q=>?_,J.len⟩
 ·refine⟨λb o q n nf _=>?_,λb o q n nf _=>?_,J.base.free,λb o q _=>?_,J.base.tups,J.base.frzs,J.base.tbls⟩
  ·obtain⟨o1,o2,o3⟩:=old q;exact keep b o (J.base.keep b o q n nf (noEx b)) o1 nf o2 o3
  ·obtain⟨sl,q2⟩:=J.base.slot b o q n nf (noEx b);obtain⟨_,o2,q3,q4⟩:=J.funs.mem nf;rw[q2] at q3;cases q3;obtain⟨sl2,q5⟩:=up b _ q2 q4;exact⟨sl2,q5⟩
  ·obtain⟨o2,q2⟩:=J.base.there b o q (noEx b);obtain⟨p1,p2,p3⟩:=old q
   by_cases c:b∈X.fs
   ·obtain⟨_,o3,q3,q4⟩:=J.funs.mem c;obtain⟨sl,q5⟩:=up b _ q3 q4;exact⟨_,q5⟩
   ·exact⟨o2,keep b o2 q2 p1 c p2 p3⟩
 ·obtain⟨m,hn,hl⟩:=J.loc;refine⟨m,up.ns hn,λi y v e1 e2 e3=>?_⟩;obtain⟨u,r,lk⟩:=hl i y v e1 e2 e3;refine⟨u,r,?_⟩
  rcases lk with z|⟨z,c,hc,hi⟩
  ·exact .inl z
  ·exact .inr ⟨z,c,hc,cellUp hi⟩
 ·obtain⟨v,hv⟩:=J.cell y c hc;exact⟨v,cellUp hv⟩
 ·obtain⟨p1,p2,p3,p4,p5⟩:=J.pin p hp;obtain⟨e1,e2⟩:=px p hp;exact⟨keep _ _ p1 p3 p4 e1 e2,p2,p3,p4,p5⟩
 ·refine (J.hok b u q).stay (λc v hc r=>?_) (λ_ z=>z) λ_ _ z=>z;have tr:H c≠none:=by
   rcases hc with z|z
   ·rw[z,q];intro y;cases y
   ·rw[z];intro y;cases y
  refine keep c v r (λz=>?_) (λz=>?_) (λz=>?_) λz=>?_
  ·rw[z] at tr;exact tr J.free
  ·exact tr (J.base.free c _ (J.ok.funs.mem z).2.choose_spec.1 (J.ok.frf c z) (noEx c))
  ·rw[z] at tr;exact tr f1
  ·rw[z] at tr;exact tr f2
theorem Inv.track (I:Inv X pins σ H s){x:Addr}{o:HO}(f1:H x=none)(n1:X.s₀.heap.get? x=none)(hl:x≠X.env.locals)(hc:∀y c,X.env.cells.lookup y=some c->c≠x)(px:∀p∈X.pn++pins,p.1≠x)
  (new:zwl X.prog X.w (upd H x o) s.heap x o):Inv X pins σ (upd H x o) s:=by
 refine⟨I.ok,I.os,I.bare,?_,I.loc,I.cell,by rw[zxa (yvc hl)];exact I.free,λy c h=>by rw[zxa (hc y c h)];exact I.freeC y c h,λp hp=>?_,λb u q=>?_,I.len⟩
 ·exact⟨I.base.keep,I.base.slot,λb u q n ne=>by rw[zxa λz=>by rw[z,n1] at q;cases q];exact I.base.free b u q n ne,I.base.there,λb xs q=>by rw[zxa λz=>by have:=I.base.tups b xs q;rw[z,f1] at this;cases this];exact I.base.tups b xs q,λb ob u q=>by rw[zxa λz=>by have:=I.base.frzs b ob u q;rw[z,f1] at this;cases this];exact I.base.frzs b ob u q,λb ps q=>by
   obtain⟨more,z⟩:=I.base.tbls b ps q;exact⟨more,by rw[zxa λw=>by rw[w,f1] at z;cases z];exact z⟩⟩
 ·obtain⟨p1,p2,p3⟩:=I.pin p hp;exact⟨p1,by rw[zxa (px p hp)];exact p2,p3⟩
 ·by_cases e:b=x
  ·subst e;rw[zfa] at q;cases q;exact new
  ·rw[zxa e] at q;refine (I.hok b u q).stay (λ_ _ _ r=>r) (λc z=>?_) λc xs z=>?_
   ·rw[zxa λw=>by rw[w,f1] at z;cases z];exact z
   ·rw[zxa λw=>by rw[w,f1] at z;cases z];exact z
end
end L2
namespace L2
open PySem PySem.Spec PyProof.Rows
section
variable {X:Cx}{pins:List (Addr×Obj)}{σ:St}{H:Hp}{s:Shared}
theorem zbr {M:Model}{A:Around}{E:Value->Shared->Prop}{k:Nat}{n:Str}{pos:Pos}{Q:Unit->Shared->Prop}(I:Inv X pins σ H s)(hN:X.N.Nodup)(hi:X.N[k]?=some n)(hl:X.env.scope.names.lookup n=some .local)
  (h:∀s',Inv X pins (σ.set k none) H s'->Q () s'):wpAny M A (do bindName X.env n .none;unbindBehindTheSuite X.env n pos) Q E s:=by
 refine yca (wpAny_bindName (zcr (v:=.non) I hN hi (.inl hl) rfl (λs1 I1=>?_) (.inr hl)));unfold unbindBehindTheSuite;refine wpAny_onRaise ?_;obtain⟨m,hn,hlk⟩:=id I1.loc;have hk:k<σ.length:=by rw[I.len];exact (yma.mp hi).1
 obtain⟨u,_,lk⟩:=hlk k n .non hi (by rw[ybd hk]) (.inl hl);have mn:m n=some u:=by
  rcases lk with z|⟨z,_⟩
  ·exact z.2
  ·have z':X.env.scope.names.lookup n=some .cell∨X.env.scope.names.lookup n=some .free:=z;rw[hl] at z'
   rcases z' with y|y<;>cases y
 have hcls:(X.env.scope.kind == .class||(X.env.scope.kind == .module&&X.env.locals != X.env.globals))=false:=by rw[I.ok.kind];rfl
 have cne:=I1.cne;obtain⟨oL,esL,epL,hoL,hdL,_⟩:=id hn;refine wpAny_unbindName_local hl hn mn hcls λh' u' hn' hs=>h _ ⟨I1.ok,I1.os,I1.bare,⟨λb o e n' hb hx=>?_,λb o e n' hb hx=>?_,I1.base.free,λb o e hx=>?_,I1.base.tups,I1.base.frzs,I1.base.tbls⟩,⟨_,hn',λj y v' e1 e2 e3=>?_⟩,λy c e=>?_,I1.free,I1.freeC,λp hp=>?_,λb ob e=>?_,?_⟩
 ·exact (hs.2 b (ydb (yra (yoa e) I.ok.above))).trans (I1.base.keep b o e n' hb hx)
 ·obtain⟨sl,e1⟩:=I1.base.slot b o e n' hb hx;exact⟨sl,(hs.2 b (ydb (yra (yoa e) I.ok.above))).trans e1⟩
 ·obtain⟨o',e1⟩:=I1.base.there b o e hx;exact⟨o',(hs.2 b (ydb (yra (yoa e) I.ok.above))).trans e1⟩
 ·by_cases hj:j=k
  ·subst hj;rw[ybd hk] at e2;cases e2
  ·rw[ybf (yvc hj)] at e2;obtain⟨u2,r,q⟩:=hlk j y v' e1 (by rw[ybf (yvc hj)];exact e2) e3;refine⟨u2,r,?_⟩
   rcases q with⟨q1,q2⟩|⟨q1,c,q2,q3⟩
   ·have:y≠n:=λz=>hj (zgcb hN e1 (z▸hi));exact .inl ⟨q1,by simp[this,q2]⟩
   ·exact .inr ⟨q1,c,q2,q3.sameBut hs (cne y c q2)⟩
 ·obtain⟨w',z⟩:=I1.cell y c e;exact⟨w',z.sameBut hs (cne y c e)⟩
 ·obtain⟨e,n',ne,nf,d⟩:=I1.pin p hp;exact⟨(hs.2 p.1 ne).trans e,n',ne,nf,d⟩
 ·refine (I1.hok b ob e).stay (λc w' hc q=>(hs.2 c ?_).trans q) (λ_ q=>q) λ_ _ q=>q;rintro rfl
  rcases hc with z|z
  ·rw[← z,I1.free] at e;cases e
  ·rw[I1.free] at z;cases z
 ·rw[yrg];exact I.len
def Catches (K:yba)(D0:Addr)(cls:Value):Prop:=∃C,cls = .ref C∧ExcC K C∧subIn K C D0=true
def zvac (k:Nat)(D:Ends):Ends:={ nx:=fun σ H=>D.nx (σ.set k none) H,rt:=D.rt,bk:=fun σ H=>D.bk (σ.set k none) H,ct:=fun σ H=>D.ct (σ.set k none) H }
def tryX (X:Cx)(D0:Addr)(k:Nat)(ts:TS)(D:Ends):XK:=λcls _ H=>Catches X.K D0 cls∧∀(σ:St) (x:Addr),σ.length=X.N.length->H x=none->ts (zvac k D) (σ.set k (some (.ref x))) (upd H x (excO x cls))
theorem zlec {D0:Addr}{k:Nat}{ts:TS}{D:Ends}{x T:Addr}{cls:Value}{y n:Str}{np hpos:Pos}{b₀:Stmt}{suite:List Stmt}(J:Inv X pins σ H s)(hs:X.stack=X.env::X.outer)(hex:X.ex=[])
  (xa:XAt s.heap x cls T) (n1:X.s₀.heap.get? x=none) (n2:X.s₀.heap.get? T=none) (f1:H x=none) (f2:H T=none) (px:∀p∈X.pn++pins,p.1≠x∧p.1≠T) (cx:∀z c,X.env.cells.lookup z=some c->c≠x)
  (e:tryX X D0 k ts D cls none H) (hg:Gl X y) (hm:X.mg y=some (.ref D0)) (q0:ExcC X.K D0) (hN:X.N.Nodup) (hi:X.N[k]?=some n) (hl:X.env.scope.names.lookup n=some .local) (hsu:∀z,PSs (X.held z λ_ _=>False) (b₀::suite) ts)
  (hdb:(y==("__debug__":Str))=false:=by decide) :
  wpAny (model X.prog X.w) X.A (yjk (.ref x) X.env) (λ_ s₂=>wpAny (model X.prog X.w) X.A (yer (.ref x) none) (λ_ s₃=>wpAny (model X.prog X.w) X.A (handleBy (.ref x) X.env [.ExceptHandler (some (.Name y np)) (some n) (b₀::suite) hpos]) (SP X pins D) X.xe s₃) X.xe s₂) X.xe s:=by
 obtain⟨oe,oT,vs,ts',a0,g1,g2,g3,g4,g6,g7,g8,g9⟩:=xa;obtain⟨⟨C,rfl,qC,qs⟩,et⟩:=e;have hf:X.env.frame=some X.env.locals:=by
  rcases J.ok.stk with z|z
  ·rw[hs] at z;have:=congrArg ynf z;simp at this
  ·exact z.2
 have hin:∀env∈X.env::X.outer,∀b,env.frame=some b->b∈frs X.stack++[x,T]:=λenv he b hb=>ywc _ (by rw[hs];exact yag.mpr ⟨env,he,hb⟩);have mx:x∈frs X.stack++[x,T]:=yqb _ (by simp);have mT:T∈frs X.stack++[x,T]:=yqb _ (by simp);have fl:yfl (ybe s.heap (frs X.stack++[x,T])) (X.env::X.outer) x (.ref C) a0 s.heap :=
  ⟨λb o q=>ylh _ q,ytd _ mx,yhh (by rw[← hs];exact J.stack) hin,oe,vs,T,oT,ts',g1,g2,g3,g4,ytd _ mT,g6,g7,g8,g9⟩
 refine wpAny_looks_onW (by rw[← hs];exact J.ok.frames) hf fl λh4 held4 up4=>?_;refine wpAny_landsW (s:={ s with heap:=h4 }) held4 λh5 fl5 up5=>?_;have up45:=up4.trans up5;have J5:=J.ziac n1 n2 f1 f2 px hex fl5.1 up45;refine wpAny_handleBy_cons (codeAny_handlers_test (zgy (X:=X.held x λ_ _=>False) (J5.held x _) hg hm ?_ hdb)) (by intro q;cases q);obtain⟨bm,N,nm,qn,bs,hdct,sn,sub,ab,col,dd,k0,k1,k2,k3,k5,mN,hC,hN',hni,TL⟩:=ztib J5.kIn qC;obtain⟨bm',N',nm',qn',bs',hdct',sn',sub',ab',col',dd',l0,l1,l2,l3,l5,mN',hD,hN'',hni',TL'⟩:=ztib J5.kIn q0;obtain⟨ob,hob,hobc⟩:=fl5.there;refine zwz hC hD hob hobc (TL'.hasType (by decide)) (zgac J5.kIn qs hC) ?_;refine codeAny_handlers_suite_as ?_;refine lands_againW (s:={ s with heap:=h5 }) fl5 λh6 fl6 up6=>?_;have J6:=J.ziac n1 n2 f1 f2 px hex fl6.1 (up45.trans up6);obtain⟨ob6,hob6,hobc6⟩:=fl6.there;have xl:x≠X.env.locals:=λz=>by
  obtain⟨m,⟨o,es,ep,ho,hd,_⟩,_⟩:=J.loc;rw[← z,g1] at ho;cases ho;rw[g3] at hd;cases hd
 have J6t:=((J6.held x λ_ _=>False).track (x:=x) (o:=excO x (.ref C)) f1 n1 xl cx (λp hp=>(px p hp).1) ⟨⟨ob6,hob6,hobc6⟩,⟨ob6,hob6⟩,λh1 h2 ⟨o,e1,e2⟩ kk=>⟨o,kk o e1,e2⟩⟩);refine zcr (X:=X.held x λ_ _=>False) (v:=.ref x) J6t hN hi (.inl hl) rfl (λs7 I7=>?_) (.inr hl);refine yed (hsu x pins s7 _ _ (zvac k D) I7 (et σ x J.len f1)) (λf s8 sp=>?_) λ_ _ z=>yse z;cases f with
 | next =>
  obtain⟨σ',H',I8,q8⟩:=sp;exact zbr (I8.zvkb J.ok) hN hi hl λs9 I9=>⟨_,_,I9,q8⟩
 | brk =>
  obtain⟨σ',H',I8,q8⟩:=sp;exact zbr (I8.zvkb J.ok) hN hi hl λs9 I9=>⟨_,_,I9,q8⟩
 | cont =>
  obtain⟨σ',H',I8,q8⟩:=sp;exact zbr (I8.zvkb J.ok) hN hi hl λs9 I9=>⟨_,_,I9,q8⟩
 | ret u =>
  obtain⟨v,σ',H',I8,r8,q8⟩:=sp;exact zbr (I8.zvkb J.ok) hN hi hl λs9 I9=>⟨v,_,_,I9,r8,q8⟩
end
end L2
namespace L2
open PySem PySem.Spec PyProof.Rows
abbrev Cx.tried (X:Cx)(E:Value->Shared->Prop)(pn:List (Addr×Obj)):Cx:={ X with xe:=E,pn:=pn }
section
variable {X:Cx}{pins:List (Addr×Obj)}{σ:St}{H:Hp}{s:Shared}
theorem Cx.Ok.tried {X:Cx}(ok:X.Ok)(E:Value->Shared->Prop)(pn:List (Addr×Obj)):(X.tried E pn).Ok :=
 ⟨ok.mod,ok.kind,ok.glob,ok.blt,ok.above,ok.inj,ok.has,ok.cab,ok.hd,ok.frames,ok.stk,ok.exf,ok.bs,ok.bsz,ok.noex,ok.exfs,ok.funs,ok.frf⟩
theorem Inv.tried (I:Inv X pins σ H s)(E:Value->Shared->Prop):Inv (X.tried E (X.pn++pins)) [] σ H s :=
 ⟨I.ok.tried E _,I.os,I.bare,I.base,I.loc,I.cell,I.free,I.freeC,λp hp=>I.pin p (by rw[yfc] at hp;exact hp),I.hok,I.len⟩
theorem Inv.zmw {E:Value->Shared->Prop}{pins':List (Addr×Obj)}(ok:X.Ok)(I:Inv (X.tried E (X.pn++pins)) pins' σ H s):Inv X pins σ H s :=
 ⟨ok,I.os,I.bare,I.base,I.loc,I.cell,I.free,I.freeC,λp hp=>I.pin p (ywc _ hp),I.hok,I.len⟩
end
section
variable {X:Cx}
theorem zjbc {tb:XK->TS}{ts:TS}{D0:Addr}{k:Nat}{y n:Str}{np hpos pos:Pos}{body:List Stmt}{b₀:Stmt}{suite:List Stmt}(hs:X.stack=X.env::X.outer)(hex:X.ex=[])(hg:Gl X y)(hm:X.mg y=some (.ref D0))(q0:ExcC X.K D0)
  (hN:X.N.Nodup) (hi:X.N[k]?=some n) (hl:X.env.scope.names.lookup n=some .local) (hb:∀(E1:XK) (E:Value->Shared->Prop) (pn:List (Addr×Obj)),Passes (CX1 X.prog X.w) (X.tried E pn) E1->PSs (X.tried E pn) body (tb E1))
  (hsu:∀z,PSs (X.held z λ_ _=>False) (b₀::suite) ts) (hdb:(y==("__debug__":Str))=false:=by decide) :
  PS X (.Try body [.ExceptHandler (some (.Name y np)) (some n) (b₀::suite) hpos] [] [] pos) (λD σ H=>tb (tryX X D0 k ts D) D σ H):=by
 intro pins s σ H D I h;refine wpAny_Try_except ?_;have P:Passes (CX1 X.prog X.w) (X.tried (λe s₁=>wpAny (model X.prog X.w) X.A (yjk e X.env) (λ_ s₂=>wpAny (model X.prog X.w) X.A (yer e none) (λ_ s₃=>wpAny (model X.prog X.w) X.A (handleBy e X.env [.ExceptHandler (some (.Name y np)) (some n) (b₀::suite) hpos]) (SP X pins D) X.xe s₃) X.xe s₂) X.xe s₁) (X.pn++pins)) (tryX X D0 k ts D):=by
  intro pins' σ' H1 s1 e s' I1 hx;obtain⟨x,T,cls,H2,rfl,os,bare,un,hok,xa,n1,n2,f1,f2,he⟩:=hx;have J':=I1.call' (H':=H2) (ch:=[]) os un hok bare (λb z=>absurd z (by simp));have J:Inv X pins σ' H2 s':=J'.zmw I.ok;have up:∀{b:Addr},s1.heap.get? b=none->X.s₀.heap.get? b=none:=λ{b} q=>by
   cases q2:X.s₀.heap.get? b with
   | none=>rfl
   | some o =>
    obtain⟨o2,q3⟩:=I1.base.there b o q2 (λz=>by rw[show (X.tried _ _).ex=X.ex from rfl,hex] at z;cases z);rw[q] at q3;cases q3
  refine zlec J hs hex xa (up n1) (up n2) f1 f2 (λp hp=>?_) (λz c hc w=>?_) he hg hm q0 hN hi hl hsu hdb
  ·obtain⟨p1,_⟩:=I1.pin p (ywc _ hp);exact⟨(λw=>by rw[w,n1] at p1;cases p1),(λw=>by rw[w,n2] at p1;cases p1)⟩
  ·obtain⟨v,o,ho,_⟩:=I1.cell z c hc;rw[w,n1] at ho;cases ho
 refine yed (hb _ _ _ P [] s σ H D (I.tried _) h) (λf s₁ sp=>?_) λe s₁ z=>z;have sp':SP X pins D f s₁:=by
  cases f with
  | next=>obtain⟨σ',H',J,q⟩:=sp;exact⟨σ',H',J.zmw I.ok,q⟩
  | brk=>obtain⟨σ',H',J,q⟩:=sp;exact⟨σ',H',J.zmw I.ok,q⟩
  | cont=>obtain⟨σ',H',J,q⟩:=sp;exact⟨σ',H',J.zmw I.ok,q⟩
  | ret u=>obtain⟨v,σ',H',J,r,q⟩:=sp;exact⟨v,σ',H',J.zmw I.ok,r,q⟩
 cases f with
 | next=>exact yri sp'
 | brk=>exact sp'
 | cont=>exact sp'
 | ret u=>exact sp'
end
end L2
namespace L2
open PySem PySem.Spec PyProof.Rows
structure ExcQ (K:yba)(C:Addr):Prop where
 ga:ybb K (.ref C) "__getattribute__" = some (some (.builtin "BaseException.__getattribute__"))
 gt:ybb K (.ref C) "__getattr__" = some none
 cl:ybb K (.ref C) "__class__" = some (some (.builtin "object.__class__"))
 be:yeh K (.ref C) (.type "BaseException")=some true
 ob:yeh K (.ref C) (.type "object")=some true
 is:(yui K C).isSome=true
section
variable {prog:ybc}{w:World}{A:Around}{E:Value->Shared->Prop}{K:yba}{h:Heap}{g:Array GenState}{d:Drawn}{t:Nat}{os:OsState}{a C:Addr}{o:Obj}
theorem zszb {R:Result->Shared->Prop}(Z:ExcQ K C)(X:K.In h)(hx:h.get? a=some o)(hc:o.cls = .ref C)(hq:R (.ok (.ret (.ref C))) ⟨h,g,d,t,os⟩) :
  yvh (model prog w) A (.call (.builtin "getset_descriptor.__get__") ⟨[.builtin "object.__class__",.ref a,.ref C],[]⟩) R ⟨h,g,d,t,os⟩:=by
 have hT5:(⟨h,g,d,t,os⟩:Shared).TypeIs (.builtin "object.__class__") "getset_descriptor":=ytj;have f8:=yro (M:=model prog w) X Z.ob;rw[← F.owner_object_class] at f8;refine yak ydp.plain F.entry_gs_get (ydp.check _ _ _ _ _ _ _ _ hT5 (F.args_gs_get _ _ _) ?_)
 repeat (any_goals (first|assumption|(with_reducible refine yjf hx ?_;rw[hc])|with_reducible refine f8.at ?_|wp_step))
 refine⟨yap _ (by decide +kernel),yqe F.entry_object_class ?_⟩
 repeat (any_goals (first|assumption|(with_reducible refine yjf hx ?_;rw[hc])|wp_step))
theorem zorb {M:Model}{nameV:Value}{Q:Unit->Shared->Prop}(Z:ExcQ K C)(X:K.In h)(hx:h.get? a=some o)(hc:o.cls = .ref C)(hq:Q () ⟨h,g,d,t,os⟩) :
  wpAny M A (yvm "BaseException.__getattribute__" ⟨[.ref a,nameV],[]⟩) Q E ⟨h,g,d,t,os⟩:=by
 have hk:builtinKind "BaseException.__getattribute__" = some .slot:=by decide +kernel
 have hsplit:splitId "BaseException.__getattribute__" = some ("BaseException","__getattribute__"):=by decide +kernel
 have f8:=yro (M:=M) X Z.be;have ha:=F.args_bexc_ga (.ref a) nameV;simp only[yvm,hk,hsplit];refine yca ?_
 ·unfold yao
  repeat (first|(with_reducible refine yjf hx ?_;rw[hc])|with_reducible refine f8.at ?_|wp_step)
  exact hq
theorem znrb {tk:Tok}{Q:Fin->Shared->Prop}(Z:ExcQ K C)(X:K.In h)(hx:h.get? a=some o)(hc:o.cls = .ref C)(hq:Q (.done (.ret (.ref C))) ⟨h,g,d,t,os⟩) :
  wpAny (model prog w) A (ywe.«object.__getattribute__» ⟨[.ref a,.str "__class__" tk],[]⟩) Q E ⟨h,g,d,t,os⟩:=by
 have hT5:(⟨h,g,d,t,os⟩:Shared).TypeIs (.builtin "object.__class__") "getset_descriptor":=ytj;have f4:=ywh (M:=model prog w) X Z.cl;have f5:=ytj;have f6:=ydp.lookup;have f7:=F.slot_gs_set.lookup
 repeat (any_goals (first|assumption|(with_reducible refine yjf hx ?_;rw[hc])|with_reducible refine f4.at ?_|wp_step))
 refine zszb Z X hx hc ?_
 repeat (any_goals (first|assumption|wp_step))
theorem zyvb {tk:Tok}{R:Result->Shared->Prop}(Z:ExcQ K C)(X:K.In h)(hx:h.get? a=some o)(hc:o.cls = .ref C)(hq:R (.ok (.ret (.ref C))) ⟨h,g,d,t,os⟩) :
  yvh (model prog w) A (.call (.builtin "BaseException.__getattribute__") ⟨[.ref a,.str "__class__" tk],[]⟩) R ⟨h,g,d,t,os⟩ :=
 yak yeo.ga.plain F.entry_bexc_ga (zorb Z X hx hc (znrb Z X hx hc hq))
theorem zrdc {tk:Tok}{Q:Value->Shared->Prop}(Z:ExcQ K C)(X:K.In h)(hx:h.get? a=some o)(hc:o.cls = .ref C)(hq:Q (.ref C) ⟨h,g,d,t,os⟩) :
  wpAny (model prog w) A (getAttrBy (.ref a) (.str "__class__" tk) false) Q E ⟨h,g,d,t,os⟩:=by
 have f3:=yeo.ga.bind (.ref a);have f1:=ywh (M:=model prog w) X Z.ga;have f2:=ywh (M:=model prog w) X Z.gt;have hx2:(Value.builtin "BaseException.__getattribute__" == Value.builtin "object.__getattribute__")=false:=by decide +kernel
 have hx1:(onTheHeap (Value.ref C)&&Value.builtin "BaseException.__getattribute__" == Value.builtin "object.__getattribute__")=false:=by rw[hx2];rfl
 repeat (any_goals (first|assumption|(with_reducible refine yjf hx ?_;rw[hc])|with_reducible refine f1.at ?_|with_reducible refine f2.at ?_|wp_step))
 refine zyvb Z X hx hc ?_
 repeat (any_goals (first|assumption|wp_step))
theorem zzvb {Q:Option Value->Shared->Prop}(Z:ExcQ K C)(X:K.In h)(hx:h.get? a=some o)(hc:o.cls = .ref C)(hq:Q (some (.ref C)) ⟨h,g,d,t+1,os⟩):wpAny (model prog w) A (getAttr? (.ref a) "__class__") Q E ⟨h,g,d,t,os⟩:=by
 unfold getAttr? getAttrBy?
 repeat (any_goals (first|assumption|with_reducible apply zrdc Z X hx hc|wp_step))
theorem zmcb {x:Addr}(Z:ExcQ K C):PySem.W.KitX K (.ref x) (.ref C) (λh=>∃o,h.get? x=some o∧o.cls = .ref C) where
 ty:=λM h _ p=>by
  obtain⟨o,h1,h2⟩:=p;exact h2▸(yjr.ld h1).andThen .now
 it:=λ_ _ X _=>by
  have z0:=Z.is;unfold yui at z0
  split at z0
  ·rename_i c' d' cd' sl' ho;intro A' Q' E' s' k q;unfold isType loadHead;exact yca (wpAny_loadPart (k _ _ (X _ _ ho)) (yka q))
  ·cases z0
 ne:=λh tp dd its n sl X htp=>by
  refine ykf.mpr λq=>?_;have e:C=tp:=Value.ref.inj (beq_iff_eq.mp q);subst e;have z0:=Z.is;unfold yui at z0
  split at z0
  ·rename_i c' d' cd' sl' ho;have z:=(X _ _ ho).symm.trans htp;cases z
  ·cases z0
 ca:=λ{_ _ _ _ _ s} X p k=>by
  obtain⟨h,g,d,t,os⟩:=s;obtain⟨o,h1,h2⟩:=p;exact zzvb Z X h1 h2 k
end
end L2
namespace L2
open PySem PySem.Spec PyProof.Rows
section
variable {X:Cx}{K:yba}
theorem zzn:zqh X (.builtin "isinstance") (λxs H Q=>∃(a C:Addr) (c:V) (b:Bool),xs=[.ref a,c]∧H a=some (excO a (.ref C))∧ExcQ X.K C∧((∃n,c = .ty n∧yna X.K (.ref C) (.type n)=some b)∨(∃D,c = .ref D∧yna X.K (.ref C) (.ref D)=some b))∧Q (.bl b) H):=by
 intro pins s σ H xs us Q I r h;obtain⟨a,C,c,b,rfl,hx,Z,hc,q⟩:=h;obtain⟨u,u',rfl,rx,r2⟩:=vals2 r;cases (show u=Value.ref a from rx);have fin:∀tk,EP X pins σ Q (.bool b) { s with toks:=tk }:=λtk=>⟨.bl b,H,I.tok tk,rfl,q⟩;have S:=(I.hok a _ hx).1
 rcases hc with⟨n,rfl,e⟩|⟨D,rfl,e⟩
 ·cases (show u'=Value.type n from r2);exact ykd (zmcb Z) I.kIn S e (λz=>nomatch z) fin
 ·cases (show u'=Value.ref D from r2);exact ykd (zmcb Z) I.kIn S e (λz=>nomatch z) fin
end
end L2
namespace L2
open PySem PySem.Spec PyProof.Rows Builtin.Str
theorem zaib {q c:Nat}(h:c<256):(reprChar q c).length≤4:=by
 have z:∀c:Fin 256,(yhq 16 c.1).length≤2:=by decide +kernel
 have z1:=z ⟨c,h⟩;simp only at z1;unfold reprChar
 split
 ·show 2≤4;decide
 split
 ·decide
 split
 ·decide
 split
 ·decide
 split
 ·show 1≤4;decide
 first|rw[if_pos h]|skip
 show (92::120::(ynb (2-((yhq 16 c).map Char.toNat).length) 48++(yhq 16 c).map Char.toNat)).length≤4
 simp only[yha,yga,yyb,yaa];omega
theorem zkxb {x:Str}(h:∀c∈x.cps.toList,c<256):(ygl x).length≤4*x.length+2:=by
 rw[← reprLen_eq];have go:∀(l:List Nat) (n:Nat),(∀c∈l,c<256)->l.foldl (λn c=>n+(reprChar (reprQuote x) c).length) n≤4*l.length+n:=by
  intro l
  induction l with
  | nil=>intro n _;simp
  | cons a r ih =>
   intro n hl;rw[List.foldl_cons];have h1:=ih (n+(reprChar (reprQuote x) a).length) λc hc=>hl c (yla _ hc);have h2:=zaib (q:=reprQuote x) (hl a (ypa ..));rw[yga];omega
 have h1:=go x.cps.toList 2 h;rw[Array.foldl_toList] at h1;exact h1
def tFR (te tc:TE):TE:=fun σ H Q=>te σ H λv H1=>∃x,v = .str x∧(ygl x).length≤1000000∧tc σ H1 λv2 H2=>∃y,v2 = .str y∧y.length≤1000∧Q (.str (ypj++ygl x++y)) H2
theorem zzmb {X:Cx}{e c:Expr}{te tc:TE}{p1 p2:Pos}(he:PE X e te)(hc:PE X c tc):PE X (.JoinedStr [.FormattedValue e 114 none p1,c] p2) (tFR te tc):=by
 intro pins s σ H Q I h;refine wpAny_JoinedStr ?_;show wpAny _ _ (eval (.FormattedValue e 114 none p1) X.env) _ _ _
 refine wpAny_FormattedValue_repr (thn (he pins s σ H _ I h) λv s1 ⟨y,H1,I1,r,q1⟩=>?_);obtain⟨x,rfl,hx,q2⟩:=q1;obtain⟨t,rfl⟩:=r;have l1:(ygl x).length≤yxa:=yab hx (by decide);have e0:(ypj++ygl x).length≤yxa:=by
  rw[yep];show 0+_≤_
  rw[ygq];exact l1
 refine wpAny_pyReprObj_str ?_ l1;refine formatField_str (λt' tk=>⟨ygl x,t',rfl,e0,?_⟩) l1;have I2:=I1.tok tk;show wpAny _ _ (eval c X.env) _ _ _
 refine thn (hc pins _ σ H1 _ I2 q2) λv2 s2 ⟨y2,H2,I3,r2,y,ey,hy,q3⟩=>?_;subst ey;obtain⟨t2,rfl⟩:=r2;have e1:(ypj++ygl x++y).length≤yxa:=by
  rw[yep,yep];show 0+_+_≤_
  have:yxa=16777216:=rfl;omega
 exact⟨y,t2,rfl,e1,e1,.str (ypj++ygl x++y),H2,I3.tok _,⟨_,rfl⟩,q3⟩
end L2
namespace L2
open PySem PySem.Spec PyProof.Rows
section
variable {P:ybc}{w:World}{K:yba}{mg:Str->Option Value}{base:Heap}{C:Addr}{x q:Str}{st:Stmt}{N ps:List Str}{k:Nat}{sp:Sp}{CX:CXT}
theorem Fun.okx {f:Addr}{fd:yne}(F:Fun K x q st f fd)(S:zva N ps (zka st))(len:∀vs H Q E,sp vs H Q E->vs.length=ps.length)
  (hbody:∀(cdv:Value) (A:Around) (outer:List Env) (s:Shared) (H:Hp) (vs:List V) (Q:VK) (E:XK),Room k (A.deeper (envOfC q (zka st) s.heap.objs.size f cdv))->sp vs H Q E →
   ∃t,PSs (cxOf CX P w K mg base N q (zka st) f cdv A outer s H E) (zqg st) t∧t { nx:=λ_ H'=>Q .non H',rt:=Q } (start N vs) H):FnOk P w K mg base CX (k+1) f fd ps sp:=by
 obtain⟨oc,od,kV,doc,pm,an,cdv,ct,osl,rfl,lk,hcd⟩:=F.ex;exact zzcc lk hcd S len λA outer s H vs Q E hr hsp=>hbody cdv A outer s H vs Q E hr hsp
theorem Gf.okx (g:Gf K mg x q st)(S:zva N ps (zka st))
  (hb:∀(f:Addr) (cdv:Value) (A:Around) (outer:List Env) (s:Shared) (H:Hp) (vs:List V) (Q:VK) (E:XK),Room k (A.deeper (envOfC q (zka st) s.heap.objs.size f cdv))->sp vs H Q E->let X:=cxOf (CX1 P w) P w K mg base N q (zka st) f cdv A outer s H E;∃t,PSs X (zqg st) t∧t { nx:=λ_ H'=>Q .non H',rt:=Q } (start N vs) H)
  (len:∀vs H Q E,sp vs H Q E->vs.length=ps.length:=by intro _ _ _ _ h;cases h;rename_i h;rw[h.1];rfl):FnOk P w K mg base (CX1 P w) (k+1) g.f g.d ps sp:=g.F.okx S len (hb g.f)
theorem Mf.okx (g:Mf K C x q st)(S:zva N ps (zka st))
  (hb:∀(f:Addr) (cdv:Value) (A:Around) (outer:List Env) (s:Shared) (H:Hp) (vs:List V) (Q:VK) (E:XK),Room k (A.deeper (envOfC q (zka st) s.heap.objs.size f cdv))->sp vs H Q E->let X:=cxOf (CX1 P w) P w K mg base N q (zka st) f cdv A outer s H E;∃t,PSs X (zqg st) t∧t { nx:=λ_ H'=>Q .non H',rt:=Q } (start N vs) H)
  (len:∀vs H Q E,sp vs H Q E->vs.length=ps.length:=by intro _ _ _ _ h;cases h;rename_i h;rw[h.1];rfl):FnOk P w K mg base (CX1 P w) (k+1) g.f g.d ps sp:=g.F.okx S len (hb g.f)
theorem zzxb {X:Cx}:Passes (CX1 P w) X E0:=λ_ _ _ _ _ _ _ h=>by
 obtain⟨_,_,_,_,_,_,_,_,_,_,_,_,_,_,h⟩:=h;exact yse h
end
structure ExK (K:yba)(mg:Str->Option Value)(n:Str) where
 c:Addr
 m:mg n=some (.ref c)
 q:ExcC K c
 z:ExcQ K c
end L2
namespace L2
open PySem PySem.Spec PyProof.Rows
theorem zyx {e:Value}{a b:Env}(h:a.frame=b.frame):yjk e a=yjk e b:=by
 unfold yjk PySem.frameOf;rw[h]
section
variable {M:Model}{A:Around}{E:Value->Shared->Prop}{s:Shared}
theorem zfnb {base:Heap}{env:Env}{outer:List Env}{L e:Addr}{cls a0 fl:Value}{Q:Unit->Shared->Prop}
  (hfr:A.frames=some (env::outer)) (hl:s.heap.FunFrames base (env::outer)) (hf:env.frame=some L) (ht:s.heap.TracedAtW base e cls a0 fl) (hkb:base.StaysIn s.heap) (hen:base.get? e=none)
  (hQ:∀h',yfl base outer e cls a0 h'->s.heap.UpToSlots h'->Q () { s with heap:=h' }):wpAny M A (yrp env (.ref e)) Q E s:=by
 by_cases c:fl=rawInt L
 ·subst c;unfold yrp;refine yca (wpAny_noteFrame_againW hf ht ?_);exact wpAny_setFlight_noneW hkb hl ht λh' k1 k2 k3 k4=>hQ h' ⟨k1,hen,k2.2.2,k3⟩ λb o hb hn=>⟨o.slots,k4 b o hb hn⟩
 ·obtain⟨oe,vs,T,oT,ts,he,⟨hcls,h0⟩,hd,h1,hnT,hTe,hT,hdT,h3⟩:=ht;subst hcls;unfold yrp yjk;simp only[hf];refine yca (yca (yhj he hd h1 ?_));rw[if_pos (show (Value.ref T != Value.none)=true from by simp)];refine yca (yhj hT hdT h3 ?_);rw[if_neg (show ¬ ((fl==rawInt L)=true) from by simpa using c)];refine yca (wpAny_setField hT hdT (yuf.mp h3).1 ?_);have other:∀b,b≠T->(s.heap.update T (Obj.mapFields (·.setIfInBounds 3 Value.none))).get? b=s.heap.get? b:=λb hb=>yoc _ _ (yvc hb);have noRecord:∀b o,s.heap.get? b=some o->(∀vs,o.data ≠ .fields vs)->b≠T:=λb o hb hnf q=>by
   rw[q,hT] at hb;injection hb with hb;subst hb;exact hnf ts hdT
  refine wpAny_newEntryW hfr (hl.of_keeps λb o hb hnf=>⟨o,(other b (noRecord b o hb hnf)).trans hb,rfl⟩) hf ((other e (yvc hTe)).trans he)
   (λb o hbo=>(other b λq=>by rw[q,hnT] at hbo;cases hbo).trans (hkb b o hbo)) hen hd (yuf.mp h1).1 h0 ?_
  rintro h' ⟨k1,⟨_,_,k2⟩,k3,k4⟩;exact hQ h' ⟨k1,hen,k2,k3⟩ λb o hb hnf=>k4 b o ((other b (noRecord b o hb hnf)).trans hb) hnf
theorem zanb {α:Type}{base:Heap}{l:List Env}{e:Addr}{cls a0 fl:Value}{what:String}{cenv:Env}{Q:α->Shared->Prop}(hkb:base.StaysIn s.heap)(hl:s.heap.FunFrames base l)(ht:s.heap.TracedAtW base e cls a0 fl)
  (h:∀h' fl',base.StaysIn h'->h'.FunFrames base l->h'.TracedAtW base e cls a0 fl'->(∀b o,s.heap.get? b=some o->(∀vs,o.data ≠ .fields vs)->h'.get? b=some o)->E (.ref e) { s with heap:=h' }):wpAny M A (yiq what (.ref e) cenv:Sem α) Q E s:=by
 obtain⟨oe,vs,T,oT,ts,he,hcls,hd,h1,hnT,hTe,hT,hdT,h3⟩:=ht;have hsz3:3<ts.size:=(yuf.mp h3).1;have other:∀b,b≠T->(s.heap.update T (Obj.mapFields (·.setIfInBounds 3 (cenv.frame.elim Value.none λf=>rawInt f)))).get? b=s.heap.get? b :=
  λb hb=>yoc _ _ (yvc hb)
 have noRecord:∀b o,s.heap.get? b=some o->(∀vs,o.data ≠ .fields vs)->b≠T:=λb o hb hnf q=>by
  rw[q,hT] at hb;injection hb with hb;subst hb;exact hnf ts hdT
 have fin:wpAny M A (yer (.ref e) cenv.frame) (λ_ s'=>wpAny M A (throw (.ref e):Sem α) Q E s') E s:=by
  unfold yer;refine yca (yhj he hd h1 ?_);rw[if_pos (show (Value.ref T != Value.none)=true from by simp)];refine wpAny_setField hT hdT hsz3 (wpAny_throw (h _ (cenv.frame.elim Value.none λf=>rawInt f) (λb o hbo=>(other b λq=>by rw[q,hnT] at hbo;cases hbo).trans (hkb b o hbo))
   (hl.of_keeps λb o hb hnf=>⟨o,(other b (noRecord b o hb hnf)).trans hb,rfl⟩) ?_ λb o hb hnf=>(other b (noRecord b o hb hnf)).trans hb))
  exact⟨oe,vs,T,_,_,(other e (yvc hTe)).trans he,hcls,hd,h1,hnT,hTe,ysd _ hT (Obj.isFreed_of_fields (yfp hdT _)),yfp hdT _,by simp[hsz3]⟩
 unfold yiq;refine yca (yhj he hd h1 ?_);rw[if_neg (show ¬ ((Value.ref T==Value.none)=true) from by simp)]
 first
  | exact yca (yka (yca fin))
  | exact yca fin
end
theorem zqvb {h h' base:Heap}{C:Addr}(hs:yzf C h h'):∀{l:List Env},C∉frs l->h.FunFrames base l->h'.FunFrames base l
 | [],_,_=>trivial
 | env::r,n,⟨hk,⟨L,o,hf,hn,ho,hd⟩,hr⟩=>by
  have e:frs (env::r)=L::frs r:=by
   unfold frs;rw[ymf,hf]
  rw[e] at n;exact⟨hk,⟨L,o,hf,hn,(hs.2 L (λz=>n (by rw[z];exact ypa))).trans ho,hd⟩,zqvb hs (λz=>n (yla _ z)) hr⟩
def xeC (X:Cx)(sc:Scope)(C:Addr):Value->Shared->Prop:=yno (model X.prog X.w) X.A (yyn sc (clOf sc X.env.cells) C X.env) λx s'=>∃m,s'.heap.Ns C m∧∀h',yzf C s'.heap h'->∀cenv:Env,cenv.locals=C->wpAny (model X.prog X.w) X.A (yiq "comprehension.variables-let-go" x cenv:Sem Value) (λ_ _=>False) X.xe { s' with heap:=h' }
def blkx (X:Cx)(N':List Str)(sc:Scope)(fp:List Addr)(s:Shared)(H:Hp)(C:Addr):Cx:={ blk X N' sc fp s H C with xe:=xeC X sc C }
def OkB (X:Cx)(fp:List Addr)(s:Shared)(H:Hp)(C:Addr):Prop:=∃pins,∃ σ,Inv X pins σ H s∧(∀b∈fp,FpOk X pins H b)∧s.heap.objs.size≤C
theorem Inv.toX {X:Cx}{N':List Str}{sc:Scope}{fp:List Addr}{s s':Shared}{H H':Hp}{C:Addr}{pn:List (Addr×Obj)}{σ:St}(I:Inv (blk X N' sc fp s H C) pn σ H' s'):Inv (blkx X N' sc fp s H C) pn σ H' s' :=
 ⟨⟨I.ok.mod,I.ok.kind,I.ok.glob,I.ok.blt,I.ok.above,I.ok.inj,I.ok.has,I.ok.cab,I.ok.hd,I.ok.frames,I.ok.stk,I.ok.exf,I.ok.bs,I.ok.bsz,I.ok.noex,I.ok.exfs,I.ok.funs,I.ok.frf⟩,I.os,I.bare,I.base,I.loc,I.cell,I.free,I.freeC,I.pin,I.hok,I.len⟩
theorem Inv.ofX {X:Cx}{N':List Str}{sc:Scope}{fp:List Addr}{s s':Shared}{H H':Hp}{C:Addr}{pn:List (Addr×Obj)}{σ:St}(I:Inv (blkx X N' sc fp s H C) pn σ H' s'):Inv (blk X N' sc fp s H C) pn σ H' s' :=
 ⟨⟨I.ok.mod,I.ok.kind,I.ok.glob,I.ok.blt,I.ok.above,I.ok.inj,I.ok.has,I.ok.cab,I.ok.hd,I.ok.frames,I.ok.stk,I.ok.exf,I.ok.bs,I.ok.bsz,I.ok.noex,I.ok.exfs,I.ok.funs,I.ok.frf⟩,I.os,I.bare,I.base,I.loc,I.cell,I.free,I.freeC,I.pin,I.hok,I.len⟩
section
variable {X:Cx}
theorem zfzb {pins pn:List (Addr×Obj)}{σ σ':St}{H H':Hp}{s s':Shared}{sc:Scope}{N':List Str}{fp:List Addr}{C:Addr}(I:Inv X pins σ H s)(J:Inv (blk X N' sc fp s H C) pn σ' H' s')(hf:∀b∈fp,FpOk X pins H b):Inv X pins σ H' s' :=
 I.call' (ch:=fp) J.os J.base J.hok J.bare λb hb=>⟨(hf b hb).2.2.2.1,(hf b hb).2.1,(hf b hb).2.2.2.2.1,(hf b hb).2.2.2.2.2⟩
end
section
variable {P:ybc}{w:World}{K:yba}{mg:Str->Option Value}{base:Heap}{N:List Str}{qual:Str}{scope:Scope}{f:Addr}{cd:Value}{A:Around}{outer:List Env}{s:Shared}{H:Hp}{E:XK}{N':List Str}{sc:Scope}{fp:List Addr}{s2:Shared}{H2:Hp}{C:Addr}
theorem znbc (ob:OkB (cxOf (CX1 P w) P w K mg base N qual scope f cd A outer s H E) fp s2 H2 C):Passes (CX1 P w) (blkx (cxOf (CX1 P w) P w K mg base N qual scope f cd A outer s H E) N' sc fp s2 H2 C) E:=by
 intro pn σ' H1 s1 e s' I h;obtain⟨x,T,cls,H',rfl,os,bare,un,hok,xa,n1,n2,f1,f2,he⟩:=h;obtain⟨pins,σ,I2,hf,hC⟩:=ob;have Jb:=I.ofX.call' (H':=H') (ch:=[]) os un hok bare (λb z=>absurd z (by simp));have J:=zfzb I2 Jb hf;obtain⟨oe,oT,vs,ts,a0,g1,g2,g3,g4,g6,g7,g8,g9⟩:=xa;obtain⟨mC,hmC,_⟩:=Jb.loc;have hmC':s'.heap.Ns C mC:=hmC;generalize hX:cxOf (CX1 P w) P w K mg base N qual scope f cd A outer s H E=X at *;have hs:X.stack=X.env::X.outer:=by rw[← hX];rfl
 have hex:X.ex=[]:=by rw[← hX];rfl
 have hfr:X.env.frame=some X.env.locals:=by rw[← hX];rfl
 have up1:∀{b:Addr},s1.heap.get? b=none->X.s₀.heap.get? b=none:=λ{b} q=>by
  cases q2:X.s₀.heap.get? b with
  | none=>rfl
  | some o =>
   exfalso;obtain⟨o2,q3⟩:=I2.base.there b o q2 (by rw[hex];intro z;cases z);have lt2:=yoa q3
   by_cases m:b∈fp
   ·rcases (hf b m).2.2.2.1 with z|z
    ·rw[hex] at z;cases z
    ·exact absurd (yra (yoa q2) z) (yqc _)
   ·obtain⟨o4,q4⟩:=I.base.there b o2 q3 m;rw[q] at q4;cases q4
 have nC:X.s₀.heap.get? C=none:=by
  cases q2:X.s₀.heap.get? C with
  | none=>rfl
  | some o =>
   obtain⟨o2,q3⟩:=I2.base.there C o q2 (by rw[hex];intro z;cases z);exact absurd (yra (yoa q3) hC) (yqc _)
 have fC:H' C=none:=Jb.free;have xC:x≠C:=λz=>by
  obtain⟨o,es,ep,ho,hd,_⟩:=hmC';rw[← z,g1] at ho;cases ho;rw[g3] at hd;cases hd
 have TC:T≠C:=λz=>by
  obtain⟨o,es,ep,ho,hd,_⟩:=hmC';rw[← z,g7] at ho;cases ho;rw[g8] at hd;cases hd
 have stC:C∉frs X.stack:=λz=>by
  obtain⟨_,o,e,_⟩:=I2.stack.mem z;exact absurd (yra (yoa e) hC) (yqc _)
 have hin:∀env∈X.env::X.outer,∀b,env.frame=some b->b∈frs X.stack++[x,T,C]:=λenv he b hb=>ywc _ (by rw[hs];exact yag.mpr ⟨env,he,hb⟩);have mx:x∈frs X.stack++[x,T,C]:=yqb _ (by simp);have mT:T∈frs X.stack++[x,T,C]:=yqb _ (by simp);have mC:C∈frs X.stack++[x,T,C]:=yqb _ (by simp);have nb:(ybe s'.heap (frs X.stack++[x,T,C])).get? C=none:=ytd _ mC;have fl:yfl (ybe s'.heap (frs X.stack++[x,T,C])) (X.env::X.outer) x cls a0 s'.heap :=
  ⟨λb o q=>ylh _ q,ytd _ mx,yhh (by rw[← hs];exact J.stack) hin,oe,vs,T,oT,ts,g1,g2,g3,g4,ytd _ mT,g6,g7,g8,g9⟩
 show wpAny (model X.prog X.w) X.A (yjk (.ref x) (yyn sc (clOf sc X.env.cells) C X.env)) _ _ s'
 rw[zyx (a:=yyn sc (clOf sc X.env.cells) C X.env) (b:=X.env) rfl];refine wpAny_looks_onW (by rw[← hs];exact J.ok.frames) hfr fl λh4 held4 up4=>?_;have ns4:=up4.ns hmC';refine⟨_,ns4,λh5 hs5 cenv _=>?_⟩;obtain⟨b1,b2,b3,oe',vs',T',oT',ts',k1,k2,k3,k4,k5,k6,k7,k8,k9⟩:=held4;have xs:∀{b:Addr} {o:Obj} {us:Array Value},h4.get? b=some o->o.data = .fields us->b≠C:=λ{b o us} q d z=>by
  obtain⟨o2,es,ep,ho,hd,_⟩:=ns4;have ho':h4.get? C=some o2:=ho;rw[← z,q] at ho';cases ho';rw[d] at hd;cases hd
 have st5:(ybe s'.heap (frs X.stack++[x,T,C])).StaysIn h5:=λb o q=>(hs5.2 b (λz=>by rw[z,nb] at q;cases q)).trans (b1 b o q);have ff5:h5.FunFrames (ybe s'.heap (frs X.stack++[x,T,C])) (X.env::X.outer):=zqvb hs5 (by rw[← hs];exact stC) b3;have tr5:h5.TracedAtW (ybe s'.heap (frs X.stack++[x,T,C])) x cls a0 (rawInt X.env.locals):=⟨oe',vs',T',oT',ts',(hs5.2 x xC).trans k1,k2,k3,k4,k5,k6,(hs5.2 T' (xs k7 k8)).trans k7,k8,k9⟩;have hxe:∀e s',wpAny (model X.prog X.w) X.A (yrp X.env e) (λ_ s''=>CX1 X.prog X.w X.outer X.H₀ X.s₀ E e s'') (λe' s''=>CX1 X.prog X.w X.outer X.H₀ X.s₀ E e' s'') s'->X.xe e s':=by
  rw[← hX];exact λ_ _ z=>z
 have lf:∀b,b=X.env.locals∨b∈X.fs->b∈frs X.stack:=λb z=>by
  rw[hs];unfold frs;rw[ymf,hfr]
  rcases z with z|z
  ·rw[z];exact ypa
  ·exact yla _ z
 refine zanb (s:={ s' with heap:=h5 }) st5 ff5 tr5 λh6 fl' st6 ff6 tr6 kp6=>?_;refine hxe _ _ (zfnb (s:={ s' with heap:=h6 }) (by rw[← hs];exact J.ok.frames) ff6 hfr tr6 st6 b2 λh7 fl7 up7=>?_);refine zjyb (s:=s') J hs hex fl7 (λb o hb q hn=>?_) (λb o q n t=>?_) (up1 n1) f1 he
 ·obtain⟨sl4,q4⟩:=up4 b o q hn;have bC:b≠C:=λz=>stC (by rw[← z];exact lf b hb);have q6:=kp6 b _ ((hs5.2 b bC).trans q4) hn;obtain⟨sl7,q7⟩:=up7 b _ q6 hn;exact⟨sl7,q7⟩
 ·refine yyg _ q λz=>?_
  rcases yua.mp z with y|y
  ·exact n y
  ·simp only[yia,yvb,or_false] at y
   rcases y with y|y|y
   ·rw[y] at t;exact t.elim (λt=>t f1) (λt=>t (up1 n1))
   ·rw[y] at t;exact t.elim (λt=>t f2) (λt=>t (up1 n2))
   ·rw[y] at t;exact t.elim (λt=>t fC) (λt=>t nC)
end
section
variable {X:Cx}
theorem zlub {elt iter tg:Expr}{ifs:List Expr}{sc:Scope}{pos:Pos}{own cap:List Str}{js:List Nat}{g:TG}{tt:TT}{te:TE}{Qf:List V->Hp->Prop}{RR:Value->Addr->Result->Shared->Prop}{E:Value->Shared->Prop}
  {pins:List (Addr×Obj)} {σ:St} {H2:Hp} {s2:Shared} {it:Addr} {fp:List Addr} {tn:Nat->Heap->Prop} {J:It} {W:Nat->Nat->List V->Hp->Prop} {m0:Nat}
  (hc:X.calm=true) (S:zeb X sc) (cp:Caps X sc cap js)
  (hg:∀fp s H C,OkB X fp s H C->PG (blkx X (own++cap) sc fp s H C) tg g) (ht:∀fp s H C,OkB X fp s H C->PTs (blkx X (own++cap) sc fp s H C) ifs tt) (he:∀fp s H C,OkB X fp s H C->PE (blkx X (own++cap) sc fp s H C) elt te)
  (I2:Inv X pins σ H2 s2) (T:Turn X.prog X.w X.K tg J fp it tn) (st2:tn 0 s2.heap) (f2:∀b∈fp,FpOk X pins H2 b) (w0:W 0 m0 [] H2)
  (turn:∀i m ys H,W i m ys H->(J.stop i H∧ys.length≤yxa∧Qf ys H) ∨
   (J.go i H∧ys.length≤yxa∧∃N:List V->Hp->Prop,(∀ys' H',N ys' H'->∃m',m'<m∧W (i+1) m' ys' H')∧∀x H',J.yld i H x H'->g x (zne own.length js σ) H' fun σ2 H2=>σ2.drop own.length=(zne own.length js σ).drop own.length∧tt σ2 H2 λb H3 =>
    if b=true then te σ2 H3 λy H4=>N (ys++[y]) H4 else N ys H3))
  (hRR:∀D C H4 s4 pn ys its nn,s2.heap.objs.size≤D->s2.heap.objs.size≤C->D≠C->Inv (blk X (own++cap) sc fp s2 H2 C) pn (zne own.length js σ) H4 s4->H4 D=none->s4.heap.get? D=some { cls:=.type "list",data:=.seq its.toArray nn } →
   ys.length≤yxa->Vals ys its->Qf ys H4->RR (.ref D) C (.ok .next) s4)
  (hXE:∀D C e s',xeC X sc C e s'->yno (model X.prog X.w) X.A (yyn sc (clOf sc X.env.cells) C X.env) (λe s'=>RR D C (.error e) s') e s') :
  wpAny (model X.prog X.w) X.A (newList []) (λacc s₃=>wpAny (model X.prog X.w) X.A (newFunctionEnv sc X.env.globals (clOf sc X.env.cells) [] X.env.qual none .none (some X.env)) (λcenv s₄ =>
   yvh (model X.prog X.w) X.A (.compStart (.ListComp elt [⟨tg,iter,ifs,0⟩] sc pos) 0 (.ref it) acc { cenv with scope:=ymo sc X.env }) (RR acc cenv.locals) s₄) E s₃) E s2:=by
 refine ygd (wpAny_newFunctionEnv S.cell (by intro y hy;simp at hy) (λh₁ hns₁ hsb₁=>?_) S.kind);dsimp only at hns₁ hsb₁ ⊢;generalize hH2:s2.heap.push { cls:=.type "list",dict:=none,data:=.seq ([]:List Value).toArray }=HH at hns₁ hsb₁ ⊢;generalize hDd:s2.heap.objs.size=D at hns₁ hsb₁ ⊢;generalize hCc:HH.objs.size=C at hns₁ hsb₁ ⊢;have hC:C=D+1:=by rw[← hCc,← hH2,yvd,hDd]
 have hDC:D≠C:=by rw[hC];exact ydb (yhe _)
 have hCle:s2.heap.objs.size≤C:=by rw[hDd,hC];exact yzg _
 have hDle:s2.heap.objs.size≤D:=yzk hDd;have below:∀b,b<s2.heap.objs.size->b≠C∧b≠D:=λb hb=>⟨ydb (yra hb hCle),ydb (yra hb hDle)⟩;have old:∀b o,s2.heap.get? b=some o->h₁.get? b=some o:=λb o e=>hsb₁.extBut b o (below b (yoa e)).1 (yea _ (hH2▸yea _ e));have q0:HH.get? D=some { cls:=.type "list",data:=.seq ([]:List Value).toArray 0 }:=by
  rw[← hH2,← hDd];exact ysa _ rfl
 have hacc:h₁.get? D=some { cls:=.type "list",data:=.seq ([]:List Value).toArray 0 }:=hsb₁.extBut _ _ hDC (yea _ q0);have fpo:=T.obj 0 _ st2;have obk:OkB X fp s2 H2 C:=⟨pins,σ,I2,f2,hCle⟩;have fplt:∀b∈fp,b<s2.heap.objs.size:=λb hb=>by obtain⟨o,e,_⟩:=fpo b hb;exact yoa e
 have st3:tn 0 h₁:=T.keep 0 _ _ st2 λb hb o e=>old b o e;have I3:∀tk,Inv (blkx X (own++cap) sc fp s2 H2 C) [] (zne own.length js σ) H2 { s2 with heap:=h₁,toks:=tk }:=λtk=>(zkgb (s3:=s2) (tn:=tn) I2 S cp fpo f2 hCle hns₁ old).toX;have stkD:∀b,s2.heap.objs.size≤b->b∉frs X.stack:=λb hb hm=>by
  obtain⟨_,o,e,_⟩:=I2.stack.mem hm;exact absurd (yra (yoa e) hb) (yqc _)
 have nD:H2 D=none:=I2.hok.fresh hDle;have stat:∀{pn:List (Addr×Obj)} {H':Hp},(∀p∈pn,p.1=D)->(∀b∈fp,H' b=none)->∀b∈fp,FpOk (blkx X (own++cap) sc fp s2 H2 C) pn H' b:=λ{pn H'} hp hn b hb=>by
  refine⟨hn b hb,(below b (fplt b hb)).1,λz=>?_,.inl hb,λx c e=>?_,λp hp' z=>?_⟩
  ·obtain⟨_,h2,h3,_⟩:=f2 b hb
   rcases yia.mp (I2.zqw b z) with q|q
   ·exact h2 q
   ·exact h3 q
  ·exact (f2 b hb).2.2.2.2.1 x c (zto sc.names [] (λx c e=>by simp at e) x c e)
  ·have e:=hp p (by simpa [blkx,blk] using hp');rw[e] at z;exact (below b (fplt b hb)).2 z.symm
 have pinD:∀{H':Hp} {s':Shared} {o:Obj},Inv (blkx X (own++cap) sc fp s2 H2 C) [] (zne own.length js σ) H' s'->H' D=none->s'.heap.get? D=some o->(∀v,o.data ≠ .cell v)->Inv (blkx X (own++cap) sc fp s2 H2 C) [(D,o)] (zne own.length js σ) H' s':=λ{H' s' o} I' n e d =>
  I'.zsn λp hp=>by
   have q:p=(D,o):=(by simpa using hp);subst q;exact⟨e,n,hDC,stkD D hDle,d⟩
 have loop:∀s₃:Shared,s₃={ s2 with heap:=h₁,toks:=s2.toks+([]:List (Str×Value)).length } →
   yvh (model X.prog X.w) X.A (.compLoop (.ListComp elt [⟨tg,iter,ifs,0⟩] sc pos) 0 (.ref it) (.ref D) (yyn sc (clOf sc X.env.cells) C X.env)) (RR (.ref D) C) s₃:=by
  rintro s₃ rfl;refine znv (λk s'=>∃i ys its nn H',Inv (blkx X (own++cap) sc fp s2 H2 C) [] (zne own.length js σ) H' s'∧tn i s'.heap∧(∀b∈fp,H' b=none)∧H' D=none ∧
   s'.heap.get? D=some { cls:=.type "list",data:=.seq its.toArray nn }∧Vals ys its∧W i k ys H') ?_ m0 ⟨0,[],[],0,H2,I3 _,st3,λb hb=>(f2 b hb).1,nD,hacc,.nil,w0⟩
  rintro k s3 ⟨i,ys,its,nn,H3,I3,st3,fr3,d3,o3,rv3,w3⟩;have I3':=pinD I3 d3 o3 (λv z=>by cases z);have only:∀p∈[(D,({ cls:=.type "list",data:=.seq its.toArray nn }:Obj))],p.1=D:=λp hp=>by
   rw[yda.mp hp]
  rcases turn i k ys H3 w3 with⟨stop,hz,qn⟩|⟨go,hz,N,hN,step⟩
  ·refine yed (T.done (blkx X (own++cap) sc fp s2 H2 C) rfl rfl rfl hc i _ s3 _ H3 (λ_ _=>False) I3' (stat only fr3) st3 stop) (λr s4 ⟨hr,I4⟩=>?_) λ_ _ z=>z.elim;subst hr;have o4:=(I4.pin (D,_) (yqb _ (yda.mpr rfl))).1;exact hRR D C H3 s4 _ ys its nn hDle hCle hDC I4.ofX d3 o4 hz rv3 qn
  ·refine yed (T.item (blkx X (own++cap) sc fp s2 H2 C) rfl rfl rfl hc i _ s3 _ H3 (λ_ _=>False) I3' (stat only fr3) st3 go) (λr s4 ⟨u,hr,h4⟩=>?_) λ_ _ z=>z.elim;subst hr;refine yed h4 (λ_ s5 ⟨x,H5,I5,r5,y5,st5,fr5⟩=>?_) λ_ _ z=>z.elim;have I5':=I5.pinned (stat only fr5) (T.obj _ _ st5);refine yed (hg fp s2 H2 C obk _ s5 _ H5 x u _ I5' r5 (step x H5 y5)) (λ_ s6 ⟨σ6,H6,I6,d6,q6⟩=>?_) λe s z=>hXE _ _ _ _ z;refine yed (ht fp s2 H2 C obk _ s6 σ6 H6 _ I6 q6) (λok s7 ⟨H7,I7,q7⟩=>?_) λe s z=>hXE _ _ _ _ z;have memD:∀{o:Obj},(D,o)∈(blkx X (own++cap) sc fp s2 H2 C).pn++([(D,o)]++zvu fp s5.heap):=yqb _ (ywc _ (yda.mpr rfl));have memF:∀{b:Addr} {o o':Obj},b∈fp->s5.heap.get? b=some o->(b,o)∈(blkx X (own++cap) sc fp s2 H2 C).pn++([(D,o')]++zvu fp s5.heap):=λhb e=>yqb _ (yqb _ (zro hb e));have σlen:(zne own.length js σ).length=σ6.length:=by
    have a:=I6.len;have b:=I5.len;exact b.trans a.symm
   cases ok with
   | false =>
    have q7':N ys H7:=q7;obtain⟨m',hm,w7⟩:=hN _ _ q7';refine⟨m',hm,i+1,ys,its,nn,H7,(I7.zsn λp hp=>absurd hp (by simp)).weak σlen (λj v e=>zuo d6 e),T.keep _ _ _ st5 λb hb o e=>(I7.pin (b,o) (memF hb e)).1,λb hb=>?_,(I7.pin (D,_) memD).2.1,(I7.pin (D,_) memD).1,rv3,w7⟩;obtain⟨o,e,_⟩:=T.obj _ _ st5 b hb;exact (I7.pin (b,o) (memF hb e)).2.1
   | true =>
    have q7':te σ6 H7 λy H4=>N (ys++[y]) H4:=q7;refine yed (he fp s2 H2 C obk _ s7 σ6 H7 _ I7 q7') (λyv s8 ⟨y,H8,I8,r8,n8'⟩=>?_) λe s z=>hXE _ _ _ _ z;obtain⟨m',hm,w8⟩:=hN _ _ n8';have o8:=(I8.pin (D,_) memD).1;have n8:=(I8.pin (D,_) memD).2.1;refine append_at (hsz:=by rw[yta,← rv3.length];exact hz) o8 λh9 hs9 hD9=>?_;have I8':=(I8.zsn (pins':=[]) λp hp=>absurd hp (by simp)).weak σlen (λj v e=>zuo d6 e);have I9:=I8'.turned (h':=h9) (t':=s8.toks) (it:=D) (λb o hb e=>(hs9.2 b hb).trans e) n8 hDC (.inr hDle) (λx c e z=>by
     obtain⟨v,q⟩:=I2.cell x c (zto sc.names [] (λx c e=>by simp at e) x c e);exact absurd (yra q.lt (by rw[z];exact hDle)) (yqc _)) (λp hp=>absurd (show p∈([]:List (Addr×Obj)) from hp) (by simp))
    refine⟨m',hm,i+1,ys++[y],its++[yv],nn+1,H8,I9,T.keep _ _ _ st5 λb hb o e=>(hs9.2 b (below b (fplt b hb)).2).trans (I8.pin (b,o) (memF hb e)).1,λb hb=>?_,n8,?_,rv3.snoc r8,w8⟩
    ·obtain⟨o,e,_⟩:=T.obj _ _ st5 b hb;exact (I8.pin (b,o) (memF hb e)).2.1
    ·rw[hD9,ytp]
 exact yan (loop _ rfl) (T.self X.A 0 _ _ _ st3 (loop _ rfl))
theorem zglb {elt iter tg:Expr}{ifs:List Expr}{sc:Scope}{pos:Pos}{own cap:List Str}{js:List Nat}{wi:TI}{g:TG}{tt:TT}{te:TE}(hc:X.calm=true)(S:zeb X sc)(cp:Caps X sc cap js)(hi:PI X tg iter wi)
  (hg:∀fp s H C,OkB X fp s H C->PG (blkx X (own++cap) sc fp s H C) tg g) (ht:∀fp s H C,OkB X fp s H C->PTs (blkx X (own++cap) sc fp s H C) ifs tt) (he:∀fp s H C,OkB X fp s H C->PE (blkx X (own++cap) sc fp s H C) elt te)
  (hs:∀x,yfj iter X.env x=pure x:=by intro _;rfl):PE X (.ListComp elt [⟨tg,iter,ifs,0⟩] sc pos) (zmwb wi g tt te own.length js):=by
 intro pins s σ H Q I h;rw[eval_ListComp];refine yli (use:=none) rfl hs (zjt λy hy hf=>I.ok.has y.1 (S.free y hy hf)) S.kind S.names (thn (hi pins s σ H _ I h) λv s1 h1=>thn h1 λitv s2 h2=>?_);obtain⟨it,fp,tn,J,H2,e,I2,T,st2,f2,W,⟨m0,w0⟩,turn⟩:=h2;subst e;refine zlub (RR:=λacc C=>compPost (model X.prog X.w) X.A X.xe none (EP X pins σ Q) acc C) (Qf:=λys H=>∀p,H p=none->Q (.ref p) (upd H p (.lst ys))) hc S cp hg ht he I2 T st2 f2 w0 turn ?_ (λ_ _ _ _ z=>z);intro D C H4 s4 pn ys its nn hD hC hDC I4 n4 o4 hz rv q;obtain⟨m,hn,_⟩:=I4.loc;exact⟨m,hn,λh' hs'=>⟨.ref D,upd H4 D (.lst ys),zajb I2 I4 f2 hC hD hDC n4 o4 hz rv hs',rfl,q D n4⟩⟩
end
end L2
namespace L2
open PySem PySem.Spec PyProof.Rows
section
variable {X:Cx}
end
end L2
namespace SumL
open PySem PySem.Spec PyProof.Rows
section
variable {prog:ybc}{w:World}{A:Around}{E:Value->Shared->Prop}{s:Shared}
theorem zcrb {l st:Addr}{n0:Nat}{Q:Value->Shared->Prop}(hh:A.in1.handled=none)(hl:s.heap.IsList l #[])(hst:s.heap.get? st=some (LO #[] n0))
  (h:∀h',(∀b o,s.heap.get? b=some o->h'.get? b=some o)->Q (.ref st) { s with heap:=h' }) :
  wpAny (model prog w) A (call (.builtin "sum") [.ref l,.ref st]) Q E s:=by
 refine call_function_tree F.kind_sum F.plain_sum F.entry_sum (zzgb _ _) ?_;unfold ywe.«sum»;simp only[yga,yre];rw[if_neg (by decide)];refine yca (ypo (show ypk "sum" ["start"] 0 ⟨[.ref st],[]⟩=pure [some (.ref st)] from rfl) ?_);refine yca (yog hl ?_);refine yca (yka ?_);have hst1:(s.heap.push { cls:=.type "list_iterator",data:=.fields #[.ref l,.int 0 0] }).get? st=some (LO #[] n0):=yea _ hst;have ty:yck { s with heap:=s.heap.push { cls:=.type "list_iterator",data:=.fields #[.ref l,.int 0 0] } } (.ref st) "list":=⟨_,hst1,rfl⟩;simp only[ymn,List.forIn_nil];refine yca (yca (yca (yaf (T:="list") (b:=false) ty F.sub_list_str ?_)));simp only[yqd,if_false];refine yka (yca (yca (yaf (T:="list") (b:=false) ty F.sub_list_bytes ?_)));simp only[yqd,if_false];refine yka (yca (yca (yaf (T:="list") (b:=false) ty ydo ?_)));simp only[yqd,if_false];refine yka (yka ?_);refine yca (ygd ?_);refine yka ⟨ydh yci _,?_⟩;have lt:l<s.heap.objs.size:=by obtain⟨o,ho,_⟩:=id hl;exact yoa ho
 have stt:st<s.heap.objs.size:=yoa hst;have sz:(s.heap.push { cls:=.type "list_iterator",data:=.fields #[.ref l,.int 0 0] }).objs.size=s.heap.objs.size+1:=yvd _ _;have k2:∀x o,s.heap.get? x=some o->((s.heap.push { cls:=.type "list_iterator",data:=.fields #[.ref l,.int 0 0] }).push { cls:=.type "list",data:=.seq #[.ref st] }).get? x=some o:=λx o e=>yea _ (yea _ e);refine loop (I:=s.heap.objs.size) (ax:=l) (S:=(s.heap.push { cls:=.type "list_iterator",data:=.fields #[.ref l,.int 0 0] }).objs.size) hh #[] (λ_=>0) (λ_=>[]) (ydb (by rw[sz];exact yhe _)) (ydb lt) (ydb (by rw[sz];exact ynd lt)) (λi hi=>absurd hi (yvi i)) (λi hi=>absurd hi (yvi i)) 0 0 _ st [] n0 0 rfl (yrb _) ?_ ?_ (λj _ hj=>absurd hj (yvi j)) ?_ ?_ (ydb stt) (ydb (by rw[sz];exact ynd stt)) (by show 0+0≤yxa;decide) λh' T c q1 q2 q3 q4=>?_
 ·exact⟨_,yea _ (ysa _ rfl),rfl,rfl⟩
 ·exact hl.at λo e=>k2 _ _ e
 ·exact ysa _ rfl
 ·exact k2 _ _ hst
 ·rw[q3 rfl];refine h h' (λx o e=>q1 x o ?_ ?_ (k2 _ _ e))
  ·exact ydb (yoa e)
  ·exact ydb (by rw[sz];exact ynd (yoa e))
end
end SumL
namespace L2
open PySem PySem.Spec PyProof.Rows
section
variable {X:Cx}
theorem zfgb (hc:X.calm=true):zqh X (.builtin "sum") (λxs H Q=>∃a,∃st:Addr,xs=[.ref a,.ref st]∧H a=some (.lst [])∧H st=some (.lst [])∧Q (.ref st) H):=by
 intro pins s σ H xs us Q I r h;obtain⟨a,st,rfl,ha,hst,q⟩:=h;obtain⟨u,u2,rfl,ru,ru2⟩:=vals2 r;cases ru;cases ru2;obtain⟨z,its,n,rv,hl,e⟩:=I.lstM ha;obtain⟨z0,its0,n0,rv0,hl0,e0⟩:=I.lstM hst;cases rv0;cases rv;exact SumL.zcrb (show X.A.in1.handled=none from I.ok.hd hc) ⟨_,e,rfl,n,rfl⟩ e0 λh' k=>⟨.ref st,H,I.kept (t':=s.toks) k,rfl,q⟩
theorem zgab:∀{ns:List Addr} {us:List Value},Vals (ns.map V.ref) us->us=ns.map Value.ref
 | [],_,.nil=>rfl
 | n::r,_,.cons h t=>by
  rw[zgab t,show _=Value.ref n from h];rfl
theorem zddb:zqh X (.builtin "isinstance") (λxs H Q=>∃a,∃C:Addr,∃tp,∃Cs:List Addr,∃b,xs=[.ref a,.ref tp]∧H a=some (excO a (.ref C))∧ExcQ X.K C∧SqT X.K H tp (Cs.map V.ref)∧yai X.K (.ref C) (Cs.map Value.ref)=some b∧Q (.bl b) H):=by
 intro pins s σ H xs us Q I r h;obtain⟨a,C,tp,Cs,b,rfl,hx,Z,ht,e,q⟩:=h;obtain⟨u,u',rfl,rx,r2⟩:=vals2 r;cases (show u=Value.ref a from rx);cases (show u'=Value.ref tp from r2);obtain⟨its,rv,⟨⟨cl,dd,da,sl⟩,g1,g2,n,g3⟩,_⟩:=I.tuple ht;cases zgab rv;simp only at g2 g3;subst g2 g3;have fin:∀tk,EP X pins σ Q (.bool b) { s with toks:=tk }:=λtk=>⟨.bl b,H,I.tok tk,rfl,q⟩;have S:=(I.hok a _ hx).1;exact yvg (zmcb Z) I.kIn S g1 e (λz=>nomatch z) fin
end
end L2
namespace L2
open PySem PySem.Spec PyProof.Rows
section
variable {X:Cx}
end
end L2
namespace L2
open PySem PyProof.Rows
section
variable {X:Cx}{pins:List (Addr×Obj)}{σ:St}{H:Hp}{s:Shared}{h':Heap}
theorem Inv.ziob {t':Nat}{fp:List Addr}(I:Inv X pins σ H s)(k:∀b o,b∉fp->s.heap.get? b=some o->h'.get? b=some o)(ff:∀b∈fp,FpOk X pins H b):Inv X pins σ H { s with heap:=h',toks:=t' }:=by
 have o1:∀b u,H b=some u->b∉fp:=λb u e z=>by
  rw[(ff b z).1] at e;cases e
 refine I.step (g':=s.gens) (d':=s.drawn) (ch:=fp) (λb hb=>?_) (λb o _ _ hc e _=>k b o hc e) (λb o _ _ hc e _=>⟨o.slots,k b o hc e⟩) (λ_ _ _ _ n=>n)
  (λb o hc e=>⟨o,k b o hc e⟩) (λ_ _ e=>e) (λ_ _ _ e=>e) (λb ps e=>⟨#[],by rw[e];simp⟩) (λm hm=>?_) (λb u e=>?_) I.bare
 ·obtain⟨_,f1,_,f3,f4,f5⟩:=ff b hb;exact⟨f3,f1,f4,f5⟩
 ·obtain⟨o,es,ep,ho,r⟩:=hm;exact⟨o,es,ep,k _ o (λz=>(ff _ z).2.1 rfl) ho,r⟩
 ·refine (I.hok b u e).stay (λc v hc q=>k c v ?_ q) (λ_ q=>q) λ_ _ q=>q
  rcases hc with z|z
  ·rw[z];exact o1 b u e
  ·exact o1 c _ z
end
def ZpL (h:Heap)(z TI TO i1 i2 l1 l2:Addr)(i:Nat):Prop:=IsZip h z TI TO .none∧IsPair h TI (.ref i1) (.ref i2)∧(Ex2 λa b=>IsPair h TO a b)∧h.IsListIter i1 l1 i∧h.IsListIter i2 l2 i
def Izl (K:yba)(a b:Addr):It :=
 ⟨λi H=>Ex4 λxs ys x y=>SqL K H a xs∧SqL K H b ys∧xs[i]?=some x∧ys[i]?=some y,λi H x H'=>Ex3 λp v u=>H p=none∧x = .ref p∧H'=upd H p (.tup [v,u])∧∀xs ys,SqL K H a xs->SqL K H b ys->xs[i]?=some v∧ys[i]?=some u,λi H=>Ex2 λxs ys=>SqL K H a xs∧SqL K H b ys∧(xs.length≤i∨ys.length≤i)⟩
theorem zqub {h:Heap}{z TI TO i1 i2 a b:Addr}{i:Nat}{xs ys:Array Value}(D1:TI≠z)(D2:TO≠z)(D3:i1≠z)(D4:i2≠z)(D5:TI≠TO)(D6:TI≠i1)(D7:TI≠i2)(D8:TO≠i1)(D9:TO≠i2)(D10:i1≠i2)(st:ZpL h z TI TO i1 i2 a b i)(p:h.IsList a xs)(q:h.IsList b ys):ZipApart z TI TO i1 i2 a b:=by
 obtain⟨g1,g2,⟨x0,y0,g3⟩,⟨o4,g4,c4,_⟩,⟨o5,g5,c5,_⟩⟩:=st;have key:∀{l:Addr} {zs:Array Value},h.IsList l zs->l≠z∧l≠TO∧l≠i1∧l≠i2:=λ{l zs} hl=>by
  obtain⟨o,ho,hc,_⟩:=hl;refine⟨λe=>?_,λe=>?_,λe=>?_,λe=>?_⟩
  ·rw[e,g1] at ho;cases ho;exact absurd hc (by simp)
  ·rw[e,g3] at ho;cases ho;exact absurd hc (by simp)
  ·rw[e,g4] at ho;cases ho;exact absurd (c4.symm.trans hc) (by simp)
  ·rw[e,g5] at ho;cases ho;exact absurd (c5.symm.trans hc) (by simp)
 obtain⟨a1,a2,a3,a4⟩:=key p;obtain⟨b1,b2,b3,b4⟩:=key q;exact⟨D1,D2,D3,D4,D5,D6,D7,D8,D9,D10,a1,a2,a3,a4,b1,b2,b3,b4⟩
theorem zjob {P:ybc}{w:World}{K:yba}{es:List Expr}{k1:Nat}{pos:Pos}(a b z TI TO i1 i2:Addr)(D1:TI≠z)(D2:TO≠z)(D3:i1≠z)(D4:i2≠z)(D5:TI≠TO)(D6:TI≠i1)(D7:TI≠i2)(D8:TO≠i1)(D9:TO≠i2)(D10:i1≠i2):Turn P w K (.Tuple es k1 pos) (Izl K a b) [z,TI,TO,i1,i2] z (λi h=>ZpL h z TI TO i1 i2 a b i) where
 mem:=by simp
 obj:=λi h st c hc=>by
  obtain⟨g1,g2,⟨x,y,g3⟩,⟨o4,h4,_,d4⟩,⟨o5,h5,_,d5⟩⟩:=st;simp only[yia,yvb,or_false] at hc
  rcases hc with rfl|rfl|rfl|rfl|rfl
  ·exact⟨_,g1,λv y=>by cases y⟩
  ·exact⟨_,g2,λv y=>by cases y⟩
  ·exact⟨_,g3,λv y=>by cases y⟩
  ·exact⟨o4,h4,λv y=>by rw[d4] at y;cases y⟩
  ·exact⟨o5,h5,λv y=>by rw[d5] at y;cases y⟩
 keep:=λi h h' st k=>by
  obtain⟨g1,g2,⟨x,y,g3⟩,⟨o4,h4,r4⟩,⟨o5,h5,r5⟩⟩:=st;exact⟨k z (by simp) _ g1,k TI (by simp) _ g2,⟨x,y,k TO (by simp) _ g3⟩,⟨o4,k i1 (by simp) _ h4,r4⟩,⟨o5,k i2 (by simp) _ h5,r5⟩⟩
 item:=by
  intro X hP hw hK hc i pins s σ H E I hf st hg;subst hP hw hK;obtain⟨xs,ys,x,y,hq,hq2,hx,hy⟩:=hg;obtain⟨its,rv,p,hz⟩:=I.list hq;obtain⟨its2,rv2,p2,hz2⟩:=I.list hq2;obtain⟨u,hu,ru⟩:=rv.get hx;obtain⟨u2,hu2,ru2⟩:=rv2.get hy;obtain⟨g1,g2,⟨x0,y0,g3⟩,g4,g5⟩:=id st;have low:∀c∈[z,TI,TO,i1,i2],c<s.heap.objs.size:=λc hc=>by
   simp only[yia,yvb,or_false] at hc
   rcases hc with rfl|rfl|rfl|rfl|rfl
   ·exact yoa g1
   ·exact yoa g2
   ·exact yoa g3
   ·obtain⟨o,h,_⟩:=g4;exact yoa h
   ·obtain⟨o,h,_⟩:=g5;exact yoa h
  have D:ZipApart z TI TO i1 i2 a b:=zqub D1 D2 D3 D4 D5 D6 D7 D8 D9 D10 st p.isList p2.isList;refine wpAny_pyNext_zip_item D g1 g2 g3 g4 g5 p.isList p2.isList (x:=u) (y:=u2) (by simpa using hu) (by simpa using hu2) λg e1 eo i1' i2' t1 sz k1=>?_;refine⟨_,rfl,wpAny_letOwnedTupleGo_zip e1 λg2' e2 s2=>?_⟩;have na:∀c,c<s.heap.objs.size->c≠s.heap.objs.size:=λc h=>ydb h;have ltz:=low z (by simp);have tt:g2'.get? s.heap.objs.size=some { cls:=.type "tuple",data:=.seq #[u,u2] }:=s2.extBut _ _ (yji ltz) t1;have kk:∀c o,c∉[z,TI,TO,i1,i2]->s.heap.get? c=some o->g2'.get? c=some o:=λc o hc e=>by
   simp only[yia,yvb,or_false,not_or] at hc;exact s2.extBut c o hc.1 (k1 c o hc.1 hc.2.2.1 hc.2.2.2.1 hc.2.2.2.2 e)
  have I1:Inv X pins σ (upd H s.heap.objs.size (.tup [x,y])) { s with heap:=s.heap.push { cls:=.type "tuple",data:=.seq #[u,u2] },toks:=s.toks } :=
   I.laid (t':=s.toks) (λb o z=>yea _ z) (yja _) ⟨by show 2≤yxa;decide,[u,u2],.cons ru (.cons ru2 .nil),⟨_,ysa _ rfl,rfl,_,rfl⟩⟩
  have fo:∀c∈[z,TI,TO,i1,i2],FpOk X pins (upd H s.heap.objs.size (.tup [x,y])) c:=λc hc=>⟨by rw[zxa (na c (low c hc))];exact (hf c hc).1,(hf c hc).2⟩;have I2:=I1.ziob (h':=g2') (t':=s.toks) (fp:=[z,TI,TO,i1,i2]) (λc o hc e=>by
   by_cases hb:c=s.heap.objs.size
   ·rw[hb] at e ⊢;rw[ysa _ rfl] at e;cases e;exact tt
   ·rw[yaq _ _ _ hb] at e;exact kk c o hc e) fo
  refine⟨.ref s.heap.objs.size,_,I2,rfl,⟨s.heap.objs.size,x,y,I.hok.fresh (yja _),rfl,rfl,λzs ws hz hw=>⟨by rw[I.zcw hz hq];exact hx,by rw[I.zcw hw hq2];exact hy⟩⟩,⟨e2,?_,⟨u,u2,?_⟩,?_,?_⟩,λc hc=>(fo c hc).1⟩
  ·exact s2.extBut _ _ D1 (k1 _ _ D1 D5 D6 D7 g2)
  ·exact s2.extBut _ _ D2 eo
  ·obtain⟨o,e,r⟩:=i1';exact⟨o,s2.extBut _ _ D3 e,r⟩
  ·obtain⟨o,e,r⟩:=i2';exact⟨o,s2.extBut _ _ D4 e,r⟩
 done:=by
  intro X hP hw hK hc i pins s σ H E I hf st hg;subst hP hw hK;obtain⟨xs,ys,hq,hq2,hx⟩:=hg;obtain⟨its,rv,p,hz⟩:=I.list hq;obtain⟨its2,rv2,p2,hz2⟩:=I.list hq2;obtain⟨g1,g2,⟨x0,y0,g3⟩,g4,g5⟩:=id st;have D:ZipApart z TI TO i1 i2 a b:=zqub D1 D2 D3 D4 D5 D6 D7 D8 D9 D10 st p.isList p2.isList;have hl:=rv.length;have hl2:=rv2.length;refine wpAny_pyNext_zip_end (I.ok.hd hc) D g1 g2 g3 g4 g5 p.isList p2.isList ?_ λg kp=>⟨rfl,I.ziob (t':=s.toks) (fp:=[z,TI,TO,i1,i2]) (λc o hc e=>?_) hf⟩
  ·rcases hx with hx|hx
   ·exact .inl (by simp;omega)
   ·exact .inr (by simp;omega)
  ·simp only[yia,yvb,or_false,not_or] at hc;exact kp c o hc.1 hc.2.2.1 hc.2.2.2.1 hc.2.2.2.2 e
 self:=λ_ _ _ _ _ st h=>by
  obtain⟨g1,_⟩:=st;exact wpAny_pyIter_zip g1 h
theorem boot_zip:yyf "zip" = some (.type "zip"):=by decide +kernel
section
variable {X:Cx}
def iZpL (K:yba)(ta:TA):TI:=fun σ H R=>ta σ H λvs H1=>Ex4 λa b xs ys=>vs=[.ref a,.ref b]∧SqL K H1 a xs∧SqL K H1 b ys∧R (Izl K a b) H1
theorem zsxb {es:List Expr}{k1:Nat}{tp:Pos}{a b:Expr}{ta:TA}{p pos:Pos}(hg:Gl X "zip")(hm:X.mg "zip" = none)(ha:PA X [a,b] ta)(hs:yzc [a,b] X.env=(false,eval a X.env)::yzc [b] X.env:=by rfl)(hp:(backTo pos (yzc [b] X.env)).any (·.1)=false:=by rfl):PI X (.Tuple es k1 tp) (.Call (.Name "zip" p) [a,b] [] pos) (iZpL X.K ta):=by
 intro pins s σ H R I h;refine Call_ (ziy I hg hm boot_zip (yce (thn (ha pos pins s σ H _ I h) λus s1 ⟨vs,H1,I1,r1,q1⟩=>?_) hs hp));obtain⟨c,d,xs,ys,e,hq,hq2,q⟩:=q1;subst e;obtain⟨u,u',rfl,ru,ru'⟩:=vals2 r1;cases ru;cases ru';obtain⟨its,rv,pl,hz⟩:=I1.list hq;obtain⟨its2,rv2,pl2,hz2⟩:=I1.list hq2;refine call_zip_2 pl.isList pl2.isList λg zz ti to li1 li2 sz kp=>?_;refine wpAny_pyIter_zip (s:={ s1 with heap:=g }) zz ?_;have n:∀{i j:Nat},i≠j->s1.heap.objs.size+i≠s1.heap.objs.size+j:=λh e=>h (Nat.add_left_cancel e);refine⟨s1.heap.objs.size+4,[s1.heap.objs.size+4,s1.heap.objs.size+2,s1.heap.objs.size+3,s1.heap.objs.size,s1.heap.objs.size+1],_,_,H1,rfl,I1.kept (t':=s1.toks) kp,zjob c d (s1.heap.objs.size+4) (s1.heap.objs.size+2) (s1.heap.objs.size+3) s1.heap.objs.size (s1.heap.objs.size+1) (n (by decide)) (n (by decide)) (n (i:=0) (by decide)) (n (by decide)) (n (by decide)) (n (j:=0) (by decide)) (n (by decide)) (n (j:=0) (by decide)) (n (by decide)) (n (i:=0) (by decide)),⟨zz,ti,⟨_,_,to⟩,li1,li2⟩,λx hx=>?_,q⟩;have le:s1.heap.objs.size≤x:=by
  simp only[yia,yvb,or_false] at hx
  rcases hx with e|e|e|e|e<;>rw[e]<;>first|exact yja _|exact Nat.le_add_right _ _
 exact I1.fpOk le (I1.hok.fresh le)
end
theorem zbub {K:yba}{a b:Addr}{xs ys:List V}{g:TG}{tb:TS}{D:Ends}{σ:St}{H:Hp}(Pv:Nat->St->Hp->Prop)(hlen:xs.length=ys.length)(h0:Pv 0 σ H)(hl:∀i σ H,i≤xs.length->Pv i σ H->SqL K H a xs∧SqL K H b ys)
  (hs:∀i x y σ H p,xs[i]?=some x->ys[i]?=some y->Pv i σ H->H p=none->g (.ref p) σ (upd H p (.tup [x,y])) fun σ2 H2=>tb { D with nx:=Pv (i+1),ct:=Pv (i+1),bk:=D.nx } σ2 H2) (hd:∀ σ H,Pv xs.length σ H->D.nx σ H) :
  ∃W:Nat->Nat->St->Hp->Prop,(∃m,W 0 m σ H)∧∀i m σ H,W i m σ H →
   ((Izl K a b).stop i H∧D.nx σ H)∨((Izl K a b).go i H∧∃N:St->Hp->Prop,(∀ σ' H',N σ' H'->∃m',m'<m∧W (i+1) m' σ' H')∧∀x H',(Izl K a b).yld i H x H'->g x σ H' fun σ2 H2=>tb { D with nx:=N,ct:=N,bk:=D.nx } σ2 H2):=by
 refine⟨λi m σ H=>m=xs.length-i∧i≤xs.length∧Pv i σ H,⟨xs.length,rfl,yrb _,h0⟩,?_⟩;rintro i m σ H ⟨rfl,hi,pv⟩;obtain⟨sq,sq2⟩:=hl i σ H hi pv
 by_cases lt:i<xs.length
 ·have ex:xs[i]?=some xs[i]:=yqa lt;have ey:ys[i]?=some (ys[i]'(by omega)):=yqa (by omega);refine .inr ⟨⟨xs,ys,xs[i],_,sq,sq2,ex,ey⟩,Pv (i+1),fun σ' H' z=>⟨xs.length-(i+1),by omega,rfl,lt,z⟩,λx H' y=>?_⟩;obtain⟨p,v,u,hp,rfl,rfl,hv⟩:=y;obtain⟨h1,h2⟩:=hv xs ys sq sq2;exact hs i v u σ H p h1 h2 pv hp
 ·obtain rfl:i=xs.length:=by omega
  exact .inl ⟨⟨xs,ys,sq,sq2,.inl (yja _)⟩,hd σ H pv⟩
open PySem.Spec PySem.MeetsSeq in
theorem zjec (l:Addr)(items:Array Value)(n:Nat)(u:Tok)(dd:Option Addr)(sl:Array (Option Value)) :
  Meets (ywe.«tuple.__mul__» ⟨[.ref l,.int 1 u],[]⟩) (λ_ R s=>s.heap.get? l=some { cls:=.type "tuple",dict:=dd,data:=.seq items n,slots:=sl }∧R (.ok (.ret (Value.ref l))) s):=by
 refine .of_wp λprog w A R s h=>?_;obtain⟨hp,g,d,tk,os⟩:=s;obtain⟨hl,h⟩:=h;unfold ywe.«tuple.__mul__»
 wp_walk using wpAny_loadPart' hl
 exact⟨_,rfl,h⟩
open PySem.Spec PySem.MeetsSeq in
theorem zkec (l:Addr)(items:Array Value)(n:Nat)(u:Tok)(dd:Option Addr)(sl:Array (Option Value))(h0:¬ items.isEmpty=true) :
  Meets (ywe.«tuple.__mul__» ⟨[.ref l,.int 0 u],[]⟩) (λ_ R s=>s.heap.get? l=some { cls:=.type "tuple",dict:=dd,data:=.seq items n,slots:=sl }∧R (.ok (.ret (Value.ref s.heap.objs.size))) { s with heap:=s.heap.push { cls:=Value.type "tuple",data:=Data.seq #[] },toks:=s.toks }):=by
 refine .of_wp λprog w A R s h=>?_;obtain⟨hp,g,d,tk,os⟩:=s;obtain⟨hl,h⟩:=h;unfold ywe.«tuple.__mul__»;have e0:items.isEmpty=false:=by simpa using h0
 wp_walk using wpAny_loadPart' hl
 exact⟨_,rfl,h⟩
section
variable {X:Cx}
open PySem.Spec PySem.MeetsSeq
def zevb (K:yba):R2:=λx y H Q=>Ex3 λa xs k=>x = .ref a∧y = .int k∧SqT K H a xs∧xs≠[]∧0≤k∧k<2 ^ 63∧xs.length*k.toNat≤yxa∧(k=1->Q (.ref a) H)∧(k≠1->∀p,H p=none->Q (.ref p) (upd H p (.tup (ynb k.toNat xs).flatten)))
theorem zwr:OpR X (yrh .Mult) (zevb X.K):=by
 intro pins s σ H x y v u Q I rx ry h;obtain⟨a,xs,k,rfl,rfl,ha,hx,h0,h3,hz,q1,q⟩:=h
 by_cases big:2≤k
 ·exact zwbb pins s σ H _ _ v u Q I rx ry ⟨a,xs,k,rfl,rfl,ha,hx,big,h3,hz,q (by omega)⟩
 cases rx;obtain⟨t,rfl⟩:=ry;obtain⟨its,r,p1,_⟩:=I.tuple ha;obtain⟨⟨cls,dd,data,sl⟩,ho,hc,n,hd⟩:=id p1;simp only at hc hd;subst hc hd;have hl:=r.length;have hne:¬ its.toArray.isEmpty=true:=by
  intro z;refine hx (r.zay.mp ?_)
  simpa using z
 rcases (show k=1∨k=0 by omega) with rfl|rfl
 ·refine ykg (T:="tuple") (U:="int") (by decide) ⟨_,ho,rfl⟩ (λs'=>yki s' 1 t) zoj yik yof zon ywj.lookup
   (yte yof (yki s 1 t) yxj (ykj _ _) (zys 1 t a its.toArray n dd sl)
    ⟨ho,rfl,⟨_,ho,rfl⟩,yte ywm ⟨_,ho,rfl⟩ yfm (yel _ _) (zjec a its.toArray n t dd sl) ⟨ho,?_⟩⟩)
  exact⟨.ref a,H,I,rfl,q1 rfl⟩
 ·refine ykg (T:="tuple") (U:="int") (by decide) ⟨_,ho,rfl⟩ (λs'=>yki s' 0 t) zoj yik yof zon ywj.lookup
   (yte yof (yki s 0 t) yxj (ykj _ _) (zys 0 t a its.toArray n dd sl)
    ⟨ho,rfl,⟨_,ho,rfl⟩,yte ywm ⟨_,ho,rfl⟩ yfm (yel _ _) (zkec a its.toArray n t dd sl hne) ⟨ho,?_⟩⟩)
  refine⟨.ref s.heap.objs.size,_,I.laid (t':=s.toks) (o:=.tup []) (λb o z=>yea _ z) (yja _) ⟨by show 0≤yxa;decide,[],.nil,⟨_,ysa _ rfl,rfl,_,rfl⟩⟩,rfl,?_⟩;exact q (by decide) _ (I.hok.fresh (yja _))
end
end L2
namespace Wm
open PySem
theorem zxqb {c:Nat}:∀{x y a b:List Nat},c∉x->c∉y->x++c::a=y++c::b->x=y∧a=b
 | [],[],a,b,_,_,h=>⟨rfl,by simpa using h⟩
 | [],y::ys,a,b,_,hy,h=>by
  exfalso;simp only[ymh,yyd,yqk] at h;exact hy (by rw[← h.1];exact ypa)
 | x::xs,[],a,b,hx,_,h=>by
  exfalso;simp only[ymh,yyd,yqk] at h;exact hx (by rw[h.1];exact ypa)
 | x::xs,y::ys,a,b,hx,hy,h=>by
  simp only[yyd,yqk] at h;obtain⟨h1,h2⟩:=h;obtain⟨e1,e2⟩:=zxqb (λz=>hx (yla _ z)) (λz=>hy (yla _ z)) h2;exact⟨by rw[h1,e1],e2⟩
def jl (c:Nat):List (List Nat)->List Nat
 | []=>[]
 | [x]=>x
 | x::y::r=>x++c::jl c (y::r)
theorem znvb {c:Nat}:∀{xs ys:List (List Nat)},xs≠[]->ys≠[]->(∀x∈xs,c∉x)->(∀y∈ys,c∉y)->jl c xs=jl c ys->xs=ys
 | [],_,h,_,_,_,_=>absurd rfl h
 | _,[],_,h,_,_,_=>absurd rfl h
 | [x],[y],_,_,_,_,h=>by
  have h':x=y:=h;rw[h']
 | [x],y::z::r,_,_,hx,_,h=>by
  exfalso;have h':x=y++c::jl c (z::r):=h;exact hx x ypa (by rw[h'];simp)
 | x::z::r,[y],_,_,_,hy,h=>by
  exfalso;have h':x++c::jl c (z::r)=y:=h;exact hy y ypa (by rw[← h'];simp)
 | x::z::r,y::z'::r',_,_,hx,hy,h=>by
  have h':x++c::jl c (z::r)=y++c::jl c (z'::r'):=h;obtain⟨e1,e2⟩:=zxqb (hx x ypa) (hy y ypa) h';rw[e1,znvb (by simp) (by simp) (λq hq=>hx q (yla _ hq)) (λq hq=>hy q (yla _ hq)) e2]
theorem zvp (c:Nat):∀ws:List Str,(yfa ⟨#[c]⟩ ws).cps.toList=jl c (ws.map λw=>w.cps.toList)
 | []=>rfl
 | [x]=>rfl
 | x::y::r=>by
  have ih:=zvp c (y::r);show (x++(⟨#[c]⟩:Str)++yfa ⟨#[c]⟩ (y::r)).cps.toList=x.cps.toList++c::jl c ((y::r).map λw=>w.cps.toList)
  rw[← ih];show ((x.cps++#[c])++(yfa ⟨#[c]⟩ (y::r)).cps).toList=_
  simp
theorem toList_inj {xs ys:List Str}(h:(xs.map λw=>w.cps.toList)=(ys.map λw=>w.cps.toList)):xs=ys:=by
 induction xs generalizing ys with
 | nil=>cases ys with
  | nil=>rfl
  | cons y r=>simp at h
 | cons x r ih=>cases ys with
  | nil=>simp at h
  | cons y s =>
   simp only[ygb,yqk] at h;have e:x=y:=by
    obtain⟨a⟩:=x;obtain⟨b⟩:=y;have h1:a.toList=b.toList:=h.1;rw[yyj.mp h1]
   rw[e,ih h.2]
theorem zer (x y:Str):yeb x y≠[]:=by
 unfold yeb
 split
 ·simp
 ·split
  ·simp
  ·unfold ytg;cases yid x y 0 x.length (x.length+1)<;>simp
theorem zzj {c:Nat}{ws:List Str}(hne:ws≠[])(hf:∀w∈ws,c∉w.cps.toList):yeb (yfa ⟨#[c]⟩ ws) ⟨#[c]⟩=ws:=by
 refine toList_inj (znvb (c:=c) (by simpa using zer _ _) (by simpa using hne) (λx hx=>?_) (λx hx=>?_) ?_)
 ·obtain⟨w,hw,rfl⟩:=ysb.mp hx;exact StrLaws.split_free _ c w hw
 ·obtain⟨w,hw,rfl⟩:=ysb.mp hx;exact hf w hw
 ·rw[← zvp,← zvp,yue]
theorem zbl (s:Str):∀ws:List Str,(yfa s ws).length≤(ws.map (·.length)).sum+ws.length*s.length
 | []=>yrb _
 | [x]=>by
  show x.length≤_
  simp only[ygb,ype,ydd,yni,ybg];omega
 | x::y::r=>by
  have ih:=zbl s (y::r);show (x++s++yfa s (y::r)).length≤_
  rw[ybq,ybq];simp only[ygb,ydd,yga,yfr,Nat.one_mul] at ih ⊢;omega
theorem join_cons (s x:Str){r:List Str}(h:r≠[]):yfa s (x::r)=x++s++yfa s r:=by
 cases r with
 | nil=>exact absurd rfl h
 | cons y r=>rfl
theorem zri (s:Str):∀{xs ys:List Str},xs≠[]->ys≠[]->yfa s (xs++ys)=yfa s xs++s++yfa s ys
 | [],_,h,_=>absurd rfl h
 | [x],ys,_,h=>by rw[List.singleton_append,join_cons s x h];rfl
 | x::y::r,ys,_,h=>by
  have ih:=zri s (xs:=y::r) (by simp) h;rw[yyd,join_cons s x (by simp),ih,join_cons s x (by simp)];simp only[ymc]
theorem zky (s:Str):∀{xss:List (List Str)},(∀xs∈xss,xs≠[])->yfa s (xss.map (yfa s))=yfa s xss.flatten
 | [],_=>rfl
 | [xs],_=>by simp[yfa]
 | xs::ys::r,h=>by
  have ih:=zky s (xss:=ys::r) (λq hq=>h q (yla _ hq));have hx:=h xs ypa;have hy:=h ys (yla _ ypa);have ne:(ys::r).flatten≠[]:=by
   rw[ytc];intro z;exact hy (yih.mp z).1
  rw[ygb,join_cons s _ (by simp),ih,ytc (l:=xs),zri s hx ne]
inductive Wh where
 | all|self|mine|mark (n:Str)|force (i:Nat)|not (a:Wh)|both (a b:Wh)|any (a b:Wh)
def Wh.word:Wh->Str
 | .all=>"all"
 | .self=>"self"
 | .mine=>"mine"
 | .mark _=>"mark"
 | .force _=>"force"
 | .not _=>"not"
 | .both _ _=>"both"
 | .any _ _=>"any"
inductive Wv where
 | non|name (n:Str)|num (i:Nat)
def Wh.val:Wh->Wv
 | .mark n=>.name n
 | .force i=>.num i
 | _=>.non
def Wh.parts:Wh->List Wh
 | .not a=>[a]
 | .both a b=>[a,b]
 | .any a b=>[a,b]
 | _=>[]
def Wv.words:Wv->List Str
 | .non=>[]
 | .name n=>[n]
 | .num i=>[toString (i:Int)]
def Wh.words:Wh->List Str
 | .all=>["all"]
 | .self=>["self"]
 | .mine=>["mine"]
 | .mark n=>["mark",n]
 | .force i=>["force",toString (i:Int)]
 | .not a=>"not" :: a.words
 | .both a b=>"both" :: (a.words++b.words)
 | .any a b=>"any" :: (a.words++b.words)
def Wh.size:Wh->Nat
 | .not a=>a.size+1
 | .both a b=>a.size+b.size+1
 | .any a b=>a.size+b.size+1
 | _=>1
theorem Wh.zyv (w:Wh):w.words=w.word::(w.val.words++(w.parts.map Wh.words).flatten):=by
 cases w<;>simp[Wh.words,Wh.word,Wh.val,Wv.words,Wh.parts]
theorem Wh.zjc (w:Wh):w.words≠[]:=by
 rw[w.zyv];simp
theorem Wh.size_eq (w:Wh):w.size=1+(w.parts.map Wh.size).sum:=by
 cases w<;>simp[Wh.size,Wh.parts]<;>omega
theorem Wh.size_pos (w:Wh):0<w.size:=by
 rw[w.size_eq];omega
def Wh.flat:Wh->List (Str×Wv)
 | .not a=>("not",.non)::a.flat
 | .both a b=>("both",.non)::(a.flat++b.flat)
 | .any a b=>("any",.non)::(a.flat++b.flat)
 | w=>[(w.word,w.val)]
theorem Wh.zxyb (w:Wh):w.flat=(w.word,w.val)::(w.parts.map Wh.flat).flatten:=by
 cases w<;>simp[Wh.flat,Wh.word,Wh.val,Wh.parts]
theorem Wh.ztcb (w:Wh):w.flat.length=w.size:=by
 induction w<;>simp[Wh.flat,Wh.size, *]
def mkWh (word:Str)(v:Wv)(ps:List Wh):Wh :=
 match v with
 | .name n=>.mark n
 | .num i=>.force i
 | .non=>match ps with
  | [a]=>.not a
  | [a,b]=>if word = "both" then .both a b else .any a b
  | _=>if word = "all" then .all else if word = "self" then .self else .mine
def arity (word:Str):Nat:=if word = "not" then 1 else if word = "both" then 2 else if word = "any" then 2 else 0
def zjm:List (Str×Wv)->List Wh
 | []=>[]
 | (w,v)::r=>mkWh w v ((zjm r).take (arity w))::(zjm r).drop (arity w)
theorem zcbb (w:Wh):∀r:List (Str×Wv),zjm (w.flat++r)=w::zjm r:=by
 induction w with
 | not a ih =>
  intro r;show mkWh _ _ ((zjm (a.flat++r)).take 1)::(zjm (a.flat++r)).drop 1=_
  rw[ih r];rfl
 | both a b iha ihb =>
  intro r;show mkWh _ _ ((zjm ((a.flat++b.flat)++r)).take 2)::(zjm ((a.flat++b.flat)++r)).drop 2=_
  rw[yuc,iha,ihb];rfl
 | any a b iha ihb =>
  intro r;show mkWh _ _ ((zjm ((a.flat++b.flat)++r)).take 2)::(zjm ((a.flat++b.flat)++r)).drop 2=_
  rw[yuc,iha,ihb];rfl
 | _=>intro r;rfl
def zfn (ws:List Wh):List (Str×Wv):=(ws.map Wh.flat).flatten
def zxl (ws:List Wh):List Str:=(ws.map Wh.words).flatten
def zzl (ws:List Wh):Nat:=(ws.map Wh.size).sum
theorem zso (w:Wh)(ws:List Wh):zfn (w::ws)=(w.word,w.val)::zfn (w.parts++ws):=by
 unfold zfn;rw[ygb,ytc,w.zxyb,yva,yhi];rfl
theorem zlp (w:Wh)(ws:List Wh):zxl (w::ws)=w.word::(w.val.words++zxl (w.parts++ws)):=by
 unfold zxl;rw[ygb,ytc,w.zyv,yva,yhi];simp
theorem zws (w:Wh)(ws:List Wh):zzl (w::ws)=1+zzl (w.parts++ws):=by
 unfold zzl;rw[ygb,ydd,w.size_eq,yva,ywi];omega
theorem zjeb {ws:List Wh}(h:ws≠[]):0<zzl ws:=by
 cases ws with
 | nil=>exact absurd rfl h
 | cons w r=>rw[zws];omega
def zkd (n:Str):Prop:=1≤n.length∧n.length≤8∧∀c∈n.cps.toList,97≤c∧c≤122
def Wh.ok:Wh->Prop
 | .mark n=>zkd n
 | .force i=>i<1000
 | .not a=>a.ok
 | .both a b=>a.ok∧b.ok
 | .any a b=>a.ok∧b.ok
 | _=>True
theorem Wh.zacb {w:Wh}(h:w.ok):∀p∈w.parts,p.ok:=by
 cases w with
 | not a =>
  intro p hp;have e:p=a:=by simpa [Wh.parts] using hp
  rw[e];exact h
 | both a b =>
  intro p hp;have e:p=a∨p=b:=by simpa [Wh.parts] using hp
  rcases e with e|e<;>rw[e]
  ·exact h.1
  ·exact h.2
 | any a b =>
  intro p hp;have e:p=a∨p=b:=by simpa [Wh.parts] using hp
  rcases e with e|e<;>rw[e]
  ·exact h.1
  ·exact h.2
 | _=>intro p hp;simp[Wh.parts] at hp
theorem zxx:∀i:Nat,i<1000->∀c∈(toString (i:Int):Str).cps.toList,48≤c∧c≤57:=by decide +kernel
theorem zpm:∀i:Nat,i<1000->1≤(toString (i:Int):Str).length∧(toString (i:Int):Str).length≤3:=by decide +kernel
def zjz (u:Str):Prop:=32∉u.cps.toList∧1≤u.length∧u.length≤8
theorem zsfb {n:Str}(h:zkd n):zjz n:=⟨λz=>absurd (h.2.2 32 z).1 (by decide),h.1,h.2.1⟩
theorem zue {i:Nat}(h:i<1000):zjz (toString (i:Int):Str):=by
 have q:=zpm i h;exact⟨λz=>absurd (zxx i h 32 z).1 (by decide),q.1,by omega⟩
theorem Wh.zll (w:Wh):zjz w.word:=by
 have h:∀u∈(["all","self","mine","mark","force","not","both","any"]:List Str),32∉u.cps.toList∧1≤u.length∧u.length≤8:=by decide +kernel
 refine h _ ?_;cases w<;>simp[Wh.word]
theorem Wh.zrkb {w:Wh}(h:w.ok):∀u∈w.words,zjz u:=by
 induction w with
 | not a ih =>
  intro u hu
  rcases yia.mp hu with e|e
  ·rw[e];exact Wh.zll (.not a)
  ·exact ih h u e
 | both a b iha ihb =>
  intro u hu
  rcases yia.mp hu with e|e
  ·rw[e];exact Wh.zll (.both a b)
  ·rcases yua.mp e with e|e
   ·exact iha h.1 u e
   ·exact ihb h.2 u e
 | any a b iha ihb =>
  intro u hu
  rcases yia.mp hu with e|e
  ·rw[e];exact Wh.zll (.any a b)
  ·rcases yua.mp e with e|e
   ·exact iha h.1 u e
   ·exact ihb h.2 u e
 | mark n =>
  intro u hu;have e:u = "mark" ∨ u=n:=by simpa [Wh.words] using hu
  rcases e with e|e<;>rw[e]
  ·exact Wh.zll (.mark n)
  ·exact zsfb h
 | force i =>
  intro u hu;have e:u = "force" ∨ u=toString (i:Int):=by simpa [Wh.words] using hu
  rcases e with e|e<;>rw[e]
  ·exact Wh.zll (.force i)
  ·exact zue h
 | all=>intro u hu;have e:u = "all":=by simpa [Wh.words] using hu
        rw[e];exact Wh.zll .all
 | self=>intro u hu;have e:u = "self":=by simpa [Wh.words] using hu
         rw[e];exact Wh.zll .self
 | mine=>intro u hu;have e:u = "mine":=by simpa [Wh.words] using hu
         rw[e];exact Wh.zll .mine
theorem Wh.zvdb (w:Wh):w.words.length≤2*w.size:=by
 induction w<;>simp[Wh.words,Wh.size]<;>omega
theorem zyl {l:List Nat}{k:Nat}(h:∀x∈l,x≤k):l.sum≤l.length*k:=by
 induction l with
 | nil=>simp
 | cons x r ih =>
  have a:=h x ypa;have b:=ih λy hy=>h y (yla _ hy);rw[ydd,yga,yfr,Nat.one_mul];omega
def step:List Wh->List Wh
 | []=>[]
 | h::t=>h.parts++t
def pend (w:Wh):Nat->List Wh
 | 0=>[w]
 | j+1=>step (pend w j)
theorem zoy (w:Wh):zfn [w]=w.flat:=by simp[zfn]
theorem zus (w:Wh):zxl [w]=w.words:=by simp[zxl]
theorem zrx (w:Wh):∀j,zfn (pend w j)=w.flat.drop j
 | 0=>by rw[yxd];exact zoy w
 | j+1=>by
  have ih:=zrx w j;show zfn (step (pend w j))=_
  cases e:pend w j with
  | nil =>
   rw[e] at ih;have z:w.flat.drop j=[]:=ih.symm;rw[← ynj (i:=1),z];rfl
  | cons h t =>
   rw[e,zso] at ih;show zfn (h.parts++t)=_
   have z:=congrArg (ycp 1) ih;rw[ynj] at z
   simpa using z
theorem zqx (w:Wh)(j:Nat):zzl (pend w j)=w.size-j:=by
 have a:∀ws:List Wh,(zfn ws).length=zzl ws:=by
  intro ws
  induction ws with
  | nil=>rfl
  | cons x r ih =>
   have e1:zfn (x::r)=x.flat++zfn r:=(by simp[zfn]);have e2:zzl (x::r)=x.size+zzl r:=(by simp[zzl]);rw[e1,e2,yha,x.ztcb,ih]
 rw[← a,zrx,yie,w.ztcb]
theorem zwxb {w:Wh}{j:Nat}(h:j<w.size):Ex2 λx t=>pend w j=x::t:=by
 cases e:pend w j with
 | nil =>
  have z:=zqx w j;rw[e] at z;have z':0=w.size-j:=z;omega
 | cons x t=>exact⟨x,t,rfl⟩
theorem zbtb (w:Wh):pend w w.size=[]:=by
 cases e:pend w w.size with
 | nil=>rfl
 | cons x t =>
  have z:=zqx w w.size;rw[e] at z;have p:=zjeb (ws:=x::t) (by simp);omega
theorem zxxb {w x:Wh}{t:List Wh}{j:Nat}(e:pend w j=x::t):w.flat[j]?=some (x.word,x.val):=by
 have z:=zrx w j;rw[e,zso] at z;have q:(w.flat.drop j)[0]?=some (x.word,x.val):=by rw[← z];rfl
 rw[ycg] at q
 simpa using q
def Wh.depth:Wh->Nat
 | .not a=>a.depth+1
 | .both a b=>max a.depth b.depth+1
 | .any a b=>max a.depth b.depth+1
 | _=>1
theorem Wh.zos (w:Wh):w.depth≤w.size:=by
 induction w<;>simp[Wh.depth,Wh.size]<;>omega
theorem Wh.zuib (w:Wh):∀p∈w.parts,p.depth+1≤w.depth:=by
 cases w<;>simp[Wh.parts,Wh.depth]<;>omega
theorem zscb {α:Type}(l:List α):(l.map λx=>[x]).flatten=l:=by
 induction l with
 | nil=>rfl
 | cons x r ih=>rw[ygb,ytc,ih];rfl
theorem zfwb (w:Wh):yfa " " (w.word::(w.val.words++w.parts.map λp=>yfa " " p.words))=yfa " " w.words:=by
 have e:(w.word::(w.val.words++w.parts.map λp=>yfa " " p.words))=((w.word::w.val.words).map λx=>[x]).map (yfa " ")++(w.parts.map Wh.words).map (yfa " "):=by
  rw[yud,yud];have e1:((w.word::w.val.words).map (yfa " " ∘ λx=>[x]))=w.word::w.val.words:=by
   have:(yfa " " ∘ λx=>[x])=id:=by funext x;rfl
   rw[this,List.map_id]
  rw[e1];rfl
 rw[e,← yva,zky]
 ·rw[yhi,w.zyv,zscb];rfl
 ·intro xs hx
  rcases yua.mp hx with q|q
  ·obtain⟨x,_,rfl⟩:=ysb.mp q;simp
  ·obtain⟨x,_,rfl⟩:=ysb.mp q;exact x.zjc
end Wm
namespace Wm
open PySem
def plain (w:Wh):Prop:=w.ok∧w.size≤9
structure Deed where
 each:Str
 kind:Str
 amt:Wv
 whom:Wh
def zmv:List Str:=["each","one"]
def zib:List Str:=["leave","hurt","gain","lack","lose","score","draw"]
def zch:List Str:=["come","leave","hurt","gain","lack","lose","score","draw"]
def zzh:List Str:=["lose","score","draw"]
def changes:List Str:=["mute","steal","gain","lack","be","more","less","per"]
def sorts:List Str:=["hold","when","instead","may"]
inductive zym:Str->Wv->Prop
 | leave:zym "leave" .non
 | gain {n:Str}:zkd n->zym "gain" (.name n)
 | lack {n:Str}:zkd n->zym "lack" (.name n)
 | hurt {i:Nat}:i<1000->zym "hurt" (.num i)
 | lose {i:Nat}:i<1000->zym "lose" (.num i)
 | score {i:Nat}:i<1000->zym "score" (.num i)
 | draw {i:Nat}:i<1000->zym "draw" (.num i)
structure Deed.ok (d:Deed):Prop where
 each:d.each∈zmv
 amt:zym d.kind d.amt
 whom:plain d.whom
def Deed.words (d:Deed):List Str:=d.each::d.kind::(d.amt.words++d.whom.words)
inductive Hv where
 | v (x:Wv)|w (y:Wh)
def Hv.words:Hv->List Str
 | .v x=>x.words
 | .w y=>y.words
inductive zof:Str->Hv->Prop
 | mute:zof "mute" (.v .non)
 | steal:zof "steal" (.v .non)
 | gain {n:Str}:zkd n->zof "gain" (.v (.name n))
 | lack {n:Str}:zkd n->zof "lack" (.v (.name n))
 | be {i:Nat}:i<1000->zof "be" (.v (.num i))
 | more {i:Nat}:i<1000->zof "more" (.v (.num i))
 | less {i:Nat}:i<1000->zof "less" (.v (.num i))
 | per {y:Wh}:plain y->zof "per" (.w y)
inductive TurnOk:Str->Wv->Prop
 | none:TurnOk "none" .non
 | here:TurnOk "here" .non
 | less {i:Nat}:i<1000->TurnOk "less" (.num i)
 | more {i:Nat}:i<1000->TurnOk "more" (.num i)
 | as {n:Str}:n∈zzh->TurnOk "as" (.name n)
def turns:Str->List Str:=λk =>
 if k = "leave" then ["none","here"] else if k = "hurt" then ["none","here","less","more"] else if k = "gain" then ["none","here"] else if k = "lack" then ["none","here"]
 else ["none","less","more","as"]
inductive Rule where
 | hold (word:Str) (val:Hv) (whom:Wh)
 | wen (kind:Str) (whom:Wh) (deed:Deed)
 | instead (kind:Str) (whom:Wh) (word:Str) (val:Wv)
 | may (cost:Nat) (deed:Deed)
def Rule.ok:Rule->Prop
 | .hold w v y=>zof w v∧plain y
 | .wen k y d=>k∈zch∧plain y∧d.ok
 | .instead k y w v=>k∈zib∧plain y∧w∈turns k∧TurnOk w v
 | .may c d=>c<1000∧d.ok
def Rule.words:Rule->List Str
 | .hold w v y=>"hold" :: w::(v.words++y.words)
 | .wen k y d=>"when" :: k::(y.words++("do":Str)::d.words)
 | .instead k y w v=>"instead" :: k::(y.words++("do":Str)::w::v.words)
 | .may c d=>"may" :: toString (c:Int) :: "do" :: d.words
theorem zym.kind {k:Str}{v:Wv}(h:zym k v):k∈zib:=by cases h<;>decide
theorem zof.word {k:Str}{v:Hv}(h:zof k v):k∈changes:=by cases h<;>decide
theorem Rule.zjc (r:Rule):r.words≠[]:=by cases r<;>exact yib _ _
def zvv (u:Str):Prop:=zjz u∧47∉u.cps.toList
theorem zav {n:Str}(h:zkd n):zvv n:=⟨zsfb h,λz=>absurd (h.2.2 47 z).1 (by decide)⟩
theorem zen {i:Nat}(h:i<1000):zvv (toString (i:Int):Str):=⟨zue h,λz=>absurd (zxx i h 47 z).1 (by decide)⟩
def goodW (u:Str):Bool:=!u.cps.toList.contains 32 && !u.cps.toList.contains 47&&decide (1≤u.length)&&decide (u.length≤8)
theorem zcl {u:Str}(h:goodW u=true):zvv u:=by
 unfold goodW at h;rw[yjc,yjc,yjc] at h;obtain⟨⟨⟨a,b⟩,c⟩,d⟩:=h;refine⟨⟨λz=>?_,of_decide_eq_true c,of_decide_eq_true d⟩,λz=>?_⟩
 ·rw[yvn.mpr z] at a;cases a
 ·rw[yvn.mpr z] at b;cases b
theorem zrm {l:List Str}(h:l.all goodW=true){u:Str}(hu:u∈l):zvv u:=zcl (ymd.mp h u hu)
theorem Wh.zoe {w:Wh}(h:w.ok):∀u∈w.words,zvv u:=by
 induction w with
 | all=>intro u hu;exact zrm (l:=["all"]) (by decide +kernel) hu
 | self=>intro u hu;exact zrm (l:=["self"]) (by decide +kernel) hu
 | mine=>intro u hu;exact zrm (l:=["mine"]) (by decide +kernel) hu
 | mark n =>
  intro u hu
  rcases yia.mp hu with rfl|hu
  ·exact zcl (by decide +kernel)
  ·rw[yda.mp hu];exact zav h
 | force i =>
  intro u hu
  rcases yia.mp hu with rfl|hu
  ·exact zcl (by decide +kernel)
  ·rw[yda.mp hu];exact zen h
 | not a ih =>
  intro u hu
  rcases yia.mp hu with rfl|hu
  ·exact zcl (by decide +kernel)
  ·exact ih h u hu
 | both a b ia ib =>
  intro u hu
  rcases yia.mp hu with rfl|hu
  ·exact zcl (by decide +kernel)
  ·rcases yua.mp hu with hu|hu
   ·exact ia h.1 u hu
   ·exact ib h.2 u hu
 | any a b ia ib =>
  intro u hu
  rcases yia.mp hu with rfl|hu
  ·exact zcl (by decide +kernel)
  ·rcases yua.mp hu with hu|hu
   ·exact ia h.1 u hu
   ·exact ib h.2 u hu
theorem zym.words {k:Str}{v:Wv}(h:zym k v):∀u∈v.words,zvv u:=by
 intro u hu;cases h with
 | leave=>cases hu
 | gain h=>rw[yda.mp hu];exact zav h
 | lack h=>rw[yda.mp hu];exact zav h
 | hurt h=>rw[yda.mp hu];exact zen h
 | lose h=>rw[yda.mp hu];exact zen h
 | score h=>rw[yda.mp hu];exact zen h
 | draw h=>rw[yda.mp hu];exact zen h
theorem TurnOk.words {k:Str}{v:Wv}(h:TurnOk k v):∀u∈v.words,zvv u:=by
 intro u hu;cases h with
 | none=>cases hu
 | here=>cases hu
 | less h=>rw[yda.mp hu];exact zen h
 | more h=>rw[yda.mp hu];exact zen h
 | as h=>rw[yda.mp hu];exact zrm (l:=zzh) (by decide +kernel) h
theorem TurnOk.word {k:Str}{v:Wv}(h:TurnOk k v):zvv k:=by cases h<;>exact zcl (by decide +kernel)
theorem zof.words {k:Str}{v:Hv}(h:zof k v):∀u∈v.words,zvv u:=by
 intro u hu;cases h with
 | mute=>cases hu
 | steal=>cases hu
 | gain h=>rw[yda.mp hu];exact zav h
 | lack h=>rw[yda.mp hu];exact zav h
 | be h=>rw[yda.mp hu];exact zen h
 | more h=>rw[yda.mp hu];exact zen h
 | less h=>rw[yda.mp hu];exact zen h
 | per h=>exact Wh.zoe h.1 u hu
theorem Deed.zoe {d:Deed}(h:d.ok):∀u∈d.words,zvv u:=by
 intro u hu
 rcases yia.mp hu with rfl|hu
 ·exact zrm (l:=zmv) (by decide +kernel) h.each
 rcases yia.mp hu with rfl|hu
 ·exact zrm (l:=zib) (by decide +kernel) h.amt.kind
 rcases yua.mp hu with hu|hu
 ·exact h.amt.words u hu
 ·exact Wh.zoe h.whom.1 u hu
theorem Rule.zoe {r:Rule}(h:r.ok):∀u∈r.words,zvv u:=by
 intro u hu;cases r with
 | hold w v y =>
  rcases yia.mp hu with rfl|hu
  ·exact zcl (by decide +kernel)
  rcases yia.mp hu with rfl|hu
  ·exact zrm (l:=changes) (by decide +kernel) h.1.word
  rcases yua.mp hu with hu|hu
  ·exact h.1.words u hu
  ·exact Wh.zoe h.2.1 u hu
 | wen k y d =>
  rcases yia.mp hu with rfl|hu
  ·exact zcl (by decide +kernel)
  rcases yia.mp hu with rfl|hu
  ·exact zrm (l:=zch) (by decide +kernel) h.1
  rcases yua.mp hu with hu|hu
  ·exact Wh.zoe h.2.1.1 u hu
  rcases yia.mp hu with rfl|hu
  ·exact zcl (by decide +kernel)
  ·exact Deed.zoe h.2.2 u hu
 | instead k y w v =>
  rcases yia.mp hu with rfl|hu
  ·exact zcl (by decide +kernel)
  rcases yia.mp hu with rfl|hu
  ·exact zrm (l:=zib) (by decide +kernel) h.1
  rcases yua.mp hu with hu|hu
  ·exact Wh.zoe h.2.1.1 u hu
  rcases yia.mp hu with rfl|hu
  ·exact zcl (by decide +kernel)
  rcases yia.mp hu with rfl|hu
  ·exact h.2.2.2.word
  ·exact h.2.2.2.words u hu
 | may c d =>
  rcases yia.mp hu with rfl|hu
  ·exact zcl (by decide +kernel)
  rcases yia.mp hu with rfl|hu
  ·exact zen h.1
  rcases yia.mp hu with rfl|hu
  ·exact zcl (by decide +kernel)
  ·exact Deed.zoe h.2 u hu
end Wm
namespace Wm
open PySem PySem.StrLaws PySem.Builtin.Str
def SL:Str:=⟨#[32,47,32]⟩
theorem zbbb {s sub:Str}{hi:Nat}:∀{cuts cuts':List Nat} {a f f':Nat},ChainG s sub hi a cuts f->(∀k,f≤k->¬ At s sub hi k)->ChainG s sub hi a cuts' f'->(∀k,f'≤k->¬ At s sub hi k)->cuts=cuts'
 | [],[],_,_,_,_,_,_,_=>rfl
 | [],c::r,a,f,f',h,n,h',n'=>by
  have e:f=a:=h;subst e;exact absurd h'.2.1 (n c h'.1)
 | c::r,[],a,f,f',h,n,h',n'=>by
  have e:f'=a:=h';subst e;exact absurd h.2.1 (n' c h.1)
 | c::r,c'::r',a,f,f',h,n,h',n'=>by
  rcases Nat.lt_trichotomy c c' with z|z|z
  ·exact absurd h.2.1 (h'.2.2.1 c h.1 z)
  ·subst z;rw[zbbb h.2.2.2 n h'.2.2.2 n']
  ·exact absurd h'.2.1 (h.2.2.1 c' h'.1 z)
theorem zwcb (x:Str)(a b:Nat):(x.cps.extract a b).toList=(x.cps.toList.drop a).take (b-a):=by
 rw[Array.toList_extract,List.extract_eq_take_drop]
theorem zwvb {x:Str}{hi k:Nat}(h:At x SL hi k):x.cps.toList[k+1]?=some 47:=by
 have e:x.cps.extract k (k+3)=#[32,47,32]:=by
  have:=h.2;unfold subAt at this;exact beq_iff_eq.mp this
 have q:=congrArg (λz=>z.toList[1]?) e;simp only[zwcb] at q;rw[ytl (by omega),ycg] at q;exact q
theorem at_of {x:Str}{pre r:List Nat}(e:x.cps.toList=pre++32::47::32::r):At x SL x.length pre.length:=by
 have hl:=congrArg ynf e;rw[yha] at hl;simp only[yga,ywb] at hl;refine⟨?_,?_⟩
 ·show pre.length+3≤x.cps.size;omega
 ·unfold subAt;rw[beq_iff_eq];apply yyj.mp;rw[zwcb,e,ypl];show ((32::47::32::r:List Nat).take (pre.length+3-pre.length))=[32,47,32]
  rw[yxi];rfl
def jl3:List (List Nat)->List Nat
 | []=>[]
 | [p]=>p
 | p::q::r=>p++32::47::32::jl3 (q::r)
def cutsOf:Nat->List (List Nat)->List Nat
 | a,p::q::r=>(a+p.length)::cutsOf (a+p.length+3) (q::r)
 | _,_=>[]
def lastOf:Nat->List (List Nat)->Nat
 | a,p::q::r=>lastOf (a+p.length+3) (q::r)
 | a,_=>a
theorem zscc:∀ws:List Str,(yfa SL ws).cps.toList=jl3 (ws.map λw=>w.cps.toList)
 | []=>rfl
 | [x]=>rfl
 | x::y::r=>by
  have e:yfa SL (x::y::r)=x++SL++yfa SL (y::r):=rfl;rw[e];show ((x.cps++SL.cps)++(yfa SL (y::r)).cps).toList=_
  rw[ypf,ypf,zscc (y::r),yuc];rfl
theorem zxub {x:Str}{pre p r:List Nat}{b:Nat}(e:x.cps.toList=pre++(p++r))(hb:b=pre.length+p.length)(q:Str)(hq:q.cps.toList=p):strSub x pre.length b=q:=by
 obtain⟨c⟩:=q;have z:x.cps.extract pre.length b=c:=by
  apply yyj.mp;rw[zwcb,e,ypl,hb,yxi,List.take_left];exact hq.symm
 show (⟨x.cps.extract pre.length b⟩:Str)=⟨c⟩
 rw[z]
theorem zamb {x:Str}:∀{ps:List Str} {pre:List Nat},ps≠[]->(∀p∈ps,47∉p.cps.toList)->x.cps.toList=pre++jl3 (ps.map λw=>w.cps.toList) →
  ChainG x SL x.length pre.length (cutsOf pre.length (ps.map λw=>w.cps.toList)) (lastOf pre.length (ps.map λw=>w.cps.toList))∧(∀k,lastOf pre.length (ps.map λw=>w.cps.toList)≤k->¬ At x SL x.length k)∧partsFrom x 3 pre.length (cutsOf pre.length (ps.map λw=>w.cps.toList))=ps
 | [],_,h,_,_=>absurd rfl h
 | [p],pre,_,hf,e=>by
  have e':x.cps.toList=pre++p.cps.toList:=e;refine⟨rfl,λk hk hA=>?_,?_⟩
  ·have hk':pre.length≤k:=hk;have m:=zwvb hA;rw[e',yzb (by omega)] at m;exact hf p (yda.mpr rfl) (ywa m)
  ·show [strSub x pre.length x.length]=[p];rw[zxub (r:=[]) (by rw[yfc];exact e') ?_ p rfl];have hl:=congrArg ynf e';rw[yha,ywb] at hl;exact hl
 | p::q::r,pre,_,hf,e=>by
  have e':x.cps.toList=pre++(p.cps.toList++32::47::32::jl3 ((q::r).map λw=>w.cps.toList)):=e;have e1:x.cps.toList=(pre++p.cps.toList)++32::47::32::jl3 ((q::r).map λw=>w.cps.toList):=by rw[e',yuc]
  have e2:x.cps.toList=(pre++p.cps.toList++[32,47,32])++jl3 ((q::r).map λw=>w.cps.toList):=by rw[e1,yuc (pre++p.cps.toList)];rfl
  obtain⟨c1,c2,c3⟩:=zamb (ps:=q::r) (pre:=pre++p.cps.toList++[32,47,32]) (yib _ _) (λy hy=>hf y (yla _ hy)) e2;have el:(pre++p.cps.toList++[32,47,32]).length=pre.length+p.cps.toList.length+3:=by
   rw[yha,yha];rfl
  rw[el] at c1 c2 c3;have eA:=at_of e1;rw[yha] at eA;refine⟨⟨Nat.le_add_right _ _,eA,λk h1 h2 hA=>?_,c1⟩,c2,?_⟩
  ·have m:=zwvb hA
   rcases yjq (k+1) (pre.length+p.cps.toList.length) with z|z
   ·rw[e',yzb (by omega),yrc (by omega)] at m;exact hf p ypa (ywa m)
   ·have h2':k<pre.length+p.cps.toList.length:=h2;have ek:k+1=(pre++p.cps.toList).length:=(by rw[yha];omega);rw[e1,ek,yzb (yja _),yoi] at m;exact absurd m (by simp)
  ·show strSub x pre.length (pre.length+p.cps.toList.length)::partsFrom x 3 (pre.length+p.cps.toList.length+3) (cutsOf (pre.length+p.cps.toList.length+3) ((q::r).map λw=>w.cps.toList))=p::q::r;rw[c3,zxub e' rfl p rfl]
theorem ztob {ps:List Str}(hne:ps≠[])(hf:∀p∈ps,47∉p.cps.toList):yeb (yfa SL ps) SL=ps:=by
 obtain⟨f,hG,hn⟩:=occ_tight (yfa SL ps) SL (by decide);obtain⟨c1,c2,c3⟩:=zamb (x:=yfa SL ps) (ps:=ps) (pre:=[]) hne hf (zscc ps);have u:=zbbb hG hn c1 c2;unfold yeb;rw[u];have one:cutsOf ([]:List Nat).length (ps.map λw=>w.cps.toList)=[]->[yfa SL ps]=ps:=λz=>by
  cases ps with
  | nil=>exact absurd rfl hne
  | cons p r =>
   cases r with
   | nil=>rfl
   | cons q r=>cases z
 split
 ·rename_i hc;rw[Bool.or_eq_true,decide_eq_true_eq,decide_eq_true_eq] at hc;apply one
  rcases hc with h|h
  ·cases hcut:cutsOf ([]:List Nat).length (ps.map λw=>w.cps.toList) with
   | nil=>rfl
   | cons c r =>
    rw[hcut] at c1;have:=c1.2.1.1;omega
  ·exfalso;have ek:yei SL=1:=(by decide +kernel);rw[ek] at h;unfold yei at h
   split at h
   ·omega
   ·split at h
    ·omega
    ·omega
 ·split
  ·rename_i he;exact one (List.isEmpty_iff.mp he)
  ·rw[partsBetween_eq];exact c3
end Wm
namespace Wm
open PySem PySem.Spec PyProof.Rows
def leS (a b:Str):Prop:=a.cps.toList≤b.cps.toList
theorem zccc {a b:Str}(h:ltCps b.cps.toList a.cps.toList=false):leS a b:=by
 rw[ltCps_eq] at h;exact List.not_lt.mp (of_decide_eq_false h)
theorem zbqb {a b c:Str}(h:leS a b)(g:leS b c):leS a c:=List.le_trans h g
theorem zptb {a b:Str}(h:leS a b)(g:leS b a):a=b:=by
 have e:=List.le_antisymm h g;obtain⟨x⟩:=a;obtain⟨y⟩:=b;rw[show x=y from yyj.mp e]
theorem zmeb:∀(p:Str) (l:List Str),risingS p l=true->(p::l).Pairwise leS
 | p,[],_=>yrm _ _
 | p,x::r,h=>by
  have h':(!ltCps x.cps.toList p.cps.toList&&risingS x r)=true:=h;rw[yjc] at h';have h1:leS p x:=zccc (by have:=h'.1;revert this;cases ltCps x.cps.toList p.cps.toList<;>simp);have h2:=zmeb x r h'.2;rw[ygp];refine⟨λb hb=>?_,h2⟩
  rcases yia.mp hb with rfl|hb
  ·exact h1
  ·exact zbqb h1 ((ygp.mp h2).1 b hb)
theorem zgeb:∀{l:List Str},yom l=true->l.Pairwise leS
 | [],_=>.nil
 | x::r,h=>zmeb x r h
theorem zvhb {xs ys:List Str}(hp:xs.Perm ys)(hx:yom xs=true)(hy:yom ys=true):xs=ys :=
 ycm.eq_of_pairwise (le:=leS) (λ_ _ _ _ h g=>zptb h g) (zgeb hx) (zgeb hy) hp
theorem zfub {xs:List Str}(h:xs.Nodup):SSet.dd xs=xs:=by
 have key:∀n,n≤xs.length->SSet.dd (xs.take n)=xs.take n:=by
  intro n
  induction n with
  | zero=>intro _;rfl
  | succ n ih =>
   intro hn;have hlt:n<xs.length:=hn;rw[yob,yqa hlt];show SSet.dd (xs.take n++[xs[n]])=xs.take n++[xs[n]]
   rw[SSet.zqy,ih (by omega),if_neg];intro hm;obtain⟨i,hi,e⟩:=List.getElem_of_mem hm;rw[yza] at hi;rw[List.getElem_take] at e;exact (List.pairwise_iff_getElem.mp h) i n (by omega) hlt (by omega) e
 have:=key xs.length (yja _)
 rwa [yxf] at this
structure Marks (ms:List Str):Prop where
 ok:∀m∈ms,zkd m
 nd:ms.Nodup
 so:yom ms=true
 le:ms.length≤20
def CM:Str:=⟨#[44]⟩
def zce:List Str->Str
 | []=>"-"
 | m::r=>yfa CM (m::r)
theorem zft {c:Nat}:∀{ws:List Str} {d:Nat},d∈(yfa ⟨#[c]⟩ ws).cps.toList->d=c∨∃w∈ws,d∈w.cps.toList
 | [],d,h=>by cases h
 | [x],d,h=>.inr ⟨x,yda.mpr rfl,h⟩
 | x::y::r,d,h=>by
  have e:yfa ⟨#[c]⟩ (x::y::r)=x++⟨#[c]⟩++yfa ⟨#[c]⟩ (y::r):=rfl;rw[e] at h;have h':d∈((x.cps++#[c])++(yfa ⟨#[c]⟩ (y::r)).cps).toList:=h;rw[ypf,ypf] at h'
  rcases yua.mp h' with h'|h'
  ·rcases yua.mp h' with h'|h'
   ·exact .inr ⟨x,ypa,h'⟩
   ·exact .inl (yda.mp h')
  ·rcases zft h' with z|⟨w,hw,z⟩
   ·exact .inl z
   ·exact .inr ⟨w,yla _ hw,z⟩
theorem zzk {ms:List Str}(h:Marks ms)(hne:ms≠[]):∀d∈(zce ms).cps.toList,d=44∨(97≤d∧d≤122):=by
 cases ms with
 | nil=>exact absurd rfl hne
 | cons m r =>
  intro d hd
  rcases zft (c:=44) hd with z|⟨w,hw,z⟩
  ·exact .inl z
  ·exact .inr ((h.ok w hw).2.2 d z)
theorem zwpb {ms:List Str}(h:Marks ms)(hne:ms≠[]):zce ms ≠ "-":=by
 intro z;have:=zzk h hne 45 (by rw[z];decide +kernel);omega
theorem zgm {ms:List Str}(h:Marks ms):1≤(zce ms).length∧(zce ms).length≤180:=by
 cases ms with
 | nil=>exact⟨by decide,by decide⟩
 | cons m r =>
  have a:=zbl CM (m::r);have c:=zyl (l:=(m::r).map (·.length)) (k:=8) (λx hx=>by
   obtain⟨u,hu,rfl⟩:=ysb.mp hx;exact (h.ok u hu).2.1)
  rw[yaa] at c;have e:CM.length=1:=rfl;rw[e] at a;have l:=h.le;refine⟨?_,?_⟩
  ·have m1:=(h.ok m ypa).1;cases r with
   | nil=>exact m1
   | cons y r =>
    have e2:yfa CM (m::y::r)=m++CM++yfa CM (y::r):=rfl;show 1≤(yfa CM (m::y::r)).length
    rw[e2];show 1≤((m.cps++CM.cps)++(yfa CM (y::r)).cps).size
    rw[ylj,ylj];have:m.length=m.cps.size:=rfl;omega
  ·show (yfa CM (m::r)).length≤180;omega
theorem znib {ms:List Str}(h:Marks ms)(hne:ms≠[]):yeb (zce ms) CM=ms:=by
 cases ms with
 | nil=>exact absurd rfl hne
 | cons m r=>exact zzj (c:=44) (yib _ _) (λw hw z=>absurd ((h.ok w hw).2.2 44 z).1 (by decide))
structure Crd where
 name:Str
 cost:Nat
 force:Nat
 marks:List Str
 rules:List Rule
structure Crd.ok (c:Crd):Prop where
 name:zkd c.name
 cost:c.cost<1000
 force:c.force<1000
 marks:Marks c.marks
 rules:∀r∈c.rules,r.ok
 few:c.rules.length≤3
def Crd.head (c:Crd):List Str:=[c.name,toString (c.cost:Int),toString (c.force:Int),zce c.marks]
def zcc (r:Rule):Str:=yfa " " r.words
def Crd.text (c:Crd):Str:=yfa SL (yfa " " c.head::c.rules.map zcc)
theorem zim {c d:Nat}{ws:List Str}(h:∀w∈ws,d∉w.cps.toList)(n:d≠c):d∉(yfa ⟨#[c]⟩ ws).cps.toList:=λz=>by
 rcases zft z with e|⟨w,hw,z⟩
 ·exact n e
 ·exact h w hw z
theorem zoib {ms:List Str}(h:Marks ms):32∉(zce ms).cps.toList∧47∉(zce ms).cps.toList:=by
 by_cases e:ms=[]
 ·subst e;exact⟨by decide,by decide⟩
 ·exact⟨λz=>by have:=zzk h e 32 z;omega,λz=>by have:=zzk h e 47 z;omega⟩
theorem Crd.zfs {c:Crd}(h:c.ok):∀u∈c.head,32∉u.cps.toList∧47∉u.cps.toList:=by
 intro u hu;simp only[Crd.head,yia,yvb,or_false] at hu
 rcases hu with rfl|rfl|rfl|rfl
 ·exact⟨(zav h.name).1.1,(zav h.name).2⟩
 ·exact⟨(zen h.cost).1.1,(zen h.cost).2⟩
 ·exact⟨(zen h.force).1.1,(zen h.force).2⟩
 ·exact zoib h.marks
theorem Crd.zjnb {c:Crd}(h:c.ok):yeb (yfa " " c.head) " " = c.head:=zzj (c:=32) (yib _ _) (λu hu=>(Crd.zfs h u hu).1)
theorem Crd.zgw {c:Crd}(h:c.ok):(yfa " " c.head).length≤300:=by
 have a:=zbl " " c.head;have c':=zyl (l:=c.head.map (·.length)) (k:=180) (λx hx=>by
  obtain⟨u,hu,rfl⟩:=ysb.mp hx;simp only[Crd.head,yia,yvb,or_false] at hu
  rcases hu with rfl|rfl|rfl|rfl
  ·have:=h.name.2.1;omega
  ·have:=(zpm _ h.cost).2;omega
  ·have:=(zpm _ h.force).2;omega
  ·exact (zgm h.marks).2)
 have e:(" ":Str).length=1:=rfl;rw[e] at a;have s:(c.head.map (·.length)).sum=c.name.length+((toString (c.cost:Int):Str).length+((toString (c.force:Int):Str).length+((zce c.marks).length+0))):=rfl;have hl:c.head.length=4:=rfl;rw[s,hl] at a;have b1:=h.name.2.1;have b2:=(zpm _ h.cost).2;have b3:=(zpm _ h.force).2;have b4:=(zgm h.marks).2;omega
theorem Crd.split {c:Crd}(h:c.ok):yeb c.text SL=yfa " " c.head::c.rules.map zcc:=by
 refine ztob (yib _ _) λp hp=>?_
 rcases yia.mp hp with rfl|hp
 ·exact zim (λu hu=>(Crd.zfs h u hu).2) (by decide)
 ·obtain⟨r,hr,rfl⟩:=ysb.mp hp;exact zim (λu hu=>(Rule.zoe (h.rules r hr) u hu).2) (by decide)
end Wm
namespace Wm
open PySem PySem.Spec PyProof.Rows
end Wm
namespace K25
open PySem L2 PyProof.Rows Wm
variable {P:ybc}{w:World}{K:yba}{mg:Str->Option Value}{base:Heap}
def top (i:Nat):Stmt:=PySem.Challenge.pw_turnstack_k25_begun.main.body.getD i (.Pass ⟨0,0,0,0⟩)
abbrev zleb:Stmt:=top 13
abbrev zkrb:List Str:=["word"]
abbrev zmz:List Str:=["word"]
theorem zumb:zva zkrb zmz (zka zleb):=scOf (by decide +kernel)
abbrev zcx:Stmt:=top 14
abbrev zdkb:List Str:=["word"]
abbrev zkq:List Str:=["word"]
theorem zkeb:zva zdkb zkq (zka zcx):=scOf (by decide +kernel)
abbrev znab:Stmt:=top 15
abbrev zvnb:List Str:=["word","most"]
abbrev zqt:List Str:=["word","most"]
theorem zyhb:zva zvnb zqt (zka znab):=scOf (by decide +kernel)
abbrev zmj:Stmt:=inClass (top 16) 0
abbrev zwv:List Str:=["self","text"]
abbrev zsj:List Str:=["self","text"]
theorem zxs:zva zwv zsj (zka zmj):=scOf (by decide +kernel)
abbrev znn:Stmt:=inClass (top 16) 1
abbrev znhb:List Str:=["self"]
abbrev zno:List Str:=["self"]
theorem zpbb:zva znhb zno (zka znn):=scOf (by decide +kernel)
abbrev zng:Stmt:=inClass (top 16) 2
abbrev zuq:List Str:=["self","known","word"]
abbrev zug:List Str:=["self","known"]
theorem zuj:zva zuq zug (zka zng):=scOf (by decide +kernel)
abbrev zyh:Stmt:=inClass (top 16) 3
abbrev zwt:List Str:=["self","word"]
abbrev zli:List Str:=["self"]
theorem zuk:zva zwt zli (zka zyh):=scOf (by decide +kernel)
abbrev zog:Stmt:=inClass (top 16) 4
abbrev zvq:List Str:=["self","word"]
abbrev zvg:List Str:=["self"]
theorem zvj:zva zvq zvg (zka zog):=scOf (by decide +kernel)
abbrev znl:Stmt:=inClass (top 16) 5
abbrev zeab:List Str:=["self"]
abbrev zvl:List Str:=["self"]
theorem zsw:zva zeab zvl (zka znl):=scOf (by decide +kernel)
abbrev zck:Stmt:=inClass (top 17) 0
abbrev znz:List Str:=["self","word","value","parts"]
abbrev zmk:List Str:=["self","word","value","parts"]
theorem zpv:zva znz zmk (zka zck):=scOf (by decide +kernel)
abbrev znp:Stmt:=inClass (top 17) 1
abbrev zokb:List Str:=["self","words"]
abbrev zmi:List Str:=["self"]
theorem zgu:zva zokb zmi (zka znp):=scOf (by decide +kernel)
abbrev ztw:Stmt:=top 18
abbrev zujb:List Str:=["words","taken","missing","word"]
abbrev ztm:List Str:=["words"]
theorem zvi:zva zujb ztm (zka ztw):=scOf (by decide +kernel)
abbrev ziu:Stmt:=top 19
abbrev zbhb:List Str:=["words","word"]
abbrev zdo:List Str:=["words","word"]
theorem zjbb:zva zbhb zdo (zka ziu):=scOf (by decide +kernel)
abbrev zbpb:Stmt:=top 20
abbrev zqzb:List Str:=["taken","whoms","word","value","many"]
abbrev zsjb:List Str:=["taken"]
theorem zqo:zva zqzb zsjb (zka zbpb):=scOf (by decide +kernel)
abbrev zdk:Stmt:=inClass (top 29) 0
abbrev zoz:List Str:=["self","name","cost","force","marks","rules"]
abbrev znk:List Str:=["self","name","cost","force","marks","rules"]
theorem zqv:zva zoz znk (zka zdk):=scOf (by decide +kernel)
abbrev zbx:Stmt:=top 31
abbrev zckb:List Str:=["text","texts","words","name","cost","force","marks"]
abbrev zjq:List Str:=["text"]
theorem zff:zva zckb zjq (zka zbx):=scOf (by decide +kernel)
abbrev zlu:Stmt:=top 32
abbrev zehb:List Str:=["word","marks"]
abbrev zgo:List Str:=["word"]
theorem zjr:zva zehb zgo (zka zlu):=scOf (by decide +kernel)
abbrev zax:Stmt:=top 33
abbrev zbkb:List Str:=["text","words","first","rule"]
abbrev ziq:List Str:=["text"]
theorem zef:zva zbkb ziq (zka zax):=scOf (by decide +kernel)
abbrev zvw:Stmt:=top 34
abbrev zwjb:List Str:=["words","word","value","whom"]
abbrev zcq:List Str:=["words"]
theorem zpk:zva zwjb zcq (zka zvw):=scOf (by decide +kernel)
abbrev zbk:Stmt:=top 35
abbrev ztq:List Str:=["words","word"]
abbrev ztg:List Str:=["words","word"]
theorem zwo:zva ztq ztg (zka zbk):=scOf (by decide +kernel)
abbrev zuw:Stmt:=top 36
abbrev zvjb:List Str:=["words","kind","whom"]
abbrev zbq:List Str:=["words"]
theorem zmn:zva zvjb zbq (zka zuw):=scOf (by decide +kernel)
abbrev zzo:Stmt:=top 37
abbrev zbab:List Str:=["words","kind","whom","word"]
abbrev zsl:List Str:=["words"]
theorem zdh:zva zbab zsl (zka zzo):=scOf (by decide +kernel)
abbrev zbm:Stmt:=top 38
abbrev zst:List Str:=["words","word"]
abbrev zfi:List Str:=["words","word"]
theorem zir:zva zst zfi (zka zbm):=scOf (by decide +kernel)
abbrev zmab:Stmt:=top 39
abbrev zunb:List Str:=["words","cost"]
abbrev zpt:List Str:=["words"]
theorem zrw:zva zunb zpt (zka zmab):=scOf (by decide +kernel)
abbrev zww:Stmt:=top 40
abbrev zxjb:List Str:=["words","each","kind","amount","whom"]
abbrev zdq:List Str:=["words"]
theorem zwi:zva zxjb zdq (zka zww):=scOf (by decide +kernel)
abbrev zmr:Stmt:=top 41
abbrev zndb:List Str:=["words","kind"]
abbrev zum:List Str:=["words","kind"]
theorem zpz:zva zndb zum (zka zmr):=scOf (by decide +kernel)
abbrev zzw:Stmt:=top 42
abbrev zakb:List Str:=["card","head"]
abbrev zgq:List Str:=["card"]
theorem zbu:zva zakb zgq (zka zzw):=scOf (by decide +kernel)
abbrev zku:Stmt:=top 43
abbrev zdhb:List Str:=["marks"]
abbrev zfo:List Str:=["marks"]
theorem zlbb:zva zdhb zfo (zka zku):=scOf (by decide +kernel)
abbrev zxw:Stmt:=top 44
abbrev zyjb:List Str:=["rule","words"]
abbrev zeq:List Str:=["rule"]
theorem zxi:zva zyjb zeq (zka zxw):=scOf (by decide +kernel)
abbrev zju:Stmt:=top 45
abbrev zchb:List Str:=["value"]
abbrev zeo:List Str:=["value"]
theorem zkbb:zva zchb zeo (zka zju):=scOf (by decide +kernel)
abbrev zyw:Stmt:=top 46
abbrev zzjb:List Str:=["deed","amount"]
abbrev zfq:List Str:=["deed"]
theorem zau:zva zzjb zfq (zka zyw):=scOf (by decide +kernel)
abbrev zcpb:Stmt:=top 56
abbrev zrzb:List Str:=["decks","cards","owners","player","deck"]
abbrev ztjb:List Str:=["decks"]
theorem zkr:zva zrzb ztjb (zka zcpb):=scOf (by decide +kernel)
abbrev znu:Stmt:=top 57
abbrev zghb:List Str:=["card"]
abbrev zjo:List Str:=["card"]
theorem znbb:zva zghb zjo (zka znu):=scOf (by decide +kernel)
abbrev znr:Stmt:=top 58
abbrev zodb:List Str:=["cards","owners","players","decks"]
abbrev zvm:List Str:=["cards","owners","players"]
theorem zyo:zva zodb zvm (zka znr):=scOf (by decide +kernel)
abbrev zmu:Stmt:=top 59
abbrev zfhb:List Str:=["owners","player"]
abbrev zio:List Str:=["owners","player"]
theorem zmbb:zva zfhb zio (zka zmu):=scOf (by decide +kernel)
abbrev zor:Stmt:=top 63
abbrev zpdb:List Str:=["table","others"]
abbrev zwm:List Str:=["table"]
theorem zqz:zva zpdb zwm (zka zor):=scOf (by decide +kernel)
abbrev znj:Stmt:=inClass (top 68) 0
abbrev zxv:List Str:=["self","decks","cards","owners","table"]
abbrev ztj:List Str:=["self","decks"]
theorem zpf:zva zxv ztj (zka znj):=scOf (by decide +kernel)
abbrev zlx:Stmt:=top 70
abbrev zmkb:List Str:=["_law_script","_law_k","_law_seed","_law_mixed"]
abbrev zrq:List Str:=["_law_script","_law_k"]
theorem ztk:zva zmkb zrq (zka zlx):=scOf (by decide +kernel)
abbrev zgx:Stmt:=top 71
abbrev zikb:List Str:=["_law_pen","_law_most","_law_cell_here"]
abbrev znq:List Str:=["_law_pen","_law_most"]
theorem zeu:zva zikb znq (zka zgx):=scOf (by decide +kernel)
abbrev zpu:Stmt:=top 72
abbrev zjhb:List Str:=["_law_pen","_law_letters","_law_base","_law_at","_law_first"]
abbrev zko:List Str:=["_law_pen"]
theorem zfh:zva zjhb zko (zka zpu):=scOf (by decide +kernel)
abbrev zpr:Stmt:=top 73
abbrev zqdb:List Str:=["_law_pen"]
abbrev zxm:List Str:=["_law_pen"]
theorem zrz:zva zqdb zxm (zka zpr):=scOf (by decide +kernel)
abbrev zex:Stmt:=top 74
abbrev zfkb:List Str:=["_law_pen","_law_names_here","_law_left","_law_way","_law_half","_law_one"]
abbrev zgi:List Str:=["_law_pen","_law_names_here","_law_left"]
theorem zqk:zva zfkb zgi (zka zex):=scOf (by decide +kernel)
abbrev zou:Stmt:=top 75
abbrev zihb:List Str:=["_law_whom_here","_law_words_here","_law_part"]
abbrev zzg:List Str:=["_law_whom_here"]
theorem zmm:zva zihb zzg (zka zou):=scOf (by decide +kernel)
abbrev zkx:Stmt:=top 77
abbrev zlkb:List Str:=["_law_pen","_law_names_here","_law_kind","_law_amount"]
abbrev zqq:List Str:=["_law_pen","_law_names_here"]
theorem zyi:zva zlkb zqq (zka zkx):=scOf (by decide +kernel)
abbrev zem:Stmt:=top 78
abbrev zvt:List Str:=["_law_deed_here","_law_words_here"]
abbrev zki:List Str:=["_law_deed_here"]
theorem zsk:zva zvt zki (zka zem):=scOf (by decide +kernel)
abbrev zfx:Stmt:=top 79
abbrev zgkb:List Str:=["_law_pen","_law_names_here","_law_kinds","_law_kind"]
abbrev zmq:List Str:=["_law_pen","_law_names_here","_law_kinds"]
theorem zdu:zva zgkb zmq (zka zfx):=scOf (by decide +kernel)
abbrev zbp:Stmt:=top 80
abbrev zdab:List Str:=["_law_pen","_law_names_here","_law_kinds","_law_kind","_law_whom_here","_law_some"]
abbrev zul:List Str:=["_law_pen","_law_names_here","_law_kinds"]
theorem ztc:zva zdab zul (zka zbp):=scOf (by decide +kernel)
abbrev zcm:Stmt:=top 81
abbrev ztt:List Str:=["_law_rule","_law_words_here"]
abbrev zii:List Str:=["_law_rule"]
theorem zrk:zva ztt zii (zka zcm):=scOf (by decide +kernel)
abbrev zmx:Stmt:=top 82
abbrev znkb:List Str:=["_law_pen","_law_names_here","_law_rules","_law_marks","_law_cost","_law_force","_law_shown","_law_head","_law_text"]
abbrev zsq:List Str:=["_law_pen","_law_names_here","_law_rules"]
theorem zbe:zva znkb zsq (zka zmx):=scOf (by decide +kernel)
abbrev zix:Stmt:=top 83
abbrev zjkb:List Str:=["_law_pen","_law_names_here","_law_change"]
abbrev zoq:List Str:=["_law_pen","_law_names_here"]
theorem zfu:zva zjkb zoq (zka zix):=scOf (by decide +kernel)
abbrev zdm:Stmt:=top 84
abbrev zut:List Str:=["_law_pen","_law_names_here","_law_holds","_law_rules","_law_k","_law_way"]
abbrev zji:List Str:=["_law_pen","_law_names_here","_law_holds"]
theorem zre:zva zut zji (zka zdm):=scOf (by decide +kernel)
abbrev zru:Stmt:=top 85
abbrev zlhb:List Str:=["_law_pen","_law_names_here","_law_way","_law_size","_law_many","_law_decks_here","_law_k","_law_deck","_law_j"]
abbrev zmo:List Str:=["_law_pen","_law_names_here"]
theorem zod:zva zlhb zmo (zka zru):=scOf (by decide +kernel)
abbrev zdx:Stmt:=top 86
abbrev zekb:List Str:=["_law_decks_here","_law_one"]
abbrev zlq:List Str:=["_law_decks_here"]
theorem zcu:zva zekb zlq (zka zdx):=scOf (by decide +kernel)
abbrev zap:Stmt:=top 87
abbrev zcab:List Str:=["_law_way","_law_decks_here","_law_kept","e"]
abbrev ztl:List Str:=["_law_way","_law_decks_here"]
theorem zeh:zva zcab ztl (zka zap):=scOf (by decide +kernel)
abbrev zoab:Stmt:=top 88
abbrev zwnb:List Str:=["_law_decks_here","_law_owners","_law_left","_law_hands","_law_player","_law_own","_law_many","_law_marks","_law_head"]
abbrev zrt:List Str:=["_law_decks_here"]
theorem zvd:zva zwnb zrt (zka zoab):=scOf (by decide +kernel)
abbrev zqu:Stmt:=top 89
abbrev zkhb:List Str:=["_law_decks_here","_law_cards","_law_holds"]
abbrev zlo:List Str:=["_law_decks_here"]
theorem znm:zva zkhb zlo (zka zqu):=scOf (by decide +kernel)
abbrev zjx:Stmt:=top 90
abbrev zkkb:List Str:=["_law_found","_law_decks_here","_law_owners","_law_table","_law_cards","_law_one","_law_card_here","_law_words_here"]
abbrev zpq:List Str:=["_law_found","_law_decks_here"]
theorem zgf:zva zkkb zpq (zka zjx):=scOf (by decide +kernel)
abbrev zsu:Stmt:=top 91
abbrev zmhb:List Str:=["_law_found","_law_due_here"]
abbrev zah:List Str:=["_law_found","_law_due_here"]
theorem zobb:zva zmhb zah (zka zsu):=scOf (by decide +kernel)
abbrev ztac:Stmt:=top 92
abbrev zwec:List Str:=["_law_script","_law_pen","_law_names_here","_law_decks_here","_law_texts","_law_wrong","_law_some","_law_deck","_law_at","_law_handed","_law_found","_law_again"]
abbrev zodc:List Str:=["_law_script"]
theorem zam:zva zwec zodc (zka ztac):=scOf (by decide +kernel)
abbrev zkz:Str:="abcdefghijklmnopqrstuvwxyz"
abbrev zlz:Str:="0123456789"
abbrev zph:List (Str×yvp):=[("all",.flat (.int 0)),("self",.flat (.int 0)),("mine",.flat (.int 0)),("mark",.flat (.int 0)),("force",.flat (.int 0)),("not",.flat (.int 1)),("both",.flat (.int 2)),("any",.flat (.int 2))]
abbrev zqkb:List (Str×yvp):=[("leave",.tup ((["none","here"]:List Str).map PyData.str)),("hurt",.tup ((["none","here","less","more"]:List Str).map PyData.str)),("gain",.tup ((["none","here"]:List Str).map PyData.str)),("lack",.tup ((["none","here"]:List Str).map PyData.str)),("lose",.tup ((["none","less","more","as"]:List Str).map PyData.str)),("score",.tup ((["none","less","more","as"]:List Str).map PyData.str)),("draw",.tup ((["none","less","more","as"]:List Str).map PyData.str))]
theorem onlZ {m:List Value->Prop}(h:m [])(us:List Value)(hl:us.length=0):m us:=by rw[ydf.mp hl];exact h
theorem onlS {m:List Value->Prop}{k:Nat}(h:∀a,∀us,us.length=k->m (a::us))(us:List Value)(hl:us.length=k+1):m us:=by
 obtain⟨a,t,rfl⟩:=List.exists_cons_of_length_eq_add_one hl;exact h a t (Nat.succ.inj hl)
@[elab_as_elim] theorem onl1 {m:List Value->Prop} (h:∀a,m [a]) (us:List Value) (hl:us.length=1):m us:=(onlS (m:=λt=>m (t)) λa=>onlZ (h a)) us hl
@[elab_as_elim] theorem onl2 {m:List Value->Prop} (h:∀a b,m [a,b]) (us:List Value) (hl:us.length=2):m us:=(onlS (m:=λt=>m (t)) λa=>onlS (m:=λt=>m (a::t)) λb=>onlZ (h a b)) us hl
@[elab_as_elim] theorem onl3 {m:List Value->Prop} (h:∀a b c,m [a,b,c]) (us:List Value) (hl:us.length=3):m us:=(onlS (m:=λt=>m (t)) λa=>onlS (m:=λt=>m (a::t)) λb=>onlS (m:=λt=>m (a::b::t)) λc=>onlZ (h a b c)) us hl
@[elab_as_elim] theorem onl4 {m:List Value->Prop} (h:∀a b c d,m [a,b,c,d]) (us:List Value) (hl:us.length=4):m us:=(onlS (m:=λt=>m (t)) λa=>onlS (m:=λt=>m (a::t)) λb=>onlS (m:=λt=>m (a::b::t)) λc=>onlS (m:=λt=>m (a::b::c::t)) λd=>onlZ (h a b c d)) us hl
@[elab_as_elim] theorem onl5 {m:List Value->Prop} (h:∀a b c d e,m [a,b,c,d,e]) (us:List Value) (hl:us.length=5):m us:=(onlS (m:=λt=>m (t)) λa=>onlS (m:=λt=>m (a::t)) λb=>onlS (m:=λt=>m (a::b::t)) λc=>onlS (m:=λt=>m (a::b::c::t)) λd=>onlS (m:=λt=>m (a::b::c::d::t)) λe=>onlZ (h a b c d e)) us hl
@[elab_as_elim] theorem onl6 {m:List Value->Prop} (h:∀a b c d e f,m [a,b,c,d,e,f]) (us:List Value) (hl:us.length=6):m us:=(onlS (m:=λt=>m (t)) λa=>onlS (m:=λt=>m (a::t)) λb=>onlS (m:=λt=>m (a::b::t)) λc=>onlS (m:=λt=>m (a::b::c::t)) λd=>onlS (m:=λt=>m (a::b::c::d::t)) λe=>onlS (m:=λt=>m (a::b::c::d::e::t)) λf=>onlZ (h a b c d e f)) us hl
set_option genInjectivity false in
set_option genSizeOf false in
structure Tf (K:yba)(mg:Str->Option Value) where
 zbh:Gf K mg "is_name" "is_name" zleb
 zfg:Gf K mg "is_number" "is_number" zcx
 zwh:Gf K mg "is_whole" "is_whole" znab
 zwb:Gf K mg "take_whom" "take_whom" ztw
 zwe:Gf K mg "take_value" "take_value" ziu
 zkp:Gf K mg "built" "built" zbpb
 zeg:Gf K mg "read_card" "read_card" zbx
 zye:Gf K mg "read_marks" "read_marks" zlu
 zdg:Gf K mg "read_rule" "read_rule" zax
 zag:Gf K mg "take_hold" "take_hold" zvw
 zec:Gf K mg "take_change_value" "take_change_value" zbk
 zzf:Gf K mg "take_when" "take_when" zuw
 ztd:Gf K mg "take_instead" "take_instead" zzo
 zmc:Gf K mg "take_turn_value" "take_turn_value" zbm
 zvh:Gf K mg "take_may" "take_may" zmab
 zee:Gf K mg "take_deed" "take_deed" zww
 zfe:Gf K mg "take_amount" "take_amount" zmr
 zcg:Gf K mg "show_card" "show_card" zzw
 zxe:Gf K mg "show_marks" "show_marks" zku
 zbg:Gf K mg "show_rule" "show_rule" zxw
 zmd:Gf K mg "show_value" "show_value" zju
 zge:Gf K mg "show_deed" "show_deed" zyw
 zgg:Gf K mg "begun" "begun" zcpb
 zaf:Gf K mg "many_holds" "many_holds" znu
 zie:Gf K mg "first_table" "first_table" znr
 zze:Gf K mg "numbers_of" "numbers_of" zmu
 zje:Gf K mg "first_stand" "first_stand" zor
 zlg:Gf K mg "_law_cell" "_law_cell" zlx
 zda:Gf K mg "_law_take" "_law_take" zgx
 zbf:Gf K mg "_law_names" "_law_names" zpu
 zzb:Gf K mg "_law_figure" "_law_figure" zpr
 zcb:Gf K mg "_law_whom" "_law_whom" zex
 zkb:Gf K mg "_law_words" "_law_words" zou
 zkg:Gf K mg "_law_deed" "_law_deed" zkx
 zpc:Gf K mg "_law_deed_words" "_law_deed_words" zem
 zig:Gf K mg "_law_when" "_law_when" zfx
 zud:Gf K mg "_law_instead" "_law_instead" zbp
 znc:Gf K mg "_law_rule_words" "_law_rule_words" zcm
 zmg:Gf K mg "_law_card" "_law_card" zmx
 zjg:Gf K mg "_law_hold" "_law_hold" zix
 zoc:Gf K mg "_law_drawn_card" "_law_drawn_card" zdm
 zdf:Gf K mg "_law_decks" "_law_decks" zru
 zke:Gf K mg "_law_word" "_law_word" zdx
 zrc:Gf K mg "_law_word_by" "_law_word_by" zap
 zxh:Gf K mg "_law_due" "_law_due" zoab
 zcf:Gf K mg "_law_fight" "_law_fight" zqu
 zed:Gf K mg "_law_good" "_law_good" zjx
 zpb:Gf K mg "_law_alike" "_law_alike" zsu
 zxnb:Gf K mg "law" "law" ztac
set_option genInjectivity false in
set_option genSizeOf false in
structure Tx (K:yba)(mg:Str->Option Value) extends Tf K mg where
 zfc:Addr
 zjb:Cls K zfc
 zpib:mg "Words" = some (.ref zfc)
 zlc:If K zfc "__init__" "Words.__init__" zmj
 zsc:Mf K zfc "take" "Words.take" znn
 zua:Mf K zfc "take_one_of" "Words.take_one_of" zng
 zsb:Mf K zfc "take_name" "Words.take_name" zyh
 zbb:Mf K zfc "take_number" "Words.take_number" zog
 zcd:Mf K zfc "finish" "Words.finish" znl
 zle:ztf K zfc "words"
 zrd:ztf K zfc "place"
 zyb:Addr
 zrg:Cls K zyb
 zxpb:mg "Whom" = some (.ref zyb)
 zfd:If K zyb "__init__" "Whom.__init__" zck
 ztb:Mf K zyb "told" "Whom.told" znp
 zjk:ztf K zyb "word"
 zxg:ztf K zyb "value"
 zbj:ztf K zyb "parts"
 zyfb:Isi K zyb
 zve:Addr
 zqe:Cls K zve
 zjvb:mg "Card" = some (.ref zve)
 zgd:If K zve "__init__" "Card.__init__" zdk
 zbi:ztf K zve "name"
 zci:ztf K zve "cost"
 zyg:ztf K zve "force"
 zlf:ztf K zve "marks"
 zkf:ztf K zve "rules"
 zql:Addr
 ziub:Cls K zql
 zypb:mg "Fight" = some (.ref zql)
 zwc:If K zql "__init__" "Fight.__init__" znj
 zai:ztf K zql "all_cards"
 zoh:ztf K zql "all_owners"
 zup:ztf K zql "now"
 zpj:ztf K zql "last_log"
 zwn:ztf K zql "past"
 zok:mg "ValueError" = none
 zgmb:mg "all" = none
 zkw:mg "bool" = none
 zak:mg "enumerate" = none
 zdbb:mg "int" = none
 zab:mg "isinstance" = none
 zxd:mg "len" = none
 zzm:mg "list" = none
 zuh:mg "range" = none
 zoo:mg "reversed" = none
 zmrb:mg "set" = none
 zyq:mg "sorted" = none
 zvo:mg "str" = none
 ztdb:mg "sum" = none
 zde:mg "tuple" = none
 zlrb:mg "zip" = none
 e_NoCard:ExK K mg "NoCard"
 e_NoFight:ExK K mg "NoFight"
 e_FightError:ExK K mg "FightError"
 zkl:Addr
 ziw:mg "NotNow" = some (.ref zkl)
 zkj:Addr
 zis:mg "NotSame" = some (.ref zkj)
 zbo:Addr
 zrcb:mg "NoRow" = some (.ref zbo)
 u_NoCard_FightError:L2.subIn K e_NoCard.c e_FightError.c=true
 v_NoCard_NoCard:yna K (.ref e_NoCard.c) (.ref e_NoCard.c)=some true
 v_NoCard_ValueError:yna K (.ref e_NoCard.c) (.type "ValueError")=some true
 v_NoCard_NotNow:yna K (.ref e_NoCard.c) (.ref zkl)=some false
 v_NoCard_NotSame:yna K (.ref e_NoCard.c) (.ref zkj)=some false
 v_NoCard_NoFight:yna K (.ref e_NoCard.c) (.ref e_NoFight.c)=some false
 v_NoCard_NoRow:yna K (.ref e_NoCard.c) (.ref zbo)=some false
 u_NoFight_FightError:L2.subIn K e_NoFight.c e_FightError.c=true
 v_NoFight_NoCard:yna K (.ref e_NoFight.c) (.ref e_NoCard.c)=some false
 v_NoFight_ValueError:yna K (.ref e_NoFight.c) (.type "ValueError")=some true
 v_NoFight_NotNow:yna K (.ref e_NoFight.c) (.ref zkl)=some false
 v_NoFight_NotSame:yna K (.ref e_NoFight.c) (.ref zkj)=some false
 v_NoFight_NoFight:yna K (.ref e_NoFight.c) (.ref e_NoFight.c)=some true
 v_NoFight_NoRow:yna K (.ref e_NoFight.c) (.ref zbo)=some false
 zufb:Tok
 zjs:mg "LETTERS" = some (.str zkz zufb)
 zvfb:Tok
 zks:mg "FIGURES" = some (.str zlz zvfb)
 zdv:Tok
 zfl:mg "MOST_WORDS" = some (.int 9 zdv)
 zaq:Addr
 zit:mg "PARTS" = some (.ref zaq)
 zlcb:ydr (ymi λb=>K.lookup b) (λb=>K.lookup b) zaq zph=true
 zfv:Tok
 zgl:mg "MOST_RULES" = some (.int 3 zfv)
 ziz:Addr
 zpcb:mg "SORTS" = some (.ref ziz)
 zkcb:TupK K ziz ["hold","when","instead","may"]
 zco:Addr
 zls:mg "CHANGES" = some (.ref zco)
 zes:TupK K zco ["mute","steal","gain","lack","be","more","less","per"]
 zjj:Addr
 zel:mg "WHEN_KINDS" = some (.ref zjj)
 zal:TupK K zjj ["come","leave","hurt","gain","lack","lose","score","draw"]
 znf:Addr
 zej:mg "DEED_KINDS" = some (.ref znf)
 zcj:TupK K znf ["leave","hurt","gain","lack","lose","score","draw"]
 zvf:Addr
 zsi:mg "PLAYER_KINDS" = some (.ref zvf)
 zqi:TupK K zvf ["lose","score","draw"]
 zldb:Addr
 zocb:mg "TURNS" = some (.ref zldb)
 zjcb:TabK K zldb zqkb
 zcn:Tok
 zyf:mg "FEWEST_PLAYERS" = some (.int 2 zcn)
 zdp:Tok
 zti:mg "MOST_PLAYERS" = some (.int 4 zdp)
 ziv:Tok
 zjl:mg "MOST_CARDS" = some (.int 16 ziv)
 zgv:Tok
 zil:mg "MOST_HOLDS" = some (.int 8 zgv)
 zep:Tok
 zui:mg "FIRST_POINTS" = some (.int 20 zep)
 zjv:Tok
 zdj:mg "FIRST_HAND" = some (.int 3 zjv)
 ztlb:Tok
 zqcb:mg "SCORES" = some (.int 1 ztlb)
 zlvb:Tok
 znqb:mg "GONE" = some (.int 2 zlvb)
 zcv:Tok
 zxn:mg "TURN_COINS" = some (.int 5 zcv)
theorem zvgb (T:Tx K mg):Binds K T.zbh.d zmz []:=T.zbh.F.binds λ_ _ _ _ _ _ us hl=>onl1 (λ_=>rfl) us hl
theorem zjjb (T:Tx K mg):Binds K T.zfg.d zkq []:=T.zfg.F.binds λ_ _ _ _ _ _ us hl=>onl1 (λ_=>rfl) us hl
theorem zpnb (T:Tx K mg):Binds K T.zwh.d zqt []:=T.zwh.F.binds λ_ _ _ _ _ _ us hl=>onl2 (λ_ _=>rfl) us hl
theorem zdn (T:Tx K mg):Binds K T.zlc.d zsj []:=T.zlc.F.binds λ_ _ _ _ _ _ us hl=>onl2 (λ_ _=>rfl) us hl
theorem zij (T:Tx K mg):Binds K T.zsc.d zno []:=T.zsc.F.binds λ_ _ _ _ _ _ us hl=>onl1 (λ_=>rfl) us hl
theorem znb (T:Tx K mg):Binds K T.zua.d zug []:=T.zua.F.binds λ_ _ _ _ _ _ us hl=>onl2 (λ_ _=>rfl) us hl
theorem zrf (T:Tx K mg):Binds K T.zsb.d zli []:=T.zsb.F.binds λ_ _ _ _ _ _ us hl=>onl1 (λ_=>rfl) us hl
theorem zgc (T:Tx K mg):Binds K T.zbb.d zvg []:=T.zbb.F.binds λ_ _ _ _ _ _ us hl=>onl1 (λ_=>rfl) us hl
theorem zgp (T:Tx K mg):Binds K T.zcd.d zvl []:=T.zcd.F.binds λ_ _ _ _ _ _ us hl=>onl1 (λ_=>rfl) us hl
theorem zcz (T:Tx K mg):Binds K T.zfd.d zmk []:=T.zfd.F.binds λ_ _ _ _ _ _ us hl=>onl4 (λ_ _ _ _=>rfl) us hl
theorem zei (T:Tx K mg):Binds K T.ztb.d zmi []:=T.ztb.F.binds λ_ _ _ _ _ _ us hl=>onl1 (λ_=>rfl) us hl
theorem zlk (T:Tx K mg):Binds K T.zwb.d ztm []:=T.zwb.F.binds λ_ _ _ _ _ _ us hl=>onl1 (λ_=>rfl) us hl
theorem zqgb (T:Tx K mg):Binds K T.zwe.d zdo []:=T.zwe.F.binds λ_ _ _ _ _ _ us hl=>onl2 (λ_ _=>rfl) us hl
theorem zgzb (T:Tx K mg):Binds K T.zkp.d zsjb []:=T.zkp.F.binds λ_ _ _ _ _ _ us hl=>onl1 (λ_=>rfl) us hl
theorem zdz (T:Tx K mg):Binds K T.zgd.d znk []:=T.zgd.F.binds λ_ _ _ _ _ _ us hl=>onl6 (λ_ _ _ _ _ _=>rfl) us hl
theorem zijb (T:Tx K mg):Binds K T.zeg.d zjq []:=T.zeg.F.binds λ_ _ _ _ _ _ us hl=>onl1 (λ_=>rfl) us hl
theorem zsgb (T:Tx K mg):Binds K T.zye.d zgo []:=T.zye.F.binds λ_ _ _ _ _ _ us hl=>onl1 (λ_=>rfl) us hl
theorem zgjb (T:Tx K mg):Binds K T.zdg.d ziq []:=T.zdg.F.binds λ_ _ _ _ _ _ us hl=>onl1 (λ_=>rfl) us hl
theorem zdjb (T:Tx K mg):Binds K T.zag.d zcq []:=T.zag.F.binds λ_ _ _ _ _ _ us hl=>onl1 (λ_=>rfl) us hl
theorem zyp (T:Tx K mg):Binds K T.zec.d ztg []:=T.zec.F.binds λ_ _ _ _ _ _ us hl=>onl2 (λ_ _=>rfl) us hl
theorem zcjb (T:Tx K mg):Binds K T.zzf.d zbq []:=T.zzf.F.binds λ_ _ _ _ _ _ us hl=>onl1 (λ_=>rfl) us hl
theorem zyz (T:Tx K mg):Binds K T.ztd.d zsl []:=T.ztd.F.binds λ_ _ _ _ _ _ us hl=>onl1 (λ_=>rfl) us hl
theorem zlt (T:Tx K mg):Binds K T.zmc.d zfi []:=T.zmc.F.binds λ_ _ _ _ _ _ us hl=>onl2 (λ_ _=>rfl) us hl
theorem zonb (T:Tx K mg):Binds K T.zvh.d zpt []:=T.zvh.F.binds λ_ _ _ _ _ _ us hl=>onl1 (λ_=>rfl) us hl
theorem zyy (T:Tx K mg):Binds K T.zee.d zdq []:=T.zee.F.binds λ_ _ _ _ _ _ us hl=>onl1 (λ_=>rfl) us hl
theorem zgdb (T:Tx K mg):Binds K T.zfe.d zum []:=T.zfe.F.binds λ_ _ _ _ _ _ us hl=>onl2 (λ_ _=>rfl) us hl
theorem zfjb (T:Tx K mg):Binds K T.zcg.d zgq []:=T.zcg.F.binds λ_ _ _ _ _ _ us hl=>onl1 (λ_=>rfl) us hl
theorem zrgb (T:Tx K mg):Binds K T.zxe.d zfo []:=T.zxe.F.binds λ_ _ _ _ _ _ us hl=>onl1 (λ_=>rfl) us hl
theorem zejb (T:Tx K mg):Binds K T.zbg.d zeq []:=T.zbg.F.binds λ_ _ _ _ _ _ us hl=>onl1 (λ_=>rfl) us hl
theorem zov (T:Tx K mg):Binds K T.zmd.d zeo []:=T.zmd.F.binds λ_ _ _ _ _ _ us hl=>onl1 (λ_=>rfl) us hl
theorem zzy (T:Tx K mg):Binds K T.zge.d zfq []:=T.zge.F.binds λ_ _ _ _ _ _ us hl=>onl1 (λ_=>rfl) us hl
theorem zaz (T:Tx K mg):Binds K T.zgg.d ztjb []:=T.zgg.F.binds λ_ _ _ _ _ _ us hl=>onl1 (λ_=>rfl) us hl
theorem zugb (T:Tx K mg):Binds K T.zaf.d zjo []:=T.zaf.F.binds λ_ _ _ _ _ _ us hl=>onl1 (λ_=>rfl) us hl
theorem zidb (T:Tx K mg):Binds K T.zie.d zvm []:=T.zie.F.binds λ_ _ _ _ _ _ us hl=>onl3 (λ_ _ _=>rfl) us hl
theorem ztgb (T:Tx K mg):Binds K T.zze.d zio []:=T.zze.F.binds λ_ _ _ _ _ _ us hl=>onl2 (λ_ _=>rfl) us hl
theorem zjdb (T:Tx K mg):Binds K T.zje.d zwm []:=T.zje.F.binds λ_ _ _ _ _ _ us hl=>onl1 (λ_=>rfl) us hl
theorem zuv (T:Tx K mg):Binds K T.zwc.d ztj []:=T.zwc.F.binds λ_ _ _ _ _ _ us hl=>onl2 (λ_ _=>rfl) us hl
theorem znjb (T:Tx K mg):Binds K T.zlg.d zrq []:=T.zlg.F.binds λ_ _ _ _ _ _ us hl=>onl2 (λ_ _=>rfl) us hl
theorem zsa (T:Tx K mg):Binds K T.zda.d znq []:=T.zda.F.binds λ_ _ _ _ _ _ us hl=>onl2 (λ_ _=>rfl) us hl
theorem zwgb (T:Tx K mg):Binds K T.zbf.d zko []:=T.zbf.F.binds λ_ _ _ _ _ _ us hl=>onl1 (λ_=>rfl) us hl
theorem zyj (T:Tx K mg):Binds K T.zzb.d zxm []:=T.zzb.F.binds λ_ _ _ _ _ _ us hl=>onl1 (λ_=>rfl) us hl
theorem zsg (T:Tx K mg):Binds K T.zcb.d zgi []:=T.zcb.F.binds λ_ _ _ _ _ _ us hl=>onl3 (λ_ _ _=>rfl) us hl
theorem zgj (T:Tx K mg):Binds K T.zkb.d zzg []:=T.zkb.F.binds λ_ _ _ _ _ _ us hl=>onl1 (λ_=>rfl) us hl
theorem zmjb (T:Tx K mg):Binds K T.zkg.d zqq []:=T.zkg.F.binds λ_ _ _ _ _ _ us hl=>onl2 (λ_ _=>rfl) us hl
theorem zot (T:Tx K mg):Binds K T.zpc.d zki []:=T.zpc.F.binds λ_ _ _ _ _ _ us hl=>onl1 (λ_=>rfl) us hl
theorem zkjb (T:Tx K mg):Binds K T.zig.d zmq []:=T.zig.F.binds λ_ _ _ _ _ _ us hl=>onl3 (λ_ _ _=>rfl) us hl
theorem zaab (T:Tx K mg):Binds K T.zud.d zul []:=T.zud.F.binds λ_ _ _ _ _ _ us hl=>onl3 (λ_ _ _=>rfl) us hl
theorem zmt (T:Tx K mg):Binds K T.znc.d zii []:=T.znc.F.binds λ_ _ _ _ _ _ us hl=>onl1 (λ_=>rfl) us hl
theorem zojb (T:Tx K mg):Binds K T.zmg.d zsq []:=T.zmg.F.binds λ_ _ _ _ _ _ us hl=>onl3 (λ_ _ _=>rfl) us hl
theorem zljb (T:Tx K mg):Binds K T.zjg.d zoq []:=T.zjg.F.binds λ_ _ _ _ _ _ us hl=>onl2 (λ_ _=>rfl) us hl
theorem znt (T:Tx K mg):Binds K T.zoc.d zji []:=T.zoc.F.binds λ_ _ _ _ _ _ us hl=>onl3 (λ_ _ _=>rfl) us hl
theorem zygb (T:Tx K mg):Binds K T.zdf.d zmo []:=T.zdf.F.binds λ_ _ _ _ _ _ us hl=>onl2 (λ_ _=>rfl) us hl
theorem zbz (T:Tx K mg):Binds K T.zke.d zlq []:=T.zke.F.binds λ_ _ _ _ _ _ us hl=>onl1 (λ_=>rfl) us hl
theorem zfp (T:Tx K mg):Binds K T.zrc.d ztl []:=T.zrc.F.binds λ_ _ _ _ _ _ us hl=>onl2 (λ_ _=>rfl) us hl
theorem zqnb (T:Tx K mg):Binds K T.zxh.d zrt []:=T.zxh.F.binds λ_ _ _ _ _ _ us hl=>onl1 (λ_=>rfl) us hl
theorem zxgb (T:Tx K mg):Binds K T.zcf.d zlo []:=T.zcf.F.binds λ_ _ _ _ _ _ us hl=>onl1 (λ_=>rfl) us hl
theorem zzp (T:Tx K mg):Binds K T.zed.d zpq []:=T.zed.F.binds λ_ _ _ _ _ _ us hl=>onl2 (λ_ _=>rfl) us hl
theorem zao (T:Tx K mg):Binds K T.zpb.d zah []:=T.zpb.F.binds λ_ _ _ _ _ _ us hl=>onl2 (λ_ _=>rfl) us hl
theorem zpw (T:Tx K mg)(kb:K.In base):ybr base T.zaq zph:=KTD.text_of_look (λb o q=>kb b o q) T.zlcb
abbrev LL:Str:="abcdefghijklmnopqrstuvwxyz"
abbrev FF:Str:="0123456789"
def inS (c:Nat)(u:Str):Bool:=!(yid u ⟨#[c]⟩ 0 u.length 1).isEmpty
def allIn (t u:Str):Bool:=(t.cps.toList.map λc=>inS c u).all id
def zzx (t:Str):Bool:=decide (V.str t=V.str "0")||(!decide (V.str ⟨#[t.cps.getD 0 0]⟩=V.str "0"))
def short (t:Str)(n:Int):Bool:=decide ((1:Int)≤((t.length:Nat):Int))&&decide (((t.length:Nat):Int)≤n)
def isName (t:Str):Bool:=short t 8&&allIn t LL
def isWhole (t:Str)(n:Int):Bool:=short t n&&(allIn t FF&&zzx t)
def isNumber (t:Str):Bool:=isWhole t 3
theorem zyub {n:Nat}(h:n≤16777216):n≤yxa:=h
theorem small {n:Nat}(h:n≤1000):n≤yxa:=ywg (zyc h)
theorem zknb {t:Str}(h:(1:Int)≤((t.length:Nat):Int)):atI t.cps.toList 0=some (t.cps.getD 0 0):=by
 have hl:0<t.cps.size:=by
  have e:t.length=t.cps.size:=rfl;omega
 have e:t.cps.toList[0]?=some (t.cps.getD 0 0):=by
  rw[yad,ynh,ywd hl];rfl
 exact zna (j:=0) e
theorem zss {α:Type}{xs:List α}{i:Int}(h0:0≤i)(h:i<(xs.length:Int)):∃v,atI xs i=some v∧v∈xs:=by
 have hk:i.toNat<xs.length:=by omega
 have e:xs[i.toNat]?=some xs[i.toNat]:=yqa hk;have q:=zna e;rw[show ((i.toNat:Nat):Int)=i by omega] at q;exact⟨_,q,ywa e⟩
theorem zgrb {ns:List Int}{i:Int}(h0:0≤i)(h:i<(ns.length:Int)):∃z,atI (ns.map V.int) i=some (.int z):=by
 obtain⟨v,hv,hm⟩:=zss (xs:=ns.map V.int) h0 (by rw[yaa];exact h);obtain⟨z,_,rfl⟩:=ysb.mp hm;exact⟨z,hv⟩
theorem len_app (a b:Str):(a++b).length=a.length+b.length:=by
 show (a.cps++b.cps).size=a.cps.size+b.cps.size
 rw[ylj]
def But (p:Addr)(H H':Hp):Prop:=∀b o,b≠p->H b=some o->H' b=some o
theorem But.refl (p:Addr)(H:Hp):But p H H:=λ_ _ _ h=>h
theorem But.trans {p:Addr}{H H1 H2:Hp}(a:But p H H1)(b:But p H1 H2):But p H H2:=λc o n h=>b c o n (a c o n h)
theorem But.laid {p q:Addr}{H:Hp}{o:HO}(h:H q=none):But p H (upd H q o):=λb u n e=>by rw[zxa (zpa e h)];exact e
theorem But.put {p:Addr}{H:Hp}{o:HO}:But p H (upd H p o):=λb u n e=>by rw[zxa n];exact e
theorem But.same {p:Addr}{H H':Hp}(h:Same H H'):But p H H':=λb o _ e=>h b o e
theorem zoa {H:Hp}{p:Addr}(h:H p=none)(o:HO):Same H (upd H p o):=λb u q=>by rw[zxa (zpa q h)];exact q
def SqF (K:yba)(H:Hp)(a:Addr)(xs:List V):Prop :=
 (∃o,H a=some (.frz o (.lst xs)))∨Ex3 λ(o:Obj) (its:Array Value) (n:Nat)=>K.lookup a=some o∧o.cls = .type "list" ∧ o.dict=none∧o.data = .seq its n∧its.size≤yxa∧Vals xs its.toList
theorem SqF.sq {K:yba}{H:Hp}{a:Addr}{xs:List V}(h:SqF K H a xs):SqL K H a xs:=by
 rcases h with⟨o,h⟩|h
 ·exact .inl (.inr ⟨o,h⟩)
 ·exact .inr h
theorem SqF.of {K:yba}{H:Hp}{a:Addr}{xs:List V}(O:Only H)(h:SqL K H a xs):SqF K H a xs:=by
 rcases h with (h|⟨o,h⟩)|h
 ·rcases O a with z|⟨o,ys,z⟩
  ·rw[z] at h;cases h
  ·rw[z] at h;cases h
 ·exact .inl ⟨o,h⟩
 ·exact .inr h
theorem SqF.keep {K:yba}{H H':Hp}{a:Addr}{xs:List V}(h:SqF K H a xs)(k:∀o u,H a=some (.frz o u)->H' a=some (.frz o u)):SqF K H' a xs:=by
 rcases h with⟨o,h⟩|h
 ·exact .inl ⟨o,k _ _ h⟩
 ·exact .inr h
structure Tk (K:yba)(H:Hp)(p:Addr)(k:Int):Prop where
 ex:Ex2 λa (ns:List Int)=>H p=some (.lst [.ref a,.int k])∧SqF K H a (ns.map V.int)∧ns.length≤63
 lo:0≤k
theorem Tk.ne {K:yba}{H:Hp}{p q:Addr}{k:Int}(T:Tk K H p k)(h:H q=none):p≠q:=by
 obtain⟨⟨a,ns,h1,_⟩,_⟩:=T;exact zpa h1 h
theorem Tk.same {K:yba}{H H':Hp}{p:Addr}{k:Int}(T:Tk K H p k)(h:Same H H'):Tk K H' p k:=by
 obtain⟨⟨a,ns,h1,h2,h3⟩,lo⟩:=T;exact⟨⟨a,ns,h p _ h1,h2.keep λo u z=>h _ _ z,h3⟩,lo⟩
theorem Tk.other {K:yba}{H:Hp}{p q:Addr}{k:Int}{us vs:List V}(T:Tk K H p k)(hq:H q=some (.lst us))(n:p≠q):Tk K (upd H q (.lst vs)) p k:=by
 obtain⟨⟨a,ns,h1,h2,h3⟩,lo⟩:=T;exact⟨⟨a,ns,by rw[zxa n];exact h1,h2.keep λo u z=>by rw[zxa (zsp z hq (by intro y;cases y))];exact z,h3⟩,lo⟩
theorem Tk.begin {K:yba}{H:Hp}{p a:Addr}{ns:List Int}(hp:H p=none)(hS:SqF K H a (ns.map V.int))(h63:ns.length≤63):Tk K (upd H p (.lst [.ref a,.int 0])) p 0 :=
 ⟨⟨a,ns,zfa,hS.keep λo u z=>by rw[zxa (zpa z hp)];exact z,h63⟩,Int.le_refl 0⟩
def znac (K:yba):Sp:=λvs H Q _=>Ex3 λp (k m:Int)=>vs=[.ref p,.int m]∧Tk K H p k∧k≤1000000∧0<m∧∀(r:Int) H',0≤r->r<m->But p H H'->Tk K H' p (k+1)->Q (.int r) H'
def zpac:Sp:=λvs H Q _=>∃t:Str,vs=[.str t]∧t.length≤10000∧∀H',Same H H'->Q (.bl (isName t)) H'
def zwrb:Sp:=λvs H Q _=>∃t:Str,vs=[.str t]∧t.length≤10000∧∀H',Same H H'->Q (.bl (isNumber t)) H'
def zuwb:Sp:=λvs H Q _=>Ex2 λ(t:Str) (n:Int)=>vs=[.str t,.int n]∧t.length≤10000∧∀H',Same H H'->Q (.bl (isWhole t n)) H'
def zyrb (K:yba):Sp:=λvs H Q _=>Ex2 λa (ns:List Int)=>vs=[.ref a]∧SqF K H a (ns.map V.int)∧ns.length≤63∧∀H',Q (.bl true) H'
abbrev zgbc:R2:=λx y H Q=>Ex2 λi j=>x = .str i∧y = .str j∧Q (.bl (!(yid j i 0 j.length 1).isEmpty)) H
theorem zabb {t L:Str}{σ:L2.St}{H:Hp}{Q:VK}(hz:t.length≤yxa)(q:∀p,H p=none->Q (.ref p) (upd H p (.lst ((t.cps.toList.map λc=>inS c L).map V.bl)))) :
  zsdb (Its t) H (zny 0) zkwb (tOp zgbc (tVar 0) (tC (.str L))) 1 [] σ Q:=by
 refine zgub (λi ys H'=>H'=H∧i≤t.cps.size∧ys=((t.cps.toList.take i).map λc=>inS c L).map V.bl) ⟨rfl,yrb _,rfl⟩ ?_ ?_ ?_
 ·rintro i ys H' ⟨_,hi,rfl⟩;rw[yaa,yaa,yza];have e:t.length=t.cps.toList.length:=by simp[yxn]
  omega
 ·rintro i c ys H' hc ⟨rfl,hi,rfl⟩;refine⟨rfl,_,rfl,_,_,rfl,rfl,rfl,?_,?_⟩
  ·have hlt:i<t.cps.size:=(yuf.mp hc).1;exact hlt
  ·have e:t.cps.toList[i]?=some c:=by simpa using hc
   rw[yob,e,yva,yva];rfl
 ·rintro ys H' ⟨rfl,_,rfl⟩ p hp;have q':=q p hp;rw[yya (by simp)];exact q'
section
variable {P:ybc}{w:World}{K:yba}{mg:Str->Option Value}{base:Heap}{f:Addr}{fd:yne}
theorem zsab (T:Tx K mg):FnOk P w K mg base CX0 2 T.zbh.f T.zbh.d zmz zpac:=by
 refine T.zbh.ok zumb ?_;rintro f c A o s H vs Q E hr ⟨t,rfl,hz,q⟩ X;have hz':=zyub (yab hz (by decide));refine⟨_,  (zea (zwa (zwu (zilb zsz zsz zga (zma zyn rfl T.zxd ykb (zaa (pv 0) zba)) zga) (zsx (zma (zfdb rfl) rfl T.zgmb boot_all (zaa (zxc (own:=["sign"]) (cap:=[]) rfl (zeb.chk rfl rfl) .nil (zfvb (pv 0)) (λ_ _ _ _=>(zfb (i:=0) (show ync (["sign"]:List Str) by decide +kernel) rfl (.inl rfl))) (λ_ _ _ _=>zuc) (λ_ _ _ _=>by exact (zkh zafb (pv 0) (zqc (v:=.str zkz) rfl T.zjs ⟨_,rfl⟩) rfl))) zba)))))),?_⟩;refine⟨_,rfl,t,rfl,hz',_,_,rfl,rfl,_,rfl,?_⟩;refine ite2 (λc1=>?_) (λc1=>?_)
 ·refine⟨_,_,rfl,rfl,_,rfl,?_⟩;refine ite2 (λc2=>?_) (λc2=>?_)
  ·refine⟨_,rfl,t,rfl,?_⟩;refine zabb hz' λp hp=>?_;refine⟨p,_,rfl,SqL.of zfa,?_⟩;have q':=q (upd H p (.lst ((t.cps.toList.map λc=>inS c LL).map V.bl))) (zoa hp _);have e:isName t=allIn t LL:=by
    unfold isName short;rw[c1,c2,yth,yth]
   rw[e] at q';exact q'
  ·have q':=q H (Same.refl H);have e:isName t=false:=by
    unfold isName short;rw[ykf.mpr c2,ykl,yig]
   rw[e] at q';exact q'
 ·refine⟨_,rfl,iteF ?_⟩;have q':=q H (Same.refl H);have e:isName t=false:=by
   unfold isName short;rw[ykf.mpr c1,yig,yig]
  rw[e] at q';exact q'
theorem zfib (T:Tx K mg):FnOk P w K mg base CX0 1 T.zwh.f T.zwh.d zqt zuwb:=by
 refine T.zwh.ok zyhb ?_;rintro f c A o s H vs Q E hr ⟨t,n,rfl,hz,q⟩ X;have hz':=zyub (yab hz (by decide));refine⟨_,  (zca (zvb (PW.pt (zqp (zwj (zclb zsz zsz zga (zma zyn rfl T.zxd ykb (zaa (pv 0) zba)) (pv 1))) (zrn (zwj (zif (zma (zfdb rfl) rfl T.zgmb boot_all (zaa (zxc (own:=["sign"]) (cap:=[]) rfl (zeb.chk rfl rfl) .nil (zfvb (pv 0)) (λ_ _ _ _=>(zfb (i:=0) (show ync (["sign"]:List Str) by decide +kernel) rfl (.inl rfl))) (λ_ _ _ _=>zuc) (λ_ _ _ _=>by exact (zkh zafb (pv 0) (zqc (v:=.str zlz) rfl T.zks ⟨_,rfl⟩) rfl))) zba)))))))
   (zea (zwa zrv))
   zya)
  (zea (zwa (zfec (zkh zzd (pv 0) zja (zza _)) (zsx (zkh zsv (zmb zvlb (pv 0) zga (λ_ _=>rfl)) zja (zza _))))))),?_⟩
 refine⟨_,rfl,t,rfl,hz',_,_,rfl,rfl,_,rfl,?_⟩;refine ite2 (λc1=>?_) (λc1=>?_)
 ·refine⟨_,rfl,_,_,rfl,rfl,_,rfl,?_⟩;refine ite2 (λc2=>?_) (λc2=>?_)
  ·refine iteT ?_;have q':=q H (Same.refl H);have c2':decide (((t.length:Nat):Int)≤n)=false:=(by simpa using c2);have e:isWhole t n=false:=by
    unfold isWhole short;rw[c2',ykl,yig]
   rw[e] at q';exact q'
  ·have c2':decide (((t.length:Nat):Int)≤n)=true:=by simpa using c2
   refine⟨_,rfl,t,rfl,?_⟩;refine zabb hz' λp hp=>?_;refine⟨p,_,rfl,SqL.of zfa,_,rfl,?_⟩;have S1:=zoa hp (.lst ((t.cps.toList.map λc=>inS c FF).map V.bl));have q':=q _ S1;have e0:isWhole t n=(allIn t FF&&zzx t):=by
    unfold isWhole short;rw[c1,c2',yth,yth]
   rw[e0] at q';refine ite2 (λc3=>?_) (λc3=>?_)
   ·have c3':allIn t FF=false:=by simpa [allIn] using c3
    rw[c3',yig] at q';exact q'
   ·have c3':allIn t FF=true:=by simpa [allIn] using c3
    rw[c3',yth] at q';refine⟨_,rfl,rfl,_,rfl,?_⟩;refine ite2 (λc4=>?_) (λc4=>?_)
    ·have e:zzx t=true:=by
      unfold zzx;rw[c4,Bool.true_or]
     rw[e] at q';exact q'
    ·refine⟨_,rfl,t,_,_,rfl,rfl,hz',zknb (of_decide_eq_true c1),rfl,?_⟩;have e:zzx t=(!decide (V.str ⟨#[t.cps.getD 0 0]⟩=V.str "0")):=by
      unfold zzx;rw[ykf.mpr c4,Bool.false_or]
     rw[e] at q';exact q'
 ·refine⟨_,rfl,iteT (iteT ?_)⟩;have q':=q H (Same.refl H);have e:isWhole t n=false:=by
   unfold isWhole short;rw[ykf.mpr c1,yig,yig]
  rw[e] at q';exact q'
theorem zkfb (T:Tx K mg):FnOk P w K mg base CX0 2 T.zfg.f T.zfg.d zkq zwrb:=by
 refine T.zfg.ok zkeb ?_;rintro f c A o s H vs Q E hr ⟨t,rfl,hz,q⟩ X;refine⟨_,  (zea (zwa (zia (zfib T) hr rfl T.zwh.m T.zwh.F.kp (zpnb T) .nil zdb (zaa (pv 0) (zaa zga zba))))),?_⟩;exact⟨_,rfl,t,3,rfl,hz,q⟩
end
section
seal PySem.wpAny
theorem zwcc:∀c:Nat,c<123->97≤c->inS c LL=true:=by decide +kernel
theorem ztp {n:Str}(h:zkd n):isName n=true:=by
 unfold isName short allIn;obtain⟨h1,h2,h3⟩:=h;rw[decide_eq_true (by omega),decide_eq_true (by omega),yth,yth,ymd];intro b hb;obtain⟨c,hc,rfl⟩:=ysb.mp hb;exact zwcc c (by have:=h3 c hc;omega) (h3 c hc).1
theorem zqfb:∀i:Nat,i<1000->isNumber (toString (i:Int):Str)=true:=by decide +kernel
theorem ziib:∀i:Nat,i<1000->yll (toString (i:Int):Str)=some (i:Int):=by decide +kernel
theorem zpi {f:Str}{v:V}{r:List (Str×V)}:yje f ((f,v)::r)=some v:=by rw[yze,beq_self_eq_true]
theorem zkc {f g:Str}{v:V}{r:List (Str×V)}(h:¬ f=g):yje f ((g,v)::r)=yje f r:=by
 have e:(f==g)=false:=by simpa using h
 rw[yze,e]
theorem zbt {f:Str}{v:V}:putF f v []=[(f,v)]:=rfl
theorem zpxb {f:Str}{v u:V}{r:List (Str×V)}:putF f v ((f,u)::r)=(f,v)::r:=by
 show (if f=f then (f,v)::r else (f,u)::putF f v r)=_
 rw[if_pos rfl]
theorem zom {f g:Str}{v u:V}{r:List (Str×V)}(h:¬ g=f):putF f v ((g,u)::r)=(g,u)::putF f v r:=by
 show (if g=f then (g,v)::r else (g,u)::putF f v r)=_
 rw[if_neg h]
def wfs (l:Addr)(k:Int):List (Str×V):=[("words",.ref l),("place",.int k)]
theorem zubc:¬ (("words":Str) = "place"):=by decide +kernel
theorem ziec:¬ (("place":Str) = "words"):=by decide +kernel
theorem zlw (l:Addr)(k:Int):(wfs l k).lookup ("words":Str)=some (.ref l):=zpi
theorem zar (l:Addr)(k:Int):(wfs l k).lookup ("place":Str)=some (.int k):=(zkc ziec).trans zpi
theorem zbwb (l:Addr)(k j:Int):putF "place" (.int j) (wfs l k)=wfs l j:=(zom zubc).trans (congrArg _ zpxb)
theorem zprb (l:Addr)(j:Int):putF "place" (.int j) (putF "words" (.ref l) [])=wfs l j:=(zom zubc).trans rfl
theorem znd (l:Addr)(k:Int){m:Str}(h1:¬ m = "words")(h2:¬ m = "place"):(wfs l k).lookup m=none:=(zkc h1).trans ((zkc h2).trans rfl)
def WAt (C:Addr)(H:Hp)(p:Addr)(ws:List Str)(k:Nat):Prop:=Ex2 λdx l=>H p=some (.ins C dx (wfs l (k:Int)))∧H l=some (.lst (ws.map V.str))
theorem WAt.at {C:Addr}{H H':Hp}{p:Addr}{ws:List Str}{k:Nat}(h:WAt C H p ws k)(s:Same H H'):WAt C H' p ws k:=by
 obtain⟨dx,l,h1,h2⟩:=h;exact⟨dx,l,s _ _ h1,s _ _ h2⟩
theorem WAt.go {C:Addr}{H:Hp}{p dx l:Addr}{ws:List Str}{k j:Nat}(h1:H p=some (.ins C dx (wfs l (k:Int))))(h2:H l=some (.lst (ws.map V.str))):WAt C (upd H p (.ins C dx (wfs l (j:Int)))) p ws j:=by
 have n:l≠p:=zsp h2 h1 (by intro z;cases z);exact⟨dx,l,zfa,by rw[zxa n];exact h2⟩
theorem But.of_same {p:Addr}{H H1 H2:Hp}(a:But p H H1)(b:Same H1 H2):But p H H2:=a.trans (But.same b)
theorem zjdc {ws:List Str}{k:Nat}{u:Str}(h:ws[k]?=some u):atI (ws.map V.str) (k:Int)=some (.str u):=zna (by rw[yhb,h];rfl)
def WdOk (u:Str):Prop:=u.length≤10000∧∀c∈u.cps.toList,c<256
theorem WdOk.rp {u:Str}(h:WdOk u):(ygl u).length≤1000000:=by
 have:=zkxb h.2;have:=h.1;omega
def ztwb (C:Addr):Sp:=λvs H Q _=>Ex3 λp dx (t:Str)=>vs=[.ref p,.str t]∧H p=some (.ins C dx [])∧t.length≤1000000∧∀H',WAt C H' p (yeb t " ") 0->But p H H'->Q .non H'
def zpwb (C N:Addr):Sp:=λvs H Q E=>Ex3 λp (ws:List Str) (k:Nat)=>vs=[.ref p]∧WAt C H p ws k∧k≤ws.length∧(∀u H',ws[k]?=some u->WAt C H' p ws (k+1)->But p H H'->Q (.str u) H')∧(ws[k]?=none->E (.ref N) none H)
def zrwb (C N:Addr):Sp:=λvs H Q E=>Ex3 λp (ws:List Str) (k:Nat)=>vs=[.ref p]∧WAt C H p ws k∧k≤ws.length∧(∀u∈ws,WdOk u)∧(∀u H',ws[k]?=some u->isName u=true->WAt C H' p ws (k+1)->But p H H'->Q (.str u) H')∧((∀u,ws[k]?=some u->isName u=false)->∀H',But p H H'->E (.ref N) none H')
def zuob (C N:Addr):Sp:=λvs H Q E=>Ex3 λp (ws:List Str) (k:Nat)=>vs=[.ref p]∧WAt C H p ws k∧k≤ws.length∧(∀u∈ws,WdOk u)∧(∀(i:Nat) H',ws[k]?=some (toString (i:Int):Str)->i<1000->WAt C H' p ws (k+1)->But p H H'->Q (.int i) H')∧((∀u,ws[k]?=some u->isNumber u=false)->∀H',But p H H'->E (.ref N) none H')
def zvob (C N:Addr):Sp:=λvs H Q E=>Ex3 λp (ws:List Str) (k:Nat)=>vs=[.ref p]∧WAt C H p ws k∧k≤ws.length∧(k=ws.length->Q .non H)∧(k<ws.length->E (.ref N) none H)
theorem zllb (T:Tx K mg):FnOk P w K mg base CX0 2 T.zlc.f T.zlc.d zsj (ztwb T.zfc):=by
 refine T.zlc.ok zxs ?_;rintro f c A o s H vs Q E hr ⟨p,dx,t,rfl,hp,ht,q⟩ X;refine⟨_,  (zca (zfk (pv 0) (zjf ytb yjh ykh zbw (pv 1) (zaa zja zba)) rfl)
  (zea (zfk (pv 0) zga rfl))),?_⟩
 refine⟨_,rfl,rfl,t,_,rfl,rfl,(by decide +kernel),(yab (yfo ht 2) (by decide)),λl hl=>?_⟩;have npl:p≠l:=zpa hp hl;refine⟨_,rfl,p,_,dx,_,rfl,(by rw[zxa npl];exact hp),T.zjb,T.zle,(by show 0<1000;decide),?_⟩;refine⟨_,rfl,p,_,dx,_,rfl,zfa,T.zjb,T.zrd,(by show 1<1000;decide),?_⟩;refine q _ ⟨dx,l,?_,?_⟩ ?_
 ·rw[zfa,zprb];rfl
 ·rw[zxa npl.symm,zxa npl.symm,zfa]
 ·exact (But.laid hl).trans (But.put.trans But.put)
theorem znh (T:Tx K mg):FnOk P w K mg base (CX1 P w) 2 T.zsc.f T.zsc.d zno (zpwb T.zfc T.e_NoCard.c):=by
 refine T.zsc.okx zpbb ?_;rintro f c A o s H vs Q E hr ⟨p,ws,k,rfl,⟨dx,l,h1,h2⟩,hk,q,qe⟩ X;refine⟨_,  (zca (zvb (zta zzd (zsf (pv 0) rfl) (zma zra rfl T.zxd ykb (zaa (zsf (pv 0) rfl) zba)) (zza _))
   (zea (zse rfl rfl T.e_NoCard.m T.e_NoCard.q zxk zja))
   zya)
  (zca (znpb (pv 0) zga zvcc)
  (zea (zwa (zmb zrb (zsf (pv 0) rfl) (zub zux (zsf (pv 0) rfl) zga) (λ_ _=>rfl)))))),?_⟩
 have n:l≠p:=zsp h2 h1 (by intro z;cases z);refine⟨_,rfl,p,_,dx,_,_,rfl,h1,T.zjb,T.zrd,zar _ _,_,rfl,p,_,dx,_,_,rfl,h1,T.zjb,T.zle,zlw _ _,l,_,rfl,.inl (SqL.of h2),rfl,_,rfl,?_⟩;refine ite2 (λc=>?_) (λc=>?_)
 ·have c':=of_decide_eq_true c;injection c' with c'
  rw[yaa] at c';exact qe (yfg (by omega))
 ·have c2:=λz=>c (decide_eq_true z);have hk2:k<ws.length:=by
   rcases yjq k ws.length with z|z
   ·exact z
   ·exfalso;apply c2;rw[yaa,show k=ws.length by omega]
  have hu:=yqa hk2;refine⟨_,rfl,p,_,dx,_,_,rfl,h1,T.zjb,T.zrd,zar _ _,_,_,rfl,rfl,dx,_,h1,(by show 2<1000;decide),?_⟩;rw[zbwb];refine⟨_,rfl,p,_,dx,_,_,rfl,zfa,T.zjb,T.zle,zlw _ _,_,rfl,p,_,dx,_,_,rfl,zfa,T.zjb,T.zrd,zar _ _,_,_,rfl,rfl,l,_,_,_,rfl,rfl,SqL.of (by rw[zxa n];exact h2),(by rw[Int.add_sub_cancel];exact zjdc hu),?_⟩;exact q _ _ hu (WAt.go (j:=k+1) h1 h2) But.put
theorem zvn (T:Tx K mg):FnOk P w K mg base (CX1 P w) 2 T.zcd.f T.zcd.d zvl (zvob T.zfc T.e_NoCard.c):=by
 refine T.zcd.okx zsw ?_;rintro f c A o s H vs Q E hr ⟨p,ws,k,rfl,⟨dx,l,h1,h2⟩,hk,q,qe⟩ X;refine⟨_,  (zea (zvb (zta zpbc (zsf (pv 0) rfl) (zma zra rfl T.zxd ykb (zaa (zsf (pv 0) rfl) zba)) (zza _))
   (zea (zse rfl rfl T.e_NoCard.m T.e_NoCard.q zxk zja))
   zya)),?_⟩
 refine⟨_,rfl,p,_,dx,_,_,rfl,h1,T.zjb,T.zrd,zar _ _,_,rfl,p,_,dx,_,_,rfl,h1,T.zjb,T.zle,zlw _ _,l,_,rfl,.inl (SqL.of h2),_,_,rfl,rfl,_,rfl,?_⟩;refine ite2 (λc=>?_) (λc=>?_)
 ·have c':=of_decide_eq_true c;rw[yaa] at c';exact qe (by omega)
 ·have c2:¬ ((k:Int)<(((ws.map V.str).length:Nat):Int)):=λz=>c (decide_eq_true z);rw[yaa] at c2;exact q (by omega)
theorem zte (T:Tx K mg):FnOk P w K mg base (CX1 P w) 3 T.zsb.f T.zsb.d zli (zrwb T.zfc T.e_NoCard.c):=by
 refine T.zsb.okx zuk ?_;rintro f c A o s H vs Q E hr ⟨p,ws,k,rfl,W,hk,ok,q,qe⟩ X;refine⟨_,  (zca (zqa (i:=1) zuk.nd rfl (.inl rfl) (zic (pv 0) T.zjb T.zsc.M (znh T) hr (zij T) .nil zjd))
  (zca (zvb (zwj (zif (zia (zsab T) hr rfl T.zbh.m T.zbh.F.kp (zvgb T) .nil zdb (zaa (pv 1) zba))))
   (zea (zse rfl rfl T.e_NoCard.m T.e_NoCard.q zxk (zzmb (pv 1) zja)))
   zya)
  (zea (zwa (pv 1))))),?_⟩
 obtain⟨dx,l,h1,h2⟩:=id W;refine⟨_,rfl,p,dx,_,rfl,h1,znd _ _ (by decide +kernel) (by decide +kernel),p,ws,k,rfl,W,hk,λu H1 hu W1 B1=>?_,λz=>qe (λu y=>by rw[z] at y;cases y) _ (But.refl p H)⟩;have hw:=ok u (ywa hu);refine⟨_,rfl,u,rfl,hw.1,λH2 S2=>?_⟩;cases e:isName u with
 | true =>
  refine⟨_,rfl,iteF ?_⟩;exact⟨_,rfl,q u H2 hu e (W1.at S2) (B1.of_same S2)⟩
 | false =>
  refine⟨_,rfl,iteT ?_⟩;exact⟨_,rfl,u,rfl,hw.rp,_,rfl,(by decide +kernel),qe (λu' y=>by rw[hu] at y;cases y;exact e) H2 (B1.of_same S2)⟩
theorem zac (T:Tx K mg)(hn:∀u:Str,isNumber u=true->∃i:Nat,i<1000∧u=(toString (i:Int):Str)):FnOk P w K mg base (CX1 P w) 3 T.zbb.f T.zbb.d zvg (zuob T.zfc T.e_NoCard.c):=by
 refine T.zbb.okx zvj ?_;rintro f c A o s H vs Q E hr ⟨p,ws,k,rfl,W,hk,ok,q,qe⟩ X;refine⟨_,  (zca (zqa (i:=1) zvj.nd rfl (.inl rfl) (zic (pv 0) T.zjb T.zsc.M (znh T) hr (zij T) .nil zjd))
  (zca (zvb (zwj (zif (zia (zkfb T) hr rfl T.zfg.m T.zfg.F.kp (zjjb T) .nil zdb (zaa (pv 1) zba))))
   (zea (zse rfl rfl T.e_NoCard.m T.e_NoCard.q zxk (zzmb (pv 1) zja)))
   zya)
  (zea (zwa (zlb zedb rfl T.zdbb yhp (zaa (pv 1) zba)))))),?_⟩
 obtain⟨dx,l,h1,h2⟩:=id W;refine⟨_,rfl,p,dx,_,rfl,h1,znd _ _ (by decide +kernel) (by decide +kernel),p,ws,k,rfl,W,hk,λu H1 hu W1 B1=>?_,λz=>qe (λu y=>by rw[z] at y;cases y) _ (But.refl p H)⟩;have hw:=ok u (ywa hu);refine⟨_,rfl,u,rfl,hw.1,λH2 S2=>?_⟩;cases e:isNumber u with
 | true =>
  obtain⟨i,hi,rfl⟩:=hn u e;have hl:=zpm i hi;refine⟨_,rfl,iteF ?_⟩;exact⟨_,rfl,_,_,rfl,ziib i hi,(by omega),q i H2 hu hi (W1.at S2) (B1.of_same S2)⟩
 | false =>
  refine⟨_,rfl,iteT ?_⟩;exact⟨_,rfl,u,rfl,hw.rp,_,rfl,(by decide +kernel),qe (λu' y=>by rw[hu] at y;cases y;exact e) H2 (B1.of_same S2)⟩
def valV:Wv->V
 | .non=>.non
 | .name n=>.str n
 | .num i=>.int i
def hfs (w:Str)(v:V)(t:Addr):List (Str×V):=[("word",.str w),("value",v),("parts",.ref t)]
theorem zgec:¬ (("value":Str) = "word"):=by decide +kernel
theorem zsbc:¬ (("word":Str) = "value"):=by decide +kernel
theorem zwbc:¬ (("parts":Str) = "word"):=by decide +kernel
theorem ztbc:¬ (("word":Str) = "parts"):=by decide +kernel
theorem zxbc:¬ (("parts":Str) = "value"):=by decide +kernel
theorem zvbc:¬ (("value":Str) = "parts"):=by decide +kernel
theorem zwtb (w:Str)(v:V)(t:Addr):(hfs w v t).lookup ("word":Str)=some (.str w):=zpi
theorem zagb (w:Str)(v:V)(t:Addr):(hfs w v t).lookup ("value":Str)=some v:=(zkc zgec).trans zpi
theorem zkqb (w:Str)(v:V)(t:Addr):(hfs w v t).lookup ("parts":Str)=some (.ref t):=(zkc zwbc).trans ((zkc zxbc).trans zpi)
theorem zxtb (w:Str)(v:V)(t:Addr):putF "parts" (.ref t) (putF "value" v (putF "word" (.str w) []))=hfs w v t:=by
 rw[zbt,zom zsbc,zbt,zom ztbc,zom zvbc,zbt];rfl
theorem zwab (w:Str)(v:V)(t:Addr){m:Str}(h1:¬ m = "word")(h2:¬ m = "value")(h3:¬ m = "parts"):(hfs w v t).lookup m=none:=(zkc h1).trans ((zkc h2).trans ((zkc h3).trans rfl))
theorem zsyb {C D dx dy t l:Addr}{w:Str}{v:V}{k:Int}:HO.ins D dx (hfs w v t)≠HO.ins C dy (wfs l k):=by
 intro z;injection z with _ _ z
 exact absurd (congrArg ynf z) (by show ¬ (3=2);decide)
mutual
inductive IsW (D:Addr)(H:Hp):V->Wh->Prop where
 | mk {a dx t:Addr} {vs:List V} {w:Wh} (h1:H a=some (.ins D dx (hfs w.word (valV w.val) t))) (h2:H t=some (.tup vs)) (h3:IsWs D H vs w.parts):IsW D H (.ref a) w
inductive IsWs (D:Addr)(H:Hp):List V->List Wh->Prop where
 | nil:IsWs D H [] []
 | cons {v:V} {w:Wh} {vs:List V} {ws:List Wh}:IsW D H v w->IsWs D H vs ws->IsWs D H (v::vs) (w::ws)
end
mutual
theorem IsW.same {D:Addr}{H H':Hp}(s:Same H H'):∀{v:V} {w:Wh},IsW D H v w->IsW D H' v w
 | _,_,.mk h1 h2 h3=>.mk (s _ _ h1) (s _ _ h2) (h3.same s)
theorem IsWs.same {D:Addr}{H H':Hp}(s:Same H H'):∀{vs:List V} {ws:List Wh},IsWs D H vs ws->IsWs D H' vs ws
 | _,_,.nil=>.nil
 | _,_,.cons h t=>.cons (h.same s) (t.same s)
end
mutual
theorem IsW.but {D C p dy l:Addr}{k:Int}{H H':Hp}(b:But p H H')(hp:H p=some (.ins C dy (wfs l k))):∀{v:V} {w:Wh},IsW D H v w->IsW D H' v w
 | _,_,.mk h1 h2 h3=>.mk (b _ _ (zsp h1 hp zsyb) h1) (b _ _ (zsp h2 hp (by intro z;cases z)) h2) (h3.but b hp)
theorem IsWs.but {D C p dy l:Addr}{k:Int}{H H':Hp}(b:But p H H')(hp:H p=some (.ins C dy (wfs l k))):∀{vs:List V} {ws:List Wh},IsWs D H vs ws->IsWs D H' vs ws
 | _,_,.nil=>.nil
 | _,_,.cons h t=>.cons (h.but b hp) (t.but b hp)
end
theorem IsWs.length {D:Addr}{H:Hp}:∀{vs:List V} {ws:List Wh},IsWs D H vs ws->vs.length=ws.length
 | _,_,.nil=>rfl
 | _,_,.cons _ t=>by rw[yga,yga,t.length]
theorem IsWs.split {D:Addr}{H:Hp}:∀{xs:List Wh} {vs:List V} {ys:List Wh},IsWs D H vs (xs++ys)->IsWs D H (vs.take xs.length) xs∧IsWs D H (vs.drop xs.length) ys
 | [],vs,ys,h=>⟨by rw[yre,List.take_zero];exact .nil,by rw[yre,yxd];exact h⟩
 | x::xs,_,ys,.cons h t=>by
  obtain⟨a,b⟩:=IsWs.split (xs:=xs) t;exact⟨.cons h a,b⟩
theorem IsWs.get {D:Addr}{H:Hp}:∀{vs:List V} {ws:List Wh} {i:Nat} {v:V},IsWs D H vs ws->vs[i]?=some v->∃w,ws[i]?=some w∧IsW D H v w
 | _,_,_,_,.nil,e=>by simp at e
 | _,_,0,_,.cons h t,e=>by
  rw[ybh] at e;cases e;exact⟨_,rfl,h⟩
 | _,_,i+1,_,.cons h t,e=>by
  rw[ysc] at e;obtain⟨w,h1,h2⟩:=t.get e;exact⟨w,by rw[ysc];exact h1,h2⟩
theorem zdgb (xs:List V)(n:Nat):cutV xs none (some (n:Int))=xs.take n:=by
 unfold cutV;rw[HT.zalb,HT.zzhb,yxd,ywn]
 by_cases h:n≤xs.length
 ·rw[Nat.min_eq_left h]
 ·rw[Nat.min_eq_right (by omega),yya (yja _),yya (by omega)]
theorem zqs (xs:List V)(n:Nat):cutV xs (some (n:Int)) none=xs.drop n:=by
 unfold cutV;rw[HT.zalb,HT.zzhb]
 by_cases h:n≤xs.length
 ·rw[Nat.min_eq_left h,yya (by rw[yie];exact yja _)]
 ·rw[Nat.min_eq_right (by omega),yoi,List.take_zero,List.drop_eq_nil_of_le (by omega)]
theorem zkab (w:Wh):∀p∈w.parts,p.size<w.size:=by
 cases w<;>simp[Wh.parts,Wh.size]<;>omega
theorem zubb (w:Wh):w.parts.length≤2:=by
 cases w<;>simp[Wh.parts]
theorem ztub (w:Wh):w.val.words.length≤1:=by
 cases w<;>simp[Wh.val,Wv.words]
theorem zml {w:Wh}(h:w.ok)(hs:w.size≤9):(yfa " " w.words).length≤200:=by
 have a:=zbl " " w.words;have b:=w.zvdb;have c:=zyl (l:=w.words.map (·.length)) (k:=8) (λx hx=>by
  obtain⟨u,hu,rfl⟩:=ysb.mp hx;exact (Wh.zrkb h u hu).2.2)
 rw[yaa] at c;have e:(" ":Str).length=1:=rfl;rw[e] at a;omega
theorem zvzb {w:Wh}(h:w.ok):∀u∈w.val.words,zjz u:=by
 intro u hu;refine Wh.zrkb h u ?_;rw[w.zyv];exact yla _ (ywc _ hu)
theorem znob {w:Wh}(h:w.ok)(hs:w.size≤9):((w.word::(w.val.words++w.parts.map λp=>yfa " " p.words)).map (·.length)).sum+(w.word::(w.val.words++w.parts.map λp=>yfa " " p.words)).length*(" ":Str).length≤16777216:=by
 have c:=zyl (l:=(w.word::(w.val.words++w.parts.map λp=>yfa " " p.words)).map (·.length)) (k:=200) (λx hx=>by
  obtain⟨u,hu,rfl⟩:=ysb.mp hx
  rcases yia.mp hu with e|e
  ·rw[e];have:=(w.zll).2.2;omega
  ·rcases yua.mp e with e|e
   ·have:=(zvzb h u e).2.2;omega
   ·obtain⟨p,hp,rfl⟩:=ysb.mp e;exact zml (Wh.zacb h p hp) (by have:=zkab w p hp;omega))
 have n1:=zubb w;have n2:=ztub w;have e:(" ":Str).length=1:=rfl;rw[e];rw[yaa] at c;have l:(w.word::(w.val.words++w.parts.map λp=>yfa " " p.words)).length=1+(w.val.words.length+w.parts.length):=by
  rw[yga,yha,yaa];omega
 rw[l] at c ⊢;omega
theorem zkk:∀i:Nat,i<1000->i.log2<1920:=by decide +kernel
theorem zjlb (w:Wh):ylg w.word zph=some (.flat (.int (w.parts.length:Nat))):=by
 cases w<;>rfl
def zmac (D:Addr):Sp:=λvs H Q _=>Ex5 λx dx t (u:Str) v=>vs=[.ref x,.str u,v,.ref t]∧H x=some (.ins D dx [])∧Q .non (upd H x (.ins D dx (hfs u v t)))
def zfeb (D:Addr)(n:Nat):Sp:=λvs H Q _=>Ex2 λv (w:Wh)=>vs=[v]∧IsW D H v w∧w.ok∧w.depth≤n∧w.size≤9∧∀H',Same H H'->Q (.str (yfa " " w.words)) H'
theorem zcyb (T:Tx K mg):FnOk P w K mg base CX0 2 T.zfd.f T.zfd.d zmk (zmac T.zyb):=by
 refine T.zfd.ok zpv ?_;rintro f c A o s H vs Q E hr ⟨x,dx,t,u,v,rfl,hx,q⟩ X;refine⟨_,  (zca (zfk (pv 0) (pv 1) rfl)
  (zca (zfk (pv 0) (pv 2) rfl)
  (zea (zfk (pv 0) (pv 3) rfl)))),?_⟩
 refine⟨_,rfl,_,rfl,x,_,dx,_,rfl,hx,T.zrg,T.zjk,(by show 0<1000;decide),?_⟩;refine⟨_,rfl,_,rfl,x,_,dx,_,rfl,zfa,T.zrg,T.zxg,(by show 1<1000;decide),?_⟩;refine⟨_,rfl,_,rfl,x,_,dx,_,rfl,zfa,T.zrg,T.zbj,(by rw[zbt,zom zsbc,zbt];show 2<1000;decide),?_⟩;show Q .non _
 rw[zlm,zlm,zxtb];exact q
theorem zmob (T:Tx K mg){n:Nat}(zpkb:FnOk P w K mg base CX0 (n+2) T.ztb.f T.ztb.d zmi (zfeb T.zyb n)):FnOk P w K mg base CX0 (n+3) T.ztb.f T.ztb.d zmi (zfeb T.zyb (n+1)):=by
 refine T.ztb.ok zgu ?_;rintro f c A o s H vs Q E hr ⟨v,y,rfl,W,ok,hd,hs,q⟩ X;refine⟨_,  (zca (zqa (i:=1) zgu.nd rfl (.inl rfl) (zob (zaa (zsf (pv 0) rfl) zba)))
  (zca (zvb (zta zrpb (zsf (pv 0) rfl) zyk (zza _))
   (zea (zvc (zjf ypb ydc yec zae (pv 1) (zaa (zlb zmf rfl T.zvo ydi (zaa (zsf (pv 0) rfl) zba)) zba))))
   zya)
  (zca (zvc (zjf ypb ypi yqi zby (pv 1) (zaa (zxc (own:=["part"]) (cap:=[]) rfl (zeb.chk rfl rfl) .nil (zveb (zsf (pv 0) rfl)) (λ_ _ _ _=>(zfb (i:=0) (show ync (["part"]:List Str) by decide +kernel) rfl (.inl rfl))) (λ_ _ _ _=>zuc) (λ_ _ _ _=>by exact (zic (pv 0) T.zrg T.ztb.M zpkb hr (zei T) .nil zdb))) zba)))
  (zea (zwa (zjf ytb ygc yhc zqj zja (zaa (pv 1) zba))))))),?_⟩
 cases W with
 | @mk a dx t ps _ h1 h2 h3 =>
 refine⟨_,rfl,a,_,dx,_,_,rfl,h1,T.zrg,T.zjk,zwtb _ _ _,sz1,λl hl=>?_⟩;have nal:a≠l:=zpa h1 hl;have ntl:t≠l:=zpa h2 hl;refine⟨_,rfl,a,_,dx,_,_,rfl,(by rw[zxa nal];exact h1),T.zrg,T.zxg,zagb _ _ _,rfl,_,rfl,?_⟩;have S1:Same H (upd H l (.lst [.str y.word])):=zoa hl _;refine ite2 (λc=>?g1) (λc=>?g2)
 case' g1 =>
  have nv:valV y.val ≠ .non:=by simpa using c
  have ev:∃u,y.val.words=[u]∧((valV y.val = .str u)∨∃i:Nat,i<1000∧valV y.val = .int i∧u=(toString (i:Int):Str)):=by
   cases y with
   | mark m=>exact⟨m,rfl,.inl rfl⟩
   | force i=>exact⟨_,rfl,.inr ⟨i,ok,rfl,rfl⟩⟩
   | _=>exact absurd rfl nv
  obtain⟨u,eu,hv⟩:=ev;have rd:∀H0 (Q':VK),Q' (.str u) H0->rStrAny [valV y.val] H0 Q':=by
   intro H0 Q' z;unfold rStrAny
   rcases hv with e|⟨i,hi,e,rfl⟩
   ·exact .inl ⟨u,by rw[e],z⟩
   ·exact .inr ⟨i,by rw[e],(by rw[yve];exact zkk i hi),z⟩
  refine⟨_,rfl,.inl ⟨rfl,_,SqL.of zfa⟩,_,rfl,a,_,dx,_,valV y.val,rfl,(by rw[zxa nal];exact h1),T.zrg,T.zxg,zagb _ _ _,?_⟩;show rStrAny [valV y.val] _ _
  refine rd _ _ ?_;refine⟨l,_,_,rfl,rfl,zfa,(by show 1<yxa;decide),?_⟩;rw[zlm];have e2:upd H l (.lst ([.str y.word]++[.str u])) l=some (.lst ((y.word::y.val.words).map V.str)):=by rw[zfa,eu];rfl
  have S2:Same H (upd H l (.lst ([.str y.word]++[.str u]))):=zoa hl _;generalize upd H l (.lst ([.str y.word]++[.str u]))=H2 at *
 case' g2 =>
  have nv:valV y.val = .non:=by simpa using c
  have eu:y.val.words=[]:=by
   cases y with
   | mark m=>exact absurd nv (by intro z;cases z)
   | force i=>exact absurd nv (by intro z;cases z)
   | _=>rfl
  have e2:upd H l (.lst [.str y.word]) l=some (.lst ((y.word::y.val.words).map V.str)):=by rw[zfa,eu];rfl
  have S2:=S1;clear S1;generalize upd H l (.lst [.str y.word])=H2 at *
 all_goals
  refine⟨_,rfl,.inl ⟨rfl,_,SqL.of e2⟩,_,rfl,a,_,dx,_,_,rfl,S2 _ _ h1,T.zrg,T.zbj,zkqb _ _ _,t,rfl,⟨_,SqT.of (S2 _ _ h2)⟩,?_⟩;refine zjw (xs:=ps) (λi ys H'=>Same H2 H'∧i≤ps.length∧ys=(y.parts.take i).map λp=>V.str (yfa " " p.words)) (λi ys H' z=>SqT.of (z.1 _ _ (S2 _ _ h2))) ⟨Same.refl _,yrb _,rfl⟩ ?_ ?_ ?_
  ·rintro i ys H' ⟨_,_,rfl⟩;rw[yaa,yza];have:=zubb y;exact small (by omega)
  ·rintro i x ys H' hx ⟨S3,hi,rfl⟩;obtain⟨p,hp,hw⟩:=h3.get hx;have hm:p∈y.parts:=ywa hp;have hw':=hw.same (S2.trans S3);cases hw' with
   | @mk a' dx' t' ps' _ k1 k2 k3 =>
   refine⟨rfl,_,rfl,a',dx',_,rfl,k1,zwab _ _ _ (by decide +kernel) (by decide +kernel) (by decide +kernel),.ref a',p,rfl,.mk k1 k2 k3,Wh.zacb ok p hm,?_,?_,λH4 S4=>⟨S3.trans S4,?_,?_⟩⟩
   ·have:=y.zuib p hm;omega
   ·have:=zkab y p hm;omega
   ·exact (yma.mp hx).1
   ·rw[yob,hp,yva];rfl
  ·rintro ys H' ⟨S3,_,rfl⟩ b hb;have e3:=S3 _ _ e2;have nlb:l≠b:=zpa e3 hb;have hlen:=h3.length;have hpl:=zubb y;have hvl:=ztub y;rw[yya (by omega)];refine⟨l,b,_,_,rfl,rfl,(by rw[zxa nlb];exact e3),zfa,?_,?_⟩
   ·rw[yaa,yaa,yga];exact small (by omega)
   ·refine⟨rfl,_,rfl," ",l,(y.word::(y.val.words++y.parts.map λp=>yfa " " p.words)),rfl,rfl,SqL.of ?_,znob ok hs,?_⟩
    ·rw[zfa];simp[Function.comp_def]
    ·have S4:Same H' (upd H' b (.lst (y.parts.map λp=>V.str (yfa " " p.words)))):=zoa hb _;rw[zfwb];refine q _ λc o e=>?_;have ncl:c≠l:=zpa e hl;rw[zxa ncl];exact S4 _ _ (S3 _ _ (S2 _ _ e))
theorem zoob (T:Tx K mg):FnOk P w K mg base CX0 2 T.ztb.f T.ztb.d zmi (zfeb T.zyb 0):=by
 have no:∀vs H Q E,¬ zfeb T.zyb 0 vs H Q E:=λvs H Q E h=>by
  obtain⟨v,y,_,_,_,hd,_⟩:=h;have:1≤y.depth:=by cases y<;>simp[Wh.depth]
  omega
 exact⟨λvs H Q E h=>absurd h (no vs H Q E),λA outer s H args us vs Q E _ _ _ _ h=>absurd h (no vs H Q E)⟩
theorem zpo (T:Tx K mg):∀n:Nat,FnOk P w K mg base CX0 (n+2) T.ztb.f T.ztb.d zmi (zfeb T.zyb n)
 | 0=>zoob T
 | n+1=>zmob T (zpo T n)
def TkAt (H:Hp)(l:Addr)(fl:List (Str×Wv)):Prop:=∃as:List Addr,H l=some (.lst (as.map V.ref))∧as.length=fl.length∧∀(i:Nat) a (x:Str×Wv),as[i]?=some a->fl[i]?=some x->H a=some (.tup [.str x.1,valV x.2])
theorem TkAt.same {H H':Hp}{l:Addr}{fl:List (Str×Wv)}(h:TkAt H l fl)(s:Same H H'):TkAt H' l fl:=by
 obtain⟨as,h1,h2,h3⟩:=h;exact⟨as,s _ _ h1,h2,λi a x e1 e2=>s _ _ (h3 i a x e1 e2)⟩
theorem TkAt.but {H H':Hp}{l p C dy wl:Addr}{k:Int}{fl:List (Str×Wv)}(h:TkAt H l fl)(b:But p H H')(hp:H p=some (.ins C dy (wfs wl k))):TkAt H' l fl:=by
 obtain⟨as,h1,h2,h3⟩:=h;exact⟨as,b _ _ (zsp h1 hp (by intro z;cases z)) h1,h2,λi a x e1 e2=>b _ _ (zsp (h3 i a x e1 e2) hp (by intro z;cases z)) (h3 i a x e1 e2)⟩
theorem TkAt.snoc {H:Hp}{l a:Addr}{fl:List (Str×Wv)}{x:Str×Wv}(h:TkAt H l fl)(ha:H a=some (.tup [.str x.1,valV x.2])){as:List Addr}(hl:H l=some (.lst (as.map V.ref))):TkAt (upd H l (.lst (as.map V.ref++[.ref a]))) l (fl++[x]):=by
 obtain⟨as',h1,h2,h3⟩:=h;have e:as'=as:=by
  rw[h1] at hl;injection hl with hl
  injection hl with hl
  exact yhl (λx y z=>by injection z) |>.mp hl
 subst e;refine⟨as'++[a],?_,?_,λi b y e1 e2=>?_⟩
 ·rw[zfa,yva];rfl
 ·rw[yha,yha,h2];rfl
 ·by_cases hi:i<as'.length
  ·rw[yrc hi] at e1;rw[yrc (by omega)] at e2;have z:=h3 i b y e1 e2;rw[zxa (zsp z h1 (by intro z;cases z))];exact z
  ·have hi2:i<(as'++[a]).length:=(yma.mp e1).1;rw[yha,ybg] at hi2;have ei:i=as'.length:=(by omega);rw[yzb (by omega),ei,yoi] at e1;rw[yzb (by omega),ei,h2,yoi] at e2;cases e1;cases e2;rw[zxa (zsp ha h1 (by intro z;cases z))];exact ha
def zdxb (D:Addr):Sp:=λvs H Q _=>Ex2 λl (y:Wh)=>vs=[.ref l]∧TkAt H l y.flat∧y.size≤9∧∀v H',Same H H'->IsW D H' v y->Q v H'
theorem zad {ws rest:List Str}{k:Nat}{u:Str}(h:ws.drop k=u::rest):ws[k]?=some u∧ws.drop (k+1)=rest:=by
 constructor
 ·have e:(ws.drop k)[0]?=some u:=by rw[h];rfl
  rw[ycg] at e
  simpa using e
 ·rw[← ynj,h];rfl
theorem zctb (T:Tx K mg)(kb:K.In base):FnOk P w K mg base CX0 4 T.zkp.f T.zkp.d zsjb (zdxb T.zyb):=by
 refine T.zkp.ok zqo ?_;rintro f c A o s H vs Q E hr ⟨l,y,rfl,⟨as,h1,h2,h3⟩,hs,q⟩ X;refine⟨_,  (zca (zqa (i:=1) zqo.nd rfl (.inl rfl) (zob zba))
  (zca (zur yqf rfl (zdib rfl T.zoo (zaa (pv 0) zba)) (zweb (n:=2) rfl (zqf (zfb (i:=2) zqo.nd rfl (.inl rfl)) (zqf (zfb (i:=3) zqo.nd rfl (.inl rfl)) zet)))
   (zca (zqa (i:=4) zqo.nd rfl (.inl rfl) (zmb (zovb (zpw T kb)) (zqc (v:=.ref T.zaq) rfl T.zit rfl) (pv 2) (λ_ _=>rfl)))
   (zea (zqa (i:=1) zqo.nd rfl (.inl rfl) (zub zbn (zob (zaa (ztx T.zfd.M (zcyb T) hr rfl T.zxpb (zcz T) .nil zdb (zaa (pv 2) (zaa (pv 3) (zaa (zlb zdc rfl T.zde yme (zaa (zni zxhb (pv 1) zpl (zol (pv 4))) zba)) zba)))) zba)) (zni zxhb (pv 1) (zol (pv 4)) zpl))))))
  (zea (zwa (zmb zrb (pv 1) zga (λ_ _=>rfl)))))),?_⟩
 refine⟨sz0,λw0 hw0=>?_⟩;have S0:Same H (upd H w0 (.lst [])):=zoa hw0 _;have fl:=y.ztcb;have len:(as.map V.ref).length=y.size:=by rw[yaa,h2,fl]
 refine⟨_,rfl,l,as.map V.ref,rfl,SqL.of (S0 _ _ h1),?_⟩;refine zwyb (xs:=as.map V.ref) (λi σ H'=>Ex5 λwl vs o2 o3 o4=>σ=[some (.ref l),some (.ref wl),o2,o3,o4]∧Same H H'∧H' wl=some (.lst vs)∧IsWs T.zyb H' vs (pend y (y.size-i))) ⟨w0,[],_,_,_,rfl,S0,zfa,by rw[ywn,zbtb];exact .nil⟩ (λi σ H' _ ⟨_,_,_,_,_,_,S',_⟩=>SqL.of (S' _ _ h1)) ?_ ?_
 ·rintro i x σ H' hi hx ⟨wl,vs,o2,o3,o4,rfl,S1,e1,W1⟩;rw[len] at hi hx;have hj:y.size-1-i<y.size:=by omega
  obtain⟨z,t,ez⟩:=zwxb hj;have ef:=zxxb ez;rw[yhb] at hx;cases ea:as[y.size-1-i]? with
  | none =>
   rw[ea] at hx;cases hx
  | some a =>
  rw[ea] at hx;cases hx;have ha:=S1 _ _ (h3 _ _ _ ea ef);have ep:pend y (y.size-i)=z.parts++t:=by
   rw[show y.size-i=(y.size-1-i)+1 by omega];show step (pend y (y.size-1-i))=_
   rw[ez];rfl
  rw[ep] at W1;obtain⟨Wp,Wt⟩:=W1.split;have vl:=W1.length;rw[yha] at vl;have szp:=zqx y (y.size-i);have lez:(z.parts++t).length≤zzl (z.parts++t):=by
   have go:∀l:List Wh,l.length≤zzl l:=by
    intro l
    induction l with
    | nil=>exact yrb _
    | cons x r ih =>
     have e2:zzl (x::r)=x.size+zzl r:=(by simp[zzl]);have:=x.size_pos;rw[e2,yga];omega
   exact go _
  rw[ep] at szp;rw[yha] at lez;refine⟨a,_,rfl,SqT.of ha,rfl,_,_,rfl,_,_,rfl,rfl,?_⟩;refine⟨_,rfl,_,_,rfl,rfl,zjlb z,?_⟩;refine⟨_,rfl,_,rfl,_,rfl,_,rfl,_,rfl,wl,vs,rfl,SqL.of e1,λs1 hs1=>?_⟩;have S2:=zoa hs1 (.lst (cutV vs none (some ((z.parts.length:Nat):Int))));refine⟨s1,_,rfl,.inl ⟨SqL.of zfa,λtp htp=>?_⟩⟩;have S3:=zoa htp (.tup (cutV vs none (some ((z.parts.length:Nat):Int))));intro x dx nx ndx nex;refine⟨x,dx,tp,z.word,valV z.val,rfl,zfa,rfl,?_⟩;rw[zlm];have etp:=zpa (b:=x) (zfa (H:=upd H' s1 (.lst (cutV vs none (some ((z.parts.length:Nat):Int))))) (a:=tp) (o:=.tup (cutV vs none (some ((z.parts.length:Nat):Int))))) nx;have etd:=zpa (b:=dx) (zfa (H:=upd H' s1 (.lst (cutV vs none (some ((z.parts.length:Nat):Int))))) (a:=tp) (o:=.tup (cutV vs none (some ((z.parts.length:Nat):Int))))) ndx;generalize hH3:upd (upd H' s1 (.lst (cutV vs none (some ((z.parts.length:Nat):Int))))) tp (.tup (cutV vs none (some ((z.parts.length:Nat):Int))))=H3 at *;have e3:H3 tp=some (.tup (vs.take z.parts.length)):=by rw[← hH3,zfa,zdgb]
  have S4:Same H3 (upd (upd H3 dx (.own x)) x (.ins T.zyb dx (hfs z.word (valV z.val) tp))):=λb o e=>by
   rw[zxa (zpa e nx),zxa (zpa e ndx)];exact e
  have e4:upd (upd H3 dx (.own x)) x (.ins T.zyb dx (hfs z.word (valV z.val) tp)) x=some (.ins T.zyb dx (hfs z.word (valV z.val) tp)):=zfa;generalize upd (upd H3 dx (.own x)) x (.ins T.zyb dx (hfs z.word (valV z.val) tp))=H4 at *;have S14:Same H' H4:=S2.trans (S3.trans S4);refine⟨sz1,λq1 hq1=>?_⟩;have S5:=zoa hq1 (.lst [.ref x]);refine⟨_,rfl,_,rfl,_,rfl,wl,vs,rfl,SqL.of (S5 _ _ (S14 _ _ e1)),λs2 hs2=>?_⟩;have e5:upd H4 q1 (.lst [.ref x]) q1=some (.lst [.ref x]):=zfa;generalize upd H4 q1 (.lst [.ref x])=H5 at *;have S6:=zoa hs2 (.lst (cutV vs (some ((z.parts.length:Nat):Int)) none));have e6:upd H5 s2 (.lst (cutV vs (some ((z.parts.length:Nat):Int)) none)) s2=some (.lst (vs.drop z.parts.length)):=by rw[zfa,zqs]
  generalize upd H5 s2 (.lst (cutV vs (some ((z.parts.length:Nat):Int)) none))=H6 at *;refine⟨q1,s2,_,_,rfl,rfl,S6 _ _ e5,e6,?_,λr hr'=>?_⟩
  ·rw[yie,ybg];exact small (by omega)
  have S7:=zoa hr' (.lst ([.ref x]++vs.drop z.parts.length));have S37:Same H3 (upd H6 r (.lst ([.ref x]++vs.drop z.parts.length))):=S4.trans (S5.trans (S6.trans S7));have S17:Same H' (upd H6 r (.lst ([.ref x]++vs.drop z.parts.length))):=S14.trans (S5.trans (S6.trans S7));refine⟨r,_,_,_,_,rfl,S1.trans S17,zfa,?_⟩;rw[show y.size-(i+1)=y.size-1-i by omega,ez];exact .cons (.mk ((S5.trans (S6.trans S7)) _ _ e4) (S37 _ _ e3) (Wp.same S17)) (Wt.same S17)
 ·rintro σ H' ⟨wl,vs,o2,o3,o4,rfl,S1,e1,W1⟩;rw[len,yoi] at W1;have W1':IsWs T.zyb H' vs [y]:=W1;cases W1' with
  | cons hv ht =>
  cases ht;exact⟨_,rfl,wl,_,_,_,rfl,rfl,SqL.of e1,rfl,q _ H' S1 hv⟩
theorem zpyb {c:Nat}{u:Str}:inS c u=true↔c∈u.cps.toList:=by
 unfold inS;rw[StrLaws.found_one,decide_eq_true_eq]
theorem zpdc:∀c∈LL.cps.toList,97≤c∧c≤122:=by decide +kernel
theorem zqdc:∀c∈FF.cps.toList,48≤c∧c<58:=by decide +kernel
theorem zahb {t u:Str}(h:allIn t u=true):∀c∈t.cps.toList,c∈u.cps.toList:=by
 unfold allIn at h;rw[ymd] at h;intro c hc;exact zpyb.mp (h _ (yrk hc))
theorem zzkb {t:Str}{n:Int}(h:short t n=true):1≤t.length∧(t.length:Int)≤n:=by
 unfold short at h;rw[yjc,decide_eq_true_eq,decide_eq_true_eq] at h;omega
theorem zly {u:Str}(h:isName u=true):zkd u:=by
 unfold isName at h;rw[yjc] at h;obtain⟨h1,h2⟩:=h;have z:=zzkb h1;exact⟨z.1,by omega,λc hc=>zpdc c (zahb h2 c hc)⟩
theorem num1:∀x:Nat,x<10->(⟨#[48+x]⟩:Str)=(toString ((x:Nat):Int):Str):=by decide +kernel
theorem num2:∀x:Nat,x<10->∀y:Nat,y<10->x≠0->(⟨#[48+x,48+y]⟩:Str)=(toString ((10*x+y:Nat):Int):Str):=by decide +kernel
theorem num3:∀x:Nat,x<10->∀y:Nat,y<10->∀z:Nat,z<10->x≠0->(⟨#[48+x,48+y,48+z]⟩:Str)=(toString ((100*x+10*y+z:Nat):Int):Str):=by decide +kernel
theorem zaj (u:Str)(h:isNumber u=true):∃i:Nat,i<1000∧u=(toString (i:Int):Str):=by
 unfold isNumber isWhole at h;rw[yjc,yjc] at h;obtain⟨h1,h2,h3⟩:=h;have z:=zzkb h1;have d:=λc hc=>zqdc c (zahb h2 c hc);obtain⟨⟨l⟩⟩:=u;have zl:1≤l.length∧(l.length:Int)≤3:=z;have nz:∀(a b:Nat) (r:List Nat),l=a::b::r->a≠48:=by
  rintro a b r rfl e;subst e;unfold zzx at h3;rw[Bool.or_eq_true,decide_eq_true_eq] at h3
  rcases h3 with h3|h3
  ·injection h3 with h3
   have:=congrArg yxn h3;have e1:(⟨(48::b::r).toArray⟩:Str).length=r.length+2:=(by show (48::b::r).toArray.size=_;simp);rw[e1] at this;exact absurd this (by show ¬ (r.length+2=1);omega)
  ·exact absurd h3 (show ¬ ((!decide (V.str ⟨#[48]⟩=V.str "0"))=true) by decide +kernel)
 match l,zl,d,nz with
 | [a],_,d,_ =>
  have:=d a (by simp);exact⟨a-48,by omega,by rw[← num1 (a-48) (by omega),show 48+(a-48)=a by omega]⟩
 | [a,b],_,d,nz =>
  have h1:=d a (by simp);have h2:=d b (by simp);have h3:=nz _ _ _ rfl;exact⟨10*(a-48)+(b-48),by omega,by rw[← num2 (a-48) (by omega) (b-48) (by omega) (by omega),show 48+(a-48)=a by omega,show 48+(b-48)=b by omega]⟩
 | [a,b,c],_,d,nz =>
  have h1:=d a (by simp);have h2:=d b (by simp);have h4:=d c (by simp);have h3:=nz _ _ _ rfl;exact⟨100*(a-48)+10*(b-48)+(c-48),by omega,by rw[← num3 (a-48) (by omega) (b-48) (by omega) (c-48) (by omega) (by omega),show 48+(a-48)=a by omega,show 48+(b-48)=b by omega,show 48+(c-48)=c by omega]⟩
 | a::b::c::e::r,hz,_,_=>exact absurd hz.2 (by simp only[yga];omega)
def ar (u:Str):Option Nat:=match ylg u zph with
 | some (.flat (.int i))=>some i.toNat
 | _=>none
def rdV (ws:List Str)(u:Str)(k:Nat):Option (Wv×Nat) :=
 if u = "mark" then (ws[k]?).bind λn=>if isName n=true then some (.name n,k+1) else none
 else if u = "force" then (ws[k]?).bind λn=>if isNumber n=true then (yll n).map λi=>(.num i.toNat,k+1) else none
 else some (.non,k)
def rd1 (ws:List Str)(k:Nat):Option (Str×Nat×Wv×Nat):=(ws[k]?).bind λu=>(ar u).bind λa=>(rdV ws u (k+1)).map λ(v,j)=>(u,a,v,j)
def rdL (ws:List Str):Nat->Nat->Nat->List (Str×Wv)->Option (List (Str×Wv)×Nat)
 | _,0,k,fl=>some (fl,k)
 | 0,_+1,_,_=>none
 | f+1,n+1,k,fl=>(rd1 ws k).bind λ(u,a,v,j)=>rdL ws f (n+a) j (fl++[(u,v)])
theorem zry {u:Str}{d:yvp}:∀{D:List (Str×yvp)},ylg u D=some d->(u,d)∈D
 | [],h=>by cases h
 | (x,e)::D,h=>by
  have h':(if decide (u=x)=true then some e else ylg u D)=some d:=h
  by_cases c:u=x
  ·rw[if_pos (decide_eq_true c)] at h';cases h';rw[c];exact ypa
  ·rw[if_neg (by simpa using c)] at h';exact yla _ (zry h')
theorem zmub {u:Str}{a:Nat}(h:ar u=some a):(u = "all" ∧ a=0)∨(u = "self" ∧ a=0)∨(u = "mine" ∧ a=0)∨(u = "mark" ∧ a=0)∨(u = "force" ∧ a=0)∨(u = "not" ∧ a=1)∨(u = "both" ∧ a=2)∨(u = "any" ∧ a=2):=by
 unfold ar at h;cases e:ylg u zph with
 | none =>
  rw[e] at h;cases h
 | some d =>
  rw[e] at h;have m:=zry e;simp only[zph,yia,yvb,or_false,ymr] at m
  rcases m with⟨m1,m2⟩|⟨m1,m2⟩|⟨m1,m2⟩|⟨m1,m2⟩|⟨m1,m2⟩|⟨m1,m2⟩|⟨m1,m2⟩|⟨m1,m2⟩<;>subst m2<;>have h':=yub h
  ·exact .inl ⟨m1,h'.symm⟩
  ·exact .inr (.inl ⟨m1,h'.symm⟩)
  ·exact .inr (.inr (.inl ⟨m1,h'.symm⟩))
  ·exact .inr (.inr (.inr (.inl ⟨m1,h'.symm⟩)))
  ·exact .inr (.inr (.inr (.inr (.inl ⟨m1,h'.symm⟩))))
  ·exact .inr (.inr (.inr (.inr (.inr (.inl ⟨m1,h'.symm⟩)))))
  ·exact .inr (.inr (.inr (.inr (.inr (.inr (.inl ⟨m1,h'.symm⟩))))))
  ·exact .inr (.inr (.inr (.inr (.inr (.inr (.inr ⟨m1,h'.symm⟩))))))
theorem zzs {ws:List Str}{u:Str}{k:Nat}(h1:u ≠ "mark")(h2:u ≠ "force"):rdV ws u k=some (.non,k):=by
 unfold rdV;rw[if_neg h1,if_neg h2]
theorem drop_cons {ws:List Str}{k:Nat}{u:Str}(h:ws[k]?=some u):ws.drop k=u::ws.drop (k+1):=by
 obtain⟨hk,rfl⟩:=yma.mp h;exact yol hk
theorem zrbb {ws:List Str}{k j:Nat}{v:Wv}(h:rdV ws "mark" k=some (v,j)):∃n,v = .name n∧zkd n∧j=k+1∧ws[k]?=some n:=by
 unfold rdV at h;rw[if_pos rfl] at h;cases e:ws[k]? with
 | none=>rw[e] at h;cases h
 | some n =>
  rw[e] at h;have h':(if isName n=true then some ((.name n:Wv),k+1) else none)=some (v,j):=h
  by_cases c:isName n=true
  ·rw[if_pos c] at h';cases h';exact⟨n,rfl,zly c,rfl,rfl⟩
  ·rw[if_neg c] at h';cases h'
theorem zsr {ws:List Str}{k j:Nat}{v:Wv}(h:rdV ws "force" k=some (v,j)):∃i:Nat,v = .num i∧i<1000∧j=k+1∧ws[k]?=some (toString (i:Int):Str):=by
 unfold rdV at h;rw[if_neg (by decide +kernel),if_pos rfl] at h;cases e:ws[k]? with
 | none=>rw[e] at h;cases h
 | some n =>
  rw[e] at h;have h':(if isNumber n=true then (yll n).map λi=>((.num i.toNat:Wv),k+1) else none)=some (v,j):=h
  by_cases c:isNumber n=true
  ·rw[if_pos c] at h';obtain⟨i,hi,rfl⟩:=zaj n c;rw[ziib i hi] at h';have h2:=yub h';injection h2 with h3 h4
   exact⟨i,h3.symm,hi,h4.symm,rfl⟩
  ·rw[if_neg c] at h';cases h'
theorem zdbc {ws:List Str}{k j a:Nat}{u:Str}{v:Wv}(h:rd1 ws k=some (u,a,v,j)):ws[k]?=some u∧ar u=some a∧rdV ws u (k+1)=some (v,j):=by
 unfold rd1 at h;cases e:ws[k]? with
 | none=>rw[e] at h;cases h
 | some x =>
  rw[e] at h;have h':((ar x).bind λa=>(rdV ws x (k+1)).map λ(v,j)=>(x,a,v,j))=some (u,a,v,j):=h;cases e2:ar x with
  | none=>rw[e2] at h';cases h'
  | some b =>
   rw[e2] at h';have h2:((rdV ws x (k+1)).map λ(v,j)=>(x,b,v,j))=some (u,a,v,j):=h';cases e3:rdV ws x (k+1) with
   | none=>rw[e3] at h2;cases h2
   | some y =>
    rw[e3] at h2;obtain⟨v',j'⟩:=y;have h3:=yub h2;cases h3;exact⟨rfl,e2,e3⟩
theorem zabc {ws:List Str}{k j a:Nat}{u:Str}{v:Wv}(h:rd1 ws k=some (u,a,v,j))(ps:List Wh)(hp:ps.length=a)(ok:∀p∈ps,p.ok) :
  ∃y:Wh,y.word=u∧y.val=v∧y.parts=ps∧y.ok∧ws.drop k=(u::v.words)++ws.drop j:=by
 obtain⟨h1,h2,h3⟩:=zdbc h;have plain:u ≠ "mark"->u ≠ "force"->v = .non∧ws.drop k=(u::v.words)++ws.drop j:=λn1 n2=>by
  rw[zzs n1 n2] at h3;have h4:=yub h3;injection h4 with h5 h6
  subst h5 h6;exact⟨rfl,drop_cons h1⟩
 have nil:a=0->ps=[]:=λz=>ydf.mp (hp.trans z)
 rcases zmub h2 with⟨e,z⟩|⟨e,z⟩|⟨e,z⟩|⟨e,z⟩|⟨e,z⟩|⟨e,z⟩|⟨e,z⟩|⟨e,z⟩
 ·obtain⟨p1,p2⟩:=plain (by rw[e];decide +kernel) (by rw[e];decide +kernel);exact⟨.all,e.symm,p1.symm,(nil z).symm,True.intro,p2⟩
 ·obtain⟨p1,p2⟩:=plain (by rw[e];decide +kernel) (by rw[e];decide +kernel);exact⟨.self,e.symm,p1.symm,(nil z).symm,True.intro,p2⟩
 ·obtain⟨p1,p2⟩:=plain (by rw[e];decide +kernel) (by rw[e];decide +kernel);exact⟨.mine,e.symm,p1.symm,(nil z).symm,True.intro,p2⟩
 ·rw[e] at h3;obtain⟨n,rfl,ok1,rfl,h4⟩:=zrbb h3;exact⟨.mark n,e.symm,rfl,(nil z).symm,ok1,by rw[drop_cons h1,drop_cons h4];rfl⟩
 ·rw[e] at h3;obtain⟨i,rfl,ok1,rfl,h4⟩:=zsr h3;exact⟨.force i,e.symm,rfl,(nil z).symm,ok1,by rw[drop_cons h1,drop_cons h4];rfl⟩
 ·obtain⟨p1,p2⟩:=plain (by rw[e];decide +kernel) (by rw[e];decide +kernel)
  match ps,hp.trans z,ok with
  | [x],_,ok=>exact⟨.not x,e.symm,p1.symm,rfl,ok x (by simp),p2⟩
 ·obtain⟨p1,p2⟩:=plain (by rw[e];decide +kernel) (by rw[e];decide +kernel)
  match ps,hp.trans z,ok with
  | [x,y],_,ok=>exact⟨.both x y,e.symm,p1.symm,rfl,⟨ok x (by simp),ok y (by simp)⟩,p2⟩
 ·obtain⟨p1,p2⟩:=plain (by rw[e];decide +kernel) (by rw[e];decide +kernel)
  match ps,hp.trans z,ok with
  | [x,y],_,ok=>exact⟨.any x y,e.symm,p1.symm,rfl,⟨ok x (by simp),ok y (by simp)⟩,p2⟩
theorem zxac {ws:List Str}:∀{f n k:Nat} {fl fl':List (Str×Wv)} {j:Nat},rdL ws f n k fl=some (fl',j)->∃ys:List Wh,ys.length=n∧(∀y∈ys,y.ok)∧fl'=fl++zfn ys∧zzl ys≤f∧ws.drop k=zxl ys++ws.drop j:=by
 intro f
 induction f with
 | zero =>
  intro n k fl fl' j h;cases n with
  | zero =>
   have h2:=yub (show some (fl,k)=some (fl',j) by rw[← h];simp[rdL]);cases h2;exact⟨[],rfl,by simp,by simp[zfn],by simp[zzl],by simp[zxl]⟩
  | succ n=>simp[rdL] at h
 | succ f ih =>
  intro n k fl fl' j h;cases n with
  | zero =>
   have h2:=yub (show some (fl,k)=some (fl',j) by rw[← h];simp[rdL]);cases h2;exact⟨[],rfl,by simp,by simp[zfn],by simp[zzl],by simp[zxl]⟩
  | succ n =>
   have h2:((rd1 ws k).bind λ(u,a,v,j)=>rdL ws f (n+a) j (fl++[(u,v)]))=some (fl',j):=h;cases e:rd1 ws k with
   | none=>rw[e] at h2;cases h2
   | some x =>
    obtain⟨u,a,v,i⟩:=x;rw[e] at h2;obtain⟨ys,l1,o1,f1,s1,d1⟩:=ih (show rdL ws f (n+a) i (fl++[(u,v)])=some (fl',j) from h2);obtain⟨y,y1,y2,y3,y4,y5⟩:=zabc e (ys.take a) (by rw[yza];omega) (λp hp=>o1 p (ygo hp));have ep:y.parts++ys.drop a=ys:=(by rw[y3];exact List.take_append_drop a ys);refine⟨y::ys.drop a,by rw[yga,yie];omega,?_,?_,?_,?_⟩
    ·intro p hp
     rcases yia.mp hp with z|z
     ·rw[z];exact y4
     ·exact o1 p (yho z)
    ·rw[zso,ep,y1,y2,f1,yuc];rfl
    ·rw[zws,ep];omega
    ·rw[zlp,ep,y1,y2,y5,d1];simp
theorem zjpb {ws:List Str}{k j:Nat}{fl:List (Str×Wv)}(h:rdL ws 9 1 k []=some (fl,j)):∃y:Wh,y.ok∧y.size≤9∧fl=y.flat∧ws.drop k=y.words++ws.drop j:=by
 obtain⟨ys,l1,o1,f1,s1,d1⟩:=zxac h
 match ys,l1,o1,f1,s1,d1 with
 | [y],_,o1,f1,s1,d1 =>
  rw[ymh,zoy] at f1;rw[zus] at d1;exact⟨y,o1 y (by simp),(by simpa [zzl] using s1),f1,d1⟩
theorem zuec (y:Wh):ar y.word=some y.parts.length:=by
 unfold ar;rw[zjlb];rfl
theorem zsd {i:Nat}(h:i<1000){ws:List Str}{k:Nat}(e:ws[k]?=some (toString (i:Int):Str)):rdV ws "force" k=some (.num i,k+1):=by
 unfold rdV;rw[if_neg (by decide +kernel),if_pos rfl,e];show (if isNumber (toString (i:Int):Str)=true then _ else _)=_
 rw[if_pos (zqfb i h),ziib i h];rfl
theorem zcbc {ws rest:List Str}{k:Nat}{y:Wh}(ok:y.ok)(h:ws.drop k=y.word::(y.val.words++rest)):rd1 ws k=some (y.word,y.parts.length,y.val,k+1+y.val.words.length)∧ws.drop (k+1+y.val.words.length)=rest:=by
 obtain⟨u1,u2⟩:=zad h;have dr:ws.drop (k+1+y.val.words.length)=rest:=by rw[← ynj,u2,ypl]
 refine⟨?_,dr⟩;have z:rdV ws y.word (k+1)=some (y.val,k+1+y.val.words.length):=by
  cases y with
  | mark n =>
   have e:=(zad (rest:=rest) u2).1;show rdV ws "mark" (k+1)=_
   unfold rdV;rw[if_pos rfl,e];show (if isName n=true then _ else _)=_
   rw[if_pos (ztp ok)];rfl
  | force i=>exact zsd ok (zad (rest:=rest) u2).1
  | not a=>exact zzs (show ("not":Str) ≠ "mark" by decide +kernel) (show ("not":Str) ≠ "force" by decide +kernel)
  | both a b=>exact zzs (show ("both":Str) ≠ "mark" by decide +kernel) (show ("both":Str) ≠ "force" by decide +kernel)
  | any a b=>exact zzs (show ("any":Str) ≠ "mark" by decide +kernel) (show ("any":Str) ≠ "force" by decide +kernel)
  | _=>exact zzs (by decide +kernel) (by decide +kernel)
 unfold rd1;rw[u1];show (ar y.word).bind _=_
 rw[zuec];show (rdV ws y.word (k+1)).map _=_
 rw[z];rfl
theorem zyac {ws:List Str}:∀{f k:Nat} {fl:List (Str×Wv)} {ys:List Wh} {rest:List Str},(∀y∈ys,y.ok)->zzl ys≤f->ws.drop k=zxl ys++rest->rdL ws f ys.length k fl=some (fl++zfn ys,k+(zxl ys).length):=by
 intro f
 induction f with
 | zero =>
  intro k fl ys rest ok hs hd;cases ys with
  | nil=>simp[rdL,zfn,zxl]
  | cons y t=>exact absurd (zjeb (ws:=y::t) (by simp)) (by omega)
 | succ f ih =>
  intro k fl ys rest ok hs hd;cases ys with
  | nil=>simp[rdL,zfn,zxl]
  | cons y t =>
   rw[zlp] at hd;obtain⟨z1,z2⟩:=zcbc (rest:=zxl (y.parts++t)++rest) (ok y (by simp)) (by rw[hd];simp);show ((rd1 ws k).bind λ(u,a,v,j)=>rdL ws f (t.length+a) j (fl++[(u,v)]))=_
   rw[z1];show rdL ws f (t.length+y.parts.length) (k+1+y.val.words.length) (fl++[(y.word,y.val)])=_
   have zz:=ih (k:=k+1+y.val.words.length) (fl:=fl++[(y.word,y.val)]) (ys:=y.parts++t) (rest:=rest) (λp hp=>by
    rcases yua.mp hp with e|e
    ·exact Wh.zacb (ok y (by simp)) p e
    ·exact ok p (yla _ e)) (by rw[zws] at hs;omega) z2
   rw[yha] at zz;rw[Nat.add_comm t.length,zz,zso,zlp];simp;omega
theorem zlsb {ws rest:List Str}{k:Nat}{y:Wh}(ok:y.ok)(hs:y.size≤9)(hd:ws.drop k=y.words++rest):rdL ws 9 1 k []=some (y.flat,k+y.words.length):=by
 have z:=zyac (ws:=ws) (f:=9) (k:=k) (fl:=[]) (ys:=[y]) (rest:=rest) (λp hp=>by rw[yda.mp hp];exact ok) (by simpa [zzl] using hs) (by rw[zus];exact hd);rw[zoy,zus] at z;exact z
theorem zpeb {ws:List Str}{k:Nat}{n:Str}(e:ws[k]?=some n)(h:isName n=true):rdV ws "mark" k=some (.name n,k+1):=by
 unfold rdV;rw[if_pos rfl,e];show (if isName n=true then _ else _)=_
 rw[if_pos h]
theorem zqbb {ws:List Str}{k:Nat}(h:∀u,ws[k]?=some u->isName u=false):rdV ws "mark" k=none:=by
 unfold rdV;rw[if_pos rfl];cases e:ws[k]? with
 | none=>rfl
 | some n =>
  show (if isName n=true then _ else _)=_
  rw[if_neg (by rw[h n e];simp)]
theorem zop {ws:List Str}{k:Nat}(h:∀u,ws[k]?=some u->isNumber u=false):rdV ws "force" k=none:=by
 unfold rdV;rw[if_neg (by decide +kernel),if_pos rfl];cases e:ws[k]? with
 | none=>rfl
 | some n =>
  show (if isNumber n=true then _ else _)=_
  rw[if_neg (by rw[h n e];simp)]
theorem zdd {ws:List Str}{k:Nat}{u:Str}(h:ws[k]?=some u):k+1≤ws.length:=(yma.mp h).1
def zzdc (C N:Addr):Sp:=λvs H Q E=>Ex4 λp (ws:List Str) (k:Nat) (u:Str)=>vs=[.ref p,.str u]∧WAt C H p ws k∧k≤ws.length∧(∀u∈ws,WdOk u)∧(∀v j H',rdV ws u k=some (v,j)->j≤ws.length->WAt C H' p ws j->But p H H'->Q (valV v) H')∧(rdV ws u k=none->∀H',But p H H'->E (.ref N) none H')
theorem zxbb (T:Tx K mg):FnOk P w K mg base (CX1 P w) 4 T.zwe.f T.zwe.d zdo (zzdc T.zfc T.e_NoCard.c):=by
 refine T.zwe.okx zjbb ?_;rintro f c A o s H vs Q E hr ⟨p,ws,k,u,rfl,W,hk,ok,q,qe⟩ X;refine⟨_,  (zca (zvb (zta zzd (pv 1) zja (zza _))
   (zea (zwa (zic (pv 0) T.zjb T.zsb.M (zte T) hr (zrf T) .nil zjd)))
   zya)
  (zca (zvb (zta zzd (pv 1) zja (zza _))
   (zea (zwa (zic (pv 0) T.zjb T.zbb.M (zac T zaj) hr (zgc T) .nil zjd)))
   zya)
  (zea (zwa zyk)))),?_⟩
 obtain⟨dx,l,h1,h2⟩:=id W;refine⟨_,rfl,rfl,_,rfl,?_⟩;refine ite2 (λc=>?_) (λc=>?_)
 ·have c':=of_decide_eq_true c;injection c' with c'
  subst c';exact⟨_,rfl,p,dx,_,rfl,h1,znd _ _ (by decide +kernel) (by decide +kernel),p,ws,k,rfl,W,hk,ok,λn H1 hn nm W1 B1=>q _ _ H1 (zpeb hn nm) (zdd hn) W1 B1,λz H1 B1=>qe (zqbb z) H1 B1⟩
 have n1:u ≠ "mark":=λz=>c (by rw[z];exact decide_eq_true rfl);refine⟨_,rfl,rfl,_,rfl,?_⟩;refine ite2 (λc=>?_) (λc=>?_)
 ·have c':=of_decide_eq_true c;injection c' with c'
  subst c';exact⟨_,rfl,p,dx,_,rfl,h1,znd _ _ (by decide +kernel) (by decide +kernel),p,ws,k,rfl,W,hk,ok,λi H1 hn hi W1 B1=>q (.num i) _ H1 (zsd hi hn) (zdd hn) W1 B1,λz H1 B1=>qe (zop z) H1 B1⟩
 have n2:u ≠ "force":=λz=>c (by rw[z];exact decide_eq_true rfl);exact q .non k H (zzs n1 n2) hk W (But.refl p H)
theorem zldc {u:Str}(h:yir u zph=true):∃a:Nat,ar u=some a∧ylg u zph=some (.flat (.int (a:Int))):=by
 rw[← yip] at h;unfold ar;cases e:ylg u zph with
 | none=>rw[e] at h;cases h
 | some d =>
  have m:=zry e;simp only[zph,yia,yvb,or_false,ymr] at m
  rcases m with⟨m1,m2⟩|⟨m1,m2⟩|⟨m1,m2⟩|⟨m1,m2⟩|⟨m1,m2⟩|⟨m1,m2⟩|⟨m1,m2⟩|⟨m1,m2⟩<;>subst m2<;>exact⟨_,rfl,rfl⟩
theorem zkdc {u:Str}(h:yir u zph=false):ar u=none:=by
 rw[← yip] at h;unfold ar;cases e:ylg u zph with
 | none=>rfl
 | some d=>rw[e] at h;cases h
theorem zzac {ws:List Str}{f n k:Nat}{fl:List (Str×Wv)}:rdL ws (f+1) (n+1) k fl=(rd1 ws k).bind λ(u,a,v,j)=>rdL ws f (n+a) j (fl++[(u,v)]):=rfl
theorem zsbb {ws:List Str}{f n k:Nat}{fl:List (Str×Wv)}(h:rd1 ws k=none):rdL ws (f+1) (n+1) k fl=none:=by
 rw[zzac,h];rfl
theorem zmxb {ws:List Str}{k:Nat}(h:ws[k]?=none):rd1 ws k=none:=by
 unfold rd1;rw[h];rfl
theorem zebc {ws:List Str}{k:Nat}{u:Str}(h:ws[k]?=some u)(z:ar u=none):rd1 ws k=none:=by
 unfold rd1;rw[h];show (ar u).bind _=_
 rw[z];rfl
theorem zbbc {ws:List Str}{k a:Nat}{u:Str}(h:ws[k]?=some u)(z:ar u=some a):rd1 ws k=(rdV ws u (k+1)).map λ(v,j)=>(u,a,v,j):=by
 unfold rd1;rw[h];show (ar u).bind _=_
 rw[z];rfl
theorem zksb {ws:List Str}{f k:Nat}{fl:List (Str×Wv)}:rdL ws f 0 k fl=some (fl,k):=by
 cases f<;>rfl
def zydc (C D N:Addr):Sp:=λvs H Q E=>Ex3 λp (ws:List Str) (k:Nat)=>vs=[.ref p]∧WAt C H p ws k∧k≤ws.length∧(∀u∈ws,WdOk u)∧(∀(y:Wh) (j:Nat) v H',rdL ws 9 1 k []=some (y.flat,j)->y.ok->y.size≤9->ws.drop k=y.words++ws.drop j->j≤ws.length->WAt C H' p ws j->But p H H'->IsW D H' v y->Q v H')∧(rdL ws 9 1 k []=none->∀H',But p H H'->E (.ref N) none H')
theorem zcfb (T:Tx K mg)(kb:K.In base):FnOk P w K mg base (CX1 P w) 5 T.zwb.f T.zwb.d ztm (zydc T.zfc T.zyb T.e_NoCard.c):=by
 refine T.zwb.okx zvi ?_;rintro f c A o s H vs Q E hr ⟨p,ws,k,rfl,W,hk,ok,q,qe⟩ X;refine⟨_,  (zca (zqa (i:=1) zvi.nd rfl (.inl rfl) (zob zba))
  (zca (zqa (i:=2) zvi.nd rfl (.inl rfl) zga)
  (zca (ztsb ycq (zta zbfb (pv 2) zga (zza _))
   (zca (zvb (zta zzd (zma zra rfl T.zxd ykb (zaa (pv 1) zba)) (zqc (v:=.int 9) rfl T.zfl ⟨_,rfl⟩) (zza _))
    (zea (zse rfl rfl T.e_NoCard.m T.e_NoCard.q zxk zja))
    zya)
   (zca (zqa (i:=3) zvi.nd rfl (.inl rfl) (zic (pv 0) T.zjb T.zsc.M (znh T).up hr (zij T) .nil zjd))
   (zca (zvb (zta (zxeb (zpw T kb)) (pv 3) (zqc (v:=.ref T.zaq) rfl T.zit rfl) rfl)
    (zea (zse rfl rfl T.e_NoCard.m T.e_NoCard.q zxk (zzmb (pv 3) zja)))
    zya)
   (zca (zvc (zjf ypb ydc yec zae (pv 1) (zaa (zqb (zaa (pv 3) (zaa (zia (zxbb T) hr rfl T.zwe.m T.zwe.F.kp (zqgb T) .nil zjd (zaa (pv 0) (zaa (pv 3) zba))) zba))) zba)))
   (zea (zkbc (i:=2) zvi.nd rfl (.inl rfl) (zub zux (zmb (zovb (zpw T kb)) (zqc (v:=.ref T.zaq) rfl T.zit rfl) (pv 3) (λ_ _=>rfl)) zga) zucc)))))))
  (zea (zwa (zia (zctb T kb) hr rfl T.zkp.m T.zkp.F.kp (zgzb T) .nil zdb (zaa (pv 1) zba))))))),?_⟩
 refine⟨sz0,λl hl=>?_⟩;refine⟨λm σ H'=>Ex5 λ(j k' n:Nat) (fl:List (Str×Wv)) o=>m=9-j∧σ=[some (.ref p),some (.ref l),some (.int (n:Nat)),o]∧j≤9∧fl.length=j∧But p H H'∧WAt T.zfc H' p ws k'∧k'≤ws.length∧rdL ws 9 1 k []=rdL ws (9-j) n k' fl∧TkAt H' l fl,⟨_,0,k,1,[],none,rfl,rfl,yrb _,rfl,But.laid hl,W.at (zoa hl _),hk,rfl,[],zfa,rfl,λi a x e=>by simp at e⟩,?_⟩;rintro m σ H' ⟨j,k',n,fl,o,rfl,rfl,hj,hfl,B,W',hk',hr',TA⟩;refine⟨_,rfl,_,_,rfl,rfl,_,rfl,?_⟩;obtain⟨as,t1,t2,t3⟩:=id TA;refine ite2 (λc=>?_) (λc=>?_)
 ·have c':(0:Int)<((n:Nat):Int):=of_decide_eq_true c;obtain⟨n',rfl⟩:∃n',n=n'+1:=⟨n-1,by omega⟩;refine⟨_,fun σ' H' n=>n,?_⟩;refine⟨_,rfl,l,_,rfl,.inl (SqL.of t1),rfl,_,rfl,?_⟩;refine ite2 (λc1=>?_) (λc1=>?_)
  ·have c1':=of_decide_eq_true c1;injection c1' with c1'
   rw[yaa] at c1';have e9:j=9:=(by omega);subst e9;exact qe (by rw[hr'];rfl) H' B
  have hj9:j<9:=by
   rcases yjq j 9 with z|z
   ·exact z
   ·exfalso;apply c1;rw[yaa,t2,hfl,show j=9 by omega];rfl
  have ef:9-j=(9-(j+1))+1:=by omega
  obtain⟨dx,wl,w1,w2⟩:=id W';refine⟨_,rfl,p,dx,_,rfl,w1,znd _ _ (by decide +kernel) (by decide +kernel),p,ws,k',rfl,W',hk',λu H1 u1 W1 B1=>?_,λz=>qe (by rw[hr',ef];exact zsbb (zmxb z)) H' B⟩;have kws:k'<ws.length:=(yma.mp u1).1;have hw:=ok u (ywa u1);refine⟨_,rfl,_,rfl,rfl,_,rfl,?_⟩;cases ek:yir u zph with
  | false =>
   refine iteT ?_;exact⟨_,rfl,u,rfl,hw.rp,_,rfl,(by decide +kernel),qe (by rw[hr',ef];exact zsbb (zebc u1 (zkdc ek))) H1 (B.trans B1)⟩
  | true =>
  refine iteF ?_;obtain⟨a,ea,ed⟩:=zldc ek;have TA1:=TA.but B1 w1;obtain⟨dx1,wl1,w11,w12⟩:=id W1;have t11:=B1 _ _ (zsp t1 w1 (by intro z;cases z)) t1;refine⟨_,rfl,.inl ⟨rfl,_,SqL.of t11⟩,_,rfl,_,rfl,_,rfl,p,ws,k'+1,u,rfl,W1,kws,ok,λv j' H2 hv hj' W2 B2=>?_,λz H2 B2=>qe (by rw[hr',ef];exact zsbb (by rw[zbbc u1 ea,z];rfl)) H2 ((B.trans B1).trans B2)⟩;have TA2:=TA1.but B2 w11;have t12:=B2 _ _ (zsp t11 w11 (by intro z;cases z)) t11;refine⟨sz2,λb hb=>?_⟩;have S3:=zoa hb (.tup [.str u,valV v]);have TA3:=TA2.same S3;have t13:=S3 _ _ t12;have e3:upd H2 b (.tup [.str u,valV v]) b=some (.tup [.str u,valV v]):=zfa;generalize upd H2 b (.tup [.str u,valV v])=H3 at *;have W3:=W2.at S3;obtain⟨dx3,wl3,w31,w32⟩:=id W3;have npl:p≠l:=zsp w31 t13 (by intro z;cases z);have nwl:wl3≠l:=by
   intro z;rw[z,t13] at w32;injection w32 with w32
   injection w32 with w32
   cases ws with
   | nil=>exact absurd kws (by simp)
   | cons u r =>
    cases as with
    | nil=>simp at w32
    | cons b r'=>simp at w32
  refine⟨l,_,_,rfl,rfl,t13,?_,?_⟩
  ·rw[yaa];exact zyc (by omega)
  have TA4:=TA3.snoc (x:=(u,v)) e3 t13;have W4:WAt T.zfc (upd H3 l (.lst (as.map V.ref++[.ref b]))) p ws j':=⟨dx3,wl3,by rw[zxa npl];exact w31,by rw[zxa nwl];exact w32⟩;have B4:But p H (upd H3 l (.lst (as.map V.ref++[.ref b]))):=λb o n e=>by
   rw[zxa (zpa e hl)];exact S3 _ _ (B2 _ _ n (B1 _ _ n (B _ _ n e)))
  have em:(((n'+1:Nat):Nat):Int)+(((a:Nat):Int)-1)=(((n'+a:Nat):Nat):Int):=by omega
  refine⟨_,rfl,_,rfl,_,_,rfl,rfl,ed,_,_,rfl,rfl,_,_,rfl,rfl,?_⟩;refine⟨9-(j+1),by omega,j+1,j',n'+a,fl++[(u,v)],_,rfl,(by rw[← em];rfl),hj9,(by rw[yha,hfl];rfl),B4,W4,hj',?_,TA4⟩;rw[hr',ef,zzac,zbbc u1 ea,hv];rfl
 ·have c':¬ (0:Int)<((n:Nat):Int):=of_decide_eq_false (ykf.mpr c);have en:n=0:=by omega
  subst en;rw[zksb] at hr';obtain⟨y,y1,y2,y3,y4⟩:=zjpb hr';subst y3;refine⟨_,rfl,l,y,rfl,TA,y2,λv H2 S2 IW=>?_⟩;exact q y k' v H2 hr' y1 y2 y4 hk' (W'.at S2) (B.of_same S2) IW
theorem zsib {u:Str}:∀{ss:List Str},u∈ss->inV (.str u) (ss.map V.str)=true
 | x::ss,h=>by
  show (eqV (.str x) (.str u)||inV (.str u) (ss.map V.str))=true
  rcases yia.mp h with rfl|h
  ·have e:eqV (.str u) (.str u)=true:=by show (u==u)=true;simp
   rw[e];rfl
  ·rw[zsib h,Bool.or_true]
theorem zbgb:∀ss:List Str,(ss.map V.str).all zucb=true
 | []=>rfl
 | _::ss=>zbgb ss
def Kn (K:yba)(H:Hp)(t:Addr)(ss:List Str):Prop:=TupK K t ss∨H t=some (.tup (ss.map V.str))
theorem Kn.sq {K:yba}{H H':Hp}{t p C dx l:Addr}{k:Int}{ss:List Str}(h:Kn K H t ss)(hz:ss.length≤1000)(hp:H p=some (.ins C dx (wfs l k)))(b:But p H H'):SqT K H' t (ss.map V.str):=by
 rcases h with h|h
 ·exact h.sq hz H'
 ·exact SqT.of (b _ _ (zsp h hp (by intro z;cases z)) h)
theorem zns {ws xs ys:List Str}{k:Nat}(h:ws.drop k=xs++ys):ws.drop (k+xs.length)=ys:=by
 rw[← ynj,h,ypl]
def amtV:Wv->V
 | .non=>.int 0
 | .name n=>.str n
 | .num i=>.int i
def HvAt (D:Addr)(H:Hp)(x:V):Hv->Prop
 | .v y=>x=valV y
 | .w y=>IsW D H x y
def zjp (D:Addr)(H:Hp)(v:V)(d:Deed):Prop:=Ex2 λa x=>v = .ref a∧H a=some (.tup [.str d.each,.str d.kind,amtV d.amt,x])∧IsW D H x d.whom
def zth (D:Addr)(H:Hp)(v:V):Rule->Prop
 | .hold w y z=>Ex3 λa x u=>v = .ref a∧H a=some (.tup [.str "hold",.str w,x,u])∧HvAt D H x y∧IsW D H u z
 | .wen k y d=>Ex3 λa x u=>v = .ref a∧H a=some (.tup [.str "when",.str k,x,u])∧IsW D H x y∧zjp D H u d
 | .instead k y w z=>Ex2 λa x=>v = .ref a∧H a=some (.tup [.str "instead",.str k,x,.str w,valV z])∧IsW D H x y
 | .may c d=>Ex2 λa u=>v = .ref a∧H a=some (.tup [.str "may",.int c,u])∧zjp D H u d
theorem HvAt.same {D:Addr}{H H':Hp}(s:Same H H'){x:V}:∀{y:Hv},HvAt D H x y->HvAt D H' x y
 | .v _,h=>h
 | .w _,h=>IsW.same s h
theorem HvAt.but {D C p dy l:Addr}{k:Int}{H H':Hp}(b:But p H H')(hp:H p=some (.ins C dy (wfs l k))){x:V}:∀{y:Hv},HvAt D H x y->HvAt D H' x y
 | .v _,h=>h
 | .w _,h=>IsW.but b hp h
theorem zjp.same {D:Addr}{H H':Hp}(s:Same H H'){v:V}{d:Deed}(h:zjp D H v d):zjp D H' v d:=by
 obtain⟨a,x,e,h1,h2⟩:=h;exact⟨a,x,e,s _ _ h1,h2.same s⟩
theorem zth.same {D:Addr}{H H':Hp}(s:Same H H'){v:V}:∀{r:Rule},zth D H v r->zth D H' v r
 | .hold w y z,⟨a,x,u,e,h,p,q⟩=>⟨a,x,u,e,s _ _ h,p.same s,q.same s⟩
 | .wen k y d,⟨a,x,u,e,h,p,q⟩=>⟨a,x,u,e,s _ _ h,p.same s,q.same s⟩
 | .instead k y w z,⟨a,x,e,h,p⟩=>⟨a,x,e,s _ _ h,p.same s⟩
 | .may c d,⟨a,u,e,h,p⟩=>⟨a,u,e,s _ _ h,p.same s⟩
theorem zgob {k:Str}(h:k∈zib):ylg k zqkb=some (.tup ((turns k).map PyData.str)):=by
 simp only[zib,yia,yvb,or_false] at h
 rcases h with rfl|rfl|rfl|rfl|rfl|rfl|rfl<;>rfl
theorem zfob (k:Str):(turns k).length≤1000:=by
 unfold turns
 repeat' split
 all_goals decide
def spRd {α:Type}(C N:Addr)(R:List Str->Nat->Option (α×Nat))(Rel:Hp->V->α->Prop)(xs:List V):Sp:=λvs H Q E=>Ex3 λp (ws:List Str) (k:Nat)=>vs = .ref p::xs∧WAt C H p ws k∧k≤ws.length∧(∀u∈ws,WdOk u)∧(∀x j v H',R ws k=some (x,j)->j≤ws.length->WAt C H' p ws j->But p H H'->Rel H' v x->Q v H')∧(R ws k=none->∀H',But p H H'->E (.ref N) none H')
theorem zrj {u:Str}{ss:List Str}:inV (.str u) (ss.map V.str)=true↔u∈ss:=by
 refine⟨λh=>?_,zsib⟩;unfold inV at h;obtain⟨y,hy,e⟩:=List.any_eq_true.mp h;obtain⟨z,hz,rfl⟩:=ysb.mp hy;have e':z=u:=by simpa [eqV] using e
 rw[← e'];exact hz
def zwd (ss:List Str)(ws:List Str)(k:Nat):Option (Str×Nat):=(ws[k]?).bind λu=>if u∈ss then some (u,k+1) else none
def zkac (K:yba)(C N:Addr):Sp:=λvs H Q E=>Ex5 λp t (ws:List Str) (k:Nat) (ss:List Str)=>vs=[.ref p,.ref t]∧WAt C H p ws k∧k≤ws.length∧(∀u∈ws,WdOk u)∧ss.length≤1000∧Kn K H t ss∧(∀u H',ws[k]?=some u->u∈ss->zwd ss ws k=some (u,k+1)->k+1≤ws.length->WAt C H' p ws (k+1)->But p H H'->Q (.str u) H')∧(zwd ss ws k=none->∀H',But p H H'->E (.ref N) none H')
theorem zgb (T:Tx K mg):FnOk P w K mg base (CX1 P w) 3 T.zua.f T.zua.d zug (zkac K T.zfc T.e_NoCard.c):=by
 refine T.zua.okx zuj ?_;rintro f c A o s H vs Q E hr ⟨p,t,ws,k,ss,rfl,W,hk,ok,hz,hs,q,qe⟩ X;refine⟨_,  (zca (zqa (i:=2) zuj.nd rfl (.inl rfl) (zic (pv 0) T.zjb T.zsc.M (znh T) hr (zij T) .nil zjd))
  (zca (zvb (zta zyeb (pv 2) (pv 1) rfl)
   (zea (zse rfl rfl T.e_NoCard.m T.e_NoCard.q zxk (zzmb (pv 2) zja)))
   zya)
  (zea (zwa (pv 2))))),?_⟩
 obtain⟨dx,l,h1,h2⟩:=id W;refine⟨_,rfl,p,dx,_,rfl,h1,znd _ _ (by decide +kernel) (by decide +kernel),p,ws,k,rfl,W,hk,λu H1 hu W1 B1=>?_,λz=>qe (by unfold zwd;rw[z];rfl) _ (But.refl p H)⟩;have hw:=ok u (ywa hu);refine⟨_,rfl,_,rfl,t,_,rfl,.inr (hs.sq hz h1 B1),rfl,zbgb ss,_,rfl,?_⟩;refine ite2 (λc=>?_) (λc=>?_)
 ·have n:u∉ss:=λz=>by
   have e:(if true=true then !inV (.str u) (ss.map V.str) else inV (.str u) (ss.map V.str))=false:=(by rw[zsib z];rfl);exact ylb (e.symm.trans c)
  exact⟨_,rfl,u,rfl,hw.rp,_,rfl,(by decide +kernel),qe (by unfold zwd;rw[hu];exact if_neg n) H1 B1⟩
 ·have m:u∈ss:=by
   rcases Classical.em (u∈ss) with z|z
   ·exact z
   ·exfalso;apply c;have e:inV (.str u) (ss.map V.str)=false:=ykf.mpr λy=>z (zrj.mp y);show (!inV (.str u) (ss.map V.str))=true
    rw[e];rfl
  exact⟨_,rfl,q u H1 hu m (by unfold zwd;rw[hu];exact if_pos m) (zdd hu) W1 B1⟩
def ztr (ws:List Str)(k:Nat):Option (Wv×Nat):=rdV ws "mark" k
def zek (ws:List Str)(k:Nat):Option (Wv×Nat):=rdV ws "force" k
def zpp (u:Str)(ws:List Str)(k:Nat):Option (Wv×Nat):=if u = "leave" then some (.non,k) else if u∈(["gain","lack"]:List Str) then ztr ws k else zek ws k
def zwk (u:Str)(ws:List Str)(k:Nat):Option (Wv×Nat):=if u∈(["less","more"]:List Str) then zek ws k else if u = "as" then (zwd zzh ws k).map λx=>(.name x.1,x.2) else some (.non,k)
def rdW (ws:List Str)(k:Nat):Option (Wh×Nat):=(rdL ws 9 1 k []).bind λx=>(zjm x.1).head?.map λy=>(y,x.2)
theorem zdvb {ws:List Str}{k j:Nat}{y:Wh}(h:rdL ws 9 1 k []=some (y.flat,j)):rdW ws k=some (y,j):=by
 unfold rdW;rw[h];have z:=zcbb y [];rw[yfc] at z;show (zjm y.flat).head?.map _=_
 rw[z];rfl
theorem zwac {ws:List Str}{k:Nat}(h:rdL ws 9 1 k []=none):rdW ws k=none:=by
 unfold rdW;rw[h];rfl
theorem ztz (T:Tx K mg)(u:Str):FnOk P w K mg base (CX1 P w) 4 T.zfe.f T.zfe.d zum (spRd T.zfc T.e_NoCard.c (zpp u) (λ_ v x=>v=amtV x) [.str u]):=by
 refine T.zfe.okx zpz ?_;rintro f c A o s H vs Q E hr ⟨p,ws,k,rfl,W,hk,ok,q,qe⟩ X;refine⟨_,  (zca (zvb (zta zzd (pv 1) zja (zza _))
   (zea (zwa zga))
   zya)
  (zca (zvb (zta zzi (pv 1) (zqb (zaa zja (zaa zja zba))) rfl)
   (zea (zwa (zic (pv 0) T.zjb T.zsb.M (zte T) hr (zrf T) .nil zjd)))
   zya)
  (zea (zwa (zic (pv 0) T.zjb T.zbb.M (zac T zaj) hr (zgc T) .nil zjd))))),?_⟩
 obtain⟨dx,l,h1,h2⟩:=id W;refine⟨_,rfl,rfl,_,rfl,?_⟩;refine ite2 (λc=>?_) (λc=>?_)
 ·have c':=of_decide_eq_true c;injection c' with c'
  exact q .non k _ H (by unfold zpp;rw[if_pos c']) hk W (But.refl p H) rfl
 have n1:u ≠ "leave":=λz=>c (by rw[z];exact decide_eq_true rfl);refine⟨_,rfl,sz2,λtp htp=>⟨tp,_,rfl,.inr (SqT.of zfa),rfl,rfl,_,rfl,?_⟩⟩;have S1:=zoa htp (.tup [.str "gain",.str "lack"]);have W1:=W.at S1;have B1:But p H (upd H tp (.tup [.str "gain",.str "lack"])):=But.same S1;obtain⟨dx1,l1,h11,h12⟩:=id W1;refine ite2 (λc=>?_) (λc=>?_)
 ·have m:=zrj (ss:=["gain","lack"]).mp c;exact⟨_,rfl,p,dx1,_,rfl,h11,znd _ _ (by decide +kernel) (by decide +kernel),p,ws,k,rfl,W1,hk,ok,λn H2 hn nm W2 B2=>q (.name n) _ _ H2 (by unfold zpp;rw[if_neg n1,if_pos m];exact zpeb hn nm) (zdd hn) W2 (B1.trans B2) rfl,λz H2 B2=>qe (by unfold zpp;rw[if_neg n1,if_pos m];exact zqbb z) H2 (B1.trans B2)⟩
 ·have m:u∉(["gain","lack"]:List Str):=λz=>c (zrj (ss:=["gain","lack"]).mpr z);exact⟨_,rfl,p,dx1,_,rfl,h11,znd _ _ (by decide +kernel) (by decide +kernel),p,ws,k,rfl,W1,hk,ok,λi H2 hn hi W2 B2=>q (.num i) _ _ H2 (by unfold zpp;rw[if_neg n1,if_neg m];exact zsd hi hn) (zdd hn) W2 (B1.trans B2) rfl,λz H2 B2=>qe (by unfold zpp;rw[if_neg n1,if_neg m];exact zop z) H2 (B1.trans B2)⟩
def zqd (u:Str)(ws:List Str)(k:Nat):Option (Hv×Nat):=if u∈(["gain","lack"]:List Str) then (ztr ws k).map λx=>(.v x.1,x.2) else if u∈(["be","more","less"]:List Str) then (zek ws k).map λx=>(.v x.1,x.2) else if u = "per" then (rdW ws k).map λx=>(.w x.1,x.2) else some (.v .non,k)
def zjh (ws:List Str)(k:Nat):Option (Deed×Nat):=(zwd zmv ws k).bind λa=>(zwd zib ws a.2).bind λb=>(zpp b.1 ws b.2).bind λc=>(rdW ws c.2).map λd=>(⟨a.1,b.1,c.1,d.1⟩,d.2)
theorem FnOk.ex {P:ybc}{w:World}{K:yba}{mg:Str->Option Value}{base:Heap}{CX:CXT}{k:Nat}{f:Addr}{fd:yne}{ps:List Str}{ι:Type}{sp:ι->Sp}(h:∀i,FnOk P w K mg base CX k f fd ps (sp i)):FnOk P w K mg base CX k f fd ps (λvs H Q E=>∃i,sp i vs H Q E) :=
 ⟨λvs H Q E ⟨i,z⟩=>(h i).len vs H Q E z,λA outer s H args us vs Q E hr he hb hv ⟨i,z⟩=>(h i).run A outer s H args us vs Q E hr he hb hv z⟩
theorem zmh (T:Tx K mg)(kb:K.In base):FnOk P w K mg base (CX1 P w) 5 T.zwb.f T.zwb.d ztm (spRd T.zfc T.e_NoCard.c rdW (IsW T.zyb) []) :=
 (zcfb T kb).imp λvs H Q E ⟨p,ws,k,e,W,hk,ok,q,qe⟩=>⟨p,ws,k,e,W,hk,ok,λy j v H' hr _ _ _ hj W' B IW=>q y j v H' (zdvb hr) hj W' B IW,λz=>qe (zwac z)⟩
theorem zxr (T:Tx K mg)(u:Str):FnOk P w K mg base (CX1 P w) 4 T.zmc.f T.zmc.d zfi (spRd T.zfc T.e_NoCard.c (zwk u) (λ_ v x=>v=valV x) [.str u]):=by
 refine T.zmc.okx zir ?_;rintro f c A o s H vs Q E hr ⟨p,ws,k,rfl,W,hk,ok,q,qe⟩ X;refine⟨_,  (zca (zvb (zta zzi (pv 1) (zqb (zaa zja (zaa zja zba))) rfl)
   (zea (zwa (zic (pv 0) T.zjb T.zbb.M (zac T zaj) hr (zgc T) .nil zjd)))
   zya)
  (zca (zvb (zta zzd (pv 1) zja (zza _))
   (zea (zwa (zgk (pv 0) T.zjb T.zua.M (zgb T) hr (znb T) .nil zjd (zaa (zqc (v:=.ref T.zvf) rfl T.zsi rfl) zba))))
   zya)
  (zea (zwa zyk)))),?_⟩
 refine⟨_,rfl,sz2,λtp htp=>⟨tp,_,rfl,.inr (SqT.of zfa),rfl,rfl,_,rfl,?_⟩⟩;have S1:=zoa htp (.tup [.str "less",.str "more"]);have W1:=W.at S1;have B1:But p H (upd H tp (.tup [.str "less",.str "more"])):=But.same S1;obtain⟨dx1,l1,h11,h12⟩:=id W1;refine ite2 (λc=>?_) (λc=>?_)
 ·have m:=zrj (ss:=["less","more"]).mp c;exact⟨_,rfl,p,dx1,_,rfl,h11,znd _ _ (by decide +kernel) (by decide +kernel),p,ws,k,rfl,W1,hk,ok,λi H2 hn hi W2 B2=>q (.num i) _ _ H2 (by unfold zwk;rw[if_pos m];exact zsd hi hn) (zdd hn) W2 (B1.trans B2) rfl,λz H2 B2=>qe (by unfold zwk;rw[if_pos m];exact zop z) H2 (B1.trans B2)⟩
 have m:u∉(["less","more"]:List Str):=λz=>c (zrj (ss:=["less","more"]).mpr z);refine⟨_,rfl,rfl,_,rfl,?_⟩;refine ite2 (λc=>?_) (λc=>?_)
 ·have c':=of_decide_eq_true c;injection c' with c'
  exact⟨_,rfl,p,dx1,_,rfl,h11,znd _ _ (by decide +kernel) (by decide +kernel),p,T.zvf,ws,k,zzh,rfl,W1,hk,ok,by decide,.inl T.zqi,λx H2 hx hm hr' hj W2 B2=>q (.name x) _ _ H2 (by unfold zwk;rw[if_neg m,if_pos c',hr'];rfl) hj W2 (B1.trans B2) rfl,λz H2 B2=>qe (by unfold zwk;rw[if_neg m,if_pos c',z];rfl) H2 (B1.trans B2)⟩
 ·have n2:u ≠ "as":=λz=>c (by rw[z];exact decide_eq_true rfl);exact q .non k _ _ (by unfold zwk;rw[if_neg m,if_neg n2]) hk W1 B1 rfl
theorem zxo (T:Tx K mg)(kb:K.In base)(u:Str):FnOk P w K mg base (CX1 P w) 6 T.zec.f T.zec.d ztg (spRd T.zfc T.e_NoCard.c (zqd u) (HvAt T.zyb) [.str u]):=by
 refine T.zec.okx zwo ?_;rintro f c A o s H vs Q E hr ⟨p,ws,k,rfl,W,hk,ok,q,qe⟩ X;refine⟨_,  (zca (zvb (zta zzi (pv 1) (zqb (zaa zja (zaa zja zba))) rfl)
   (zea (zwa (zic (pv 0) T.zjb T.zsb.M (zte T).up hr (zrf T) .nil zjd)))
   zya)
  (zca (zvb (zta zzi (pv 1) (zqb (zaa zja (zaa zja (zaa zja zba)))) rfl)
   (zea (zwa (zic (pv 0) T.zjb T.zbb.M (zac T zaj).up hr (zgc T) .nil zjd)))
   zya)
  (zca (zvb (zta zzd (pv 1) zja (zza _))
   (zea (zwa (zia (zmh T kb) hr rfl T.zwb.m T.zwb.F.kp (zlk T) .nil zjd (zaa (pv 0) zba))))
   zya)
  (zea (zwa zyk))))),?_⟩
 refine⟨_,rfl,sz2,λtp htp=>⟨tp,_,rfl,.inr (SqT.of zfa),rfl,rfl,_,rfl,?_⟩⟩;have S1:=zoa htp (.tup [.str "gain",.str "lack"]);have W1:=W.at S1;have B1:But p H (upd H tp (.tup [.str "gain",.str "lack"])):=But.same S1;obtain⟨dx1,l1,h11,h12⟩:=id W1;refine ite2 (λc=>?_) (λc=>?_)
 ·have m:=zrj (ss:=["gain","lack"]).mp c;exact⟨_,rfl,p,dx1,_,rfl,h11,znd _ _ (by decide +kernel) (by decide +kernel),p,ws,k,rfl,W1,hk,ok,λn H2 hn nm W2 B2=>q (.v (.name n)) _ _ H2 (by unfold zqd;rw[if_pos m,show ztr ws k=_ from zpeb hn nm];rfl) (zdd hn) W2 (B1.trans B2) rfl,λz H2 B2=>qe (by unfold zqd;rw[if_pos m,show ztr ws k=_ from zqbb z];rfl) H2 (B1.trans B2)⟩
 have m1:u∉(["gain","lack"]:List Str):=λz=>c (zrj (ss:=["gain","lack"]).mpr z);refine⟨_,rfl,sz3,λtq htq=>⟨tq,_,rfl,.inr (SqT.of zfa),rfl,rfl,_,rfl,?_⟩⟩;have S2:=S1.trans (zoa htq (.tup [.str "be",.str "more",.str "less"]));have W2:=W.at S2;have B2:=But.same (p:=p) S2;obtain⟨dx2,l2,h21,h22⟩:=id W2;refine ite2 (λc=>?_) (λc=>?_)
 ·have m:=zrj (ss:=["be","more","less"]).mp c;exact⟨_,rfl,p,dx2,_,rfl,h21,znd _ _ (by decide +kernel) (by decide +kernel),p,ws,k,rfl,W2,hk,ok,λi H3 hn hi W3 B3=>q (.v (.num i)) _ _ H3 (by unfold zqd;rw[if_neg m1,if_pos m,show zek ws k=_ from zsd hi hn];rfl) (zdd hn) W3 (B2.trans B3) rfl,λz H3 B3=>qe (by unfold zqd;rw[if_neg m1,if_pos m,show zek ws k=_ from zop z];rfl) H3 (B2.trans B3)⟩
 have m2:u∉(["be","more","less"]:List Str):=λz=>c (zrj (ss:=["be","more","less"]).mpr z);refine⟨_,rfl,rfl,_,rfl,?_⟩;refine ite2 (λc=>?_) (λc=>?_)
 ·have c':=of_decide_eq_true c;injection c' with c'
  exact⟨_,rfl,p,ws,k,rfl,W2,hk,ok,λy j v H3 hr' hj W3 B3 IW=>q (.w y) j v H3 (by unfold zqd;rw[if_neg m1,if_neg m2,if_pos c',hr'];rfl) hj W3 (B2.trans B3) IW,λz H3 B3=>qe (by unfold zqd;rw[if_neg m1,if_neg m2,if_pos c',z];rfl) H3 (B2.trans B3)⟩
 ·have n2:u ≠ "per":=λz=>c (by rw[z];exact decide_eq_true rfl);exact q (.v .non) k _ _ (by unfold zqd;rw[if_neg m1,if_neg m2,if_neg n2]) hk W2 B2 rfl
theorem zxu (T:Tx K mg)(kb:K.In base):FnOk P w K mg base (CX1 P w) 6 T.zee.f T.zee.d zdq (spRd T.zfc T.e_NoCard.c zjh (zjp T.zyb) []):=by
 have zrdb:=(FnOk.ex λu=>ztz (P:=P) (w:=w) (base:=base) T u).mono (by decide:4≤5);refine T.zee.okx zwi ?_;rintro f c A o s H vs Q E hr ⟨p,ws,k,rfl,W,hk,ok,q,qe⟩ X;refine⟨_,  (zca (zqa (i:=1) zwi.nd rfl (.inl rfl) (zgk (pv 0) T.zjb T.zua.M (zgb T).up hr (znb T) .nil zjd (zaa (zqb (zaa zja (zaa zja zba))) zba)))
  (zca (zqa (i:=2) zwi.nd rfl (.inl rfl) (zgk (pv 0) T.zjb T.zua.M (zgb T).up hr (znb T) .nil zjd (zaa (zqc (v:=.ref T.znf) rfl T.zej rfl) zba)))
  (zca (zqa (i:=3) zwi.nd rfl (.inl rfl) (zia zrdb hr rfl T.zfe.m T.zfe.F.kp (zgdb T) .nil zjd (zaa (pv 0) (zaa (pv 2) zba))))
  (zca (zqa (i:=4) zwi.nd rfl (.inl rfl) (zia (zmh T kb) hr rfl T.zwb.m T.zwb.F.kp (zlk T) .nil zjd (zaa (pv 0) zba)))
  (zea (zwa (zqb (zaa (pv 1) (zaa (pv 2) (zaa (pv 3) (zaa (pv 4) zba))))))))))),?_⟩
 obtain⟨dx,l,h1,h2⟩:=id W;refine⟨_,rfl,p,dx,_,rfl,h1,znd _ _ (by decide +kernel) (by decide +kernel),sz2,λtp htp=>?_⟩;have S0:=zoa htp (.tup [.str "each",.str "one"]);have W0:=W.at S0;have B0:=But.same (p:=p) S0;refine⟨p,tp,ws,k,zmv,rfl,W0,hk,ok,by decide,.inr zfa,λa H1 ha hma hra hja W1 B1=>?_,λz H1 B1=>qe (by unfold zjh;rw[z];rfl) H1 (B0.trans B1)⟩;obtain⟨dx1,l1,h11,h12⟩:=id W1;refine⟨_,rfl,p,dx1,_,rfl,h11,znd _ _ (by decide +kernel) (by decide +kernel),p,T.znf,ws,k+1,zib,rfl,W1,hja,ok,by decide,.inl T.zcj,λb H2 hb hmb hrb hjb W2 B2=>?_,λz H2 B2=>qe (by unfold zjh;rw[hra];show (zwd zib ws (k+1)).bind _=_;rw[z];rfl) H2 ((B0.trans B1).trans B2)⟩;refine⟨_,rfl,_,rfl,b,p,ws,k+1+1,rfl,W2,hjb,ok,λam j v H3 hr3 hj3 W3 B3 ev=>?_,λz H3 B3=>qe (by unfold zjh;rw[hra];show (zwd zib ws (k+1)).bind _=_;rw[hrb];show (zpp b ws (k+1+1)).bind _=_;rw[z];rfl) H3 (((B0.trans B1).trans B2).trans B3)⟩;subst ev;refine⟨_,rfl,p,ws,j,rfl,W3,hj3,ok,λy j4 v4 H4 hr4 hj4 W4 B4 IW=>?_,λz H4 B4=>qe (by unfold zjh;rw[hra];show (zwd zib ws (k+1)).bind _=_;rw[hrb];show (zpp b ws (k+1+1)).bind _=_;rw[hr3];show (rdW ws j).map _=_;rw[z];rfl) H4 ((((B0.trans B1).trans B2).trans B3).trans B4)⟩;refine⟨_,rfl,_,rfl,_,rfl,_,rfl,sz4,λt ht=>?_⟩;exact q ⟨a,b,am,y⟩ j4 _ _ (by unfold zjh;rw[hra];show (zwd zib ws (k+1)).bind _=_;rw[hrb];show (zpp b ws (k+1+1)).bind _=_;rw[hr3];show (rdW ws j).map _=_;rw[hr4];rfl) hj4 (W4.at (zoa ht _)) (((((B0.trans B1).trans B2).trans B3).trans B4).of_same (zoa ht _)) ⟨t,v4,rfl,zfa,IW.same (zoa ht _)⟩
def zfm (ws:List Str)(k:Nat):Option (Rule×Nat):=(zwd changes ws k).bind λa=>(zqd a.1 ws a.2).bind λb=>(rdW ws b.2).map λc=>(.hold a.1 b.1 c.1,c.2)
def zvk (ws:List Str)(k:Nat):Option (Rule×Nat):=(zwd zch ws k).bind λa=>(rdW ws a.2).bind λb=>(zwd ["do"] ws b.2).bind λc=>(zjh ws c.2).map λd=>(.wen a.1 b.1 d.1,d.2)
def numOf:Wv->Nat
 | .num i=>i
 | _=>0
def zat (ws:List Str)(k:Nat):Option (Rule×Nat):=(zek ws k).bind λa=>(zwd ["do"] ws a.2).bind λb=>(zjh ws b.2).map λc=>(.may (numOf a.1) c.1,c.2)
def zid (ws:List Str)(k:Nat):Option (Rule×Nat):=(zwd zib ws k).bind λa=>(rdW ws a.2).bind λb=>(zwd ["do"] ws b.2).bind λc=>(zwd (turns a.1) ws c.2).bind λd=>(zwk d.1 ws d.2).map λe=>(.instead a.1 b.1 d.1 e.1,e.2)
theorem zefb (T:Tx K mg)(kb:K.In base):FnOk P w K mg base (CX1 P w) 7 T.zag.f T.zag.d zcq (spRd T.zfc T.e_NoCard.c zfm (zth T.zyb) []):=by
 have zwq:=FnOk.ex λu=>zxo (P:=P) (w:=w) (base:=base) T kb u;refine T.zag.okx zpk ?_;rintro f c A o s H vs Q E hr ⟨p,ws,k,rfl,W,hk,ok,q,qe⟩ X;refine⟨_,  (zca (zqa (i:=1) zpk.nd rfl (.inl rfl) (zgk (pv 0) T.zjb T.zua.M (zgb T).up hr (znb T) .nil zjd (zaa (zqc (v:=.ref T.zco) rfl T.zls rfl) zba)))
  (zca (zqa (i:=2) zpk.nd rfl (.inl rfl) (zia zwq hr rfl T.zec.m T.zec.F.kp (zyp T) .nil zjd (zaa (pv 0) (zaa (pv 1) zba))))
  (zca (zqa (i:=3) zpk.nd rfl (.inl rfl) (zia (zmh T kb).up hr rfl T.zwb.m T.zwb.F.kp (zlk T) .nil zjd (zaa (pv 0) zba)))
  (zea (zwa (zqb (zaa zja (zaa (pv 1) (zaa (pv 2) (zaa (pv 3) zba)))))))))),?_⟩
 obtain⟨dx,l,h1,h2⟩:=id W;refine⟨_,rfl,p,dx,_,rfl,h1,znd _ _ (by decide +kernel) (by decide +kernel),p,T.zco,ws,k,changes,rfl,W,hk,ok,by decide,.inl T.zes,λa H1 ha hma hra hja W1 B1=>?_,λz H1 B1=>qe (by unfold zfm;rw[z];rfl) H1 B1⟩;refine⟨_,rfl,_,rfl,a,p,ws,k+1,rfl,W1,hja,ok,λx j v H2 hr2 hj2 W2 B2 hx=>?_,λz H2 B2=>qe (by unfold zfm;rw[hra];show (zqd a ws (k+1)).bind _=_;rw[z];rfl) H2 (B1.trans B2)⟩;obtain⟨dx2,l2,h21,h22⟩:=id W2;refine⟨_,rfl,p,ws,j,rfl,W2,hj2,ok,λy j4 v4 H4 hr4 hj4 W4 B4 IW=>?_,λz H4 B4=>qe (by unfold zfm;rw[hra];show (zqd a ws (k+1)).bind _=_;rw[hr2];show (rdW ws j).map _=_;rw[z];rfl) H4 ((B1.trans B2).trans B4)⟩;refine⟨_,rfl,_,rfl,_,rfl,sz4,λt ht=>?_⟩;have S:=zoa ht (.tup [.str "hold",.str a,v,v4]);exact q (.hold a x y) j4 _ _ (by unfold zfm;rw[hra];show (zqd a ws (k+1)).bind _=_;rw[hr2];show (rdW ws j).map _=_;rw[hr4];rfl) hj4 (W4.at S) (((B1.trans B2).trans B4).of_same S) ⟨t,v,v4,rfl,zfa,(hx.but B4 h21).same S,IW.same S⟩
theorem zdfb (T:Tx K mg)(kb:K.In base):FnOk P w K mg base (CX1 P w) 7 T.zzf.f T.zzf.d zbq (spRd T.zfc T.e_NoCard.c zvk (zth T.zyb) []):=by
 refine T.zzf.okx zmn ?_;rintro f c A o s H vs Q E hr ⟨p,ws,k,rfl,W,hk,ok,q,qe⟩ X;refine⟨_,  (zca (zqa (i:=1) zmn.nd rfl (.inl rfl) (zgk (pv 0) T.zjb T.zua.M (zgb T).up hr (znb T) .nil zjd (zaa (zqc (v:=.ref T.zjj) rfl T.zel rfl) zba)))
  (zca (zqa (i:=2) zmn.nd rfl (.inl rfl) (zia (zmh T kb).up hr rfl T.zwb.m T.zwb.F.kp (zlk T) .nil zjd (zaa (pv 0) zba)))
  (zca (zvc (zgk (pv 0) T.zjb T.zua.M (zgb T).up hr (znb T) .nil zjd (zaa (zqb (zaa zja zba)) zba)))
  (zea (zwa (zqb (zaa zja (zaa (pv 1) (zaa (pv 2) (zaa (zia (zxu T kb) hr rfl T.zee.m T.zee.F.kp (zyy T) .nil zjd (zaa (pv 0) zba)) zba)))))))))),?_⟩
 obtain⟨dx,l,h1,h2⟩:=id W;refine⟨_,rfl,p,dx,_,rfl,h1,znd _ _ (by decide +kernel) (by decide +kernel),p,T.zjj,ws,k,zch,rfl,W,hk,ok,by decide,.inl T.zal,λa H1 ha hma hra hja W1 B1=>?_,λz H1 B1=>qe (by unfold zvk;rw[z];rfl) H1 B1⟩;refine⟨_,rfl,p,ws,k+1,rfl,W1,hja,ok,λy j v H2 hr2 hj2 W2 B2 IW=>?_,λz H2 B2=>qe (by unfold zvk;rw[hra];show (rdW ws (k+1)).bind _=_;rw[z];rfl) H2 (B1.trans B2)⟩;obtain⟨dx2,l2,h21,h22⟩:=id W2;refine⟨_,rfl,p,dx2,_,rfl,h21,znd _ _ (by decide +kernel) (by decide +kernel),sz1,λtp htp=>?_⟩;have S0:=zoa htp (.tup [.str "do"]);have W3:=W2.at S0;have IW3:=IW.same S0;have B3:=(B1.trans B2).of_same S0;obtain⟨dx3,l3,h31,h32⟩:=id W3;refine⟨p,tp,ws,j,["do"],rfl,W3,hj2,ok,by decide,.inr zfa,λb H4 hb hmb hrb hjb W4 B4=>?_,λz H4 B4=>qe (by unfold zvk;rw[hra];show (rdW ws (k+1)).bind _=_;rw[hr2];show (zwd ["do"] ws j).bind _=_;rw[z];rfl) H4 (B3.trans B4)⟩;have IW4:=IW3.but B4 h31;obtain⟨dx4,l4,h41,h42⟩:=id W4;refine⟨_,rfl,_,rfl,_,rfl,p,ws,j+1,rfl,W4,hjb,ok,λd j5 v5 H5 hr5 hj5 W5 B5 ID=>?_,λz H5 B5=>qe (by unfold zvk;rw[hra];show (rdW ws (k+1)).bind _=_;rw[hr2];show (zwd ["do"] ws j).bind _=_;rw[hrb];show (zjh ws (j+1)).map _=_;rw[z];rfl) H5 ((B3.trans B4).trans B5)⟩;refine⟨sz4,λt ht=>?_⟩;have S:=zoa ht (.tup [.str "when",.str a,v,v5]);exact q (.wen a y d) j5 _ _ (by unfold zvk;rw[hra];show (rdW ws (k+1)).bind _=_;rw[hr2];show (zwd ["do"] ws j).bind _=_;rw[hrb];show (zjh ws (j+1)).map _=_;rw[hr5];rfl) hj5 (W5.at S) (((B3.trans B4).trans B5).of_same S) ⟨t,v,v5,rfl,zfa,(IW4.but B5 h41).same S,ID.same S⟩
theorem zeib (T:Tx K mg)(kb:K.In base):FnOk P w K mg base (CX1 P w) 7 T.zvh.f T.zvh.d zpt (spRd T.zfc T.e_NoCard.c zat (zth T.zyb) []):=by
 refine T.zvh.okx zrw ?_;rintro f c A o s H vs Q E hr ⟨p,ws,k,rfl,W,hk,ok,q,qe⟩ X;refine⟨_,  (zca (zqa (i:=1) zrw.nd rfl (.inl rfl) (zic (pv 0) T.zjb T.zbb.M (zac T zaj).up hr (zgc T) .nil zjd))
  (zca (zvc (zgk (pv 0) T.zjb T.zua.M (zgb T).up hr (znb T) .nil zjd (zaa (zqb (zaa zja zba)) zba)))
  (zea (zwa (zqb (zaa zja (zaa (pv 1) (zaa (zia (zxu T kb) hr rfl T.zee.m T.zee.F.kp (zyy T) .nil zjd (zaa (pv 0) zba)) zba)))))))),?_⟩
 obtain⟨dx,l,h1,h2⟩:=id W;refine⟨_,rfl,p,dx,_,rfl,h1,znd _ _ (by decide +kernel) (by decide +kernel),p,ws,k,rfl,W,hk,ok,λi H1 hn hi W1 B1=>?_,λz H1 B1=>qe (by unfold zat;rw[show zek ws k=none from zop z];rfl) H1 B1⟩;have hra:zek ws k=some (.num i,k+1):=zsd hi hn;have hja:=zdd hn;obtain⟨dx2,l2,h21,h22⟩:=id W1;refine⟨_,rfl,p,dx2,_,rfl,h21,znd _ _ (by decide +kernel) (by decide +kernel),sz1,λtp htp=>?_⟩;have S0:=zoa htp (.tup [.str "do"]);have W3:=W1.at S0;have B3:=B1.of_same S0;refine⟨p,tp,ws,k+1,["do"],rfl,W3,hja,ok,by decide,.inr zfa,λb H4 hb hmb hrb hjb W4 B4=>?_,λz H4 B4=>qe (by unfold zat;rw[hra];show (zwd ["do"] ws (k+1)).bind _=_;rw[z];rfl) H4 (B3.trans B4)⟩;refine⟨_,rfl,_,rfl,p,ws,k+1+1,rfl,W4,hjb,ok,λd j5 v5 H5 hr5 hj5 W5 B5 ID=>?_,λz H5 B5=>qe (by unfold zat;rw[hra];show (zwd ["do"] ws (k+1)).bind _=_;rw[hrb];show (zjh ws (k+1+1)).map _=_;rw[z];rfl) H5 ((B3.trans B4).trans B5)⟩;refine⟨sz3,λt ht=>?_⟩;have S:=zoa ht (.tup [.str "may",.int i,v5]);exact q (.may i d) j5 _ _ (by unfold zat;rw[hra];show (zwd ["do"] ws (k+1)).bind _=_;rw[hrb];show (zjh ws (k+1+1)).map _=_;rw[hr5];rfl) hj5 (W5.at S) (((B3.trans B4).trans B5).of_same S) ⟨t,v5,rfl,zfa,ID.same S⟩
theorem zvx (T:Tx K mg)(kb:K.In base):FnOk P w K mg base (CX1 P w) 7 T.ztd.f T.ztd.d zsl (spRd T.zfc T.e_NoCard.c zid (zth T.zyb) []):=by
 have zxt:=(FnOk.ex λu=>zxr (P:=P) (w:=w) (base:=base) T u).mono (by decide:4≤6);refine T.ztd.okx zdh ?_;rintro f c A o s H vs Q E hr ⟨p,ws,k,rfl,W,hk,ok,q,qe⟩ X;refine⟨_,  (zca (zqa (i:=1) zdh.nd rfl (.inl rfl) (zgk (pv 0) T.zjb T.zua.M (zgb T).up hr (znb T) .nil zjd (zaa (zqc (v:=.ref T.znf) rfl T.zej rfl) zba)))
  (zca (zqa (i:=2) zdh.nd rfl (.inl rfl) (zia (zmh T kb).up hr rfl T.zwb.m T.zwb.F.kp (zlk T) .nil zjd (zaa (pv 0) zba)))
  (zca (zvc (zgk (pv 0) T.zjb T.zua.M (zgb T).up hr (znb T) .nil zjd (zaa (zqb (zaa zja zba)) zba)))
  (zca (zqa (i:=3) zdh.nd rfl (.inl rfl) (zgk (pv 0) T.zjb T.zua.M (zgb T).up hr (znb T) .nil zjd (zaa (zmb (zlyb rfl T.zjcb) (zqc (v:=.ref T.zldb) rfl T.zocb rfl) (pv 1) (λ_ _=>rfl)) zba)))
  (zea (zwa (zqb (zaa zja (zaa (pv 1) (zaa (pv 2) (zaa (pv 3) (zaa (zia zxt hr rfl T.zmc.m T.zmc.F.kp (zlt T) .nil zjd (zaa (pv 0) (zaa (pv 3) zba))) zba)))))))))))),?_⟩
 obtain⟨dx,l,h1,h2⟩:=id W;refine⟨_,rfl,p,dx,_,rfl,h1,znd _ _ (by decide +kernel) (by decide +kernel),p,T.znf,ws,k,zib,rfl,W,hk,ok,by decide,.inl T.zcj,λa H1 ha hma hra hja W1 B1=>?_,λz H1 B1=>qe (by unfold zid;rw[z];rfl) H1 B1⟩;refine⟨_,rfl,p,ws,k+1,rfl,W1,hja,ok,λy j v H2 hr2 hj2 W2 B2 IW=>?_,λz H2 B2=>qe (by unfold zid;rw[hra];show (rdW ws (k+1)).bind _=_;rw[z];rfl) H2 (B1.trans B2)⟩;obtain⟨dx2,l2,h21,h22⟩:=id W2;refine⟨_,rfl,p,dx2,_,rfl,h21,znd _ _ (by decide +kernel) (by decide +kernel),sz1,λtp htp=>?_⟩;have S0:=zoa htp (.tup [.str "do"]);have W3:=W2.at S0;have IW3:=IW.same S0;have B3:=(B1.trans B2).of_same S0;obtain⟨dx3,l3,h31,h32⟩:=id W3;refine⟨p,tp,ws,j,["do"],rfl,W3,hj2,ok,by decide,.inr zfa,λb H4 hb hmb hrb hjb W4 B4=>?_,λz H4 B4=>qe (by unfold zid;rw[hra];show (rdW ws (k+1)).bind _=_;rw[hr2];show (zwd ["do"] ws j).bind _=_;rw[z];rfl) H4 (B3.trans B4)⟩;have IW4:=IW3.but B4 h31;obtain⟨dx4,l4,h41,h42⟩:=id W4;refine⟨_,rfl,p,dx4,_,rfl,h41,znd _ _ (by decide +kernel) (by decide +kernel),_,rfl,_,_,rfl,rfl,zgob hma,λtb htb=>?_⟩;refine⟨p,tb,ws,j+1,turns a,rfl,W4,hjb,ok,zfob a,.inl htb,λe H5 he hme hre hje W5 B5=>?_,λz H5 B5=>qe (by unfold zid;rw[hra];show (rdW ws (k+1)).bind _=_;rw[hr2];show (zwd ["do"] ws j).bind _=_;rw[hrb];show (zwd (turns a) ws (j+1)).bind _=_;rw[z];rfl) H5 ((B3.trans B4).trans B5)⟩;have IW5:=IW4.but B5 h41;obtain⟨dx5,l5,h51,h52⟩:=id W5;refine⟨_,rfl,_,rfl,_,rfl,_,rfl,_,rfl,e,p,ws,j+1+1,rfl,W5,hje,ok,λx j6 v6 H6 hr6 hj6 W6 B6 ev=>?_,λz H6 B6=>qe (by unfold zid;rw[hra];show (rdW ws (k+1)).bind _=_;rw[hr2];show (zwd ["do"] ws j).bind _=_;rw[hrb];show (zwd (turns a) ws (j+1)).bind _=_;rw[hre];show (zwk e ws (j+1+1)).map _=_;rw[z];rfl) H6 (((B3.trans B4).trans B5).trans B6)⟩;subst ev;refine⟨sz5,λt ht=>?_⟩;have S:=zoa ht (.tup [.str "instead",.str a,v,.str e,valV x]);exact q (.instead a y e x) j6 _ _ (by unfold zid;rw[hra];show (rdW ws (k+1)).bind _=_;rw[hr2];show (zwd ["do"] ws j).bind _=_;rw[hrb];show (zwd (turns a) ws (j+1)).bind _=_;rw[hre];show (zwk e ws (j+1+1)).map _=_;rw[hr6];rfl) hj6 (W6.at S) ((((B3.trans B4).trans B5).trans B6).of_same S) ⟨t,v,rfl,zfa,(IW5.but B6 h51).same S⟩
theorem zfxb {a rest:TS}{D:Ends}{σ:L2.St}{H:Hp}(M:L2.St->Hp->Prop)(hR:∀ σ' H',M σ' H'->rest D σ' H')(h:∀R:L2.St->Hp->Prop,(∀ σ' H',M σ' H'->R σ' H')->a { D with nx:=R } σ H):tSeq a rest D σ H:=h _ hR
def zpd (ws:List Str):Option Rule:=(zwd sorts ws 0).bind λa=>(if a.1 = "hold" then zfm ws a.2 else if a.1 = "when" then zvk ws a.2 else if a.1 = "instead" then zid ws a.2 else zat ws a.2).bind λr=>if r.2=ws.length then some r.1 else none
def zqwb (D N:Addr):Sp:=λvs H Q E=>∃(t:Str),vs=[.str t]∧t.length≤1000000∧(∀u∈yeb t " ",WdOk u)∧(∀r v H',zpd (yeb t " ")=some r->Same H H'->zth D H' v r->Q v H')∧(zpd (yeb t " ")=none->∀H',Same H H'->E (.ref N) none H')
theorem zifb (T:Tx K mg)(kb:K.In base):FnOk P w K mg base (CX1 P w) 9 T.zdg.f T.zdg.d ziq (zqwb T.zyb T.e_NoCard.c):=by
 refine T.zdg.okx zef ?_;rintro f c A o s H vs Q E hr ⟨t,rfl,tl,ok,q,qe⟩ X;refine⟨_,  (zca (zqa (i:=1) zef.nd rfl (.inl rfl) (ztx T.zlc.M (zllb T).up hr rfl T.zpib (zdn T) .nil zdb (zaa (pv 0) zba)))
  (zca (zqa (i:=2) zef.nd rfl (.inl rfl) (zgk (pv 1) T.zjb T.zua.M (zgb T).up hr (znb T) .nil zjd (zaa (zqc (v:=.ref T.ziz) rfl T.zpcb rfl) zba)))
  (zca (zvb (zta zzd (pv 2) zja (zza _))
   (zea (zqa (i:=3) zef.nd rfl (.inl rfl) (zia (zefb T kb).up hr rfl T.zag.m T.zag.F.kp (zdjb T) .nil zjd (zaa (pv 1) zba))))
   (zea (zvb (zta zzd (pv 2) zja (zza _))
    (zea (zqa (i:=3) zef.nd rfl (.inl rfl) (zia (zdfb T kb).up hr rfl T.zzf.m T.zzf.F.kp (zcjb T) .nil zjd (zaa (pv 1) zba))))
    (zea (zvb (zta zzd (pv 2) zja (zza _))
     (zea (zqa (i:=3) zef.nd rfl (.inl rfl) (zia (zvx T kb).up hr rfl T.ztd.m T.ztd.F.kp (zyz T) .nil zjd (zaa (pv 1) zba))))
     (zea (zqa (i:=3) zef.nd rfl (.inl rfl) (zia (zeib T kb).up hr rfl T.zvh.m T.zvh.F.kp (zonb T) .nil zjd (zaa (pv 1) zba)))))))))
  (zca (zvc (zic (pv 1) T.zjb T.zcd.M (zvn T).up hr (zgp T) .nil zjd))
  (zea (zwa (pv 3))))))),?_⟩
 refine⟨_,rfl,?_⟩;intro x dx nx ndx nex;refine⟨x,dx,_,rfl,zfa,tl,λH1 W1 B1=>⟨rfl,?_⟩⟩;have S1:Same H H1:=λb o e=>B1 b o (zpa e nx) (by rw[zxa (zpa e nx),zxa (zpa e ndx)];exact e);have sb:∀{H2:Hp},But x H1 H2->Same H H2:=λB2 b o e=>B2 b o (zpa e nx) (S1 b o e);generalize yeb t " " = ws at *;obtain⟨dx1,l1,w1,w2⟩:=id W1;refine⟨_,rfl,x,dx1,_,rfl,w1,znd _ _ (by decide +kernel) (by decide +kernel),x,T.ziz,ws,0,sorts,rfl,W1,yrb _,ok,by decide,.inl T.zkcb,λa H2 ha hma hra hja W2 B2=>?_,λz H2 B2=>qe (by unfold zpd;rw[z];rfl) H2 (sb B2)⟩
 try dsimp only[zny]
 have e1:zpd ws=(if a = "hold" then zfm ws 1 else if a = "when" then zvk ws 1 else if a = "instead" then zid ws 1 else zat ws 1).bind λr=>if r.2=ws.length then some r.1 else none:=by
  unfold zpd;rw[hra];rfl
 generalize hRR:(if a = "hold" then zfm ws 1 else if a = "when" then zvk ws 1 else if a = "instead" then zid ws 1 else zat ws 1)=RR at e1;have no:RR=none->zpd ws=none:=λz=>by rw[e1,z];rfl
 refine zfxb (fun σ' H'=>Ex3 λ(r:Rule) (j:Nat) v=>σ'=[some (.str t),some (.ref x),some (.str a),some v]∧RR=some (r,j)∧j≤ws.length∧WAt T.zfc H' x ws j∧But x H1 H'∧zth T.zyb H' v r) ?_ ?_
 ·rintro σ' H3 ⟨r,j,v,rfl,er,hj,W3,B3,IR⟩;obtain⟨dx3,l3,w31,w32⟩:=id W3;refine⟨_,rfl,x,dx3,_,rfl,w31,znd _ _ (by decide +kernel) (by decide +kernel),x,ws,j,rfl,W3,hj,λej=>?_,λej=>qe (by rw[e1,er];exact if_neg (by show ¬ (j=ws.length);omega)) H3 (sb B3)⟩;exact⟨_,rfl,q r v H3 (by rw[e1,er];exact if_pos ej) (sb B3) IR⟩
 ·intro R hR;refine⟨_,rfl,rfl,_,rfl,?_⟩;refine ite2 (λc=>?_) (λc=>?_)
  ·have c':=of_decide_eq_true c;injection c' with c'
   rw[if_pos c'] at hRR;exact⟨_,rfl,x,ws,1,rfl,W2,hja,ok,λr j v H3 hr' hj W3 B3 IR=>hR _ _ ⟨r,j,v,rfl,by rw[← hRR];exact hr',hj,W3,B2.trans B3,IR⟩,λz H3 B3=>qe (no (by rw[← hRR];exact z)) H3 (sb (B2.trans B3))⟩
  rw[if_neg (λz=>c (by rw[z];exact decide_eq_true rfl))] at hRR;refine⟨_,rfl,rfl,_,rfl,?_⟩;refine ite2 (λc=>?_) (λc=>?_)
  ·have c':=of_decide_eq_true c;injection c' with c'
   rw[if_pos c'] at hRR;exact⟨_,rfl,x,ws,1,rfl,W2,hja,ok,λr j v H3 hr' hj W3 B3 IR=>hR _ _ ⟨r,j,v,rfl,by rw[← hRR];exact hr',hj,W3,B2.trans B3,IR⟩,λz H3 B3=>qe (no (by rw[← hRR];exact z)) H3 (sb (B2.trans B3))⟩
  rw[if_neg (λz=>c (by rw[z];exact decide_eq_true rfl))] at hRR;refine⟨_,rfl,rfl,_,rfl,?_⟩;refine ite2 (λc=>?_) (λc=>?_)
  ·have c':=of_decide_eq_true c;injection c' with c'
   rw[if_pos c'] at hRR;exact⟨_,rfl,x,ws,1,rfl,W2,hja,ok,λr j v H3 hr' hj W3 B3 IR=>hR _ _ ⟨r,j,v,rfl,by rw[← hRR];exact hr',hj,W3,B2.trans B3,IR⟩,λz H3 B3=>qe (no (by rw[← hRR];exact z)) H3 (sb (B2.trans B3))⟩
  rw[if_neg (λz=>c (by rw[z];exact decide_eq_true rfl))] at hRR;exact⟨_,rfl,x,ws,1,rfl,W2,hja,ok,λr j v H3 hr' hj W3 B3 IR=>hR _ _ ⟨r,j,v,rfl,by rw[← hRR];exact hr',hj,W3,B2.trans B3,IR⟩,λz H3 B3=>qe (no (by rw[← hRR];exact z)) H3 (sb (B2.trans B3))⟩
def cc (t:Str):Nat:=t.cps.toList.count 44
theorem cpsA (a b:Str):(a++b).cps.toList=a.cps.toList++b.cps.toList:=by
 show (a.cps++b.cps).toList=_
 simp
theorem zarb (a b:Str):cc (a++b)=cc a+cc b:=by
 unfold cc;rw[cpsA,List.count_append]
def cct (ws:List Str):Nat:=(ws.map cc).sum
theorem zzqb (a b:List Str):cct (a++b)=cct a+cct b:=by
 unfold cct;rw[yva,ywi]
theorem zzib (u:Str):cct [u]=cc u:=by
 unfold cct;simp
theorem zkt (s:Str):∀{ws:List Str},ws≠[]->cc (yfa s ws)+cc s=cct ws+ws.length*cc s
 | [],h=>absurd rfl h
 | [x],_=>by
  rw[zzib];show cc x+cc s=cc x+1*cc s
  omega
 | x::y::r,_=>by
  have ih:=zkt s (ws:=y::r) (by simp);have e:yfa s (x::y::r)=x++s++yfa s (y::r):=rfl;have e2:cct (x::y::r)=cc x+cct (y::r):=by
   rw[← zzib x,← zzqb];rfl
  rw[e,zarb,zarb,e2,yga,yfr];omega
theorem zulb (s:Str):∀{ws:List Str} {u:Str},u∈ws->u.cps.toList.Sublist (yfa s ws).cps.toList
 | [x],u,h=>by
  rw[yda.mp h];exact ydq _
 | x::y::r,u,h=>by
  have e:yfa s (x::y::r)=x++s++yfa s (y::r):=rfl;rw[e,cpsA,cpsA]
  rcases yia.mp h with h|h
  ·rw[h,yuc];exact ygm _ _
  ·exact (zulb s h).trans (List.sublist_append_right _ _)
theorem zeeb {t s u:Str}(h:u∈yeb t s):u.cps.toList.Sublist t.cps.toList:=by
 have z:=zulb s h;rw[show yfa s (yeb t s)=t from yue t s] at z;exact z
def Sm (t:Str)(L N:Nat):Prop:=t.length≤L∧(∀c∈t.cps.toList,c<256)∧cc t≤N
theorem len_list (t:Str):t.cps.toList.length=t.length:=by simp[yxn]
theorem Sm.sub {t u:Str}{L N:Nat}(h:Sm t L N)(s:u.cps.toList.Sublist t.cps.toList):Sm u L N:=by
 have z:=s.length_le;rw[len_list,len_list] at z;exact⟨yab z h.1,λc hc=>h.2.1 c (s.subset hc),yab (s.count_le 44) h.2.2⟩
theorem Sm.up {t:Str}{L M N O:Nat}(h:Sm t L N)(le:L≤M)(le':N≤O):Sm t M O:=⟨yab h.1 le,h.2.1,yab h.2.2 le'⟩
theorem Sm.app {a b:Str}{L M N O:Nat}(h:Sm a L N)(g:Sm b M O):Sm (a++b) (L+M) (N+O):=by
 refine⟨by rw[len_app];have:=h.1;have:=g.1;omega,λc hc=>?_,by rw[zarb];have:=h.2.2;have:=g.2.2;omega⟩;rw[cpsA] at hc
 rcases yua.mp hc with z|z
 ·exact h.2.1 c z
 ·exact g.2.1 c z
theorem zfmb:cc " " = 0:=by decide +kernel
theorem zew {c:Nat}(s:Str):∀{ws:List Str},c∈(yfa s ws).cps.toList->c∈s.cps.toList∨∃u∈ws,c∈u.cps.toList
 | [],h=>by cases h
 | [x],h=>.inr ⟨x,by simp,h⟩
 | x::y::r,h=>by
  have e:yfa s (x::y::r)=x++s++yfa s (y::r):=rfl;rw[e,cpsA,cpsA] at h
  rcases yua.mp h with h|h
  ·rcases yua.mp h with h|h
   ·exact .inr ⟨x,by simp,h⟩
   ·exact .inl h
  ·rcases zew s h with z|⟨u,hu,z⟩
   ·exact .inl z
   ·exact .inr ⟨u,yla _ hu,z⟩
theorem zdr {t s:Str}{L N:Nat}(h:Sm t L N):∀u∈yeb t s,Sm u L N:=λu hu=>h.sub (zeeb hu)
theorem Sm.wd {t:Str}{N:Nat}(h:Sm t 10000 N):WdOk t:=⟨h.1,h.2.1⟩
theorem Sm.wds {t s:Str}{N:Nat}(h:Sm t 10000 N):∀u∈yeb t s,WdOk u:=λu hu=>(zdr h u hu).wd
theorem zkub:cc "," = 1:=by decide +kernel
theorem commas {t:Str}{L N:Nat}(h:Sm t L N):(yeb t ",").length≤N+1:=by
 have z:=zkt "," (zer t ",");rw[show yfa "," (yeb t ",")=t from yue t ",",zkub] at z;have:=h.2.2;omega
def cfs (n:Str)(c f:Nat)(m t:Addr):List (Str×V):=[("name",.str n),("cost",.int c),("force",.int f),("marks",.ref m),("rules",.ref t)]
inductive IsRules (D:Addr)(H:Hp):List V->List Rule->Prop where
 | nil:IsRules D H [] []
 | cons {v:V} {r:Rule} {vs:List V} {rs:List Rule}:zth D H v r->IsRules D H vs rs->IsRules D H (v::vs) (r::rs)
theorem IsRules.same {D:Addr}{H H':Hp}(s:Same H H'):∀{vs:List V} {rs:List Rule},IsRules D H vs rs->IsRules D H' vs rs
 | _,_,.nil=>.nil
 | _,_,.cons h t=>.cons (h.same s) (t.same s)
theorem IsRules.snoc {D:Addr}{H:Hp}{v:V}{r:Rule}(h:zth D H v r):∀{vs:List V} {rs:List Rule},IsRules D H vs rs->IsRules D H (vs++[v]) (rs++[r])
 | _,_,.nil=>.cons h .nil
 | _,_,.cons h' t=>.cons h' (IsRules.snoc h t)
theorem IsRules.length {D:Addr}{H:Hp}:∀{vs:List V} {rs:List Rule},IsRules D H vs rs->vs.length=rs.length
 | _,_,.nil=>rfl
 | _,_,.cons _ t=>congrArg (· + 1) t.length
theorem IsRules.get {D:Addr}{H:Hp}:∀{vs:List V} {rs:List Rule} {i:Nat} {v:V},IsRules D H vs rs->vs[i]?=some v->∃r,rs[i]?=some r∧zth D H v r
 | _,_,0,_,.cons h _,e=>by cases e;exact⟨_,rfl,h⟩
 | _,_,i+1,_,.cons _ t,e=>t.get (i:=i) e
def zlj (B D:Addr)(H:Hp)(v:V)(c:Crd):Prop:=Ex5 λa dx m t vs=>v = .ref a∧H a=some (.ins B dx (cfs c.name c.cost c.force m t))∧H m=some (.tup (c.marks.map V.str))∧H t=some (.tup vs)∧IsRules D H vs c.rules
theorem zlj.same {B D:Addr}{H H':Hp}(s:Same H H'){v:V}{c:Crd}(h:zlj B D H v c):zlj B D H' v c:=by
 obtain⟨a,dx,m,t,vs,e,h1,h2,h3,h4⟩:=h;exact⟨a,dx,m,t,vs,e,s _ _ h1,s _ _ h2,s _ _ h3,h4.same s⟩
def zqmb (B:Addr):Sp:=λvs H Q _=>Ex7 λx dx m t (n:Str) (c f:Nat)=>vs=[.ref x,.str n,.int c,.int f,.ref m,.ref t]∧H x=some (.ins B dx [])∧Q .non (upd H x (.ins B dx (cfs n c f m t)))
theorem zjub (n:Str)(c f:V)(m t:Addr):putF "rules" (.ref t) (putF "marks" (.ref m) (putF "force" f (putF "cost" c (putF "name" (.str n) []))))=([("name",.str n),("cost",c),("force",f),("marks",.ref m),("rules",.ref t)]:List (Str×V)):=by
 repeat (first|rw[zbt]|rw[zom (by decide +kernel)])
theorem zmp {K:yba}{H:Hp}:∀xs:List Str,DVs K H (xs.map V.str) (xs.map .str)
 | []=>.nil
 | x::r=>.cons (.str x) (zmp r)
theorem zdyb (T:Tx K mg):FnOk P w K mg base CX0 2 T.zgd.f T.zgd.d znk (zqmb T.zve):=by
 refine T.zgd.ok zqv ?_;rintro f c A o s H vs Q E hr ⟨x,dx,m,t,n,c,f,rfl,hx,q⟩ X;refine⟨_,  (zca (zfk (pv 0) (pv 1) rfl)
  (zca (zfk (pv 0) (pv 2) rfl)
  (zca (zfk (pv 0) (pv 3) rfl)
  (zca (zfk (pv 0) (pv 4) rfl)
  (zea (zfk (pv 0) (pv 5) rfl)))))),?_⟩
 refine⟨_,rfl,_,rfl,x,_,dx,_,rfl,hx,T.zqe,T.zbi,(by show 0<1000;decide),?_⟩;refine⟨_,rfl,_,rfl,x,_,dx,_,rfl,zfa,T.zqe,T.zci,(by show 1<1000;decide),?_⟩;refine⟨_,rfl,_,rfl,x,_,dx,_,rfl,zfa,T.zqe,T.zyg,(by show 2<1000;decide),?_⟩;refine⟨_,rfl,_,rfl,x,_,dx,_,rfl,zfa,T.zqe,T.zlf,(by show 3<1000;decide),?_⟩;refine⟨_,rfl,_,rfl,x,_,dx,_,rfl,zfa,T.zqe,T.zkf,(by show 4<1000;decide),?_⟩;show Q .non _
 rw[zlm,zlm,zlm,zlm,zjub];exact q
theorem zplb {n:Str}(h:zkd n):yod (.str n)=true:=by
 rw[yod];unfold PyData.strOk;rw[← ysq,ymd];intro c hc;have:=(h.2.2 c hc).2;simp;omega
theorem zdw:∀xs:List Str,(∀x∈xs,yod (.str x)=true)->ypd (xs.map .str)=true
 | [],_=>by simp[ypd]
 | x::r,h=>by
  have h1:=h x ypa;have h2:=zdw r λy hy=>h y (yla _ hy);rw[ygb,ypd,h1,h2];rfl
theorem zps:∀xs:List Str,yfe (xs.map .str)=0
 | []=>by simp[yfe]
 | x::r=>by simp[yfe,ygg,zps r]
theorem zzt {ms:List Str}(h:∀m∈ms,zkd m):ycd (.list (ms.map .str))=true:=by
 unfold ycd;rw[yod,zdw ms (λx hx=>zplb (h x hx)),ygg,zps];rfl
theorem zlv:∀xs ys:List Str,yoe (xs.map .str) (ys.map .str)=decide (xs=ys)
 | [],[]=>by simp[yoe]
 | [],y::r=>by simp[yoe]
 | x::r,[]=>by simp[yoe]
 | x::r,y::q=>by
  rw[ygb,ygb,yoe,zlv r q,ywf]
  by_cases e:x=y
  ·subst e
   by_cases f:r=q
   ·subst f;simp
   ·simp[f]
  ·simp[e]
theorem zitb (xs:List Str):(SSet.dd xs).Nodup:=by
 have key:∀n,(SSet.dd (xs.take n)).Nodup:=by
  intro n
  induction n with
  | zero=>exact yql
  | succ n ih =>
   rw[yob];cases e:xs[n]? with
   | none=>rw[ydl,yfc];exact ih
   | some a =>
    show (SSet.dd (xs.take n++[a])).Nodup
    rw[SSet.zqy]
    split
    ·exact ih
    ·rename_i z;exact ymj.mpr ⟨ih,by simp,λx hx y hy e=>z (by rw[← yda.mp hy,← e];exact hx)⟩
 have:=key xs.length
 rwa [yxf] at this
theorem zedc (xs:List Str):(SSet.dd xs).length≤xs.length:=by
 have z:=SSet.zczb xs.length xs
 rwa [yxf] at z
theorem zddc (xs:List Str):∀m∈SSet.dd xs,m∈xs:=by
 have key:∀n,∀m∈SSet.dd (xs.take n),m∈xs:=by
  intro n
  induction n with
  | zero=>intro m hm;cases hm
  | succ n ih =>
   intro m hm;rw[yob] at hm;cases e:xs[n]? with
   | none=>rw[e,ydl,yfc] at hm;exact ih m hm
   | some a =>
    rw[e,yxc,SSet.zqy] at hm
    split at hm
    ·exact ih m hm
    ·rcases yua.mp hm with z|z
     ·exact ih m z
     ·rw[yda.mp z];exact ywa e
 have:=key xs.length
 rwa [yxf] at this
def zpg (u:Str):Option (List Str):=if u = "-" then some [] else if ((yeb u ",").map isName).all id=true∧(yeb u ",").Nodup∧yom (yeb u ",")=true then some (yeb u ",") else none
def ztrb (N:Addr):Sp:=λvs H Q E=>∃(u:Str),vs=[.str u]∧WdOk u∧(yeb u ",").length≤20∧(∀ms m H',zpg u=some ms->Same H H'->H' m=some (.tup (ms.map V.str))->Q (.ref m) H')∧(zpg u=none->∀H',Same H H'->E (.ref N) none H')
theorem zzbb (T:Tx K mg):FnOk P w K mg base (CX1 P w) 3 T.zye.f T.zye.d zgo (ztrb T.e_NoCard.c):=by
 refine T.zye.okx zjr ?_;rintro f c A o s H vs Q E hr ⟨u,rfl,wd,ml,q,qe⟩ X;refine⟨_,  (zca (zvb (zta zzd (pv 0) zja (zza _))
   (zea (zwa (zqb zba)))
   zya)
  (zca (zqa (i:=1) zjr.nd rfl (.inl rfl) (zjf ytb yjh ykh zbw (pv 0) (zaa zja zba)))
  (zca (zvb (zwj (zif (zma (zfdb rfl) rfl T.zgmb boot_all (zaa (zxc (own:=["mark"]) (cap:=[]) rfl (zeb.chk rfl rfl) .nil (zyd (pv 1)) (λ_ _ _ _=>(zfb (i:=0) (show ync (["mark"]:List Str) by decide +kernel) rfl (.inl rfl))) (λ_ _ _ _=>zuc) (λ_ _ _ _=>by exact (zia (zsab T) hr rfl T.zbh.m T.zbh.F.kp (zvgb T) .nil zdb (zaa (pv 0) zba)))) zba))))
   (zea (zse rfl rfl T.e_NoCard.m T.e_NoCard.q zxk (zzmb (pv 0) zja)))
   zya)
  (zca (zvb (zta (zzeb hr.units) (pv 1) (zma (zvy rfl) rfl T.zyq boot_sorted (zaa (zlb (zbdb rfl) rfl T.zmrb boot_set (zaa (pv 1) zba)) zba)) (zza _))
   (zea (zse rfl rfl T.e_NoCard.m T.e_NoCard.q zxk (zzmb (pv 0) zja)))
   zya)
  (zea (zwa (zlb zdc rfl T.zde yme (zaa (pv 1) zba)))))))),?_⟩
 refine⟨_,rfl,rfl,_,rfl,?_⟩;refine ite2 (λc=>?_) (λc=>?_)
 ·have c':=of_decide_eq_true c;injection c' with c'
  exact⟨sz0,λa ha=>q [] a _ (by unfold zpg;rw[if_pos c']) (zoa ha _) zfa⟩
 have nd:u ≠ "-":=λz=>c (by rw[z];exact decide_eq_true rfl);have e0:zpg u=if ((yeb u ",").map isName).all id=true∧(yeb u ",").Nodup∧yom (yeb u ",")=true then some (yeb u ",") else none:=by
  unfold zpg;rw[if_neg nd]
 refine⟨_,rfl,rfl,_,_,rfl,rfl,(by decide +kernel),(yab (yfo wd.1 2) (by decide)),λl hl=>?_⟩;have ok:∀m∈yeb u ",",m.length≤10000:=λm hm=>by
  have z:=(zeeb hm).length_le;rw[len_list,len_list] at z;exact yab z wd.1
 generalize yeb u "," = ms at *;have S1:=zoa hl (.lst (ms.map V.str));have e1:upd H l (.lst (ms.map V.str)) l=some (.lst (ms.map V.str)):=zfa;generalize upd H l (.lst (ms.map V.str))=H1 at *;refine⟨_,rfl,l,rfl,⟨_,SqL.of e1⟩,?_⟩;refine zbd (xs:=ms.map V.str) (λi ys H'=>Same H1 H'∧i≤ms.length∧ys=((ms.take i).map isName).map V.bl) (λi ys H' z=>SqL.of (z.1 _ _ e1)) ⟨Same.refl _,yrb _,rfl⟩ ?_ ?_ ?_
 ·rintro i ys H' ⟨_,_,rfl⟩;rw[yaa,yaa,yza];exact small (by omega)
 ·rintro i x ys H' hx ⟨S3,hi,rfl⟩;obtain⟨m,hmm,rfl⟩:∃m,ms[i]?=some m∧V.str m=x:=by
   rw[yhb] at hx;cases z:ms[i]? with
   | none=>rw[z] at hx;cases hx
   | some m=>rw[z] at hx;cases hx;exact⟨m,rfl,rfl⟩
  have hmem:=ywa hmm;refine⟨rfl,_,rfl,m,rfl,ok m hmem,λH4 S4=>⟨S3.trans S4,?_,?_⟩⟩
  ·exact (yma.mp hmm).1
  ·rw[yob,hmm,yva,yva];rfl
 ·rintro ys H2 ⟨S2,_,rfl⟩ b hb;rw[yaa,yxf];have S3:=zoa hb (.lst ((ms.map isName).map V.bl));refine⟨b,_,rfl,SqL.of zfa,_,rfl,?_⟩;have e3:=S3 _ _ (S2 _ _ e1);generalize upd H2 b (.lst ((ms.map isName).map V.bl))=H3 at *;cases al:(ms.map isName).all id with
  | false=>exact iteT ⟨_,rfl,u,rfl,wd.rp,_,rfl,(by decide +kernel),qe (by rw[e0,if_neg (λz=>by rw[al] at z;exact ylb z.1)]) H3 (S1.trans (S2.trans S3))⟩
  | true =>
  refine iteF ?_;have nm:∀m∈ms,zkd m:=λm hm=>zly (ymd.mp al _ (yrk hm));have dl:(SSet.dd ms).length<64:=yzo (zedc ms) (by omega);refine⟨_,rfl,_,rfl,l,ms,rfl,SqL.of e3,(by omega),λp hp=>?_⟩;have S4:∀o,Same H3 (upd H3 p o):=λo=>zoa hp o;refine⟨p,_,rfl,zfa,dl,λp2 ys hp2 py so=>?_⟩;have S5:=zoa hp2 (.lst (ys.map V.str));have ny:∀m∈ys,zkd m:=λm hm=>nm m (zddc ms m (py.mem_iff.mp hm));refine⟨.list (ms.map .str),.list (ys.map .str),.lst (SqL.of (S5 _ _ (S4 _ _ _ e3))) (zmp _),.lst (SqL.of zfa) (zmp _),zzt nm,zzt ny,_,rfl,?_⟩;have ev:ywf (.list (ms.map .str)) (.list (ys.map .str))=decide (ms=ys):=by
   rw[ywf,zlv]
  rw[ev]
  by_cases em:ms=ys
  ·rw[decide_eq_true em];refine iteF ?_;have dn:ms.Nodup:=(by rw[em];exact py.nodup_iff.mpr (zitb ms));refine⟨_,rfl,l,_,rfl,.inl ⟨SqL.of (S5 _ _ (S4 _ _ _ e3)),λt ht=>?_⟩⟩;exact q ms t _ (by rw[e0,if_pos ⟨al,dn,by rw[em];exact so⟩]) (λc o e=>zoa ht _ _ _ (S5 _ _ (S4 _ _ _ (S3 _ _ (S2 _ _ (S1 _ _ e)))))) zfa
  ·rw[decide_eq_false em];refine iteT ?_;exact⟨_,rfl,u,rfl,wd.rp,_,rfl,(by decide +kernel),qe (by rw[e0,if_neg (λz=>em (by rw[zfub z.2.1] at py;exact (zvhb py so z.2.2).symm))]) _ (λc o e=>S5 _ _ (S4 _ _ _ (S3 _ _ (S2 _ _ (S1 _ _ e)))))⟩
def NoTx (K:yba)(H:Hp)(v:V):Prop:=∃ty,TyOf K H v ty∧yna K ty (.type "str")=some false
def nameOf:Wv->Str
 | .name n=>n
 | _=>""
def zrh (ws:List Str):Option (Str×Nat×Nat×List Str):=(ztr ws 0).bind λa=>(zek ws 1).bind λb=>(zek ws 2).bind λc=>(ws[3]?).bind λu=>(zpg u).bind λms=>if ws.length=4 then some (nameOf a.1,numOf b.1,numOf c.1,ms) else none
def zld:List Str->Option (List Rule)
 | []=>some []
 | t::r=>(zpd (yeb t " ")).bind λx=>(zld r).map λy=>x::y
theorem zuu (t:Str):∀xs:List Str,zld (xs++[t])=(zld xs).bind λa=>(zpd (yeb t " ")).map λr=>a++[r]
 | []=>by
  show (zpd (yeb t " ")).bind _=_
  cases zpd (yeb t " ")<;>rfl
 | x::xs=>by
  show (zpd (yeb x " ")).bind (λz=>(zld (xs++[t])).map λy=>z::y)=_
  rw[zuu t xs];show _=((zpd (yeb x " ")).bind λz=>(zld xs).map λy=>z::y).bind _
  cases zpd (yeb x " ") with
  | none=>rfl
  | some z =>
   cases zld xs with
   | none=>rfl
   | some y=>cases zpd (yeb t " ")<;>rfl
theorem zpn {t:Str}(h:zpd (yeb t " ")=none):∀{ts:List Str},t∈ts->zld ts=none
 | x::r,m=>by
  show (zpd (yeb x " ")).bind (λz=>(zld r).map λy=>z::y)=_
  rcases yia.mp m with e|e
  ·rw[← e,h];rfl
  ·rw[zpn h e];cases zpd (yeb x " ")<;>rfl
theorem znx:∀{ts:List Str} {rs:List Rule},zld ts=some rs->rs.length=ts.length
 | [],rs,h=>by cases h;rfl
 | x::r,rs,h=>by
  have h':(zpd (yeb x " ")).bind (λz=>(zld r).map λy=>z::y)=some rs:=h;cases e:zpd (yeb x " ") with
  | none=>rw[e] at h';cases h'
  | some z =>
   rw[e] at h';have h2:(zld r).map (λy=>z::y)=some rs:=h';cases e2:zld r with
   | none=>rw[e2] at h2;cases h2
   | some y =>
    rw[e2] at h2;cases h2;rw[yga,yga,znx e2]
def zsh (t:Str):Option Crd:=if (yeb t " / ").length≤4 then (zrh (yeb ((yeb t " / ").headD "") " ")).bind λh=>(zld (yeb t " / ").tail).map λrs=>⟨h.1,h.2.1,h.2.2.1,h.2.2.2,rs⟩ else none
def zswb (K:yba)(B D N:Addr):Sp:=λvs H Q E=>∃v,vs=[v]∧((∃t,v = .str t∧Sm t 10000 19∧(∀(c:Crd) v H',zsh t=some c->Same H H'->zlj B D H' v c->Q v H')∧(zsh t=none->∀H',Same H H'->E (.ref N) none H'))∨(NoTx K H v∧E (.ref N) none H))
theorem zjfb (T:Tx K mg)(kb:K.In base):FnOk P w K mg base (CX1 P w) 10 T.zeg.f T.zeg.d zjq (zswb K T.zve T.zyb T.e_NoCard.c):=by
 refine T.zeg.okx zff ?_;rintro f c A o s H vs Q E hr ⟨v0,rfl,hv⟩ X;refine⟨_,  (zca (zvb (zwj (zif (zma zbc rfl T.zab yic (zaa (pv 0) (zaa (zpe (v:=.ty "str") rfl T.zvo ydi rfl) zba)))))
   (zea (zse rfl rfl T.e_NoCard.m T.e_NoCard.q zxk zja))
   zya)
  (zca (zqa (i:=1) zff.nd rfl (.inl rfl) (zjf ytb yjh ykh zbw (pv 0) (zaa zja zba)))
  (zca (zvb (zta zbfb (zma zra rfl T.zxd ykb (zaa (pv 1) zba)) (zub zlh zga (zqc (v:=.int 3) rfl T.zgl ⟨_,rfl⟩)) (zza _))
   (zea (zse rfl rfl T.e_NoCard.m T.e_NoCard.q zxk zja))
   zya)
  (zca (zqa (i:=2) zff.nd rfl (.inl rfl) (ztx T.zlc.M (zllb T).up hr rfl T.zpib (zdn T) .nil zdb (zaa (zmb zrb (pv 1) zga (λ_ _=>rfl)) zba)))
  (zca (zqa (i:=3) zff.nd rfl (.inl rfl) (zic (pv 2) T.zjb T.zsb.M (zte T).up hr (zrf T) .nil zjd))
  (zca (zqa (i:=4) zff.nd rfl (.inl rfl) (zic (pv 2) T.zjb T.zbb.M (zac T zaj).up hr (zgc T) .nil zjd))
  (zca (zqa (i:=5) zff.nd rfl (.inl rfl) (zic (pv 2) T.zjb T.zbb.M (zac T zaj).up hr (zgc T) .nil zjd))
  (zca (zqa (i:=6) zff.nd rfl (.inl rfl) (zia (zzbb T).up hr rfl T.zye.m T.zye.F.kp (zsgb T) .nil zjd (zaa (zic (pv 2) T.zjb T.zsc.M (znh T).up hr (zij T) .nil zjd) zba)))
  (zca (zvc (zic (pv 2) T.zjb T.zcd.M (zvn T).up hr (zgp T) .nil zjd))
  (zea (zwa (ztx T.zgd.M (zdyb T).up hr rfl T.zjvb (zdz T) .nil zdb (zaa (pv 3) (zaa (pv 4) (zaa (pv 5) (zaa (pv 6) (zaa (zlb zdc rfl T.zde yme (zaa (zglb (own:=["rule"]) (cap:=[]) rfl (zeb.chk rfl rfl) .nil (zyd (zni zxhb (pv 1) (zol zga) zpl)) (λ_ _ _ _ oB=>(zfb (i:=0) (show ync (["rule"]:List Str) by decide +kernel) rfl (.inl rfl))) (λ_ _ _ _ oB=>zuc) (λ_ _ _ _ oB=>by exact (zia (zifb T kb) hr rfl T.zdg.m T.zdg.F.kp (zgjb T) .nil (znbc oB) (zaa (pv 0) zba)))) zba)) zba))))))))))))))))),?_⟩
 rcases hv with⟨t,rfl,sm,q,qe⟩|⟨⟨ty,ht,hk⟩,qe⟩
 case inr =>
  refine⟨_,rfl,_,_,ty,false,rfl,ht,.inl ⟨"str",rfl,hk⟩,false,rfl,?_⟩;exact iteT qe
 refine⟨_,rfl,_,_,.type "str",true,rfl,TyOf.str _,.inl ⟨"str",rfl,rfl⟩,true,rfl,?_⟩;refine iteF ?_;have tl:=sm.1;have hpt:=zdr (s:=" / ") sm;obtain⟨hd,ps,es⟩:Ex2 λhd ps=>yeb t " / " = hd::ps:=by
  cases e:yeb t " / " with
  | nil=>exact absurd e (zer _ _)
  | cons a b=>exact⟨a,b,rfl⟩
 have rc:zsh t=if ps.length+1≤4 then (zrh (yeb hd " ")).bind λh=>(zld ps).map λrs=>⟨h.1,h.2.1,h.2.2.1,h.2.2.2,rs⟩ else none:=by
  unfold zsh;rw[es];rfl
 refine⟨_,rfl,rfl,_,_,rfl,rfl,(by decide +kernel),(by have:yxa=16777216:=rfl;omega),λl hl=>?_⟩;rw[es] at hpt ⊢;have S1:=zoa hl (.lst ((hd::ps).map V.str));have e1:upd H l (.lst ((hd::ps).map V.str)) l=some (.lst ((hd::ps).map V.str)):=zfa;generalize upd H l (.lst ((hd::ps).map V.str))=H1 at *;refine⟨_,rfl,l,_,rfl,.inl (SqL.of e1),_,_,rfl,rfl,_,_,rfl,rfl,_,rfl,?_⟩;refine ite2 (λz=>?_) (λz=>?_)
 ·have z':=of_decide_eq_true z;rw[yaa,yga] at z';exact qe (by rw[rc,if_neg (by omega)]) H1 S1
 have few:ps.length≤3:=by
  have z':¬ ((((hd::ps).map V.str).length:Int)>1+3):=λy=>z (decide_eq_true y);rw[yaa,yga] at z';omega
 rw[if_pos (by omega)] at rc;have smh:=hpt hd ypa;have wdh:=smh.wds (s:=" ");refine⟨_,rfl,l,_,_,_,rfl,rfl,SqL.of e1,zna (j:=0) rfl,?_⟩;intro x dx nx ndx nex;refine⟨x,dx,_,rfl,zfa,(yab smh.1 (by decide)),λH2 W2 B2=>⟨rfl,?_⟩⟩;have S2:Same H1 H2:=λb o e=>B2 b o (zpa e nx) (by rw[zxa (zpa e nx),zxa (zpa e ndx)];exact e);have sb:∀{H':Hp},But x H2 H'->Same H H':=λB' b o e=>B' b o (zpa (S1 _ _ e) nx) (S2 _ _ (S1 _ _ e));have hmk:∀u,(yeb hd " ")[3]?=some u->(yeb u ",").length≤20:=λu hu=>commas (zdr (s:=" ") smh u (ywa hu));generalize yeb hd " " = ws at *;have no:zrh ws=none->zsh t=none:=λz=>by rw[rc,z];rfl
 obtain⟨dx2,l2,at2,_⟩:=id W2;refine⟨_,rfl,x,dx2,_,rfl,at2,znd _ _ (by decide +kernel) (by decide +kernel),x,ws,0,rfl,W2,yrb _,wdh,λn H3 hn nm W3 B3=>?_,λz H3 B3=>qe (no (by unfold zrh;rw[show ztr ws 0=none from zqbb z];rfl)) H3 (sb B3)⟩;have r1:ztr ws 0=some (.name n,1):=zpeb hn nm;obtain⟨dx3,l3,at3,_⟩:=id W3;refine⟨_,rfl,x,dx3,_,rfl,at3,znd _ _ (by decide +kernel) (by decide +kernel),x,ws,1,rfl,W3,zdd hn,wdh,λi H4 hi i1 W4 B4=>?_,λz H4 B4=>qe (no (by unfold zrh;rw[r1];show (zek ws 1).bind _=_;rw[show zek ws 1=none from zop z];rfl)) H4 (sb (B3.trans B4))⟩;have r2:zek ws 1=some (.num i,2):=zsd i1 hi;obtain⟨dx4,l4,at4,_⟩:=id W4;refine⟨_,rfl,x,dx4,_,rfl,at4,znd _ _ (by decide +kernel) (by decide +kernel),x,ws,2,rfl,W4,zdd hi,wdh,λj H5 hj j1 W5 B5=>?_,λz H5 B5=>qe (no (by unfold zrh;rw[r1];show (zek ws 1).bind _=_;rw[r2];show (zek ws 2).bind _=_;rw[show zek ws 2=none from zop z];rfl)) H5 (sb ((B3.trans B4).trans B5))⟩;have r3:zek ws 2=some (.num j,3):=zsd j1 hj;have B25:=(B3.trans B4).trans B5;have hh:zrh ws=(ws[3]?).bind λu=>(zpg u).bind λms=>if ws.length=4 then some (n,i,j,ms) else none:=by
  unfold zrh;rw[r1];show (zek ws 1).bind _=_
  rw[r2];show (zek ws 2).bind _=_
  rw[r3];rfl
 obtain⟨dx5,l5,at5,_⟩:=id W5;refine⟨_,rfl,x,dx5,_,rfl,at5,znd _ _ (by decide +kernel) (by decide +kernel),x,ws,3,rfl,W5,zdd hj,λu H6 hu W6 B6=>?_,λz=>qe (no (by rw[hh,z];rfl)) H5 (sb B25)⟩;have B26:=B25.trans B6;refine⟨u,rfl,wdh u (ywa hu),hmk u hu,λms m H7 hm S7 em=>?_,λz H7 S7=>qe (no (by rw[hh,hu];show (zpg u).bind _=_;rw[z];rfl)) H7 ((sb B26).trans S7)⟩;have W7:=W6.at S7;obtain⟨dx7,l7,at7,_⟩:=id W7;have S07:=(sb B26).trans S7;refine⟨_,rfl,x,dx7,_,rfl,at7,znd _ _ (by decide +kernel) (by decide +kernel),x,ws,4,rfl,W7,zdd hu,λew=>?_,λew=>qe (no (by rw[hh,hu];show (zpg u).bind _=_;rw[hm];exact if_neg (by omega))) H7 S07⟩;have hh4:zrh ws=some (n,i,j,ms):=by
  rw[hh,hu];show (zpg u).bind _=_
  rw[hm];exact if_pos ew.symm
 rw[hh4] at rc;have rc':zsh t=(zld ps).map λrs=>⟨n,i,j,ms,rs⟩:=rc;have nlx:=zpa e1 nx;have e7:H7 l=some (.lst ((hd::ps).map V.str)):=S7 _ _ (B26 _ _ nlx (S2 _ _ e1));clear W2 W3 W4 W5 W6 at2 at3 at4 at5;refine⟨_,rfl,_,rfl,_,rfl,_,rfl,_,rfl,_,rfl,l,_,rfl,SqL.of e7,λs1 hs1=>?_⟩;have ct:cutV ((hd::ps).map V.str) (some (1:Int)) none=ps.map V.str:=by
  have:=zqs ((hd::ps).map V.str) 1;exact this
 rw[ct];have S8:=zoa hs1 (.lst (ps.map V.str));have e8:upd H7 s1 (.lst (ps.map V.str)) s1=some (.lst (ps.map V.str)):=zfa;generalize upd H7 s1 (.lst (ps.map V.str))=H8 at *;refine⟨s1,rfl,⟨_,SqL.of e8⟩,?_⟩;refine zbd (xs:=ps.map V.str) (λi ys H'=>Same H8 H'∧i≤ps.length∧∃rs,zld (ps.take i)=some rs∧IsRules T.zyb H' ys rs) (λi ys H' z=>SqL.of (z.1 _ _ e8)) ⟨Same.refl _,yrb _,[],rfl,.nil⟩ ?_ ?_ ?_
 ·rintro i ys H' ⟨_,hi,rs,er,R⟩;have z:=znx er;rw[yza] at z;rw[R.length];exact small (by omega)
 ·rintro i v ys H' hx ⟨S3,hi,rs,er,R⟩;obtain⟨r,hrr,rfl⟩:∃r,ps[i]?=some r∧V.str r=v:=by
   rw[yhb] at hx;cases z:ps[i]? with
   | none=>rw[z] at hx;cases hx
   | some m=>rw[z] at hx;cases hx;exact⟨m,rfl,rfl⟩
  have hmem:=ywa hrr;have smr:=hpt r (yla _ hmem);refine⟨rfl,_,rfl,r,rfl,(yab smr.1 (by decide)),smr.wds,λy u H9 hy S9 IR=>⟨S3.trans S9,?_,rs++[y],?_,IsRules.snoc IR (R.same S9)⟩,λz H9 S9=>qe (by rw[rc',zpn z hmem];rfl) H9 (S07.trans (S8.trans (S3.trans S9)))⟩
  ·exact (yma.mp hrr).1
  ·rw[yob,hrr,yxc,zuu,er];show (zpd (yeb r " ")).map _=_
   rw[hy];rfl
 ·rintro ys H9 ⟨S9,_,rs,er,R⟩ b hb;rw[yaa,yxf] at er;rw[er] at rc';refine⟨b,_,rfl,.inl ⟨SqL.of zfa,λt ht=>?_⟩⟩;have S10:=zoa hb (.lst ys);generalize upd H9 b (.lst ys)=H10 at *;have S11:=zoa ht (.tup ys);have e11:upd H10 t (.tup ys) t=some (.tup ys):=zfa;have Sall:Same H (upd H10 t (.tup ys)):=λb o e=>S11 _ _ (S10 _ _ (S9 _ _ (S8 _ _ (S07 _ _ e))));have em11:=S11 _ _ (S10 _ _ (S9 _ _ (S8 _ _ em)));have R11:=R.same (S10.trans S11);generalize upd H10 t (.tup ys)=H11 at *;intro y dy ny ndy ney;have S12:∀o,Same H11 (upd (upd (upd H11 dy (.own y)) y (.ins T.zve dy [])) y o):=λo b u e=>by
   rw[zlm,zxa (zpa e ny),zxa (zpa e ndy)];exact e
  refine⟨y,dy,m,t,n,i,j,rfl,zfa,rfl,?_⟩;exact q ⟨n,i,j,ms,rs⟩ _ _ rc' (Sall.trans (S12 _)) ⟨y,dy,m,t,ys,rfl,zfa,S12 _ _ _ em11,S12 _ _ _ e11,R11.same (S12 _)⟩
theorem zih {ss ws:List Str}{k j:Nat}{u:Str}(h:zwd ss ws k=some (u,j)):u∈ss∧j=k+1∧ws.drop k=u::ws.drop j:=by
 unfold zwd at h;obtain⟨x,e,h⟩:=ycb.mp h
 split at h
 ·rename_i m;cases h;exact⟨m,rfl,drop_cons e⟩
 ·cases h
theorem zoeb {ws:List Str}{k j:Nat}{y:Wh}(h:rdW ws k=some (y,j)):plain y∧ws.drop k=y.words++ws.drop j:=by
 unfold rdW at h;obtain⟨⟨fl,i⟩,e,h⟩:=ycb.mp h;obtain⟨y0,ok,hs,rfl,hd⟩:=zjpb e;have z:=zcbb y0 [];rw[yfc] at z;have h':(zjm y0.flat).head?.map (λy=>(y,i))=some (y,j):=h;rw[z] at h';cases h';exact⟨⟨ok,hs⟩,hd⟩
theorem zreb {ws:List Str}{k j:Nat}{v:Wv}(h:ztr ws k=some (v,j)):∃n,v = .name n∧zkd n∧ws.drop k=v.words++ws.drop j:=by
 obtain⟨n,rfl,ok,rfl,e⟩:=zrbb h;exact⟨n,rfl,ok,drop_cons e⟩
theorem zaw {ws:List Str}{k j:Nat}{v:Wv}(h:zek ws k=some (v,j)):∃i:Nat,v = .num i∧i<1000∧ws.drop k=v.words++ws.drop j:=by
 obtain⟨n,rfl,ok,rfl,e⟩:=zsr h;exact⟨n,rfl,ok,drop_cons e⟩
theorem mem2 {u a b:Str}(h:u∈([a,b]:List Str)):u=a∨u=b:=by simpa using h
theorem mem3 {u a b c:Str}(h:u∈([a,b,c]:List Str)):u=a∨u=b∨u=c:=by simpa using h
theorem zqsb {u:Str}{ws:List Str}{k j:Nat}{v:Wv}(hu:u∈zib)(h:zpp u ws k=some (v,j)):zym u v∧ws.drop k=v.words++ws.drop j:=by
 unfold zpp at h
 by_cases c:u = "leave"
 ·rw[if_pos c] at h;cases h;rw[c];exact⟨.leave,rfl⟩
 rw[if_neg c] at h
 by_cases c2:u∈(["gain","lack"]:List Str)
 ·rw[if_pos c2] at h;obtain⟨n,rfl,ok,hd⟩:=zreb h
  rcases mem2 c2 with e|e<;>rw[e]
  ·exact⟨.gain ok,hd⟩
  ·exact⟨.lack ok,hd⟩
 rw[if_neg c2] at h;obtain⟨n,rfl,ok,hd⟩:=zaw h;refine⟨?_,hd⟩;simp only[zib,yia,yvb,or_false] at hu
 rcases hu with e|e|e|e|e|e|e
 ·exact absurd e c
 ·rw[e];exact .hurt ok
 ·exact absurd (by rw[e];simp) c2
 ·exact absurd (by rw[e];simp) c2
 ·rw[e];exact .lose ok
 ·rw[e];exact .score ok
 ·rw[e];exact .draw ok
theorem zfpb {u:Str}{ws:List Str}{k j:Nat}{v:Wv}(hu:u∈(["none","here","less","more","as"]:List Str))(h:zwk u ws k=some (v,j)):TurnOk u v∧ws.drop k=v.words++ws.drop j:=by
 unfold zwk at h
 by_cases c:u∈(["less","more"]:List Str)
 ·rw[if_pos c] at h;obtain⟨n,rfl,ok,hd⟩:=zaw h
  rcases mem2 c with e|e<;>rw[e]
  ·exact⟨.less ok,hd⟩
  ·exact⟨.more ok,hd⟩
 rw[if_neg c] at h
 by_cases c2:u = "as"
 ·rw[if_pos c2] at h;obtain⟨⟨x,i⟩,e,h⟩:=ymb.mp h;cases h;obtain⟨m,_,hd⟩:=zih e;rw[c2];exact⟨.as m,hd⟩
 rw[if_neg c2] at h;cases h;refine⟨?_,rfl⟩;simp only[yia,yvb,or_false] at hu
 rcases hu with e|e|e|e|e
 ·rw[e];exact .none
 ·rw[e];exact .here
 ·exact absurd (by rw[e];simp) c
 ·exact absurd (by rw[e];simp) c
 ·exact absurd e c2
theorem zeob {k u:Str}(h:u∈turns k):u∈(["none","here","less","more","as"]:List Str):=by
 unfold turns at h
 split at h
 ·revert u;decide +kernel
 ·split at h
  ·revert u;decide +kernel
  ·split at h
   ·revert u;decide +kernel
   ·split at h
    ·revert u;decide +kernel
    ·revert u;decide +kernel
theorem zcib {u:Str}{ws:List Str}{k j:Nat}{v:Hv}(hu:u∈changes)(h:zqd u ws k=some (v,j)):zof u v∧ws.drop k=v.words++ws.drop j:=by
 unfold zqd at h
 by_cases c:u∈(["gain","lack"]:List Str)
 ·rw[if_pos c] at h;obtain⟨⟨x,i⟩,e,h⟩:=ymb.mp h;cases h;obtain⟨n,rfl,ok,hd⟩:=zreb e
  rcases mem2 c with e|e<;>rw[e]
  ·exact⟨.gain ok,hd⟩
  ·exact⟨.lack ok,hd⟩
 rw[if_neg c] at h
 by_cases c2:u∈(["be","more","less"]:List Str)
 ·rw[if_pos c2] at h;obtain⟨⟨x,i⟩,e,h⟩:=ymb.mp h;cases h;obtain⟨n,rfl,ok,hd⟩:=zaw e
  rcases mem3 c2 with e|e|e<;>rw[e]
  ·exact⟨.be ok,hd⟩
  ·exact⟨.more ok,hd⟩
  ·exact⟨.less ok,hd⟩
 rw[if_neg c2] at h
 by_cases c3:u = "per"
 ·rw[if_pos c3] at h;obtain⟨⟨x,i⟩,e,h⟩:=ymb.mp h;cases h;obtain⟨pl,hd⟩:=zoeb e;rw[c3];exact⟨.per pl,hd⟩
 rw[if_neg c3] at h;cases h;refine⟨?_,rfl⟩;simp only[changes,yia,yvb,or_false] at hu
 rcases hu with e|e|e|e|e|e|e|e
 ·rw[e];exact .mute
 ·rw[e];exact .steal
 ·exact absurd (by rw[e];simp) c
 ·exact absurd (by rw[e];simp) c
 ·exact absurd (by rw[e];simp) c2
 ·exact absurd (by rw[e];simp) c2
 ·exact absurd (by rw[e];simp) c2
 ·exact absurd e c3
theorem zteb {ws:List Str}{k j:Nat}{d:Deed}(h:zjh ws k=some (d,j)):d.ok∧ws.drop k=d.words++ws.drop j:=by
 unfold zjh at h;obtain⟨⟨a,i1⟩,e1,h⟩:=ycb.mp h;obtain⟨⟨b,i2⟩,e2,h⟩:=ycb.mp h;obtain⟨⟨c,i3⟩,e3,h⟩:=ycb.mp h;obtain⟨⟨y,i4⟩,e4,h⟩:=ymb.mp h;cases h;obtain⟨m1,_,d1⟩:=zih e1;obtain⟨m2,_,d2⟩:=zih e2;obtain⟨m3,d3⟩:=zqsb m2 e3;obtain⟨m4,d4⟩:=zoeb e4;refine⟨⟨m1,m3,m4⟩,?_⟩;rw[d1,d2,d3,d4];unfold Deed.words;simp
theorem zipb {ws:List Str}{r:Rule}(h:zpd ws=some r):r.ok∧r.words=ws:=by
 unfold zpd at h;obtain⟨⟨a,i0⟩,e0,h⟩:=ycb.mp h;obtain⟨⟨r',i⟩,e1,hfin⟩:=ycb.mp h;obtain⟨m0,rfl,d0⟩:=zih e0;rw[yxd] at d0;have hi:i=ws.length∧r'=r:=by
  have h3:(if i=ws.length then some r' else none)=some r:=hfin
  by_cases z:i=ws.length
  ·rw[if_pos z] at h3;exact⟨z,yub h3⟩
  ·rw[if_neg z] at h3;cases h3
 obtain⟨rfl,rfl⟩:=hi;have e1':(if a = "hold" then zfm ws 1 else if a = "when" then zvk ws 1 else if a = "instead" then zid ws 1 else zat ws 1)=some (r',ws.length):=e1
 by_cases c:a = "hold"
 ·rw[if_pos c] at e1';unfold zfm at e1';obtain⟨⟨x,i1⟩,f1,h⟩:=ycb.mp e1';obtain⟨⟨y,i2⟩,f2,h⟩:=ycb.mp h;obtain⟨⟨z,i3⟩,f3,h⟩:=ymb.mp h;injection h with h1 h2
  subst h1;have h2':i3=ws.length:=h2;obtain⟨m1,_,d1⟩:=zih f1;obtain⟨m2,d2⟩:=zcib m1 f2;obtain⟨m3,d3⟩:=zoeb f3;refine⟨⟨m2,m3⟩,?_⟩;rw[d0,c];show _=("hold":Str)::ws.drop 1
  rw[d1,d2,d3,h2',yzj,yfc];rfl
 rw[if_neg c] at e1'
 by_cases c:a = "when"
 ·rw[if_pos c] at e1';unfold zvk at e1';obtain⟨⟨x,i1⟩,f1,h⟩:=ycb.mp e1';obtain⟨⟨y,i2⟩,f2,h⟩:=ycb.mp h;obtain⟨⟨z,i3⟩,f3,h⟩:=ycb.mp h;obtain⟨⟨d,i4⟩,f4,h⟩:=ymb.mp h;injection h with h1 h2
  subst h1;have h2':i4=ws.length:=h2;obtain⟨m1,_,d1⟩:=zih f1;obtain⟨m2,d2⟩:=zoeb f2;obtain⟨m3,_,d3⟩:=zih f3;obtain⟨m4,d4⟩:=zteb f4;refine⟨⟨m1,m2,m4⟩,?_⟩;rw[d0,c];show _=("when":Str)::ws.drop 1
  rw[d1,d2,d3,d4,h2',yzj,yfc,yda.mp m3];rfl
 rw[if_neg c] at e1'
 by_cases c:a = "instead"
 ·rw[if_pos c] at e1';unfold zid at e1';obtain⟨⟨x,i1⟩,f1,h⟩:=ycb.mp e1';obtain⟨⟨y,i2⟩,f2,h⟩:=ycb.mp h;obtain⟨⟨z,i3⟩,f3,h⟩:=ycb.mp h;obtain⟨⟨t,i4⟩,f4,h⟩:=ycb.mp h;obtain⟨⟨v,i5⟩,f5,h⟩:=ymb.mp h;injection h with h1 h2
  subst h1;have h2':i5=ws.length:=h2;obtain⟨m1,_,d1⟩:=zih f1;obtain⟨m2,d2⟩:=zoeb f2;obtain⟨m3,_,d3⟩:=zih f3;obtain⟨m4,_,d4⟩:=zih f4;obtain⟨m5,d5⟩:=zfpb (zeob m4) f5;refine⟨⟨m1,m2,m4,m5⟩,?_⟩;rw[d0,c];show _=("instead":Str)::ws.drop 1
  rw[d1,d2,d3,d4,d5,h2',yzj,yfc,yda.mp m3];rfl
 rw[if_neg c] at e1';have ca:a = "may":=by
  simp only[sorts,yia,yvb,or_false] at m0
  rcases m0 with e|e|e|e
  ·exact absurd e (by assumption)
  ·exact absurd e (by assumption)
  ·exact absurd e (by assumption)
  ·exact e
 unfold zat at e1';obtain⟨⟨x,i1⟩,f1,h⟩:=ycb.mp e1';obtain⟨⟨y,i2⟩,f2,h⟩:=ycb.mp h;obtain⟨⟨d,i3⟩,f3,h⟩:=ymb.mp h;injection h with h1 h2
 subst h1;have h2':i3=ws.length:=h2;obtain⟨n,rfl,m1,d1⟩:=zaw f1;obtain⟨m2,_,d2⟩:=zih f2;obtain⟨m3,d3⟩:=zteb f3;refine⟨⟨m1,m3⟩,?_⟩;rw[d0,ca];show _=("may":Str)::ws.drop 1
 rw[d1,d2,d3,h2',yzj,yfc,yda.mp m2];rfl
theorem zwmb {u:Str}{ms:List Str}(hl:(yeb u ",").length≤20)(h:zpg u=some ms):Marks ms∧zce ms=u:=by
 unfold zpg at h
 by_cases c:u = "-"
 ·rw[if_pos c] at h;cases h;exact⟨⟨by simp,yql,rfl,by decide⟩,c.symm⟩
 rw[if_neg c] at h
 split at h
 ·rename_i z;cases h;refine⟨⟨λm hm=>zly (ymd.mp z.1 _ (yrk hm)),z.2.1,z.2.2,hl⟩,?_⟩;have e:yfa "," (yeb u ",")=u:=yue u ",";cases hs:yeb u "," with
  | nil=>exact absurd hs (zer _ _)
  | cons a b =>
   rw[hs] at e;exact e
 ·cases h
theorem zlpb {ws:List Str}{n:Str}{i j:Nat}{ms:List Str}(hl:∀u,ws[3]?=some u->(yeb u ",").length≤20)(h:zrh ws=some (n,i,j,ms)):zkd n∧i<1000∧j<1000∧Marks ms∧ws=[n,toString (i:Int),toString (j:Int),zce ms]:=by
 unfold zrh at h;obtain⟨⟨a,i1⟩,e1,h⟩:=ycb.mp h;obtain⟨⟨b,i2⟩,e2,h⟩:=ycb.mp h;obtain⟨⟨c,i3⟩,e3,h⟩:=ycb.mp h;obtain⟨u,e4,h⟩:=ycb.mp h;obtain⟨mm,e5,h⟩:=ycb.mp h
 split at h
 ·rename_i z;obtain⟨n1,rfl,k1,rfl,d1⟩:=zrbb e1;obtain⟨n2,rfl,k2,rfl,d2⟩:=zsr e2;obtain⟨n3,rfl,k3,rfl,d3⟩:=zsr e3;obtain⟨k5,d5⟩:=zwmb (hl u e4) e5;cases h;refine⟨k1,k2,k3,k5,?_⟩
  match ws,z,d1,d2,d3,e4 with
  | [w0,w1,w2,w3],_,d1,d2,d3,e4 =>
   cases d1;cases e4;have d2':w1=_:=yub d2;have d3':w2=_:=yub d3;rw[d2',d3',d5];rfl
 ·cases h
theorem zqab:∀{ts:List Str} {rs:List Rule},zld ts=some rs->(∀r∈rs,r.ok)∧ts=rs.map zcc
 | [],rs,h=>by
  cases h;exact⟨by simp,rfl⟩
 | x::r,rs,h=>by
  have h':(zpd (yeb x " ")).bind (λz=>(zld r).map λy=>z::y)=some rs:=h;obtain⟨z,e1,h2⟩:=ycb.mp h';obtain⟨y,e2,h3⟩:=ymb.mp h2;subst h3;obtain⟨o1,w1⟩:=zipb e1;obtain⟨o2,w2⟩:=zqab e2;refine⟨λq hq=>?_,?_⟩
  ·rcases yia.mp hq with e|e
   ·rw[e];exact o1
   ·exact o2 q e
  ·rw[ygb,← w2]
   congr 1
   unfold zcc;rw[w1];exact (yue x " ").symm
theorem zueb {t:Str}{c:Crd}(sm:Sm t 10000 19)(h:zsh t=some c):c.ok∧c.text=t:=by
 have hpt:=zdr (s:=" / ") sm;have ej:yfa " / " (yeb t " / ")=t:=yue t " / ";unfold zsh at h
 split at h
 ·rename_i z;obtain⟨⟨n,i,j,ms⟩,e1,h⟩:=ycb.mp h;obtain⟨rs,e2,h⟩:=ymb.mp h;subst h;cases es:yeb t " / " with
  | nil=>exact absurd es (zer _ _)
  | cons hd ps =>
   rw[es] at e1 e2 z ej hpt;have smh:=hpt hd ypa;obtain⟨k1,k2,k3,k4,k5⟩:=zlpb (λu hu=>commas (zdr (s:=" ") smh u (ywa hu))) e1;obtain⟨o2,w2⟩:=zqab e2;have w2':ps=rs.map zcc:=w2;refine⟨⟨k1,k2,k3,k4,o2,?_⟩,?_⟩
   ·have:ps.length=rs.length:=by rw[w2',yaa]
    rw[yga] at z;show rs.length≤3
    omega
   ·show yfa " / " (yfa " " [n,toString (i:Int),toString (j:Int),zce ms]::rs.map zcc)=t;rw[← k5,← w2'];have k6:yfa " " (yeb hd " ")=hd:=yue hd " ";show yfa " / " (yfa " " (yeb hd " ")::ps)=t
    rw[k6];exact ej
 ·cases h
section
variable {ws rest:List Str}{k:Nat}
theorem zgh {ss:List Str}{u:Str}(m:u∈ss)(h:ws.drop k=u::rest):zwd ss ws k=some (u,k+1):=by
 unfold zwd;rw[(zad h).1];exact if_pos m
theorem zneb {y:Wh}(p:plain y)(h:ws.drop k=y.words++rest):rdW ws k=some (y,k+y.words.length):=zdvb (zlsb p.1 p.2 h)
theorem zqn {n:Str}(o:zkd n)(h:ws.drop k=n::rest):ztr ws k=some (.name n,k+1):=zpeb (zad h).1 (ztp o)
theorem zxf {i:Nat}(o:i<1000)(h:ws.drop k=(toString (i:Int):Str)::rest):zek ws k=some (.num i,k+1):=zsd o (zad h).1
theorem zpsb {u:Str}{v:Wv}(a:zym u v)(h:ws.drop k=v.words++rest):zpp u ws k=some (v,k+v.words.length):=by
 unfold zpp;cases a with
 | leave=>rw[if_pos rfl];rfl
 | gain o=>rw[if_neg (by decide +kernel),if_pos (by decide +kernel)];exact zqn o h
 | lack o=>rw[if_neg (by decide +kernel),if_pos (by decide +kernel)];exact zqn o h
 | hurt o=>rw[if_neg (by decide +kernel),if_neg (by decide +kernel)];exact zxf o h
 | lose o=>rw[if_neg (by decide +kernel),if_neg (by decide +kernel)];exact zxf o h
 | score o=>rw[if_neg (by decide +kernel),if_neg (by decide +kernel)];exact zxf o h
 | draw o=>rw[if_neg (by decide +kernel),if_neg (by decide +kernel)];exact zxf o h
theorem zepb {u:Str}{v:Wv}(a:TurnOk u v)(h:ws.drop k=v.words++rest):zwk u ws k=some (v,k+v.words.length):=by
 unfold zwk;cases a with
 | none=>rw[if_neg (by decide +kernel),if_neg (by decide +kernel)];rfl
 | here=>rw[if_neg (by decide +kernel),if_neg (by decide +kernel)];rfl
 | less o=>rw[if_pos (by decide +kernel)];exact zxf o h
 | more o=>rw[if_pos (by decide +kernel)];exact zxf o h
 | as o=>rw[if_neg (by decide +kernel),if_pos rfl,zgh o h];rfl
theorem zbib {u:Str}{v:Hv}(a:zof u v)(h:ws.drop k=v.words++rest):zqd u ws k=some (v,k+v.words.length):=by
 unfold zqd;cases a with
 | mute=>rw[if_neg (by decide +kernel),if_neg (by decide +kernel),if_neg (by decide +kernel)];rfl
 | steal=>rw[if_neg (by decide +kernel),if_neg (by decide +kernel),if_neg (by decide +kernel)];rfl
 | gain o=>rw[if_pos (by decide +kernel),zqn o h];rfl
 | lack o=>rw[if_pos (by decide +kernel),zqn o h];rfl
 | be o=>rw[if_neg (by decide +kernel),if_pos (by decide +kernel),zxf o h];rfl
 | more o=>rw[if_neg (by decide +kernel),if_pos (by decide +kernel),zxf o h];rfl
 | less o=>rw[if_neg (by decide +kernel),if_pos (by decide +kernel),zxf o h];rfl
 | per o=>rw[if_neg (by decide +kernel),if_neg (by decide +kernel),if_pos rfl,zneb o h];rfl
theorem zseb {d:Deed}(ok:d.ok)(h:ws.drop k=d.words++rest):zjh ws k=some (d,k+d.words.length):=by
 have h1:ws.drop k=d.each::(d.kind::(d.amt.words++(d.whom.words++rest))):=by rw[h];unfold Deed.words;simp
 have h2:=(zad h1).2;have h3:=(zad h2).2;have h4:=zns h3;unfold zjh;rw[zgh ok.each h1];show (zwd zib ws (k+1)).bind _=_
 rw[zgh ok.amt.kind h2];show (zpp d.kind ws (k+1+1)).bind _=_
 rw[zpsb ok.amt h3];show (rdW ws (k+1+1+d.amt.words.length)).map _=_
 rw[zneb ok.whom h4];show some (_,_)=_
 unfold Deed.words;simp only[yga,yha]
 congr 2
 omega
end
theorem zqeb {r:Rule}(ok:r.ok)(rest:List Str):zpd (r.words++rest)=if r.words.length=(r.words++rest).length then some r else none:=by
 have key:∀{a:Str} {ws:List Str} {R:Option (Rule×Nat)},r.words++rest=a::ws->a∈sorts->R=(if a = "hold" then zfm (r.words++rest) 1 else if a = "when" then zvk (r.words++rest) 1 else if a = "instead" then zid (r.words++rest) 1 else zat (r.words++rest) 1)->R=some (r,r.words.length)->zpd (r.words++rest)=if r.words.length=(r.words++rest).length then some r else none:=λ{a ws R} h m e1 e2=>by
  unfold zpd;rw[zgh (k:=0) m (by rw[yxd];exact h)];show (if a = "hold" then zfm (r.words++rest) 1 else if a = "when" then zvk (r.words++rest) 1 else if a = "instead" then zid (r.words++rest) 1 else zat (r.words++rest) 1).bind _=_
  rw[← e1,e2];rfl
 cases r with
 | hold w v y =>
  refine key rfl (by decide +kernel) (if_pos rfl).symm ?_;obtain⟨o1,o2⟩:=ok;have h1:((Rule.hold w v y).words++rest).drop 1=w::(v.words++(y.words++rest)):=by simp only[Rule.words,yyd,yii,yxd,yuc]
  have h2:=(zad h1).2;have h3:=zns h2;unfold zfm;rw[zgh o1.word h1];show (zqd w _ (1+1)).bind _=_
  rw[zbib o1 h2];show (rdW _ (1+1+v.words.length)).map _=_
  rw[zneb o2 h3];show some (_,_)=_
  unfold Rule.words;simp only[yga,yha]
  congr 2
  omega
 | wen k y d =>
  refine key rfl (by decide +kernel) (by rw[if_neg (by decide +kernel),if_pos rfl]) ?_;obtain⟨o1,o2,o3⟩:=ok;have h1:((Rule.wen k y d).words++rest).drop 1=k::(y.words++(("do":Str)::(d.words++rest))):=by simp only[Rule.words,yyd,yii,yxd,yuc]
  have h2:=(zad h1).2;have h3:=zns h2;have h4:=(zad h3).2;unfold zvk;rw[zgh o1 h1];show (rdW _ (1+1)).bind _=_
  rw[zneb o2 h2];show (zwd ["do"] _ (1+1+y.words.length)).bind _=_
  rw[zgh (by simp) h3];show (zjh _ (1+1+y.words.length+1)).map _=_
  rw[zseb o3 h4];show some (_,_)=_
  unfold Rule.words;simp only[yga,yha]
  congr 2
  omega
 | instead k y w v =>
  refine key rfl (by decide +kernel) (by rw[if_neg (by decide +kernel),if_neg (by decide +kernel),if_pos rfl]) ?_;obtain⟨o1,o2,o3,o4⟩:=ok;have h1:((Rule.instead k y w v).words++rest).drop 1=k::(y.words++(("do":Str)::(w::(v.words++rest)))):=by simp only[Rule.words,yyd,yii,yxd,yuc]
  have h2:=(zad h1).2;have h3:=zns h2;have h4:=(zad h3).2;have h5:=(zad h4).2;unfold zid;rw[zgh o1 h1];show (rdW _ (1+1)).bind _=_
  rw[zneb o2 h2];show (zwd ["do"] _ (1+1+y.words.length)).bind _=_
  rw[zgh (by simp) h3];show (zwd (turns k) _ (1+1+y.words.length+1)).bind _=_
  rw[zgh o3 h4];show (zwk w _ (1+1+y.words.length+1+1)).map _=_
  rw[zepb o4 h5];show some (_,_)=_
  unfold Rule.words;simp only[yga,yha]
  congr 2
  omega
 | may c d =>
  refine key rfl (by decide +kernel) (by rw[if_neg (by decide +kernel),if_neg (by decide +kernel),if_neg (by decide +kernel)]) ?_;obtain⟨o1,o2⟩:=ok;have h1:((Rule.may c d).words++rest).drop 1=(toString (c:Int):Str)::(("do":Str)::(d.words++rest)):=by simp only[Rule.words,yyd,yii,yxd,yuc]
  have h2:=(zad h1).2;have h3:=(zad h2).2;unfold zat
  rw[zxf o1 h1];show (zwd ["do"] ((Rule.may c d).words++rest) (1+1)).bind (λb=>(zjh ((Rule.may c d).words++rest) b.2).map λx=>(Rule.may c x.1,x.2))=_
  rw[zgh (by simp) h2];show (zjh _ (1+1+1)).map _=_
  rw[zseb o2 h3];show some (_,_)=_
  unfold Rule.words;simp only[yga,yha]
  congr 2
  omega
theorem zgpb {r:Rule}(ok:r.ok):zpd r.words=some r:=by
 have z:=zqeb ok [];rw[yfc] at z;rw[z,if_pos rfl]
theorem zvmb {ms:List Str}(h:Marks ms):zpg (zce ms)=some ms:=by
 unfold zpg
 by_cases hne:ms=[]
 ·subst hne;exact if_pos rfl
 rw[if_neg (zwpb h hne)];have es:yeb (zce ms) "," = ms:=znib h hne;rw[es];refine if_pos ⟨?_,h.nd,h.so⟩;rw[ymd];intro x hx;obtain⟨m,hm,rfl⟩:=ysb.mp hx;exact ztp (h.ok m hm)
theorem zkpb {c:Crd}(h:c.ok):zrh c.head=some (c.name,c.cost,c.force,c.marks):=by
 unfold zrh;rw[zqn (k:=0) (ws:=c.head) (rest:=_) h.name rfl];show (zek c.head 1).bind _=_
 rw[zxf (k:=1) (ws:=c.head) (rest:=_) h.cost rfl];show (zek c.head 2).bind _=_
 rw[zxf (k:=2) (ws:=c.head) (rest:=_) h.force rfl];show (zpg (zce c.marks)).bind _=_
 rw[zvmb h.marks];show (if c.head.length=4 then some (c.name,c.cost,c.force,c.marks) else none)=_
 exact if_pos rfl
theorem zpab:∀{rs:List Rule},(∀r∈rs,r.ok)->zld (rs.map zcc)=some rs
 | [],_=>rfl
 | r::rs,h=>by
  have o:=h r ypa;have e:yeb (zcc r) " " = r.words:=zzj (c:=32) r.zjc (λu hu=>(Rule.zoe o u hu).1.1);show (zpd (yeb (zcc r) " ")).bind (λz=>(zld (rs.map zcc)).map λy=>z::y)=_
  rw[e,zgpb o,zpab λq hq=>h q (yla _ hq)];rfl
theorem zmpb {c:Crd}(h:c.ok):zsh c.text=some c:=by
 have es:yeb c.text " / " = yfa " " c.head::c.rules.map zcc:=Crd.split h;have eh:yeb (yfa " " c.head) " " = c.head:=Crd.zjnb h;unfold zsh;rw[es,if_pos (by rw[yga,yaa];have:=h.few;omega)];show (zrh (yeb (yfa " " c.head) " ")).bind _=_
 rw[eh,zkpb h];show (zld (c.rules.map zcc)).map _=_
 rw[zpab h.rules];rfl
theorem zudb (v:Wv):v.words.length≤1:=by cases v<;>simp[Wv.words]
theorem zwdb {y:Wh}(h:plain y):y.words.length≤18:=by
 have a:=y.zvdb;have b:=h.2;omega
theorem zpvb {u:Str}{v:Hv}(h:zof u v):v.words.length≤18:=by
 cases v with
 | v x=>exact yab (zudb x) (by decide)
 | w y =>
  cases h with
  | per h=>exact zwdb h
theorem zxcb {d:Deed}(h:d.ok):d.words.length≤21:=by
 have a:=zwdb h.whom;have b:=zudb d.amt;have e:d.words.length=d.amt.words.length+d.whom.words.length+1+1:=by
  show (d.each::d.kind::(d.amt.words++d.whom.words)).length=_
  rw[yga,yga,yha]
 omega
theorem zjsb {r:Rule}(h:r.ok):r.words.length≤50:=by
 cases r with
 | hold u v y =>
  have a:=zwdb h.2;have b:=zpvb h.1;show (("hold":Str)::u::(v.words++y.words)).length≤50
  rw[yga,yga,yha];omega
 | wen u y d =>
  have a:=zwdb h.2.1;have b:=zxcb h.2.2;show (("when":Str)::u::(y.words++("do":Str)::d.words)).length≤50
  rw[yga,yga,yha,yga];omega
 | instead u y t v =>
  have a:=zwdb h.2.1;have b:=zudb v;show (("instead":Str)::u::(y.words++("do":Str)::t::v.words)).length≤50
  rw[yga,yga,yha,yga,yga];omega
 | may c d =>
  have b:=zxcb h.2;show (("may":Str)::(toString (c:Int):Str)::("do":Str)::d.words).length≤50
  rw[yga,yga,yga];omega
theorem text_len {ws:List Str}(h:∀u∈ws,zjz u):(yfa " " ws).length≤9*ws.length:=by
 have a:=zbl " " ws;have c:=zyl (l:=ws.map (·.length)) (k:=8) (λx hx=>by
  obtain⟨u,hu,rfl⟩:=ysb.mp hx;exact (h u hu).2.2)
 rw[yaa] at c;have e:(" ":Str).length=1:=rfl;rw[e] at a;omega
theorem zqr {r:Rule}(h:r.ok):(zcc r).length≤450:=by
 have a:=text_len (ws:=r.words) (λu hu=>(Rule.zoe h u hu).1);have b:=zjsb h;show (yfa " " r.words).length≤450
 omega
theorem zshb {c:Crd}(h:c.ok):c.text.length≤2000:=by
 have a:=zbl SL (yfa " " c.head::c.rules.map zcc);have b:=Crd.zgw h;have s:=zyl (l:=(c.rules.map zcc).map (·.length)) (k:=450) (λx hx=>by
  obtain⟨t,ht,rfl⟩:=ysb.mp hx;obtain⟨r,hr,rfl⟩:=ysb.mp ht;exact zqr (h.rules r hr))
 have e:SL.length=3:=rfl;have f:=h.few;rw[ygb,ydd,yga,e] at a;rw[yaa,yaa] at s;rw[yaa] at a;show (yfa SL (yfa " " c.head::c.rules.map zcc)).length≤2000
 have:c.rules.length*450≤3*450:=ybk _ f;omega
theorem zqm (s:Str)(xs zs:List Str){ys:List Str}(h:ys≠[]):yfa s (xs++(yfa s ys::zs))=yfa s (xs++(ys++zs)):=by
 have e:=zky s (xss:=xs.map (λx=>[x])++(ys::zs.map λx=>[x])) (λx hx=>by
  rcases yua.mp hx with hx|hx
  ·obtain⟨y,_,rfl⟩:=ysb.mp hx;exact yib _ _
  ·rcases yia.mp hx with rfl|hx
   ·exact h
   ·obtain⟨y,_,rfl⟩:=ysb.mp hx;exact yib _ _)
 rw[yhi,ytc,zscb,zscb,yva,ygb,yud,yud] at e;have i:∀l:List Str,l.map (yfa s∘λx=>[x])=l:=λl=>by
  induction l with
  | nil=>rfl
  | cons x r ih=>rw[ygb,ih];rfl
 rw[i,i] at e;exact e
def SV (D:Addr)(H:Hp)(x:V)(ws:List Str):Prop :=
 (x = .non∧ws=[])∨(∃y,IsW D H x y∧plain y∧ws=[yfa " " y.words])∨(∃u,x = .str u∧ws=[u])∨(∃i:Nat,i<1000∧x = .int i∧ws=[(toString (i:Int):Str)])
theorem zvs {x:V}{u:Str}(hv:(x = .str u)∨∃i:Nat,i<1000∧x = .int i∧u=(toString (i:Int):Str))(H0:Hp)(Q':VK)(z:Q' (.str u) H0):rStrAny [x] H0 Q':=by
 unfold rStrAny
 rcases hv with e|⟨i,hi,e,rfl⟩
 ·exact .inl ⟨u,by rw[e],z⟩
 ·exact .inr ⟨i,by rw[e],(by rw[yve];exact zkk i hi),z⟩
def zvwb (D:Addr):Sp:=λvs H Q _=>Ex2 λx (ws:List Str)=>vs=[x]∧SV D H x ws∧∀p H',Same H H'->H' p=some (.lst (ws.map V.str))->Q (.ref p) H'
def zxwb (D:Addr):Sp:=λvs H Q _=>Ex2 λv (d:Deed)=>vs=[v]∧zjp D H v d∧d.ok∧∀H',Same H H'->Q (.str (yfa " " d.words)) H'
def zwwb (D:Addr):Sp:=λvs H Q _=>Ex2 λv (r:Rule)=>vs=[v]∧zth D H v r∧r.ok∧∀H',Same H H'->Q (.str (zcc r)) H'
def zywb (B D:Addr):Sp:=λvs H Q _=>Ex2 λv (c:Crd)=>vs=[v]∧zlj B D H v c∧c.ok∧∀H',Same H H'->Q (.str c.text) H'
theorem zyr (T:Tx K mg):FnOk P w K mg base CX0 12 T.zmd.f T.zmd.d zeo (zvwb T.zyb):=by
 refine T.zmd.ok zkbb ?_;rintro f c A o s H vs Q E hr ⟨x,ws,rfl,hv,q⟩ X;refine⟨_,  (zca (zvb (zta zklb (pv 0) zyk (zza _))
   (zea (zwa (zob zba)))
   zya)
  (zca (zvb (zif (zma zbc rfl T.zab yic (zaa (pv 0) (zaa (zqc (v:=.ref T.zyb) rfl T.zxpb rfl) zba))))
   (zea (zwa (zob (zaa (zic (pv 0) T.zrg T.ztb.M (zpo T 9) hr (zei T) .nil zdb) zba))))
   zya)
  (zea (zwa (zob (zaa (zlb zmf rfl T.zvo ydi (zaa (pv 0) zba)) zba)))))),?_⟩
 refine⟨_,rfl,rfl,_,rfl,?_⟩
 rcases hv with⟨rfl,rfl⟩|⟨y,W,pl,rfl⟩|⟨u,rfl,rfl⟩|⟨i,hi,rfl,rfl⟩
 ·exact iteT ⟨sz0,λl hl=>q l _ (zoa hl _) zfa⟩
 ·cases W with
  | @mk a dx t ps _ h1 h2 h3 =>
  refine iteF ⟨_,rfl,_,_,_,true,rfl,T.zyfb.ty T.zrg h1,.inr ⟨_,rfl,T.zyfb.self⟩,_,rfl,iteT ?_⟩;refine⟨_,rfl,a,dx,_,rfl,h1,zwab _ _ _ (by decide +kernel) (by decide +kernel) (by decide +kernel),.ref a,y,rfl,.mk h1 h2 h3,pl.1,(yab y.zos pl.2),pl.2,λH1 S1=>?_⟩;exact⟨sz1,λl hl=>q l _ (S1.trans (zoa hl _)) zfa⟩
 ·refine iteF ⟨_,rfl,_,_,_,false,rfl,TyOf.str _,.inr ⟨_,rfl,T.zyfb.sO⟩,_,rfl,iteF ?_⟩;refine⟨_,rfl,?_⟩;refine zvs (.inl rfl) _ _ ?_;exact⟨sz1,λl hl=>q l _ (zoa hl _) zfa⟩
 ·refine iteF ⟨_,rfl,_,_,_,false,rfl,TyOf.int _,.inr ⟨_,rfl,T.zyfb.iO⟩,_,rfl,iteF ?_⟩;refine⟨_,rfl,?_⟩;refine zvs (.inr ⟨i,hi,rfl,rfl⟩) _ _ ?_;exact⟨sz1,λl hl=>q l _ (zoa hl _) zfa⟩
theorem zln {ws:List Str}{s:Str}(hs:s.length≤3)(hn:ws.length≤60)(h:∀u∈ws,u.length≤2000):(ws.map (·.length)).sum+ws.length*s.length≤16777216:=by
 have c:=zyl (l:=ws.map (·.length)) (k:=2000) (λx hx=>by
  obtain⟨u,hu,rfl⟩:=ysb.mp hx;exact h u hu)
 rw[yaa] at c;have a:ws.length*2000≤60*2000:=ybk _ hn;have b:ws.length*s.length≤60*3:=Nat.mul_le_mul hn hs;omega
theorem znub {k:Str}{v:Wv}(h:zym k v)(n:k ≠ "leave"):∃u,v.words=[u]∧((amtV v = .str u)∨∃i:Nat,i<1000∧amtV v = .int i∧u=(toString (i:Int):Str)):=by
 cases h with
 | leave=>exact absurd rfl n
 | gain h=>exact⟨_,rfl,.inl rfl⟩
 | lack h=>exact⟨_,rfl,.inl rfl⟩
 | hurt h=>exact⟨_,rfl,.inr ⟨_,h,rfl,rfl⟩⟩
 | lose h=>exact⟨_,rfl,.inr ⟨_,h,rfl,rfl⟩⟩
 | score h=>exact⟨_,rfl,.inr ⟨_,h,rfl,rfl⟩⟩
 | draw h=>exact⟨_,rfl,.inr ⟨_,h,rfl,rfl⟩⟩
theorem zirb {k:Str}{v:Wv}(h:zym k v)(n:k = "leave"):v.words=[]:=by
 cases h with
 | leave=>rfl
 | _=>exact absurd n (by decide)
theorem zyu (T:Tx K mg):FnOk P w K mg base CX0 12 T.zge.f T.zge.d zfq (zxwb T.zyb):=by
 refine T.zge.ok zau ?_;rintro f c A o s H vs Q E hr ⟨x,d,rfl,⟨a,y,rfl,h1,W⟩,ok,q⟩ X;refine⟨_,  (zca (zqa (i:=1) zau.nd rfl (.inl rfl) (zflb (zta zzd (zmb zxb (pv 0) zga (λ_ _=>rfl)) zja (zza _)) (zob zba) (zob (zaa (zlb zmf rfl T.zvo ydi (zaa (zmb zxb (pv 0) zga (λ_ _=>rfl)) zba)) zba))))
  (zea (zwa (zjf ytb ygc yhc zqj zja (zaa (zub zbn (zub zbn (zob (zaa (zmb zxb (pv 0) zga (λ_ _=>rfl)) (zaa (zmb zxb (pv 0) zga (λ_ _=>rfl)) zba))) (pv 1)) (zob (zaa (zic (zmb zxb (pv 0) zga (λ_ _=>rfl)) T.zrg T.ztb.M (zpo T 9) hr (zei T) .nil zdb) zba))) zba))))),?_⟩
 refine⟨_,rfl,a,_,_,_,rfl,rfl,SqT.of h1,zna (j:=1) rfl,rfl,_,rfl,?_⟩;refine ite2 (λc=>?g1) (λc=>?g2)
 case' g1 =>
  have ek:d.kind = "leave":=by
   have c':=of_decide_eq_true c;injection c' with c'
  have ea:=zirb ok.amt ek;refine⟨sz0,λl hl=>?_⟩;have S1:=zoa hl (.lst []);have e1:upd H l (.lst []) l=some (.lst (d.amt.words.map V.str)):=by rw[ea];exact zfa
  generalize upd H l (.lst [])=H1 at *
 case' g2 =>
  have ek:d.kind ≠ "leave":=λz=>c (by rw[z];rfl);obtain⟨u,ea,hv⟩:=znub ok.amt ek;refine⟨_,rfl,a,_,_,_,rfl,rfl,SqT.of h1,zna (j:=2) rfl,?_⟩;refine zvs hv _ _ ?_;refine⟨sz1,λl hl=>?_⟩;have S1:=zoa hl (.lst [.str u]);have e1:upd H l (.lst [.str u]) l=some (.lst (d.amt.words.map V.str)):=by rw[ea];exact zfa
  generalize upd H l (.lst [.str u])=H1 at *
 all_goals
  refine⟨rfl,_,rfl,a,_,_,_,rfl,rfl,SqT.of (S1 _ _ h1),zna (j:=0) rfl,_,rfl,a,_,_,_,rfl,rfl,SqT.of (S1 _ _ h1),zna (j:=1) rfl,sz2,λl1 hl1=>?_⟩;have S2:=zoa hl1 (.lst [.str d.each,.str d.kind]);have e2:upd H1 l1 (.lst [.str d.each,.str d.kind]) l1=some (.lst [.str d.each,.str d.kind]):=zfa;generalize upd H1 l1 (.lst [.str d.each,.str d.kind])=H2 at *;have al:=zudb d.amt;refine⟨_,rfl,l1,l,_,_,rfl,rfl,e2,S2 _ _ e1,(by rw[yaa];exact small (by show 2+d.amt.words.length≤1000;omega)),λp hp=>?_⟩;have S3:=zoa hp (.lst ([.str d.each,.str d.kind]++d.amt.words.map V.str));have e3:upd H2 p (.lst ([.str d.each,.str d.kind]++d.amt.words.map V.str)) p=some (.lst ((d.each::d.kind::d.amt.words).map V.str)):=zfa;generalize upd H2 p (.lst ([.str d.each,.str d.kind]++d.amt.words.map V.str))=H3 at *;have S03:=S1.trans (S2.trans S3);refine⟨_,rfl,a,_,_,_,rfl,rfl,SqT.of (S03 _ _ h1),zna (j:=3) rfl,?_⟩;have W3:=W.same S03;obtain⟨y1,y2⟩:=ok.whom;cases W3 with
  | @mk a' dx t ps _ k1 k2 k3 =>
  refine⟨a',dx,_,rfl,k1,zwab _ _ _ (by decide +kernel) (by decide +kernel) (by decide +kernel),.ref a',d.whom,rfl,.mk k1 k2 k3,y1,(yab d.whom.zos y2),y2,λH4 S4=>?_⟩;refine⟨sz1,λl2 hl2=>?_⟩;have S5:=zoa hl2 (.lst [.str (yfa " " d.whom.words)]);have e5:upd H4 l2 (.lst [.str (yfa " " d.whom.words)]) l2=some (.lst [.str (yfa " " d.whom.words)]):=zfa;generalize upd H4 l2 (.lst [.str (yfa " " d.whom.words)])=H5 at *;refine⟨p,l2,_,_,rfl,rfl,S5 _ _ (S4 _ _ e3),e5,(by rw[yaa];exact small (by show d.amt.words.length+1+1+1≤1000;omega)),λp2 hp2=>?_⟩;refine⟨" ",p2,(d.each::d.kind::d.amt.words)++[yfa " " d.whom.words],rfl,rfl,SqL.of (by rw[zfa,yva];rfl),zln (by decide) ?_ ?_,?_⟩
  ·rw[yha];show d.amt.words.length+1+1+1≤60
   omega
  ·intro u hu
   rcases yua.mp hu with hu|hu
   ·have hw:u∈d.words:=by
     show u∈d.each::d.kind::(d.amt.words++d.whom.words)
     rcases yia.mp hu with rfl|hu
     ·exact ypa
     ·rcases yia.mp hu with rfl|hu
      ·exact yla _ ypa
      ·exact yla _ (yla _ (ywc _ hu))
    exact yab (Deed.zoe ok u hw).1.2.2 (by decide)
   ·rw[yda.mp hu];exact yab (zml y1 y2) (by decide)
  ·rw[zqm " " (d.each::d.kind::d.amt.words) [] d.whom.zjc,yfc];exact q _ ((S03.trans (S4.trans S5)).trans (zoa hp2 _))
def hvs:Hv->List Str
 | .v x=>x.words
 | .w y=>[yfa " " y.words]
theorem zowb {D:Addr}{H:Hp}{x:V}{u:Str}{v:Hv}(h:zof u v)(hv:HvAt D H x v):SV D H x (hvs v):=by
 cases h with
 | mute=>exact .inl ⟨hv,rfl⟩
 | steal=>exact .inl ⟨hv,rfl⟩
 | gain h=>exact .inr (.inr (.inl ⟨_,hv,rfl⟩))
 | lack h=>exact .inr (.inr (.inl ⟨_,hv,rfl⟩))
 | be h=>exact .inr (.inr (.inr ⟨_,h,hv,rfl⟩))
 | more h=>exact .inr (.inr (.inr ⟨_,h,hv,rfl⟩))
 | less h=>exact .inr (.inr (.inr ⟨_,h,hv,rfl⟩))
 | per h=>exact .inr (.inl ⟨_,hv,h,rfl⟩)
theorem znwb {D:Addr}{H:Hp}{u:Str}{v:Wv}(h:TurnOk u v):SV D H (valV v) v.words:=by
 cases h with
 | none=>exact .inl ⟨rfl,rfl⟩
 | here=>exact .inl ⟨rfl,rfl⟩
 | less h=>exact .inr (.inr (.inr ⟨_,h,rfl,rfl⟩))
 | more h=>exact .inr (.inr (.inr ⟨_,h,rfl,rfl⟩))
 | as h=>exact .inr (.inr (.inl ⟨_,rfl,rfl⟩))
theorem zqyb {u:Str}{v:Hv}(h:zof u v):(hvs v).length≤1∧∀z∈hvs v,z.length≤2000:=by
 cases h with
 | per h=>exact⟨yja _,λz hz=>by rw[yda.mp hz];exact yab (zml h.1 h.2) (by decide)⟩
 | mute=>exact⟨by decide,λz hz=>by cases hz⟩
 | steal=>exact⟨by decide,λz hz=>by cases hz⟩
 | gain h=>exact⟨yja _,λz hz=>by rw[yda.mp hz];exact yab h.2.1 (by decide)⟩
 | lack h=>exact⟨yja _,λz hz=>by rw[yda.mp hz];exact yab h.2.1 (by decide)⟩
 | be h=>exact⟨yja _,λz hz=>by rw[yda.mp hz];exact yab (zpm _ h).2 (by decide)⟩
 | more h=>exact⟨yja _,λz hz=>by rw[yda.mp hz];exact yab (zpm _ h).2 (by decide)⟩
 | less h=>exact⟨yja _,λz hz=>by rw[yda.mp hz];exact yab (zpm _ h).2 (by decide)⟩
theorem ziqb (u:Str)(v:Hv)(y:Wh):yfa " " ((("hold":Str)::u::hvs v)++[yfa " " y.words])=zcc (.hold u v y):=by
 rw[zqm " " _ [] y.zjc,yfc];cases v with
 | v x=>rfl
 | w z =>
  show yfa " " ([("hold":Str),u]++(yfa " " z.words::y.words))=_
  rw[zqm " " _ _ z.zjc];rfl
theorem zrqb (d:Deed):d.words≠[]:=yib _ _
theorem zskb (u:Str)(y:Wh)(d:Deed):yfa " " [("when":Str),u,yfa " " y.words,"do",yfa " " d.words]=zcc (.wen u y d):=by
 show yfa " " ([("when":Str),u]++(yfa " " y.words::[("do":Str),yfa " " d.words]))=_
 rw[zqm " " _ _ y.zjc];have e:[("when":Str),u]++(y.words++[("do":Str),yfa " " d.words])=([("when":Str),u]++(y.words++[("do":Str)]))++(yfa " " d.words::[]):=by simp
 rw[e,zqm " " _ _ (zrqb d)];unfold zcc Rule.words;simp
theorem zkv (u:Str)(y:Wh)(t:Str)(v:Wv):yfa " " ([("instead":Str),u,yfa " " y.words,"do",t]++v.words)=zcc (.instead u y t v):=by
 show yfa " " ([("instead":Str),u]++(yfa " " y.words::("do":Str)::t::v.words))=_
 rw[zqm " " _ _ y.zjc];rfl
theorem zltb (c:Nat)(d:Deed):yfa " " [("may":Str),(toString (c:Int):Str),"do",yfa " " d.words]=zcc (.may c d):=by
 show yfa " " ([("may":Str),(toString (c:Int):Str),"do"]++(yfa " " d.words::[]))=_
 rw[zqm " " _ _ (zrqb d),yfc];rfl
theorem zsqb {d:Deed}(h:d.ok):(yfa " " d.words).length≤2000:=by
 have a:=text_len (ws:=d.words) (λu hu=>(Deed.zoe h u hu).1);have b:=zxcb h;omega
theorem zkm {u:Str}(h:zvv u):u.length≤2000:=yab h.1.2.2 (by decide)
theorem zawb {y:Wh}(h:plain y):(yfa " " y.words).length≤2000:=yab (zml h.1 h.2) (by decide)
theorem zrl {l:List Str}(h:∀u∈l,u.length≤2000){x:Str}(hx:x.length≤2000):∀u∈x::l,u.length≤2000:=λu hu=>by
 rcases yia.mp hu with rfl|hu
 ·exact hx
 ·exact h u hu
theorem zolb:∀u∈([]:List Str),u.length≤2000:=λu hu=>by cases hu
theorem zffb (T:Tx K mg):FnOk P w K mg base CX0 13 T.zbg.f T.zbg.d zeq (zwwb T.zyb):=by
 refine T.zbg.ok zxi ?_;rintro f c A o s H vs Q E hr ⟨z,r,rfl,IR,ok,q⟩ X;refine⟨_,  (zca (zvb (zta zzd (zmb zxb (pv 0) zga (λ_ _=>rfl)) zja (zza _))
   (zea (zqa (i:=1) zxi.nd rfl (.inl rfl) (zub zbn (zub zbn (zob (zaa zja (zaa (zmb zxb (pv 0) zga (λ_ _=>rfl)) zba))) (zia (zyr T) hr rfl T.zmd.m T.zmd.F.kp (zov T) .nil zdb (zaa (zmb zxb (pv 0) zga (λ_ _=>rfl)) zba))) (zob (zaa (zic (zmb zxb (pv 0) zga (λ_ _=>rfl)) T.zrg T.ztb.M (zpo T 9).up hr (zei T) .nil zdb) zba)))))
   (zea (zvb (zta zzd (zmb zxb (pv 0) zga (λ_ _=>rfl)) zja (zza _))
    (zea (zqa (i:=1) zxi.nd rfl (.inl rfl) (zob (zaa zja (zaa (zmb zxb (pv 0) zga (λ_ _=>rfl)) (zaa (zic (zmb zxb (pv 0) zga (λ_ _=>rfl)) T.zrg T.ztb.M (zpo T 9).up hr (zei T) .nil zdb) (zaa zja (zaa (zia (zyu T) hr rfl T.zge.m T.zge.F.kp (zzy T) .nil zdb (zaa (zmb zxb (pv 0) zga (λ_ _=>rfl)) zba)) zba))))))))
    (zea (zvb (zta zzd (zmb zxb (pv 0) zga (λ_ _=>rfl)) zja (zza _))
     (zea (zqa (i:=1) zxi.nd rfl (.inl rfl) (zub zbn (zob (zaa zja (zaa (zmb zxb (pv 0) zga (λ_ _=>rfl)) (zaa (zic (zmb zxb (pv 0) zga (λ_ _=>rfl)) T.zrg T.ztb.M (zpo T 9).up hr (zei T) .nil zdb) (zaa zja (zaa (zmb zxb (pv 0) zga (λ_ _=>rfl)) zba)))))) (zia (zyr T) hr rfl T.zmd.m T.zmd.F.kp (zov T) .nil zdb (zaa (zmb zxb (pv 0) zga (λ_ _=>rfl)) zba)))))
     (zea (zqa (i:=1) zxi.nd rfl (.inl rfl) (zob (zaa zja (zaa (zlb zmf rfl T.zvo ydi (zaa (zmb zxb (pv 0) zga (λ_ _=>rfl)) zba)) (zaa zja (zaa (zia (zyu T) hr rfl T.zge.m T.zge.F.kp (zzy T) .nil zdb (zaa (zmb zxb (pv 0) zga (λ_ _=>rfl)) zba)) zba))))))))))))
  (zea (zwa (zjf ytb ygc yhc zqj zja (zaa (pv 1) zba))))),?_⟩
 cases r with
 | hold u v y =>
  obtain⟨a,x,o,rfl,h1,hv,W⟩:=IR;obtain⟨ok1,ok2⟩:=ok;have hl:=zqyb ok1;refine⟨_,rfl,a,_,_,_,rfl,rfl,SqT.of h1,zna (j:=0) rfl,rfl,_,rfl,iteT ?_⟩;refine⟨_,rfl,a,_,_,_,rfl,rfl,SqT.of h1,zna (j:=1) rfl,sz2,λl1 hl1=>?_⟩;have S1:=zoa hl1 (.lst [.str "hold",.str u]);have e1:upd H l1 (.lst [.str "hold",.str u]) l1=some (.lst [.str "hold",.str u]):=zfa;generalize upd H l1 (.lst [.str "hold",.str u])=H1 at *;refine⟨_,rfl,a,_,_,_,rfl,rfl,SqT.of (S1 _ _ h1),zna (j:=2) rfl,x,hvs v,rfl,zowb ok1 (hv.same S1),λp H2 S2 e2=>?_⟩;refine⟨l1,p,_,_,rfl,rfl,S2 _ _ e1,e2,(by rw[yaa];exact small (by show 2+(hvs v).length≤1000;omega)),λp3 hp3=>?_⟩;have S3:=zoa hp3 (.lst ([.str "hold",.str u]++(hvs v).map V.str));have e3:upd H2 p3 (.lst ([.str "hold",.str u]++(hvs v).map V.str)) p3=some (.lst ((("hold":Str)::u::hvs v).map V.str)):=zfa;generalize upd H2 p3 (.lst ([.str "hold",.str u]++(hvs v).map V.str))=H3 at *;have S03:=S1.trans (S2.trans S3);refine⟨_,rfl,a,_,_,_,rfl,rfl,SqT.of (S03 _ _ h1),zna (j:=3) rfl,?_⟩;have W3:=W.same S03;cases W3 with
  | @mk a' dx t ps _ k1 k2 k3 =>
  refine⟨a',dx,_,rfl,k1,zwab _ _ _ (by decide +kernel) (by decide +kernel) (by decide +kernel),.ref a',y,rfl,.mk k1 k2 k3,ok2.1,(yab y.zos ok2.2),ok2.2,λH4 S4=>?_⟩;refine⟨sz1,λl2 hl2=>?_⟩;have S5:=zoa hl2 (.lst [.str (yfa " " y.words)]);have e5:upd H4 l2 (.lst [.str (yfa " " y.words)]) l2=some (.lst [.str (yfa " " y.words)]):=zfa;generalize upd H4 l2 (.lst [.str (yfa " " y.words)])=H5 at *;refine⟨p3,l2,_,_,rfl,rfl,S5 _ _ (S4 _ _ e3),e5,(by rw[yaa];exact small (by show (hvs v).length+1+1+1≤1000;omega)),λp6 hp6=>?_⟩;refine⟨rfl,_,rfl," ",p6,(("hold":Str)::u::hvs v)++[yfa " " y.words],rfl,rfl,SqL.of (by rw[zfa,yva];rfl),zln (by decide) ?_ ?_,?_⟩
  ·rw[yha];show (hvs v).length+1+1+1≤60
   omega
  ·intro z hz
   rcases yua.mp hz with hz|hz
   ·exact zrl (zrl hl.2 (zkm (zrm (l:=changes) (by decide +kernel) ok1.word))) (by decide) z hz
   ·rw[yda.mp hz];exact zawb ok2
  ·rw[ziqb];exact q _ ((S03.trans (S4.trans S5)).trans (zoa hp6 _))
 | wen u y d =>
  obtain⟨a,x,o,rfl,h1,W,ID⟩:=IR;obtain⟨ok1,ok2,ok3⟩:=ok;refine⟨_,rfl,a,_,_,_,rfl,rfl,SqT.of h1,zna (j:=0) rfl,rfl,_,rfl,iteF ?_⟩;refine⟨_,rfl,a,_,_,_,rfl,rfl,SqT.of h1,zna (j:=0) rfl,rfl,_,rfl,iteT ?_⟩;refine⟨_,rfl,a,_,_,_,rfl,rfl,SqT.of h1,zna (j:=1) rfl,_,rfl,a,_,_,_,rfl,rfl,SqT.of h1,zna (j:=2) rfl,?_⟩;cases id W with
  | @mk a' dx t ps _ k1 k2 k3 =>
  refine⟨a',dx,_,rfl,k1,zwab _ _ _ (by decide +kernel) (by decide +kernel) (by decide +kernel),.ref a',y,rfl,.mk k1 k2 k3,ok2.1,(yab y.zos ok2.2),ok2.2,λH4 S4=>?_⟩;refine⟨_,rfl,a,_,_,_,rfl,rfl,SqT.of (S4 _ _ h1),zna (j:=3) rfl,o,d,rfl,ID.same S4,ok3,λH5 S5=>?_⟩;refine⟨sz5,λl hl=>?_⟩;refine⟨rfl,_,rfl," ",l,[("when":Str),u,yfa " " y.words,"do",yfa " " d.words],rfl,rfl,SqL.of zfa,zln (by decide) (by show 5≤60;decide) ?_,?_⟩
  ·exact zrl (zrl (zrl (zrl (zrl zolb (zsqb ok3)) (by decide)) (zawb ok2)) (zkm (zrm (l:=zch) (by decide +kernel) ok1))) (by decide)
  ·rw[zskb];exact q _ ((S4.trans S5).trans (zoa hl _))
 | instead u y t v =>
  obtain⟨a,x,rfl,h1,W⟩:=IR;obtain⟨ok1,ok2,ok3,ok4⟩:=ok;have vl:=zudb v;refine⟨_,rfl,a,_,_,_,rfl,rfl,SqT.of h1,zna (j:=0) rfl,rfl,_,rfl,iteF ?_⟩;refine⟨_,rfl,a,_,_,_,rfl,rfl,SqT.of h1,zna (j:=0) rfl,rfl,_,rfl,iteF ?_⟩;refine⟨_,rfl,a,_,_,_,rfl,rfl,SqT.of h1,zna (j:=0) rfl,rfl,_,rfl,iteT ?_⟩;refine⟨_,rfl,a,_,_,_,rfl,rfl,SqT.of h1,zna (j:=1) rfl,_,rfl,a,_,_,_,rfl,rfl,SqT.of h1,zna (j:=2) rfl,?_⟩;cases id W with
  | @mk a' dx b ps _ k1 k2 k3 =>
  refine⟨a',dx,_,rfl,k1,zwab _ _ _ (by decide +kernel) (by decide +kernel) (by decide +kernel),.ref a',y,rfl,.mk k1 k2 k3,ok2.1,(yab y.zos ok2.2),ok2.2,λH4 S4=>?_⟩;refine⟨_,rfl,a,_,_,_,rfl,rfl,SqT.of (S4 _ _ h1),zna (j:=3) rfl,sz5,λl hl=>?_⟩;have S5:=zoa hl (.lst [.str "instead",.str u,.str (yfa " " y.words),.str "do",.str t]);have e5:upd H4 l (.lst [.str "instead",.str u,.str (yfa " " y.words),.str "do",.str t]) l=some (.lst [.str "instead",.str u,.str (yfa " " y.words),.str "do",.str t]):=zfa;generalize upd H4 l (.lst [.str "instead",.str u,.str (yfa " " y.words),.str "do",.str t])=H5 at *;have h5:=S5 _ _ (S4 _ _ h1);refine⟨_,rfl,a,_,_,_,rfl,rfl,SqT.of h5,zna (j:=4) rfl,valV v,v.words,rfl,znwb ok4,λp H6 S6 e6=>?_⟩;refine⟨l,p,_,_,rfl,rfl,S6 _ _ e5,e6,(by rw[yaa];exact small (by show 5+v.words.length≤1000;omega)),λp7 hp7=>?_⟩;refine⟨rfl,_,rfl," ",p7,[("instead":Str),u,yfa " " y.words,"do",t]++v.words,rfl,rfl,SqL.of (by rw[zfa,yva];rfl),zln (by decide) ?_ ?_,?_⟩
  ·rw[yha];show 5+v.words.length≤60
   omega
  ·intro z hz
   rcases yua.mp hz with hz|hz
   ·exact zrl (zrl (zrl (zrl (zrl zolb (zkm ok4.word)) (by decide)) (zawb ok2)) (zkm (zrm (l:=zib) (by decide +kernel) ok1))) (by decide) z hz
   ·exact zkm (ok4.words z hz)
  ·rw[zkv];exact q _ ((S4.trans (S5.trans S6)).trans (zoa hp7 _))
 | may c d =>
  obtain⟨a,o,rfl,h1,ID⟩:=IR;obtain⟨ok1,ok2⟩:=ok;refine⟨_,rfl,a,_,_,_,rfl,rfl,SqT.of h1,zna (j:=0) rfl,rfl,_,rfl,iteF ?_⟩;refine⟨_,rfl,a,_,_,_,rfl,rfl,SqT.of h1,zna (j:=0) rfl,rfl,_,rfl,iteF ?_⟩;refine⟨_,rfl,a,_,_,_,rfl,rfl,SqT.of h1,zna (j:=0) rfl,rfl,_,rfl,iteF ?_⟩;refine⟨_,rfl,a,_,_,_,rfl,rfl,SqT.of h1,zna (j:=1) rfl,?_⟩;refine zvs (.inr ⟨c,ok1,rfl,rfl⟩) _ _ ?_;refine⟨_,rfl,a,_,_,_,rfl,rfl,SqT.of h1,zna (j:=2) rfl,o,d,rfl,ID,ok2,λH5 S5=>?_⟩;refine⟨sz4,λl hl=>?_⟩;refine⟨rfl,_,rfl," ",l,[("may":Str),(toString (c:Int):Str),"do",yfa " " d.words],rfl,rfl,SqL.of zfa,zln (by decide) (by show 4≤60;decide) ?_,?_⟩
  ·exact zrl (zrl (zrl (zrl zolb (zsqb ok2)) (by decide)) (zkm (zen ok1))) (by decide)
  ·rw[zltb];exact q _ (S5.trans (zoa hl _))
theorem zcmb (n:Str)(c f:Nat)(m t:Addr):(cfs n c f m t).lookup ("name":Str)=some (.str n):=zpi
theorem zdmb (n:Str)(c f:Nat)(m t:Addr):(cfs n c f m t).lookup ("cost":Str)=some (.int c):=(zkc (by decide +kernel)).trans zpi
theorem zegb (n:Str)(c f:Nat)(m t:Addr):(cfs n c f m t).lookup ("force":Str)=some (.int f):=(zkc (by decide +kernel)).trans ((zkc (by decide +kernel)).trans zpi)
theorem zuy (n:Str)(c f:Nat)(m t:Addr):(cfs n c f m t).lookup ("marks":Str)=some (.ref m):=(zkc (by decide +kernel)).trans ((zkc (by decide +kernel)).trans ((zkc (by decide +kernel)).trans zpi))
theorem zty (n:Str)(c f:Nat)(m t:Addr):(cfs n c f m t).lookup ("rules":Str)=some (.ref t):=(zkc (by decide +kernel)).trans ((zkc (by decide +kernel)).trans ((zkc (by decide +kernel)).trans ((zkc (by decide +kernel)).trans zpi)))
def zuhb:Sp:=λvs H Q _=>Ex2 λm (us:List Str)=>vs=[.ref m]∧H m=some (.tup (us.map V.str))∧Marks us∧Q (.str (zce us)) H
theorem zybb (T:Tx K mg):FnOk P w K mg base CX0 2 T.zxe.f T.zxe.d zfo zuhb:=by
 refine T.zxe.ok zlbb ?_;rintro f c A o s H vs Q E hr ⟨m,us,rfl,h2,ok,q⟩ X;refine⟨_,  (zea (zwa (zflb (zssb (pv 0) (λ_=>rfl)) (zjf ytb ygc yhc zqlb zja (zaa (pv 0) zba)) zja))),?_⟩;have ml:=ok.le;refine⟨_,rfl,_,.inr (.inl ⟨_,SqT.of h2,rfl⟩),?_⟩;refine ite2 (λb=>?_) (λb=>?_)
 ·have hne:us≠[]:=by
   intro z;rw[z] at b;cases b
  have em:yfa "," us=zce us:=by
   cases hc:us with
   | nil=>exact absurd hc hne
   | cons x r=>rfl
  refine⟨rfl,_,rfl,",",m,us,rfl,rfl,SqT.of h2,zln (by decide) (by omega) (λu hu=>yab (ok.ok u hu).2.1 (by decide)),?_⟩;rw[em];exact q
 ·have he:us=[]:=by
   cases hc:us with
   | nil=>rfl
   | cons x r=>rw[hc] at b;exact absurd rfl b
  have em:("-":Str)=zce us:=by rw[he];rfl
  rw[em];exact q
theorem zgfb (T:Tx K mg):FnOk P w K mg base CX0 14 T.zcg.f T.zcg.d zgq (zywb T.zve T.zyb):=by
 refine T.zcg.ok zbu ?_;rintro f c A o s H vs Q E hr ⟨z,c,rfl,⟨a,dx,m,t,vs,rfl,h1,h2,h3,R⟩,ok,q⟩ X;refine⟨_,  (zca (zqa (i:=1) zbu.nd rfl (.inl rfl) (zjf ytb ygc yhc zqj zja (zaa (zob (zaa (zsf (pv 0) rfl) (zaa (zlb zfj rfl T.zvo ydi (zaa (zsf (pv 0) rfl) zba)) (zaa (zlb zfj rfl T.zvo ydi (zaa (zsf (pv 0) rfl) zba)) (zaa (zia (zybb T).up hr rfl T.zxe.m T.zxe.F.kp (zrgb T) .nil zdb (zaa (zsf (pv 0) rfl) zba)) zba))))) zba)))
  (zea (zwa (zjf ytb ygc yhc zqj zja (zaa (zub zbn (zob (zaa (pv 1) zba)) (zxc (own:=["rule"]) (cap:=[]) rfl (zeb.chk rfl rfl) .nil (zveb (zsf (pv 0) rfl)) (λ_ _ _ _=>(zfb (i:=0) (show ync (["rule"]:List Str) by decide +kernel) rfl (.inl rfl))) (λ_ _ _ _=>zuc) (λ_ _ _ _=>by exact (zia (zffb T) hr rfl T.zbg.m T.zbg.F.kp (zejb T) .nil zdb (zaa (pv 0) zba))))) zba))))),?_⟩
 have ml:=ok.marks.le;refine⟨rfl,_,rfl,a,_,dx,_,_,rfl,h1,T.zqe,T.zbi,zcmb _ _ _ _ _,_,rfl,a,_,dx,_,_,rfl,h1,T.zqe,T.zci,zdmb _ _ _ _ _,_,rfl,(by rw[yve];exact zkk _ ok.cost),_,rfl,a,_,dx,_,_,rfl,h1,T.zqe,T.zyg,zegb _ _ _ _ _,_,rfl,(by rw[yve];exact zkk _ ok.force),_,rfl,a,_,dx,_,_,rfl,h1,T.zqe,T.zlf,zuy _ _ _ _ _,m,c.marks,rfl,h2,ok.marks,sz4,λl hl=>?_⟩;have S1:=zoa hl (.lst (c.head.map V.str));have e1:upd H l (.lst (c.head.map V.str)) l=some (.lst (c.head.map V.str)):=zfa;refine⟨" ",l,c.head,rfl,rfl,SqL.of zfa,zln (by decide) (by show 4≤60;decide) ?_,?_⟩
 ·exact zrl (zrl (zrl (zrl zolb (yab (zgm ok.marks).2 (by decide))) (zkm (zen ok.force))) (zkm (zen ok.cost))) (zkm (zav ok.name))
 change _;refine⟨rfl,_,rfl,sz1,λl2 hl2=>?_⟩;have S2:=zoa hl2 (.lst [.str (yfa " " c.head)]);have e2:=(zfa:upd (upd H l (.lst [.str c.name,.str (toString (c.cost:Int)),.str (toString (c.force:Int)),.str (zce c.marks)])) l2 (.lst [.str (yfa " " c.head)]) l2=some (.lst [.str (yfa " " c.head)]));have S02:Same H (upd (upd H l (.lst [.str c.name,.str (toString (c.cost:Int)),.str (toString (c.force:Int)),.str (zce c.marks)])) l2 (.lst [.str (yfa " " c.head)])):=S1.trans S2;clear e1 S2 S1;generalize (upd (upd H l (.lst [.str c.name,.str (toString (c.cost:Int)),.str (toString (c.force:Int)),.str (zce c.marks)])) l2 (.lst [.str (yfa " " c.head)]))=H2 at *;refine⟨_,rfl,a,_,dx,_,_,rfl,S02 _ _ h1,T.zqe,T.zkf,zty _ _ _ _ _,t,rfl,⟨_,SqT.of (S02 _ _ h3)⟩,?_⟩;refine zjw (xs:=vs) (λi ys H'=>Same H2 H'∧i≤vs.length∧ys=(c.rules.take i).map λr=>V.str (zcc r)) (λi ys H' z=>SqT.of (z.1 _ _ (S02 _ _ h3))) ⟨Same.refl _,yrb _,rfl⟩ ?_ ?_ ?_
 ·rintro i ys H' ⟨_,_,rfl⟩;rw[yaa,yza];have:=ok.few;exact small (by omega)
 ·rintro i x ys H' hx ⟨S3,hi,rfl⟩;obtain⟨r,hr',IR⟩:=R.get hx;refine⟨rfl,_,rfl,x,r,rfl,IR.same (S02.trans S3),ok.rules r (ywa hr'),λH4 S4=>⟨S3.trans S4,?_,?_⟩⟩
  ·exact (yma.mp hx).1
  ·rw[yob,hr',yva];rfl
 ·rintro ys H3 ⟨S3,_,rfl⟩ b3 hb3;have rl:=R.length;have few:=ok.few;rw[rl,yxf];have S4:=zoa hb3 (.lst (c.rules.map λr=>V.str (zcc r)));have e4:upd H3 b3 (.lst (c.rules.map λr=>V.str (zcc r))) b3=some (.lst (c.rules.map λr=>V.str (zcc r))):=zfa;generalize upd H3 b3 (.lst (c.rules.map λr=>V.str (zcc r)))=H4 at *;refine⟨l2,b3,_,_,rfl,rfl,S4 _ _ (S3 _ _ e2),e4,(by rw[yaa];exact small (by show 1+c.rules.length≤1000;omega)),λp hp=>?_⟩;refine⟨" / ",p,yfa " " c.head::c.rules.map zcc,rfl,rfl,SqL.of (by rw[zfa,ygb,yud];rfl),zln (by decide) ?_ ?_,?_⟩
  ·rw[yga,yaa];omega
  ·refine zrl (λu hu=>?_) (yab (Crd.zgw ok) (by decide));obtain⟨r,hr',rfl⟩:=ysb.mp hu;exact yab (zqr (ok.rules r hr')) (by decide)
  ·exact q _ (S02.trans (S3.trans (S4.trans (zoa hp _))))
structure C4 (c:Crd):Prop where
 name:zkd c.name
 cost:c.cost<1000
 force:c.force<1000
 marks:Marks c.marks
 rules:∀r∈c.rules,r.ok
 ml:c.marks.length≤4
def zts (u:Str):Prop:=∀c∈u.cps.toList,c<256∧c≠44
theorem zbv {n:Str}(h:zkd n):zts n:=λc hc=>by have:=h.2.2 c hc;omega
theorem zrp {i:Nat}(h:i<1000):zts (toString (i:Int):Str):=λc hc=>by have:=zxx i h c hc;omega
def zycc (u:Str):Bool:=u.cps.toList.all λc=>decide (c<256)&&decide (c≠44)
theorem zdl {u:Str}(h:zycc u=true):zts u:=λc hc=>by
 have z:=ymd.mp h c hc;rw[yjc] at z;exact⟨of_decide_eq_true z.1,of_decide_eq_true z.2⟩
theorem zgs {l:List Str}(h:l.all zycc=true){u:Str}(hu:u∈l):zts u:=zdl (ymd.mp h u hu)
theorem _root_.Wm.Wh.words_C {w:Wh}(h:w.ok):∀u∈w.words,zts u:=by
 induction w with
 | all=>intro u hu;exact zgs (l:=["all"]) (by decide +kernel) hu
 | self=>intro u hu;exact zgs (l:=["self"]) (by decide +kernel) hu
 | mine=>intro u hu;exact zgs (l:=["mine"]) (by decide +kernel) hu
 | mark n =>
  intro u hu
  rcases yia.mp hu with rfl|hu
  ·exact zdl (by decide +kernel)
  ·rw[yda.mp hu];exact zbv h
 | force i =>
  intro u hu
  rcases yia.mp hu with rfl|hu
  ·exact zdl (by decide +kernel)
  ·rw[yda.mp hu];exact zrp h
 | not a ih =>
  intro u hu
  rcases yia.mp hu with rfl|hu
  ·exact zdl (by decide +kernel)
  ·exact ih h u hu
 | both a b ia ib =>
  intro u hu
  rcases yia.mp hu with rfl|hu
  ·exact zdl (by decide +kernel)
  ·rcases yua.mp hu with hu|hu
   ·exact ia h.1 u hu
   ·exact ib h.2 u hu
 | any a b ia ib =>
  intro u hu
  rcases yia.mp hu with rfl|hu
  ·exact zdl (by decide +kernel)
  ·rcases yua.mp hu with hu|hu
   ·exact ia h.1 u hu
   ·exact ib h.2 u hu
theorem _root_.Wm.zym.words_C {k:Str}{v:Wv}(h:zym k v):∀u∈v.words,zts u:=by
 intro u hu;cases h with
 | leave=>cases hu
 | gain h=>rw[yda.mp hu];exact zbv h
 | lack h=>rw[yda.mp hu];exact zbv h
 | hurt h=>rw[yda.mp hu];exact zrp h
 | lose h=>rw[yda.mp hu];exact zrp h
 | score h=>rw[yda.mp hu];exact zrp h
 | draw h=>rw[yda.mp hu];exact zrp h
theorem _root_.Wm.TurnOk.words_C {k:Str}{v:Wv}(h:TurnOk k v):∀u∈v.words,zts u:=by
 intro u hu;cases h with
 | none=>cases hu
 | here=>cases hu
 | less h=>rw[yda.mp hu];exact zrp h
 | more h=>rw[yda.mp hu];exact zrp h
 | as h=>rw[yda.mp hu];exact zgs (l:=zzh) (by decide +kernel) h
theorem _root_.Wm.TurnOk.word_C {k:Str}{v:Wv}(h:TurnOk k v):zts k:=by cases h<;>exact zdl (by decide +kernel)
theorem _root_.Wm.zof.words_C {k:Str}{v:Hv}(h:zof k v):∀u∈v.words,zts u:=by
 intro u hu;cases h with
 | mute=>cases hu
 | steal=>cases hu
 | gain h=>rw[yda.mp hu];exact zbv h
 | lack h=>rw[yda.mp hu];exact zbv h
 | be h=>rw[yda.mp hu];exact zrp h
 | more h=>rw[yda.mp hu];exact zrp h
 | less h=>rw[yda.mp hu];exact zrp h
 | per h=>exact Wh.words_C h.1 u hu
theorem _root_.Wm.Deed.words_C {d:Deed}(h:d.ok):∀u∈d.words,zts u:=by
 intro u hu
 rcases yia.mp hu with rfl|hu
 ·exact zgs (l:=zmv) (by decide +kernel) h.each
 rcases yia.mp hu with rfl|hu
 ·exact zgs (l:=zib) (by decide +kernel) h.amt.kind
 rcases yua.mp hu with hu|hu
 ·exact h.amt.words_C u hu
 ·exact Wh.words_C h.whom.1 u hu
theorem _root_.Wm.Rule.words_C {r:Rule}(h:r.ok):∀u∈r.words,zts u:=by
 intro u hu;cases r with
 | hold w v y =>
  rcases yia.mp hu with rfl|hu
  ·exact zdl (by decide +kernel)
  rcases yia.mp hu with rfl|hu
  ·exact zgs (l:=changes) (by decide +kernel) h.1.word
  rcases yua.mp hu with hu|hu
  ·exact h.1.words_C u hu
  ·exact Wh.words_C h.2.1 u hu
 | wen k y d =>
  rcases yia.mp hu with rfl|hu
  ·exact zdl (by decide +kernel)
  rcases yia.mp hu with rfl|hu
  ·exact zgs (l:=zch) (by decide +kernel) h.1
  rcases yua.mp hu with hu|hu
  ·exact Wh.words_C h.2.1.1 u hu
  rcases yia.mp hu with rfl|hu
  ·exact zdl (by decide +kernel)
  ·exact Deed.words_C h.2.2 u hu
 | instead k y w v =>
  rcases yia.mp hu with rfl|hu
  ·exact zdl (by decide +kernel)
  rcases yia.mp hu with rfl|hu
  ·exact zgs (l:=zib) (by decide +kernel) h.1
  rcases yua.mp hu with hu|hu
  ·exact Wh.words_C h.2.1.1 u hu
  rcases yia.mp hu with rfl|hu
  ·exact zdl (by decide +kernel)
  rcases yia.mp hu with rfl|hu
  ·exact h.2.2.2.word_C
  ·exact h.2.2.2.words_C u hu
 | may c d =>
  rcases yia.mp hu with rfl|hu
  ·exact zdl (by decide +kernel)
  rcases yia.mp hu with rfl|hu
  ·exact zrp h.1
  rcases yia.mp hu with rfl|hu
  ·exact zdl (by decide +kernel)
  ·exact Deed.words_C h.2 u hu
theorem cz {u:Str}(h:zts u):cc u=0:=yjp.mpr λz=>(h 44 z).2 rfl
theorem czs:∀{ws:List Str},(∀u∈ws,zts u)->cct ws=0
 | [],_=>rfl
 | u::r,h=>by
  have e:cct (u::r)=cc u+cct r:=by
   rw[← zzib u,← zzqb];rfl
  rw[e,cz (h u ypa),czs λv hv=>h v (yla _ hv)]
theorem zcvb {r:Rule}(h:r.ok):zts (zcc r):=by
 have z:=zkt " " r.zjc;rw[zfmb,czs (Rule.words_C h)] at z;intro c hc;refine⟨?_,?_⟩
 ·rcases zew " " hc with y|⟨u,hu,y⟩
  ·have y':c∈[32]:=y;have e:c=32:=(by simpa using y');omega
  ·exact (Rule.words_C h u hu c y).1
 ·rintro rfl;have e:cc (zcc r)=0:=by
   show cc (yfa " " r.words)=0
   omega
  exact absurd hc (yjp.mp e)
theorem ziyb {ms:List Str}(h:Marks ms)(hl:ms.length≤4):Sm (zce ms) 200 3:=by
 refine⟨yab (zgm h).2 (by decide),λc hc=>?_,?_⟩
 ·by_cases e:ms=[]
  ·subst e;have hc':c∈[45]:=hc;have e2:c=45:=(by simpa using hc');omega
  ·have:=zzk h e c hc;omega
 ·cases ms with
  | nil=>decide +kernel
  | cons m r =>
   have z:=zkt CM (ws:=m::r) (by simp);rw[show cc CM=1 by decide +kernel,czs (λu hu=>zbv (h.ok u hu))] at z;show cc (yfa CM (m::r))≤3
   omega
theorem zpob {c:Crd}(h:C4 c)(hl:c.rules.length≤4):Sm c.text 3000 3:=by
 have ok0:(Crd.mk c.name c.cost c.force c.marks []).ok:=⟨h.name,h.cost,h.force,h.marks,by simp,by show 0≤3;decide⟩;have b0:=Crd.zgw ok0;have b:(yfa " " c.head).length≤300:=b0;have mk:=ziyb h.marks h.ml;have hh:cc (yfa " " c.head)≤3:=by
  have z:=zkt " " (ws:=c.head) (yib _ _);rw[zfmb] at z;have e:cct c.head=cc c.name+(cc (toString (c.cost:Int):Str)+(cc (toString (c.force:Int):Str)+(cc (zce c.marks)+0))):=rfl;rw[e,cz (zbv h.name),cz (zrp h.cost),cz (zrp h.force)] at z;have:=mk.2.2;omega
 refine⟨?_,λd hd=>?_,?_⟩
 ·have a:=zbl SL (yfa " " c.head::c.rules.map zcc);have s:=zyl (l:=(c.rules.map zcc).map (·.length)) (k:=450) (λx hx=>by
   obtain⟨t,ht,rfl⟩:=ysb.mp hx;obtain⟨r,hr,rfl⟩:=ysb.mp ht;exact zqr (h.rules r hr))
  have e:SL.length=3:=rfl;rw[ygb,ydd,yga,e] at a;rw[yaa,yaa] at s;rw[yaa] at a;show (yfa SL (yfa " " c.head::c.rules.map zcc)).length≤3000
  have:c.rules.length*450≤4*450:=ybk _ hl;omega
 ·rcases zew SL hd with y|⟨u,hu,y⟩
  ·have y':d∈[32,47,32]:=y;simp at y';omega
  ·rcases yia.mp hu with e|hu
   ·rw[e] at y
    rcases zew " " y with y|⟨u,hu,y⟩
    ·have y':d∈[32]:=y;have e:d=32:=(by simpa using y');omega
    ·simp only[Crd.head,yia,yvb,or_false] at hu
     rcases hu with e|e|e|e<;>rw[e] at y
     ·exact (zbv h.name d y).1
     ·exact (zrp h.cost d y).1
     ·exact (zrp h.force d y).1
     ·exact mk.2.1 d y
   ·obtain⟨r,hr,rfl⟩:=ysb.mp hu;exact (zcvb (h.rules r hr) d y).1
 ·have z:=zkt SL (ws:=yfa " " c.head::c.rules.map zcc) (yib _ _);rw[show cc SL=0 by decide +kernel] at z;have e:cct (yfa " " c.head::c.rules.map zcc)=cc (yfa " " c.head)+cct (c.rules.map zcc):=rfl;rw[e,czs (λu hu=>by
   obtain⟨r,hr,rfl⟩:=ysb.mp hu;exact zcvb (h.rules r hr))] at z
  show cc (yfa SL (yfa " " c.head::c.rules.map zcc))≤3
  omega
theorem C4.ok3 {c:Crd}(h:C4 c)(hl:c.rules.length≤3):c.ok:=⟨h.name,h.cost,h.force,h.marks,h.rules,hl⟩
theorem zsrb {c:Crd}(h:C4 c)(hl:c.rules.length≤3):Sm c.text 2000 3:=⟨zshb (h.ok3 hl),(zpob h (by omega)).2.1,(zpob h (by omega)).2.2⟩
theorem C4.of {c:Crd}(h:c.ok)(m:c.marks.length≤4):C4 c:=⟨h.name,h.cost,h.force,h.marks,h.rules,m⟩
theorem zzdb {c:Crd}(h:c.ok)(m:c.marks.length≤4):Sm c.text 2000 3:=zsrb (C4.of h m) h.few
theorem zcqb (s y z:Str)(xs:List Str):yfa s (xs++[y++z])=yfa s (xs++[y])++z:=by
 by_cases e:xs=[]
 ·subst e;rfl
 ·rw[zri s e (yib _ _),zri s e (yib _ _),ymc,ymc,ymc];rfl
theorem zmvb {ws:List Str}(h:ws≠[]):yfa " " ws ++ " x" = yfa " " (ws++[("x":Str)]):=by
 rw[zri " " h (yib _ _),ymc];rfl
theorem zxmb {ws:List Str}(h:ws.length≠4):zrh ws=none:=by
 unfold zrh;rw[yef];intro a _;rw[yef];intro b _;rw[yef];intro c _;rw[yef];intro u _;rw[yef];intro ms _;exact if_neg h
theorem zsub:(47:Nat)∉("x":Str).cps.toList:=by decide +kernel
theorem zrub:(32:Nat)∉("x":Str).cps.toList:=by decide +kernel
theorem zmsb {c:Crd}(h:c.ok):zsh (c.text ++ " x")=none:=by
 have hd:∀u∈c.head,_:=λu hu=>Crd.zfs h u hu
 rcases List.eq_nil_or_concat c.rules with e|⟨rs,r,e⟩
 ·have et:c.text ++ " x" = yfa " / " [yfa " " (c.head++[("x":Str)])]:=by
   show yfa SL (yfa " " c.head::c.rules.map zcc) ++ " x" = _
   rw[e,← zmvb (ws:=c.head) (yib _ _)];rfl
  have es:yeb (c.text ++ " x") " / " = [yfa " " (c.head++[("x":Str)])]:=by
   rw[et];refine ztob (yib _ _) λp hp=>?_;rw[yda.mp hp];refine zim (λu hu=>?_) (by decide)
   rcases yua.mp hu with hu|hu
   ·exact (hd u hu).2
   ·rw[yda.mp hu];exact zsub
  have eh:yeb (yfa " " (c.head++[("x":Str)])) " " = c.head++[("x":Str)]:=zzj (c:=32) (by simp) (λu hu=>by
   rcases yua.mp hu with hu|hu
   ·exact (hd u hu).1
   ·rw[yda.mp hu];exact zrub)
  unfold zsh;rw[es];show (if _ then (zrh (yeb (yfa " " (c.head++[("x":Str)])) " ")).bind _ else none)=none
  rw[eh,zxmb (by rw[yha];show 4+1≠4;decide)];exact ite_self _
 ·have er:c.rules=rs++[r]:=e.trans List.concat_eq_append;have ok:∀q∈rs++[r],q.ok:=λq hq=>h.rules q (by rw[er];exact hq);have okr:=ok r (by simp);have ej:zcc r ++ " x" = yfa " " (r.words++[("x":Str)]):=zmvb r.zjc;have et:c.text ++ " x" = yfa " / " (yfa " " c.head::(rs.map zcc++[zcc r ++ " x"])):=by
   show yfa SL (yfa " " c.head::c.rules.map zcc) ++ " x" = _
   rw[er,yva];exact (zcqb SL (zcc r) " x" (yfa " " c.head::rs.map zcc)).symm
  have es:yeb (c.text ++ " x") " / " = yfa " " c.head::(rs.map zcc++[zcc r ++ " x"]):=by
   rw[et];refine ztob (yib _ _) λp hp=>?_
   rcases yia.mp hp with rfl|hp
   ·exact zim (λu hu=>(hd u hu).2) (by decide)
   rcases yua.mp hp with hp|hp
   ·obtain⟨q,hq,rfl⟩:=ysb.mp hp;exact zim (λu hu=>(Rule.zoe (ok q (ywc _ hq)) u hu).2) (by decide)
   ·rw[yda.mp hp,ej];refine zim (λu hu=>?_) (by decide)
    rcases yua.mp hu with hu|hu
    ·exact (Rule.zoe okr u hu).2
    ·rw[yda.mp hu];exact zsub
  have ew:yeb (zcc r ++ " x") " " = r.words++[("x":Str)]:=by
   rw[ej];refine zzj (c:=32) (by simp) (λu hu=>?_)
   rcases yua.mp hu with hu|hu
   ·exact (Rule.zoe okr u hu).1.1
   ·rw[yda.mp hu];exact zrub
  have en:zpd (yeb (zcc r ++ " x") " ")=none:=by
   rw[ew,zqeb okr];exact if_neg (by rw[yha];show ¬ _=_+1;omega)
  unfold zsh;rw[es];show (if _ then (zrh _).bind λhh=>(zld (rs.map zcc++[zcc r ++ " x"])).map _ else none)=none
  rw[zpn en (by simp)];have z:∀o:Option (Str×Nat×Nat×List Str),(o.bind λhh=>(none:Option (List Rule)).map λrs=>(⟨hh.1,hh.2.1,hh.2.2.1,hh.2.2.2,rs⟩:Crd))=none:=λo=>by cases o<;>rfl
  rw[z];exact ite_self _
theorem zuvb (a b:Str):(a++b).cps.toList=a.cps.toList++b.cps.toList:=by
 show (a.cps++b.cps).toList=_
 rw[ypf]
theorem zpmb (c:Crd):∃y:Str,c.text=c.name++y:=by
 have e1:yfa " " c.head=c.name++(" " ++ yfa " " c.head.tail):=by
  show yfa " " (c.name::c.head.tail)=_
  rw[join_cons " " c.name (by simp[Crd.head]),ymc]
 by_cases e:c.rules.map zcc=[]
 ·exact⟨_,by show yfa SL (yfa " " c.head::c.rules.map zcc)=_;rw[e];exact e1⟩
 ·exact⟨_,by show yfa SL (yfa " " c.head::c.rules.map zcc)=_;rw[join_cons SL _ e,e1,ymc,ymc,ymc]⟩
theorem zvpb {t:Str}(sm:Sm t 10000 19)(h:∀d r,t.cps.toList=d::r->d<97):zsh t=none:=by
 cases e:zsh t with
 | none=>rfl
 | some c =>
  obtain⟨ok,et⟩:=zueb sm e;obtain⟨y,ey⟩:=zpmb c;obtain⟨n1,_,n2⟩:=ok.name;have z:t.cps.toList=c.name.cps.toList++y.cps.toList:=by rw[← et,ey,zuvb]
  cases hc:c.name.cps.toList with
  | nil =>
   have:c.name.length=0:=by
    rw[← len_list,hc];rfl
   omega
  | cons d r =>
   have l:=h d (r++y.cps.toList) (by rw[z,hc];rfl);have u:=(n2 d (by rw[hc];exact ypa)).1;omega
theorem zosb {c:Crd}(h:c.ok)(m:c.marks.length≤4):zsh ("Z" ++ c.text)=none:=by
 have s:Sm ("Z":Str) 1 0:=⟨by decide +kernel,by decide +kernel,by decide +kernel⟩;refine zvpb ((Sm.app s (zzdb h m)).up (by decide) (by decide)) λd r e=>?_;rw[zuvb] at e;have e':(90:Nat)::c.text.cps.toList=d::r:=e;cases e';decide
theorem znsb:zsh "" = none:=zvpb ⟨by decide +kernel,by decide +kernel,by decide +kernel⟩ λd r e=>by
 have e':([]:List Nat)=d::r:=e;cases e'
theorem sm_x {c:Crd}(h:c.ok)(m:c.marks.length≤4):Sm (c.text ++ " x") 10000 19:=(Sm.app (zzdb h m) (show Sm (" x":Str) 2 0 from⟨by decide +kernel,by decide +kernel,by decide +kernel⟩)).up (by decide) (by decide)
theorem sm_Z {c:Crd}(h:c.ok)(m:c.marks.length≤4):Sm ("Z" ++ c.text) 10000 19:=(Sm.app (show Sm ("Z":Str) 1 0 from⟨by decide +kernel,by decide +kernel,by decide +kernel⟩) (zzdb h m)).up (by decide) (by decide)
theorem sm_e:Sm ("":Str) 10000 19:=⟨by decide +kernel,by decide +kernel,by decide +kernel⟩
theorem zwf {H H':Hp}{p:Addr}(S:Same H H')(h:H p=none)(o:HO):Same H (upd H' p o):=λb u q=>by rw[zxa (zpa q h)];exact S b u q
theorem none_of {H H':Hp}{p:Addr}(S:Same H H')(h:H' p=none):H p=none:=by
 cases e:H p with
 | none=>rfl
 | some o =>
  have z:=S _ _ e;rw[z] at h;cases h
@[elab_as_elim] theorem laid {H:Hp} {l:Addr} {o:HO} {motive:Hp->Prop} (hl:H l=none) (h:∀H1,Same H H1->H1 l=some o->motive H1):motive (upd H l o):=h _ (zoa hl o) zfa
theorem zsm {ss:List Str}{r:Int}(h0:0≤r)(h1:r<(ss.length:Int)):∃u,atI (ss.map V.str) r=some (.str u)∧u∈ss:=by
 obtain⟨v,hv,hm⟩:=zss (xs:=ss.map V.str) h0 (by rw[yaa];exact h1);obtain⟨u,hu,rfl⟩:=ysb.mp hm;exact⟨u,hv,hu⟩
theorem zcy (x:Int){m:Int}(h:0<m):0≤x % m∧x % m<m:=⟨ysk x (by omega),yyi x h⟩
def ltr (r:Int):Nat:=(LL.cps.toList[r.toNat]?).getD 0
theorem zqib:∀n:Nat,n<26->LL.cps.toList[n]?=some (97+n):=by decide +kernel
theorem zslb {r:Int}(h0:0≤r)(h1:r<26):(ltr r:Int)=97+r:=by
 unfold ltr;rw[zqib r.toNat (by omega)];show ((97+r.toNat:Nat):Int)=97+r
 omega
theorem zkvb {r:Int}(h0:0≤r)(h1:r<26):atI LL.cps.toList r=some (ltr r):=by
 have q:=zna (zqib r.toNat (by omega));rw[show ((r.toNat:Nat):Int)=r by omega] at q;rw[q];unfold ltr;rw[zqib r.toNat (by omega)];rfl
theorem zybc (x:Int):97≤ltr (x % 26)∧ltr (x % 26)≤122:=by
 have m:=zcy x (m:=26) (by decide);have:=zslb m.1 m.2;omega
def sgn (c:Nat):Str:=⟨#[c]⟩
theorem zuab:∀cs:List Nat,(yfa "" (cs.map sgn)).cps.toList=cs
 | []=>rfl
 | [c]=>rfl
 | c::d::r=>by
  have ih:=zuab (d::r);have e:yfa "" ((c::d::r).map sgn)=sgn c ++ "" ++ yfa "" ((d::r).map sgn):=rfl;rw[e];show ((#[c]++("":Str).cps)++(yfa "" ((d::r).map sgn)).cps).toList=_
  rw[ypf,ih];rfl
theorem zaeb:∀cs:List Nat,((cs.map sgn).map (·.length)).sum=cs.length
 | []=>rfl
 | c::r=>by
  rw[ygb,ygb,ydd,zaeb r,yga];show 1+r.length=r.length+1
  omega
theorem zttb (n L:Nat)(h:n≤L):yrf none (some (n:Int)) 1 L=ypc n:=by
 unfold yrf;dsimp only;have e:(if (1:Int)>0 then max 0 (min (if (n:Int)<0 then (n:Int)+(L:Int) else (n:Int)) (L:Int)) else max (-1) (min (if (n:Int)<0 then (n:Int)+(L:Int) else (n:Int)) ((L:Int)-1)))=(n:Int):=by
  rw[if_pos (by decide),if_neg (by omega)];omega
 rw[e,if_pos (by decide)];have z:=yko 0 n;rw[ywn] at z;rw[show ((0:Int))=((0:Nat):Int) from rfl,z];simp
theorem zpx {x:Array Nat}:∀n:Nat,n≤x.size->(ypc n).filterMap (λj=>x[j]?)=x.toList.take n
 | 0,_=>rfl
 | n+1,h=>by
  rw[ysf,List.filterMap_append,zpx n (by omega),yob];have e:x.toList[n]?=x[n]?:=by rw[yad]
  have hn:n<x.size:=by omega
  have e2:x[n]?=some x[n]:=ywd hn;rw[e,ymf,e2,List.filterMap_nil];rfl
theorem ztmb (x:Str)(n:Nat)(h:n≤x.length):ynn x none (some (n:Int))=⟨(x.cps.toList.take n).toArray⟩:=by
 unfold ynn;rw[zttb n x.length h,ylc]
 by_cases e:n=x.length
 ·subst e;rw[if_pos (by simp)];have:x.cps.toList.take x.length=x.cps.toList:=yya (by simp[yxn]);rw[this,ymg]
 ·rw[if_neg (by simp[e])];rw[show (λj=>x.cps[j]?)=(λj=>x.cps[j]?) from rfl];have z:=zpx (x:=x.cps) n h;rw[← z]
def zrac (K:yba):Sp:=λvs H Q _=>Ex3 λa (ns:List Int) (k:Int)=>vs=[.ref a,.int k]∧SqL K H a (ns.map V.int)∧ns.length≤63∧0≤k∧k≤10000000∧∀z:Int,Q (.int z) H
theorem zofb (T:Tx K mg):FnOk P w K mg base CX0 2 T.zlg.f T.zlg.d zrq (zrac K):=by
 refine T.zlg.ok ztk ?_;rintro f c A o s H vs Q E hr ⟨a,ns,k,rfl,hS,h63,k0,k9,q⟩ X;refine⟨_,  (zca (zvb (zta zpbc (pv 1) (zma zra rfl T.zxd ykb (zaa (pv 0) zba)) (zza _))
   (zea (zwa (zmb zrb (pv 0) (pv 1) (λ_ _=>rfl))))
   zya)
  (zca (zqa (i:=2) ztk.nd rfl (.inl rfl) (zub zlh zga (pv 1)))
  (zca (zvb (zta zbfb (zma zra rfl T.zxd ykb (zaa (pv 0) zba)) zga (zza _))
   (zea (zqa (i:=2) ztk.nd rfl (.inl rfl) (zub zlh (pv 2) (zub zrab (zub zcp (zmb zrb (pv 0) (zub zcp (zub zlh (zub zrab zga (pv 1)) zga) (zma zra rfl T.zxd ykb (zaa (pv 0) zba))) (λ_ _=>rfl)) zga) (zub zlh (zub zcp (pv 1) zga) zga)))))
   zya)
  (zca (zqa (i:=3) ztk.nd rfl (.inl rfl) (zub zcp (zub zrab (pv 2) zga) zga))
  (zea (zwa (zub zcp (zub zrab (pv 3) (pv 3)) zga))))))),?_⟩
 have hl:(ns.map V.int).length=ns.length:=yaa _;refine⟨_,rfl,_,rfl,a,_,rfl,.inl hS,_,_,rfl,rfl,_,rfl,?_⟩;refine ite2 (λc=>?_) (λc=>?_)
 ·have c':k<(((ns.map V.int).length:Nat):Int):=of_decide_eq_true c;obtain⟨z,hz⟩:=zgrb (ns:=ns) k0 (by omega);exact⟨_,rfl,_,rfl,a,_,_,_,rfl,rfl,hS,hz,q z⟩
 ·have big:∀c:Int,0≤c % 2147483629∧c % 2147483629<2147483629:=λc=>⟨ysk c (by omega),yyi c (by omega)⟩;have fin:∀z:Int,CMul (z*48271 % 2147483629) (z*48271 % 2147483629):=λz=>.inl ⟨by have:=big (z*48271);omega,by have:=big (z*48271);omega⟩;refine⟨_,rfl,_,_,rfl,rfl,?_⟩;refine⟨_,rfl,a,_,rfl,.inl hS,_,_,rfl,rfl,_,rfl,?_⟩;refine ite2 (λc=>?_) (λc=>?_)
  ·have c':(0:Int)<(((ns.map V.int).length:Nat):Int):=of_decide_eq_true c;have n0:0≤(3*k+1) % (((ns.map V.int).length:Nat):Int):=ysk _ (by omega);have n1:(3*k+1) % (((ns.map V.int).length:Nat):Int)<(((ns.map V.int).length:Nat):Int):=yyi _ c';obtain⟨z,hz⟩:=zgrb (ns:=ns) n0 (by omega);refine⟨_,rfl,_,rfl,_,rfl,_,_,rfl,rfl,.inl ⟨by decide,by decide⟩,_,_,rfl,rfl,_,rfl,a,_,rfl,.inl hS,_,_,rfl,rfl,c',a,_,_,_,rfl,rfl,hS,hz,_,_,rfl,rfl,(by show (0:Int)<1000003;decide),_,rfl,_,_,rfl,rfl,(by show (0:Int)<97;decide),_,_,rfl,rfl,_,_,rfl,rfl,.inr ⟨by have:=zcy k (m:=97) (by decide);omega,by have:=zcy k (m:=97) (by decide);omega⟩,_,_,rfl,rfl,?_⟩;exact⟨_,rfl,_,_,rfl,rfl,.inr ⟨by decide,by decide⟩,_,_,rfl,rfl,(by show (0:Int)<2147483629;decide),_,rfl,_,rfl,_,_,rfl,rfl,fin _,_,_,rfl,rfl,(by show (0:Int)<2147483629;decide),q _⟩
  ·exact⟨_,rfl,_,_,rfl,rfl,.inr ⟨by decide,by decide⟩,_,_,rfl,rfl,(by show (0:Int)<2147483629;decide),_,rfl,_,rfl,_,_,rfl,rfl,fin _,_,_,rfl,rfl,(by show (0:Int)<2147483629;decide),q _⟩
theorem zla (T:Tx K mg):FnOk P w K mg base CX0 3 T.zda.f T.zda.d znq (znac K):=by
 refine T.zda.ok zeu ?_;rintro f c A o s H vs Q E hr ⟨p,k,m,rfl,TT,hk,hm,q⟩ X;refine⟨_,  (zca (zqa (i:=2) zeu.nd rfl (.inl rfl) (zub zcp (zia (zofb T) hr rfl T.zlg.m T.zlg.F.kp (znjb T) .nil zdb (zaa (zmb zrb (pv 0) zga (λ_ _=>rfl)) (zaa (zmb zrb (pv 0) zga (λ_ _=>rfl)) zba))) (pv 1)))
  (zca (zdlb (zub zlh (zmb zrb (pv 0) zga (λ_ _=>rfl)) zga) (zgvb (pv 0) zga set_list))
  (zea (zwa (pv 2))))),?_⟩
 obtain⟨⟨a,ns,h1,h2,h3⟩,lo⟩:=TT;have S0:SqL K H a (ns.map V.int):=h2.sq;refine⟨_,rfl,p,_,_,_,rfl,rfl,SqL.of h1,rfl,_,rfl,p,_,_,_,rfl,rfl,SqL.of h1,rfl,a,ns,k,rfl,S0,h3,lo,by omega,λz=>⟨_,rfl,_,_,rfl,rfl,hm,?_⟩⟩;refine⟨_,rfl,p,_,_,_,rfl,rfl,SqL.of h1,rfl,_,_,rfl,rfl,_,rfl,p,_,_,_,rfl,rfl,h1,rfl,?_⟩;have B:But p H (upd H p (.lst [.ref a,.int (k+1)])):=But.put;have T1:Tk K (upd H p (.lst [.ref a,.int (k+1)])) p (k+1):=⟨⟨a,ns,zfa,h2.keep λo u z=>by rw[zxa (zsp z h1 (by intro y;cases y))];exact z,h3⟩,by omega⟩;have big:0≤z % m∧z % m<m:=⟨ysk z (by omega),yyi z hm⟩;exact⟨_,rfl,q _ _ big.1 big.2 B T1⟩
def zbsb (K:yba):Sp:=λvs H Q _=>Ex2 λp (k:Int)=>vs=[.ref p]∧Tk K H p k∧k≤900000∧∀(r:Nat) (k':Int) H',r<1000->But p H H'->Tk K H' p k'->k'≤k+2->Q (.int (r:Int)) H'
theorem zoi (T:Tx K mg):FnOk P w K mg base CX0 4 T.zzb.f T.zzb.d zxm (zbsb K):=by
 refine T.zzb.ok zrz ?_;rintro f c A o s H vs Q E hr ⟨p,k,rfl,TT,hk,q⟩ X;refine⟨_,  (zca (zvb (zta zzd (zia (zla T) hr rfl T.zda.m T.zda.F.kp (zsa T) .nil zdb (zaa (pv 0) (zaa zga zba))) zga (zza _))
   (zea (zwa (zia (zla T) hr rfl T.zda.m T.zda.F.kp (zsa T) .nil zdb (zaa (pv 0) (zaa zga zba)))))
   zya)
  (zea (zwa (zia (zla T) hr rfl T.zda.m T.zda.F.kp (zsa T) .nil zdb (zaa (pv 0) (zaa zga zba)))))),?_⟩
 refine⟨_,rfl,p,k,4,rfl,TT,by omega,by decide,λr H1 r0 r1 B1 T1=>⟨rfl,_,rfl,?_⟩⟩;refine ite2 (λc=>?_) (λc=>?_)
 ·refine⟨_,rfl,p,k+1,1000,rfl,T1,by omega,by decide,λr2 H2 a b B2 T2=>?_⟩;obtain⟨n,rfl⟩:∃n:Nat,r2=(n:Int):=⟨r2.toNat,by omega⟩;exact q n _ H2 (by omega) (B1.trans B2) T2 (by omega)
 ·refine⟨_,rfl,p,k+1,5,rfl,T1,by omega,by decide,λr2 H2 a b B2 T2=>?_⟩;obtain⟨n,rfl⟩:∃n:Nat,r2=(n:Int):=⟨r2.toNat,by omega⟩;exact q n _ H2 (by omega) (B1.trans B2) T2 (by omega)
theorem zstb (n L:Nat)(h:n≤L):yrf (some (n:Int)) none 1 L=(ypc (L-n)).map (n+·):=by
 unfold yrf;dsimp only;have e:(if (1:Int)>0 then max 0 (min (if (n:Int)<0 then (n:Int)+(L:Int) else (n:Int)) (L:Int)) else max (-1) (min (if (n:Int)<0 then (n:Int)+(L:Int) else (n:Int)) ((L:Int)-1)))=(n:Int):=by
  rw[if_pos (by decide),if_neg (by omega)];omega
 rw[e,if_pos (by decide)];exact yko n L
theorem zsmb (x:Str)(n:Nat)(h:n≤x.length):ynn x (some (n:Int)) none=⟨(x.cps.toList.drop n).toArray⟩:=by
 have hl:x.cps.size=x.length:=rfl;unfold ynn;rw[zstb n x.length h]
 by_cases e:n=0
 ·subst e;rw[if_pos (by simp)];rw[yxd,ymg]
 ·rw[if_neg (by simp;omega)];have z:=zpx (x:=(x.cps.toList.drop n).toArray) (x.length-n) (by simp[hl]);rw[yya (by simp[hl])] at z;rw[yxo]
  congr 1
  rw[show (x.cps.toList.drop n)=(x.cps.toList.drop n).toArray.toList by simp,← z]
  congr 1
  congr 1
  funext j
  show x.cps[n+j]?=(ycp n x.cps.toList).toArray[j]?
  rw[← yad (xs:=(ycp n x.cps.toList).toArray),List.toList_toArray,ycg,yad]
structure N4 (H:Hp)(nl:Addr)(ns:List Str):Prop where
 at_:H nl=some (.lst (ns.map V.str))
 len:ns.length=4
 ok:∀n∈ns,zkd n
 nd:ns.Nodup
def nmIn (cs:List Nat)(a c:Nat):Str:=⟨(cs.take a).toArray⟩++sgn c++⟨(cs.drop a).toArray⟩
theorem zrfb (cs:List Nat)(a c:Nat):(nmIn cs a c).cps.toList=cs.take a++c::cs.drop a:=by
 show ((cs.take a).toArray++#[c]++(cs.drop a).toArray).toList=_
 simp
theorem zfyb {cs:List Nat}{a c:Nat}(h8:cs.length<8)(hc:97≤c∧c≤122)(hs:∀x∈cs,97≤x∧x≤122):zkd (nmIn cs a c):=by
 have e:=zrfb cs a c;have el:(nmIn cs a c).length=cs.length+1:=by
  have q:=congrArg ynf e;rw[ywb,yha,yga,yza,yie] at q;have q':(nmIn cs a c).length=min a cs.length+(cs.length-a+1):=q;omega
 refine⟨by omega,by omega,?_⟩;rw[e];intro x hx
 rcases yua.mp hx with z|z
 ·exact hs x (ygo z)
 ·rcases yia.mp z with z|z
  ·rw[z];exact hc
  ·exact hs x (yho z)
theorem zjtb {cs:List Nat}{a c d:Nat}(h:nmIn cs a c=nmIn cs a d):c=d:=by
 have e:=congrArg (λz:Str=>z.cps.toList) h;simp only[zrfb] at e;have f:=List.append_cancel_left e;injection f
def zwob (K:yba):Sp:=λvs H Q _=>Ex2 λp (k:Int)=>vs=[.ref p]∧Tk K H p k∧k≤900000∧∀nl (ns:List Str) (k':Int) H',But p H H'->Tk K H' p k'->k'≤k+11->H nl=none->N4 H' nl ns->Q (.ref nl) H'
theorem zdcb (T:Tx K mg):FnOk P w K mg base CX0 4 T.zbf.f T.zbf.d zko (zwob K):=by
 refine T.zbf.ok zfh ?_;rintro f c A o s H vs Q E hr ⟨p,k,rfl,TT,hk,q⟩ X;refine⟨_,  (zca (zqa (i:=1) zfh.nd rfl (.inr rfl) zja)
  (zca (zqa (i:=2) zfh.nd rfl (.inr rfl) (zjf ytb ygc yhc zqj zja (zaa (zxc (own:=["_law_k"]) (cap:=["_law_letters","_law_pen"]) rfl (zeb.chk rfl rfl) (.cons (j:=1) rfl (.inl rfl) (.inl rfl) (.cons (j:=0) rfl (.inl rfl) (.inl rfl) .nil)) (zuf rfl T.zuh (zaa (zia (zla T) hr rfl T.zda.m T.zda.F.kp (zsa T) .nil zdb (zaa (pv 0) (zaa zga zba))) zba)) (λ_ _ _ _=>(zfb (i:=0) (show ync (["_law_k","_law_letters","_law_pen"]:List Str) by decide +kernel) rfl (.inl rfl))) (λ_ _ _ _=>zuc) (λ_ _ _ _=>by exact (zmb zvlb (pv 1) (zia (zla T) hr rfl T.zda.m T.zda.F.kp (zsa T) .nil zdb (zaa (pv 2) (zaa zga zba))) (λ_ _=>rfl)))) zba)))
  (zca (zqa (i:=3) zfh.nd rfl (.inr rfl) (zia (zla T) hr rfl T.zda.m T.zda.F.kp (zsa T) .nil zdb (zaa (pv 0) (zaa (zub zlh (zma zyn rfl T.zxd ykb (zaa (pv 2) zba)) zga) zba))))
  (zca (zqa (i:=4) zfh.nd rfl (.inr rfl) (zia (zla T) hr rfl T.zda.m T.zda.F.kp (zsa T) .nil zdb (zaa (pv 0) (zaa zga zba))))
  (zea (zwa (zxc (own:=["_law_k"]) (cap:=["_law_base","_law_letters","_law_at","_law_first"]) rfl (zeb.chk rfl rfl) (.cons (j:=2) rfl (.inl rfl) (.inl rfl) (.cons (j:=1) rfl (.inl rfl) (.inl rfl) (.cons (j:=3) rfl (.inl rfl) (.inl rfl) (.cons (j:=4) rfl (.inl rfl) (.inl rfl) .nil)))) (zuf rfl T.zuh (zaa zga zba)) (λ_ _ _ _=>(zfb (i:=0) (show ync (["_law_k","_law_base","_law_letters","_law_at","_law_first"]:List Str) by decide +kernel) rfl (.inl rfl))) (λ_ _ _ _=>zuc) (λ_ _ _ _=>by exact (zub zwg (zub zwg (zni zavb (pv 1) zpl (zol (pv 3))) (zmb zvlb (pv 2) (zub zcp (zub zlh (pv 4) (zub zrab zga (pv 0))) zga) (λ_ _=>rfl))) (zni zavb (pv 1) (zol (pv 3)) zpl)))))))))),?_⟩
 refine⟨rfl,_,rfl,p,k,8,rfl,TT,by omega,by decide,λm0 H1 m1 m2 B1 T1=>?_⟩;obtain⟨m,rfl⟩:∃m:Nat,m0=(m:Int):=⟨m0.toNat,by omega⟩;refine⟨_,rfl,by omega,by omega,?_⟩;rw[yac];refine zdi (λj ys Hx=>Ex2 λ(cs:List Nat) (k':Int)=>But p H Hx∧Tk K Hx p k'∧k'≤k+1+(j:Int)∧j≤m∧cs.length=j∧(∀c∈cs,97≤c∧c≤122)∧ys=(cs.map sgn).map V.str) ⟨[],_,B1,T1,by omega,yrb _,rfl,by simp,rfl⟩ ?_ ?_ ?_
 ·rintro j ys Hx ⟨cs,k',_,_,_,hj,hl,_,rfl⟩;rw[yaa,yaa,hl];exact small (by omega)
 ·rintro j ys Hx hj ⟨cs,k',B,T2,hk',_,hl,hc,rfl⟩;refine⟨rfl,_,rfl,_,rfl,p,k',26,rfl,T2,by omega,by decide,λr H2 r0 r1 B2 T3=>?_⟩;refine⟨LL,_,_,rfl,rfl,(by decide +kernel),zkvb r0 r1,cs++[ltr r],_,B.trans B2,T3,by omega,hj,by rw[yha,hl];rfl,?_,?_⟩
  ·intro c z
   rcases yua.mp z with y|y
   ·exact hc c y
   ·rw[yda.mp y];have:=zslb r0 r1;omega
  ·rw[yva,yva];rfl
 ·rintro ys Hx ⟨cs,k',B,T2,hk',_,hl,hc,rfl⟩ sl hsl;refine laid hsl λH3 S3 e3=>?_;have B3:But p H H3:=B.trans (But.same S3);have T3:=T2.same S3;have nsl:p≠sl:=T2.ne hsl;refine⟨"",sl,cs.map sgn,rfl,rfl,SqL.of e3,?_,?_⟩
  ·rw[zaeb,hl];have z0:("":Str).length=0:=rfl;rw[z0];omega
  have hx:=zuab cs;generalize yfa "" (cs.map sgn)=x at hx ⊢;have xl:x.length=m:=by
   have z:=congrArg ynf hx;rw[ywb,hl] at z;exact z
  have s1000:∀{n:Nat},n≤1000->n≤yxa:=λ{n} h=>ywg (zyc h);refine⟨_,rfl,_,rfl,x,rfl,s1000 (by omega),_,_,rfl,rfl,p,k',(m:Int)+1,(by rw[xl];rfl),T3,by omega,by omega,λa0 H4 a1 a2 B4 T4=>?_⟩;obtain⟨a,rfl⟩:∃a:Nat,a0=(a:Int):=⟨a0.toNat,by omega⟩;refine⟨_,rfl,p,_,26,rfl,T4,by omega,by decide,λf0 H5 f1 f2 B5 T5=>?_⟩;have B05:=B3.trans (B4.trans B5);refine⟨4,rfl,by decide,by decide,?_⟩;refine zdi (λj ys Hx=>Hx=H5∧j≤4∧∃ns:List Str,ys=ns.map V.str∧ns.length=j∧(∀n∈ns,zkd n)∧ns.Nodup∧∀n∈ns,∃i:Nat,i<j∧n=nmIn cs a (ltr ((f0+7*(0+(i:Int))) % 26))) ⟨rfl,yrb _,[],rfl,rfl,by simp,.nil,by simp⟩ ?_ ?_ ?_
  ·rintro j ys Hx ⟨_,hj,ns,rfl,hl2,_⟩;rw[yaa,hl2];exact small (by omega)
  ·rintro j ys Hx hj ⟨rfl,_,ns,rfl,hl2,ok,nd,wh⟩;have hj4:j<4:=hj;have r26:=zcy (f0+7*(0+(j:Int))) (m:=26) (by decide);refine⟨rfl,_,rfl,_,rfl,_,rfl,x,rfl,s1000 (by omega),λt1 e1 l1=>?_⟩;refine⟨_,rfl,_,rfl,_,rfl,_,_,rfl,rfl,.inl ⟨by decide,by decide⟩,_,_,rfl,rfl,_,_,rfl,rfl,(by show (0:Int)<26;decide),LL,_,_,rfl,rfl,(by decide +kernel),zkvb r26.1 r26.2,?_⟩;rw[ztmb x a (by omega),hx] at e1;subst e1;refine⟨_,_,rfl,rfl,s1000 (by show _+1≤1000;omega),_,rfl,_,rfl,_,rfl,x,rfl,s1000 (by omega),λt2 e2 l2=>?_⟩;rw[zsmb x a (by omega),hx] at e2;subst e2;refine⟨_,_,rfl,rfl,?_,rfl,hj,ns++[nmIn cs a (ltr ((f0+7*(0+(j:Int))) % 26))],?_,?_,?_,?_,?_⟩
   ·refine s1000 ?_;have t1:((cs.take a).toArray++#[ltr ((f0+7*(0+(j:Int))) % 26)]).size≤8:=by
     rw[ylj,yta,yza];show _+1≤8
     omega
    have t2:((cs.drop a).toArray).size≤8:=by
     rw[yta,yie];omega
    exact yab (Nat.add_le_add t1 t2) (by decide)
   ·rw[yva];rfl
   ·rw[yha,hl2];rfl
   ·intro n z
    rcases yua.mp z with y|y
    ·exact ok n y
    ·rw[yda.mp y];exact zfyb (by omega) (zybc _) hc
   ·rw[ymj];refine⟨nd,yrm _ _,λy hy n hn z=>?_⟩;rw[yda.mp hn] at z;obtain⟨i,hi,rfl⟩:=wh y hy;have ed:=zjtb z;have e1:=zslb (zcy (f0+7*(0+(i:Int))) (m:=26) (by decide)).1 (zcy (f0+7*(0+(i:Int))) (m:=26) (by decide)).2;have e2:=zslb r26.1 r26.2;omega
   ·intro n z
    rcases yua.mp z with y|y
    ·obtain⟨i,hi,e⟩:=wh n y;exact⟨i,by omega,e⟩
    ·exact⟨j,by omega,yda.mp y⟩
  ·rintro ys Hx ⟨rfl,_,ns,rfl,hl2,ok,nd,wh⟩ nl hnl;refine laid hnl λH6 S6 e6=>?_;refine q nl ns _ H6 (B05.trans (But.same S6)) (T5.same S6) (by omega) ?_ ⟨e6,hl2,ok,nd⟩;cases z:H nl with
   | none=>rfl
   | some o =>
    by_cases ep:nl=p
    ·rw[ep] at hnl;exact absurd rfl (T5.ne hnl)
    ·rw[B05 _ _ ep z] at hnl;cases hnl
def whT (y:Wh):Str:=yfa " " y.words
inductive WT (H:Hp):V->Wh->Prop where
 | all {a:Addr}:H a=some (.tup [.str "all"])->WT H (.ref a) .all
 | self {a:Addr}:H a=some (.tup [.str "self"])->WT H (.ref a) .self
 | mine {a:Addr}:H a=some (.tup [.str "mine"])->WT H (.ref a) .mine
 | mark {a:Addr} {n:Str}:H a=some (.tup [.str "mark",.str n])->WT H (.ref a) (.mark n)
 | force {a:Addr} {i:Nat}:H a=some (.tup [.str "force",.int (i:Int)])->WT H (.ref a) (.force i)
 | not {a:Addr} {x:V} {y:Wh}:H a=some (.tup [.str "not",x])->WT H x y->WT H (.ref a) (.not y)
 | both {a:Addr} {x x':V} {y y':Wh}:H a=some (.tup [.str "both",x,x'])->WT H x y->WT H x' y'->WT H (.ref a) (.both y y')
 | any {a:Addr} {x x':V} {y y':Wh}:H a=some (.tup [.str "any",x,x'])->WT H x y->WT H x' y'->WT H (.ref a) (.any y y')
theorem WT.same {H H':Hp}(s:Same H H'):∀{v:V} {y:Wh},WT H v y->WT H' v y
 | _,_,.all h=>.all (s _ _ h)
 | _,_,.self h=>.self (s _ _ h)
 | _,_,.mine h=>.mine (s _ _ h)
 | _,_,.mark h=>.mark (s _ _ h)
 | _,_,.force h=>.force (s _ _ h)
 | _,_,.not h t=>.not (s _ _ h) (t.same s)
 | _,_,.both h t u=>.both (s _ _ h) (t.same s) (u.same s)
 | _,_,.any h t u=>.any (s _ _ h) (t.same s) (u.same s)
theorem WT.tup {H:Hp}{v:V}{y:Wh}(h:WT H v y):Ex2 λa xs=>v = .ref a∧H a=some (.tup xs):=by
 cases h<;>exact⟨_,_,rfl,by assumption⟩
def dep:Wh->Nat
 | .not a=>dep a+1
 | .both a b=>max (dep a) (dep b)+1
 | .any a b=>max (dep a) (dep b)+1
 | _=>0
theorem zwsb {r:Int}{x y:Str}(h0:0≤r)(h1:r<2):∃u:Str,atI [V.str x,V.str y] r=some (.str u)∧(u=x∨u=y):=by
 obtain⟨v,hv,hm⟩:=zss (xs:=[V.str x,V.str y]) h0 h1;simp only[yia,yvb,or_false] at hm
 rcases hm with e|e<;>subst e
 ·exact⟨_,hv,.inl rfl⟩
 ·exact⟨_,hv,.inr rfl⟩
theorem Tk.two {K:yba}{H:Hp}{p:Addr}{k:Int}(t:Tk K H p k):∃a,H p=some (.lst [.ref a,.int k]):=by
 obtain⟨⟨a,ns,h,_⟩,_⟩:=t;exact⟨a,h⟩
theorem N4.ne {K:yba}{H:Hp}{p nl:Addr}{k:Int}{ns:List Str}(h:N4 H nl ns)(t:Tk K H p k):nl≠p:=λz=>by
 obtain⟨a,e⟩:=t.two;have e2:=h.at_;rw[z,e] at e2;injection e2 with e2
 injection e2 with e2
 have l:=congrArg ynf e2;rw[yaa,h.len] at l;cases l
theorem N4.but {K:yba}{H H':Hp}{p nl:Addr}{k:Int}{ns:List Str}(h:N4 H nl ns)(t:Tk K H p k)(b:But p H H'):N4 H' nl ns:=⟨b _ _ (h.ne t) h.at_,h.len,h.ok,h.nd⟩
theorem N4.same {H H':Hp}{nl:Addr}{ns:List Str}(h:N4 H nl ns)(s:Same H H'):N4 H' nl ns:=⟨s _ _ h.at_,h.len,h.ok,h.nd⟩
theorem WT.but {K:yba}{H H':Hp}{p:Addr}{k:Int}(t:Tk K H p k)(b:But p H H'){v:V}{y:Wh}(z:WT H v y):WT H' v y:=by
 obtain⟨c,ep⟩:=t.two;have s:∀{a:Addr} {xs:List V},H a=some (.tup xs)->H' a=some (.tup xs):=λh=>b _ _ (zsp h ep (by intro z;cases z)) h
 induction z with
 | all h=>exact .all (s h)
 | self h=>exact .self (s h)
 | mine h=>exact .mine (s h)
 | mark h=>exact .mark (s h)
 | force h=>exact .force (s h)
 | not h _ i=>exact .not (s h) i
 | both h _ _ i j=>exact .both (s h) i j
 | any h _ _ i j=>exact .any (s h) i j
def zfr (K:yba)(n:Nat):Sp:=λvs H Q _=>Ex5 λp nl (k:Int) (ns:List Str) (d:Nat)=>vs=[.ref p,.ref nl,.int (d:Int)]∧Tk K H p k∧k+4*(d:Int)≤900000∧N4 H nl ns∧1≤d∧d≤n∧∀v (y:Wh) (k':Int) H',But p H H'->Tk K H' p k'->k'≤k+4*(d:Int)->WT H' v y->y.ok->y.size≤d->Q v H'
theorem zynb (T:Tx K mg){n:Nat}(zxq:FnOk P w K mg base CX0 (n+5) T.zcb.f T.zcb.d zgi (zfr K n)):FnOk P w K mg base CX0 (n+6) T.zcb.f T.zcb.d zgi (zfr K (n+1)):=by
 refine T.zcb.ok zqk ?_;rintro f c A o s H vs Q E hr ⟨p,nl,k,ns,d,rfl,TT,hk,N0,d1,dn,q⟩ X;refine⟨_,  (zca (zqa (i:=3) zqk.nd rfl (.inl rfl) (zia (zla T).up hr rfl T.zda.m T.zda.F.kp (zsa T) .nil zdb (zaa (pv 0) (zaa zga zba))))
  (zca (zvb (PW.pt (zblb (zta zbfb (pv 2) zga (zza _)) (ztbb (zta zzd (pv 3) zga (zza _)))))
   (zea (zwa (zqb (zaa zja (zaa (zia zxq hr rfl T.zcb.m T.zcb.F.kp (zsg T) .nil zdb (zaa (pv 0) (zaa (pv 1) (zaa (zub zux (pv 2) zga) zba)))) zba)))))
   zya)
  (zca (zvb (PW.pt (zblb (zta zbfb (pv 2) zga (zza _)) (ztbb (zta zbfb (pv 3) zga (zza _)))))
   (zca (zqa (i:=4) zqk.nd rfl (.inl rfl) (zub zbyb (zub zux (pv 2) zga) zga))
   (zca (zqa (i:=5) zqk.nd rfl (.inl rfl) (zia zxq hr rfl T.zcb.m T.zcb.F.kp (zsg T) .nil zdb (zaa (pv 0) (zaa (pv 1) (zaa (pv 4) zba)))))
   (zea (zwa (zqb (zaa (zmb zrb (zob (zaa zja (zaa zja zba))) (zub zux (pv 3) zga) (λ_ _=>rfl)) (zaa (pv 5) (zaa (zia zxq hr rfl T.zcb.m T.zcb.F.kp (zsg T) .nil zdb (zaa (pv 0) (zaa (pv 1) (zaa (zub zux (zub zux (pv 2) zga) (pv 4)) zba)))) zba))))))))
   zya)
  (zca (zvb (zta zzd (zub zcp (pv 3) zga) zga (zza _))
   (zea (zwa (zqb (zaa zja (zaa (zmb zrb (pv 1) (zia (zla T).up hr rfl T.zda.m T.zda.F.kp (zsa T) .nil zdb (zaa (pv 0) (zaa zga zba))) (λ_ _=>rfl)) zba)))))
   zya)
  (zca (zvb (zta zzd (zub zcp (pv 3) zga) zga (zza _))
   (zea (zwa (zqb (zaa zja (zaa (zia (zoi T).up hr rfl T.zzb.m T.zzb.F.kp (zyj T) .nil zdb (zaa (pv 0) zba)) zba)))))
   zya)
  (zea (zwa (zqb (zaa (zmb zrb (zob (zaa zja (zaa zja (zaa zja zba)))) (zub zcp (pv 3) zga) (λ_ _=>rfl)) zba))))))))),?_⟩
 refine⟨_,rfl,p,k,8,rfl,TT,by omega,by decide,λway H1 w0 w1 B1 T1=>?_⟩;have N1:=N0.but TT B1;refine⟨_,rfl,_,_,rfl,rfl,_,rfl,ite2 (λc1=>⟨_,rfl,rfl,_,rfl,ite2 (λc2=>?A) (λc2=>?S1)⟩) (λc1=>iteF ?S2)⟩
 case' S1=>refine⟨_,rfl,_,_,rfl,rfl,_,rfl,ite2 (λc3=>⟨_,rfl,_,_,rfl,rfl,_,rfl,ite2 (λc4=>?B1) (λc4=>?L1)⟩) (λc3=>iteF ?L2)⟩
 case' S2=>refine⟨_,rfl,_,_,rfl,rfl,_,rfl,ite2 (λc3=>absurd (decide_eq_true (Int.lt_trans (by decide:(1:Int)<2) (of_decide_eq_true c3))) c1) (λc3=>iteF ?L3)⟩
 case A =>
  have d0:(1:Int)<(d:Int):=of_decide_eq_true c1;obtain⟨e,rfl⟩:∃e,d=e+1:=⟨d-1,by omega⟩;refine⟨_,rfl,_,rfl,_,rfl,_,_,rfl,rfl,p,nl,k+1,ns,e,?_,T1,by omega,N1,by omega,by omega,λv y k2 H2 B2 T2 hk2 W2 ok2 yz2=>⟨sz2,λt ht=>?_⟩⟩
  ·show [V.ref p,V.ref nl,V.int (((e+1:Nat):Int)-1)]=_;rw[show (((e+1:Nat):Int)-1)=(e:Int) by omega]
  ·refine laid ht λH3 S3 e3=>?_;exact q _ (.not y) k2 H3 (B1.trans (B2.trans (But.same S3))) (T2.same S3) (by omega) (.not e3 (W2.same S3)) ok2 (by show y.size+1≤e+1;omega)
 case B1 =>
  have d0:(2:Int)<(d:Int):=of_decide_eq_true c3;have w5:(5:Int)<way:=of_decide_eq_true c4;refine⟨_,rfl,_,_,rfl,rfl,_,_,rfl,rfl,⟨by decide,by decide⟩,?_⟩;obtain⟨f,hf⟩:∃f:Nat,((d:Int)-1) / 2=(f:Int):=⟨(((d:Int)-1) / 2).toNat,by omega⟩;dsimp only;rw[hf];refine⟨_,rfl,_,rfl,_,rfl,p,nl,k+1,ns,f,rfl,T1,by omega,N1,by omega,by omega,λv y k2 H2 B2 T2 hk2 W2 ok2 yz2=>?_⟩;have N2:=N1.but T1 B2;refine⟨sz2,λt2 ht2=>?_⟩;refine laid ht2 λH3 S3 e3=>?_;obtain⟨u,hu,hu2⟩:=zwsb (r:=way-6) (x:="both") (y:="any") (by omega) (by omega);refine⟨_,rfl,_,_,rfl,rfl,t2,_,_,_,rfl,rfl,SqL.of e3,hu,?_⟩;have T3:=T2.same S3;refine⟨_,rfl,_,rfl,_,rfl,_,rfl,_,_,rfl,rfl,_,rfl,_,_,rfl,rfl,p,nl,k2,ns,d-1-f,?_,T3,by omega,N2.same S3,by omega,by omega,λv' y' k4 H4 B4 T4 hk4 W4 ok4 yz4=>⟨sz3,λt ht=>?_⟩⟩
  ·show [V.ref p,V.ref nl,V.int ((d:Int)-1-(f:Int))]=_;rw[show (d:Int)-1-(f:Int)=((d-1-f:Nat):Int) by omega]
  ·refine laid ht λH5 S5 e5=>?_;have Ba:=B1.trans (B2.trans ((But.same S3).trans (B4.trans (But.same S5))));have wa:WT H5 v y:=((W2.same S3).but T3 B4).same S5
   rcases hu2 with rfl|rfl
   ·exact q _ (.both y y') k4 H5 Ba (T4.same S5) (by omega) (.both e5 wa (W4.same S5)) ⟨ok2,ok4⟩ (by show y.size+y'.size+1≤d;omega)
   ·exact q _ (.any y y') k4 H5 Ba (T4.same S5) (by omega) (.any e5 wa (W4.same S5)) ⟨ok2,ok4⟩ (by show y.size+y'.size+1≤d;omega)
 all_goals
  have m5:=zcy way (m:=5) (by decide);refine⟨_,rfl,_,_,rfl,rfl,(by show (0:Int)<5;decide),rfl,_,rfl,ite2 (λc6=>?_) (λc6=>?_)⟩
  ·refine⟨_,rfl,_,rfl,p,k+1,4,rfl,T1,by omega,by decide,λr H2 r0 r1 B2 T2=>?_⟩;have N2:=N1.but T1 B2;obtain⟨u,hu,hm⟩:=zsm (ss:=ns) r0 (by rw[N0.len];exact r1);refine⟨nl,_,_,_,rfl,rfl,SqL.of N2.at_,hu,sz2,λt ht=>?_⟩;refine laid ht λH3 S3 e3=>?_;exact q _ (.mark u) _ H3 (B1.trans (B2.trans (But.same S3))) (T2.same S3) (by omega) (.mark e3) (N0.ok u hm) (by show 1≤d;omega)
  have w3:¬ way % 5=3:=λz=>c6 (decide_eq_true (by show V.int (way % 5)=_;rw[z]));refine⟨_,rfl,_,_,rfl,rfl,(by show (0:Int)<5;decide),rfl,_,rfl,ite2 (λc8=>?_) (λc8=>?_)⟩
  ·refine⟨_,rfl,p,k+1,rfl,T1,by omega,λr k2 H2 r1 B2 T2 hk2=>⟨sz2,λt ht=>?_⟩⟩;refine laid ht λH3 S3 e3=>?_;exact q _ (.force r) _ H3 (B1.trans (B2.trans (But.same S3))) (T2.same S3) (by omega) (.force e3) r1 (by show 1≤d;omega)
  have w4:¬ way % 5=4:=λz=>c8 (decide_eq_true (by show V.int (way % 5)=_;rw[z]));refine⟨sz3,λt2 ht2=>?_⟩;refine laid ht2 λH2 S2 e2=>?_;obtain⟨v,hv,hm⟩:=zss (xs:=[V.str "all",V.str "self",V.str "mine"]) (i:=way % 5) m5.1 (by show way % 5<3;omega);refine⟨_,rfl,_,_,rfl,rfl,(by show (0:Int)<5;decide),t2,_,_,_,rfl,rfl,SqL.of e2,hv,sz1,λt ht=>?_⟩;refine laid ht λH3 S3 e3=>?_;have Ba:=B1.trans (But.same (S2.trans S3));have Ta:=T1.same (S2.trans S3);simp only[yia,yvb,or_false] at hm
  rcases hm with rfl|rfl|rfl
  ·exact q _ .all _ H3 Ba Ta (by omega) (.all e3) trivial (by show 1≤d;omega)
  ·exact q _ .self _ H3 Ba Ta (by omega) (.self e3) trivial (by show 1≤d;omega)
  ·exact q _ .mine _ H3 Ba Ta (by omega) (.mine e3) trivial (by show 1≤d;omega)
theorem zznb (T:Tx K mg):FnOk P w K mg base CX0 5 T.zcb.f T.zcb.d zgi (zfr K 0):=by
 have no:∀vs H Q E,¬ zfr K 0 vs H Q E:=λvs H Q E h=>by
  obtain⟨p,nl,k,ns,d,_,_,_,_,h1,h2,_⟩:=h;omega
 exact⟨λvs H Q E h=>absurd h (no vs H Q E),λA outer s H args us vs Q E _ _ _ _ h=>absurd h (no vs H Q E)⟩
theorem zzq (T:Tx K mg):∀n:Nat,FnOk P w K mg base CX0 (n+5) T.zcb.f T.zcb.d zgi (zfr K n)
 | 0=>zznb T
 | n+1=>zynb T (zzq T n)
inductive All2 {α β:Type}(R:α->β->Prop):List α->List β->Prop where
 | nil:All2 R [] []
 | cons {a:α} {b:β} {as:List α} {bs:List β}:R a b->All2 R as bs->All2 R (a::as) (b::bs)
theorem All2.imp {α β:Type}{R S:α->β->Prop}(f:∀{a b},R a b->S a b){as:List α}{bs:List β}(z:All2 R as bs):All2 S as bs:=by
 induction z with
 | nil=>exact .nil
 | cons h _ ih=>exact .cons (f h) ih
theorem All2.snoc {α β:Type}{R:α->β->Prop}{a:α}{b:β}(h:R a b){as:List α}{bs:List β}(z:All2 R as bs):All2 R (as++[a]) (bs++[b]):=by
 induction z with
 | nil=>exact .cons h .nil
 | cons g _ ih=>exact .cons g ih
theorem All2.len {α β:Type}{R:α->β->Prop}{as:List α}{bs:List β}(z:All2 R as bs):as.length=bs.length:=by
 induction z with
 | nil=>rfl
 | cons _ _ ih=>rw[yga,yga,ih]
theorem All2.get {α β:Type}{R:α->β->Prop}:∀{as:List α} {bs:List β} {i:Nat} {a:α},All2 R as bs->as[i]?=some a->∃b,bs[i]?=some b∧R a b
 | _,_,_,_,.nil,e=>by simp at e
 | _,_,0,_,.cons h t,e=>by
  rw[ybh] at e;cases e;exact⟨_,rfl,h⟩
 | _,_,i+1,_,.cons h t,e=>by
  rw[ysc] at e;obtain⟨u,h1,h2⟩:=t.get e;exact⟨u,by rw[ysc];exact h1,h2⟩
theorem All2.mem {α β:Type}{R:α->β->Prop}{as:List α}{bs:List β}(h:All2 R as bs){a:α}(ha:a∈as):∃b∈bs,R a b:=by
 induction h with
 | nil=>cases ha
 | cons r t ih =>
  rcases yia.mp ha with rfl|z
  ·exact⟨_,ypa,r⟩
  ·obtain⟨b,hb,rb⟩:=ih z;exact⟨b,yla _ hb,rb⟩
theorem All2.mem2 {α β:Type}{R:α->β->Prop}{as:List α}{bs:List β}(z:All2 R as bs){b:β}(hb:b∈bs):∃a∈as,R a b:=by
 induction z with
 | nil=>cases hb
 | cons h _ ih =>
  rcases yia.mp hb with z|z
  ·rw[z];exact⟨_,ypa,h⟩
  ·obtain⟨a,ha,r⟩:=ih z;exact⟨a,yla _ ha,r⟩
theorem zecc (K:yba):yna K (.type "str") (.type "tuple")=some false:=by kernel_rfl
theorem zfcc (K:yba):yna K (.type "int") (.type "tuple")=some false:=by kernel_rfl
theorem zrjb {x:V}{u:Str}(hv:(x = .str u)∨∃i:Nat,i<1000∧x = .int i∧u=(toString (i:Int):Str))(H0:Hp)(Q':VK)(z:Q' (.str u) H0):rStrAny [x] H0 Q':=by
 unfold rStrAny
 rcases hv with e|⟨i,hi,e,rfl⟩
 ·exact .inl ⟨u,by rw[e],z⟩
 ·exact .inr ⟨i,by rw[e],(by rw[yve];exact zkk i hi),z⟩
inductive PT (n:Nat)(H:Hp):V->Str->Prop where
 | w {x:V} {y:Wh}:WT H x y->y.ok->dep y<n->y.size≤9->PT n H x (whT y)
 | s {u:Str}:zkd u->PT n H (.str u) u
 | i {i:Nat}:i<1000->PT n H (.int (i:Int)) (toString (i:Int):Str)
theorem PT.len {n:Nat}{H:Hp}{x:V}{u:Str}(h:PT n H x u):u.length≤200:=by
 cases h with
 | w _ o _ d=>exact zml o d
 | s o=>exact yab o.2.1 (by decide)
 | i hi=>exact yab (zue hi).2.2 (by decide)
theorem PT.same {n:Nat}{H H':Hp}(s:Same H H'){x:V}{u:Str}(h:PT n H x u):PT n H' x u:=by
 cases h with
 | w a b c d=>exact .w (a.same s) b c d
 | s a=>exact .s a
 | i a=>exact .i a
theorem zjc (y:Wh):y.words≠[]:=y.zjc
theorem WT.open {n:Nat}{H:Hp}{v:V}{y:Wh}(h:WT H v y)(ok:y.ok)(hn:dep y<n+1)(h2:y.size≤9):Ex3 λa xs us=>v = .ref a∧H a=some (.tup (.str y.word::xs))∧xs.length≤2∧All2 (PT n H) xs us∧yfa " " (y.word::us)=whT y:=by
 cases h with
 | all h=>exact⟨_,[],[],rfl,h,by simp,.nil,rfl⟩
 | self h=>exact⟨_,[],[],rfl,h,by simp,.nil,rfl⟩
 | mine h=>exact⟨_,[],[],rfl,h,by simp,.nil,rfl⟩
 | mark h=>exact⟨_,_,_,rfl,h,by simp,.cons (.s ok) .nil,rfl⟩
 | force h=>exact⟨_,_,_,rfl,h,by simp,.cons (.i ok) .nil,rfl⟩
 | @not a x y h t =>
  have m1:dep y+1<n+1:=hn;have m2:y.size+1≤9:=h2;refine⟨_,_,_,rfl,h,by simp,.cons (.w t ok (by omega) (by omega)) .nil,?_⟩;show yfa " " ["not",yfa " " y.words]=yfa " " ("not" :: y.words)
  rw[join_cons " " "not" (zjc y),join_cons " " "not" (yib _ _)];rfl
 | @both a x x' y y' h t t' =>
  have m1:max (dep y) (dep y')+1<n+1:=hn;have m2:y.size+y'.size+1≤9:=h2;refine⟨_,_,_,rfl,h,by simp,.cons (.w t ok.1 (by omega) (by omega)) (.cons (.w t' ok.2 (by omega) (by omega)) .nil),?_⟩;show yfa " " ["both",yfa " " y.words,yfa " " y'.words]=yfa " " ("both" :: (y.words++y'.words))
  rw[join_cons " " "both" (yib _ _),join_cons " " (yfa " " y.words) (yib _ _),join_cons " " "both" (λz=>zjc y (yih.mp z).1),zri " " (zjc y) (zjc y')];rfl
 | @any a x x' y y' h t t' =>
  have m1:max (dep y) (dep y')+1<n+1:=hn;have m2:y.size+y'.size+1≤9:=h2;refine⟨_,_,_,rfl,h,by simp,.cons (.w t ok.1 (by omega) (by omega)) (.cons (.w t' ok.2 (by omega) (by omega)) .nil),?_⟩;show yfa " " ["any",yfa " " y.words,yfa " " y'.words]=yfa " " ("any" :: (y.words++y'.words))
  rw[join_cons " " "any" (yib _ _),join_cons " " (yfa " " y.words) (yib _ _),join_cons " " "any" (λz=>zjc y (yih.mp z).1),zri " " (zjc y) (zjc y')];rfl
def zjn (n:Nat):Sp:=λvs H Q _=>Ex2 λv (y:Wh)=>vs=[v]∧WT H v y∧y.ok∧dep y<n∧y.size≤9∧∀H',Same H H'->Q (.str (whT y)) H'
theorem zyl {us:List Str}{m:Nat}(h:∀u∈us,u.length≤m):(us.map (·.length)).sum≤m*us.length:=by
 induction us with
 | nil=>exact yrb _
 | cons u r ih =>
  rw[ygb,ydd,yga,Nat.mul_succ];have:=h u ypa;have:=ih λv hv=>h v (yla _ hv);omega
theorem zimb (T:Tx K mg){n:Nat}(zohb:FnOk P w K mg base CX0 (n+2) T.zkb.f T.zkb.d zzg (zjn n)):FnOk P w K mg base CX0 (n+3) T.zkb.f T.zkb.d zzg (zjn (n+1)):=by
 refine T.zkb.ok zmm ?_;rintro f c A o s H vs Q E hr ⟨v,y,rfl,wt,ok,hn,h2,q⟩ X;obtain⟨a,xs,us,rfl,ea,hl,ps,eg⟩:=wt.open (n:=n) ok hn h2;refine⟨_,  (zca (zqa (i:=1) zmm.nd rfl (.inl rfl) (zob (zaa (zmb zxb (pv 0) zga (λ_ _=>rfl)) zba)))
  (zca (zur yqf rfl (zveb (zni zzub (pv 0) (zol zga) zpl)) (zfb (i:=2) zmm.nd rfl (.inl rfl))
   (zea (zvb (zif (zma zbc rfl T.zab yic (zaa (pv 2) (zaa (zpe (v:=.ty "tuple") rfl T.zde yme rfl) zba))))
    (zea (zvc (zjf ypb ydc yec zae (pv 1) (zaa (zia zohb hr rfl T.zkb.m T.zkb.F.kp (zgj T) .nil zdb (zaa (pv 2) zba)) zba))))
    (zea (zvc (zjf ypb ydc yec zae (pv 1) (zaa (zlb zmf rfl T.zvo ydi (zaa (pv 2) zba)) zba)))))))
  (zea (zwa (zjf ytb ygc yhc zqj zja (zaa (pv 1) zba)))))),?_⟩
 refine⟨_,rfl,a,_,_,_,rfl,rfl,SqT.of ea,zna (j:=0) rfl,sz1,λwl hwl=>?_⟩;refine laid hwl λH0 S0 e0=>?_;refine⟨_,rfl,_,rfl,a,_,rfl,SqT.of (S0 _ _ ea),?_,λb hb=>?_⟩
 ·rintro⟨z,_⟩;rw[show (1:Int)=((1:Nat):Int) from rfl,HT.zzhb,yga] at z;omega
 have ec:cutV (V.str y.word::xs) (some 1) none=xs:=by
  rw[show (1:Int)=((1:Nat):Int) from rfl,zqs];rfl
 rw[ec];refine laid hb λH1 S1 eb=>?_;have nbw:b≠wl:=yvc (zpa e0 hb);have S01:=S0.trans S1;refine⟨b,rfl,⟨_,SqT.of eb⟩,?_⟩;have wdl:y.word.length≤8:=(y.zll).2.2;have psl:=ps.len;refine zvyb (xs:=xs) (λi σ H'=>∃o,σ=[some (.ref a),some (.ref wl),o]∧H' wl=some (.lst ((y.word::us.take i).map V.str))∧H' b=some (.tup xs)∧Same H H') ⟨_,rfl,S1 _ _ e0,eb,S01⟩ ?_ ?_ ?_
 ·rintro i σ H' _ ⟨o,rfl,_,e,S⟩;exact SqT.of e
 ·rintro i x σ H' hx ⟨o,rfl,ew,eb',S⟩;obtain⟨u,eu,pu⟩:=ps.get hx;have i2:i<xs.length:=(yma.mp hx).1;have eg2:(y.word::us.take (i+1)).map V.str=(y.word::us.take i).map V.str++[V.str u]:=by
   rw[yob,eu,yxc,ygb,yva];rfl
  have sz:((y.word::us.take i).map V.str).length≤1000:=by
   rw[yaa,yga,yza];omega
  cases pu.same S with
  | @w x y' wt' ok' dn d2 =>
   obtain⟨a',xs',rfl,ea'⟩:=wt'.tup;refine⟨_,rfl,_,_,_,true,rfl,TyOf.tup ea',.inl ⟨"tuple",rfl,rfl⟩,_,rfl,iteT ?_⟩;refine⟨_,rfl,.inl ⟨rfl,_,SqL.of ew⟩,_,rfl,_,y',rfl,wt',ok',dn,d2,λH2 S2=>⟨wl,_,_,rfl,rfl,S2 _ _ ew,zyc sz,?_⟩⟩;exact⟨_,rfl,by rw[eg2];exact zfa,by rw[zxa nbw];exact S2 _ _ eb',zwf (S.trans S2) hwl _⟩
  | s _ =>
   refine⟨_,rfl,_,_,_,false,rfl,TyOf.str _,.inl ⟨"tuple",rfl,zecc _⟩,_,rfl,iteF ?_⟩;refine⟨_,rfl,.inl ⟨rfl,_,SqL.of ew⟩,_,rfl,zrjb (.inl rfl) _ _ ⟨wl,_,_,rfl,rfl,ew,zyc sz,?_⟩⟩;exact⟨_,rfl,by rw[eg2];exact zfa,by rw[zxa nbw];exact eb',zwf S hwl _⟩
  | i hi =>
   refine⟨_,rfl,_,_,_,false,rfl,TyOf.int _,.inl ⟨"tuple",rfl,zfcc _⟩,_,rfl,iteF ?_⟩;refine⟨_,rfl,.inl ⟨rfl,_,SqL.of ew⟩,_,rfl,zrjb (.inr ⟨_,hi,rfl,rfl⟩) _ _ ⟨wl,_,_,rfl,rfl,ew,zyc sz,?_⟩⟩;exact⟨_,rfl,by rw[eg2];exact zfa,by rw[zxa nbw];exact eb',zwf S hwl _⟩
 ·rintro σ H' ⟨o,rfl,ew,_,S⟩;rw[yya (by omega)] at ew;refine⟨rfl,_,rfl," ",wl,y.word::us,rfl,rfl,SqL.of ew,?_,?_⟩
  ·have z:=zyl (us:=y.word::us) (m:=200) λu hu=>by
    rcases yia.mp hu with z|z
    ·rw[z];omega
    ·obtain⟨x,_,pu⟩:=ps.mem2 z;exact pu.len
   rw[yga] at z ⊢;have e1:(" ":Str).length=1:=rfl;rw[e1];omega
  ·rw[eg];exact q H' S
theorem zjmb (T:Tx K mg):FnOk P w K mg base CX0 2 T.zkb.f T.zkb.d zzg (zjn 0):=by
 have no:∀vs H Q E,¬ zjn 0 vs H Q E:=λvs H Q E h=>by
  obtain⟨v,y,_,_,_,hd,_⟩:=h;omega
 exact⟨λvs H Q E h=>absurd h (no vs H Q E),λA outer s H args us vs Q E _ _ _ _ h=>absurd h (no vs H Q E)⟩
theorem zgn (T:Tx K mg):∀n:Nat,FnOk P w K mg base CX0 (n+2) T.zkb.f T.zkb.d zzg (zjn n)
 | 0=>zjmb T
 | n+1=>zimb T (zgn T n)
def Kp (H H':Hp):Prop:=∀a o,(∀xs,o≠HO.lst xs)->H a=some o->H' a=some o
theorem Kp.same {H H':Hp}(s:Same H H'):Kp H H':=λ_ _ _ h=>s _ _ h
theorem Kp.trans {H H1 H2:Hp}(a:Kp H H1)(b:Kp H1 H2):Kp H H2:=λc o n h=>b c o n (a c o n h)
theorem Kp.but {K:yba}{H H':Hp}{p:Addr}{k:Int}(t:Tk K H p k)(b:But p H H'):Kp H H':=λa o n h=>by
 obtain⟨c,ep⟩:=t.two;refine b a o (λz=>?_) h;rw[z,ep] at h;injection h with h
 exact n _ h.symm
theorem Kp.put {H:Hp}{l:Addr}{us vs:List V}(e:H l=some (.lst us)):Kp H (upd H l (.lst vs)):=λa o n h=>by
 rw[zxa λz=>?_]
 ·exact h
 ·rw[z,e] at h;injection h with h
  exact n _ h.symm
theorem Kp.t {H H':Hp}(s:Kp H H'){a:Addr}{xs:List V}(h:H a=some (.tup xs)):H' a=some (.tup xs):=s _ _ (λ_ z=>by cases z) h
theorem WT.kp {H H':Hp}(s:Kp H H'){v:V}{y:Wh}(z:WT H v y):WT H' v y:=by
 induction z with
 | all h=>exact .all (s.t h)
 | self h=>exact .self (s.t h)
 | mine h=>exact .mine (s.t h)
 | mark h=>exact .mark (s.t h)
 | force h=>exact .force (s.t h)
 | not h _ i=>exact .not (s.t h) i
 | both h _ _ i j=>exact .both (s.t h) i j
 | any h _ _ i j=>exact .any (s.t h) i j
theorem Tk.strs {K:yba}{H:Hp}{p l:Addr}{k:Int}{ss:List Str}(t:Tk K H p k)(h:H l=some (.lst (ss.map V.str))):l≠p:=λz=>by
 obtain⟨a,e⟩:=t.two;rw[z,e] at h;injection h with h
 injection h with h
 cases ss with
 | nil=>cases h
 | cons x r=>injection h with h;cases h
theorem zzlb (y:Wh):dep y<y.size:=by
 induction y with
 | not a i=>exact Nat.succ_lt_succ i
 | both a b i j =>
  show max (dep a) (dep b)+1<a.size+b.size+1
  omega
 | any a b i j =>
  show max (dep a) (dep b)+1<a.size+b.size+1
  omega
 | _=>exact Nat.zero_lt_one
structure Tab where
 pts:List Int
 scs:List Int
 gone:List Bool
 decks:List (List Int)
 hands:List (List Int)
 lying:List Int
 heap:List Int
 marks:List (List Str)
 wnds:List Int
def T1 (H:Hp)(v:V)(xs:List V):Prop:=∃b,v = .ref b∧H b=some (.tup xs)
def T2 (H:Hp)(v:V)(xss:List (List V)):Prop:=Ex2 λb us=>v = .ref b∧H b=some (.tup us)∧All2 (T1 H) us xss
theorem T1.kp {H H':Hp}(s:Kp H H'){v:V}{xs:List V}(h:T1 H v xs):T1 H' v xs:=by
 obtain⟨b,e,h⟩:=h;exact⟨b,e,s.t h⟩
theorem T2.kp {H H':Hp}(s:Kp H H'){v:V}{xss:List (List V)}(h:T2 H v xss):T2 H' v xss:=by
 obtain⟨b,us,e,h,al⟩:=h;exact⟨b,us,e,s.t h,al.imp λz=>z.kp s⟩
def iM (xs:List Int):List V:=xs.map V.int
def sM (xs:List Str):List V:=xs.map V.str
structure TabP (H:Hp)(t:Tab)(v0 v1 v2 v3 v4 v5 v6 v7 v8:V):Prop where
 p0:T1 H v0 (iM t.pts)
 p1:T1 H v1 (iM t.scs)
 p2:T1 H v2 (t.gone.map V.bl)
 p3:T2 H v3 (t.decks.map iM)
 p4:T2 H v4 (t.hands.map iM)
 p5:T1 H v5 (iM t.lying)
 p6:T1 H v6 (iM t.heap)
 p7:T2 H v7 (t.marks.map sM)
 p8:T1 H v8 (iM t.wnds)
theorem TabP.kp {H H':Hp}(s:Kp H H'){t:Tab}{v0 v1 v2 v3 v4 v5 v6 v7 v8:V}(h:TabP H t v0 v1 v2 v3 v4 v5 v6 v7 v8):TabP H' t v0 v1 v2 v3 v4 v5 v6 v7 v8:=⟨h.p0.kp s,h.p1.kp s,h.p2.kp s,h.p3.kp s,h.p4.kp s,h.p5.kp s,h.p6.kp s,h.p7.kp s,h.p8.kp s⟩
def TabT (H:Hp)(v:V)(t:Tab):Prop:=Ex10 λa v0 v1 v2 v3 v4 v5 v6 v7 v8=>v = .ref a∧H a=some (.tup [v0,v1,v2,v3,v4,v5,v6,v7,v8])∧TabP H t v0 v1 v2 v3 v4 v5 v6 v7 v8
theorem TabT.kp {H H':Hp}(s:Kp H H'){v:V}{t:Tab}(h:TabT H v t):TabT H' v t:=by
 obtain⟨a,v0,v1,v2,v3,v4,v5,v6,v7,v8,e,h,p⟩:=h;exact⟨a,v0,v1,v2,v3,v4,v5,v6,v7,v8,e,s.t h,p.kp s⟩
theorem zrhb {G:Prop}{Kx pre:V->Hp->Prop}(g:(∀v Hs,pre v Hs->Kx v Hs)->G)(k:∀v Hs,pre v Hs->Kx v Hs):G:=g k
inductive AmtV:Str->V->Wv->Prop where
 | leave:AmtV "leave" (.int 0) .non
 | gain {n:Str}:zkd n->AmtV "gain" (.str n) (.name n)
 | lack {n:Str}:zkd n->AmtV "lack" (.str n) (.name n)
 | hurt {i:Nat}:i<1000->AmtV "hurt" (.int (i:Int)) (.num i)
 | lose {i:Nat}:i<1000->AmtV "lose" (.int (i:Int)) (.num i)
 | score {i:Nat}:i<1000->AmtV "score" (.int (i:Int)) (.num i)
 | draw {i:Nat}:i<1000->AmtV "draw" (.int (i:Int)) (.num i)
theorem AmtV.ok {k:Str}{v:V}{z:Wv}(h:AmtV k v z):zym k z:=by
 cases h with
 | leave=>exact .leave
 | gain h=>exact .gain h
 | lack h=>exact .lack h
 | hurt h=>exact .hurt h
 | lose h=>exact .lose h
 | score h=>exact .score h
 | draw h=>exact .draw h
def DT (H:Hp)(v:V)(d:Deed):Prop:=Ex3 λa av x=>v = .ref a∧H a=some (.tup [.str d.each,.str d.kind,av,x])∧WT H x d.whom∧AmtV d.kind av d.amt∧d.ok
theorem DT.kp {H H':Hp}(s:Kp H H'){v:V}{d:Deed}(h:DT H v d):DT H' v d:=by
 obtain⟨a,av,x,e,h1,h2,h3,h4⟩:=h;exact⟨a,av,x,e,s.t h1,h2.kp s,h3,h4⟩
theorem zmcc:∀kd∈zib,inV (.str kd) [.str "gain",.str "lack"]=decide (kd∈(["gain","lack"]:List Str)):=by decide +kernel
theorem zndc {kd u:Str}(h:kd∈(["gain","lack"]:List Str))(hu:zkd u):AmtV kd (.str u) (.name u):=by
 simp only[yia,yvb,or_false] at h
 rcases h with rfl|rfl
 ·exact .gain hu
 ·exact .lack hu
theorem zmdc {kd:Str}{v:V}{f:Nat}(h:kd∈zib)(hg:kd∉(["gain","lack"]:List Str))(hv:(kd = "leave" ∧ v = .int 0)∨(kd ≠ "leave" ∧ v = .int (f:Int)))(hf:f<1000):∃z,AmtV kd v z:=by
 rcases hv with⟨rfl,rfl⟩|⟨n,rfl⟩
 ·exact⟨_,.leave⟩
 simp only[zib,yia,yvb,or_false] at h
 rcases h with rfl|rfl|rfl|rfl|rfl|rfl|rfl
 ·exact absurd rfl n
 ·exact⟨_,.hurt hf⟩
 ·exact absurd (by decide +kernel) hg
 ·exact absurd (by decide +kernel) hg
 ·exact⟨_,.lose hf⟩
 ·exact⟨_,.score hf⟩
 ·exact⟨_,.draw hf⟩
def zdsb (K:yba):Sp:=λvs H Q _=>Ex4 λp nl (k:Int) (ns:List Str)=>vs=[.ref p,.ref nl]∧Tk K H p k∧k≤700000∧N4 H nl ns∧∀v (d:Deed) (k':Int) H',But p H H'->Tk K H' p k'->k'≤k+26->DT H' v d->Q v H'
theorem znfb (T:Tx K mg):FnOk P w K mg base CX0 11 T.zkg.f T.zkg.d zqq (zdsb K):=by
 refine T.zkg.ok zyi ?_;rintro f c A o s H vs Q E hr ⟨p,nl,k,ns,rfl,TT,hk,N0,q⟩ X;refine⟨_,  (zca (zqa (i:=2) zyi.nd rfl (.inl rfl) (zmb zrb (zob (zaa zja (zaa zja (zaa zja (zaa zja (zaa zja (zaa zja (zaa zja zba)))))))) (zia (zla T).up hr rfl T.zda.m T.zda.F.kp (zsa T) .nil zdb (zaa (pv 0) (zaa zga zba))) (λ_ _=>rfl)))
  (zca (zqa (i:=3) zyi.nd rfl (.inl rfl) (zia (zoi T).up hr rfl T.zzb.m T.zzb.F.kp (zyj T) .nil zdb (zaa (pv 0) zba)))
  (zca (zvb (zta zzd (pv 2) zja (zza _))
   (zea (zqa (i:=3) zyi.nd rfl (.inl rfl) zga))
   zya)
  (zca (zvb (zta zzi (pv 2) (zqb (zaa zja (zaa zja zba))) rfl)
   (zea (zqa (i:=3) zyi.nd rfl (.inl rfl) (zmb zrb (pv 1) (zia (zla T).up hr rfl T.zda.m T.zda.F.kp (zsa T) .nil zdb (zaa (pv 0) (zaa zga zba))) (λ_ _=>rfl))))
   zya)
  (zea (zwa (zqb (zaa (zmb zrb (zob (zaa zja (zaa zja zba))) (zia (zla T).up hr rfl T.zda.m T.zda.F.kp (zsa T) .nil zdb (zaa (pv 0) (zaa zga zba))) (λ_ _=>rfl)) (zaa (pv 2) (zaa (pv 3) (zaa (zia (zzq T 5) hr rfl T.zcb.m T.zcb.F.kp (zsg T) .nil zdb (zaa (pv 0) (zaa (pv 1) (zaa (zub zlh zga (zia (zla T).up hr rfl T.zda.m T.zda.F.kp (zsa T) .nil zdb (zaa (pv 0) (zaa zga zba)))) zba)))) zba))))))))))),?_⟩
 refine⟨sz7,λl1 hl1=>?_⟩;refine laid hl1 λH1 S1 e1=>?_;have T1:=TT.same S1;have n1:l1≠p:=yvc (TT.ne hl1);refine⟨_,rfl,p,k,7,rfl,T1,by omega,by decide,λr H2 r0 r1 B2 T2=>?_⟩;obtain⟨kd,hkd,hm⟩:=zsm (ss:=zib) r0 r1;refine⟨l1,_,_,_,rfl,rfl,SqL.of (B2 _ _ n1 e1),hkd,?_⟩;have B02:But p H H2:=(But.same S1).trans B2;refine⟨_,rfl,p,k+1,rfl,T2,by omega,λf k3 H3 f1 B3 T3 hk3=>?_⟩;have B03:=B02.trans B3;refine⟨_,rfl,rfl,_,rfl,?_⟩;refine' zrhb (pre:=λv Hs=>Hs=H3∧((kd = "leave" ∧ v = .int 0)∨(kd ≠ "leave" ∧ v = .int (f:Int)))) (λkk=>?g1) ?k1
 case g1 =>
  refine ite2 (λc=>?a) (λc=>?b)
  case b =>
   obtain⟨v4,hv4⟩:∃x,x=V.int (f:Int):=⟨_,rfl⟩;obtain⟨Hz,hz⟩:∃h,h=H3:=⟨_,rfl⟩;rw[← hv4,← hz];exact kk v4 Hz ⟨hz,.inr ⟨λz=>c (decide_eq_true (by rw[z])),hv4⟩⟩
  case a =>
   have c':=of_decide_eq_true c;injection c' with c'
   exact kk (.int 0) H3 ⟨rfl,.inl ⟨c',rfl⟩⟩
 case k1 =>
 rintro v _ ⟨rfl,hv⟩;refine⟨_,rfl,sz2,λq2 hq2=>?_⟩;refine laid hq2 λH5 S5 e5=>?_;refine⟨q2,_,rfl,.inr (SqT.of e5),rfl,rfl,_,rfl,?_⟩;rw[zmcc kd hm];have T5:=T3.same S5;have B05:=B03.trans (But.same S5);refine' zrhb (pre:=λv' Hs=>But p H Hs∧(∃z,AmtV kd v' z)∧∃k',Tk K Hs p k'∧k'≤k+4) (λkk=>?g2) ?k2
 case g2 =>
  refine ite2 (λc=>?_) (λc=>?_)
  ·have c':=of_decide_eq_true c;refine⟨_,rfl,_,rfl,p,k3,4,rfl,T5,by omega,by decide,λt0 H6 t1 t2 B6 T6=>?_⟩;have N6:=N0.but TT (B05.trans B6);obtain⟨u,hu,hmu⟩:=zsm (ss:=ns) t1 (by rw[N0.len];exact t2);refine⟨nl,_,_,_,rfl,rfl,SqL.of N6.at_,hu,?_⟩;obtain⟨v4,hv4⟩:∃v,v=V.str u:=⟨_,rfl⟩;rw[← hv4];exact kk v4 H6 ⟨B05.trans B6,⟨_,by rw[hv4];exact zndc c' (N0.ok u hmu)⟩,_,T6,by omega⟩
  ·exact kk v H5 ⟨B05,zmdc hm (λy=>c (decide_eq_true y)) hv f1,_,T5,by omega⟩
 case k2 =>
 rintro av Hs ⟨Bs,⟨z,am⟩,k',Ts,hk'⟩;refine⟨sz2,λl2 hl2=>?_⟩;refine laid hl2 λH6 S6 e6=>?_;have n2:l2≠p:=yvc (Ts.ne hl2);refine⟨_,rfl,p,k',2,rfl,Ts.same S6,by omega,by decide,λr2 H7 a0 a1 B7 T7=>?_⟩;obtain⟨ea,hea,mea⟩:=zsm (ss:=zmv) a0 a1;have B07:=Bs.trans ((But.same S6).trans B7);refine⟨l2,_,_,_,rfl,rfl,SqL.of (B7 _ _ n2 e6),hea,_,rfl,_,rfl,_,rfl,_,rfl,_,rfl,p,k'+1,5,rfl,T7,by omega,by decide,λd0 H8 d1 d2 B8 T8=>⟨_,_,rfl,rfl,?_⟩⟩;obtain⟨d,hd0⟩:∃d:Nat,1+d0=(d:Int):=⟨(1+d0).toNat,by omega⟩;have B08:=B07.trans B8;refine⟨p,nl,_,ns,d,(by show [V.ref p,V.ref nl,V.int (1+d0)]=_;rw[hd0]),T8,by omega,N0.but TT B08,by omega,by omega,λwv y k9 H9 B9 T9 hk9 W9 ok9 y9=>⟨sz4,λa ha=>?_⟩⟩;refine laid ha λH10 S10 e10=>?_;exact q (.ref a) ⟨ea,kd,z,y⟩ k9 H10 (B08.trans (B9.trans (But.same S10))) (T9.same S10) (by omega) ⟨a,av,wv,rfl,e10,W9.same S10,am,⟨mea,am.ok,ok9,by show y.size≤9;omega⟩⟩
def zcgb (d:Deed):Str:=yfa " " d.words
theorem zlzb {k:Str}{av:V}{z:Wv}(h:AmtV k av z):∃u:Str,((av = .str u)∨∃i:Nat,i<1000∧av = .int i∧u=(toString (i:Int):Str))∧u.length≤8∧((k = "leave" ∧ z = .non)∨(k ≠ "leave" ∧ z.words=[u])):=by
 cases h with
 | leave=>exact⟨_,.inr ⟨0,by decide,rfl,rfl⟩,(zue (by decide:0<1000)).2.2,.inl ⟨rfl,rfl⟩⟩
 | gain h=>exact⟨_,.inl rfl,h.2.1,.inr ⟨by decide +kernel,rfl⟩⟩
 | lack h=>exact⟨_,.inl rfl,h.2.1,.inr ⟨by decide +kernel,rfl⟩⟩
 | hurt h=>exact⟨_,.inr ⟨_,h,rfl,rfl⟩,(zue h).2.2,.inr ⟨by decide +kernel,rfl⟩⟩
 | lose h=>exact⟨_,.inr ⟨_,h,rfl,rfl⟩,(zue h).2.2,.inr ⟨by decide +kernel,rfl⟩⟩
 | score h=>exact⟨_,.inr ⟨_,h,rfl,rfl⟩,(zue h).2.2,.inr ⟨by decide +kernel,rfl⟩⟩
 | draw h=>exact⟨_,.inr ⟨_,h,rfl,rfl⟩,(zue h).2.2,.inr ⟨by decide +kernel,rfl⟩⟩
theorem zpy (ea kd:Str)(z:Wv)(y:Wh):yfa " " (ea::kd::(z.words++[whT y]))=zcgb ⟨ea,kd,z,y⟩:=by
 have e:=zri " " (xs:=ea::kd::z.words) (ys:=[whT y]) (yib _ _) (yib _ _);have e2:=zri " " (xs:=ea::kd::z.words) (ys:=y.words) (yib _ _) (zjc y);rw[yyd,yyd] at e e2;rw[e];exact e2.symm
theorem ztqb {d:Deed}(h:d.ok):(zcgb d).length≤250:=by
 obtain⟨ea,kd,z,y⟩:=d;have a:=zbl " " (ea::kd::(z.words++[whT y]));rw[zpy] at a;have l1:(" ":Str).length=1:=rfl;have w1:(whT y).length≤200:=zml h.whom.1 h.whom.2;have e8:ea.length≤8:=(zrm (l:=zmv) (by decide +kernel) h.each).1.2.2;have k8:kd.length≤8:=(zrm (l:=zib) (by decide +kernel) h.amt.kind).1.2.2;have zz:z.words.length≤1∧(z.words.map (·.length)).sum≤8:=by
  have:=h.amt;cases this with
  | leave=>exact⟨by decide,by decide⟩
  | gain g=>exact⟨yja _,by show _+0≤8;exact g.2.1⟩
  | lack g=>exact⟨yja _,by show _+0≤8;exact g.2.1⟩
  | hurt g=>exact⟨yja _,by show _+0≤8;exact (zue g).2.2⟩
  | lose g=>exact⟨yja _,by show _+0≤8;exact (zue g).2.2⟩
  | score g=>exact⟨yja _,by show _+0≤8;exact (zue g).2.2⟩
  | draw g=>exact⟨yja _,by show _+0≤8;exact (zue g).2.2⟩
 simp only[ygb,yva,ype,ydd,ywi,yni,yga,yha,yre] at a;rw[l1] at a;omega
def zcxb:Sp:=λvs H Q _=>Ex2 λv (d:Deed)=>vs=[v]∧DT H v d∧∀H',Same H H'->Q (.str (zcgb d)) H'
theorem zcs (T:Tx K mg):FnOk P w K mg base CX0 12 T.zpc.f T.zpc.d zki zcxb:=by
 refine T.zpc.ok zsk ?_;rintro f c A o s H vs Q E hr ⟨v,⟨ea,kd,z,y⟩,rfl,⟨a,av,x,rfl,eA,W,am,ok⟩,q⟩ X;obtain⟨u,hv,u8,hz⟩:=zlzb am;have w1:(whT y).length≤200:=zml ok.whom.1 ok.whom.2;have y9:y.size≤9:=ok.whom.2;have e8:ea.length≤8:=(zrm (l:=zmv) (by decide +kernel) ok.each).1.2.2;have k8:kd.length≤8:=(zrm (l:=zib) (by decide +kernel) ok.amt.kind).1.2.2;have l1:(" ":Str).length=1:=rfl;refine⟨_,  (zca (zqa (i:=1) zsk.nd rfl (.inl rfl) (zob (zaa (zmb zxb (pv 0) zga (λ_ _=>rfl)) (zaa (zmb zxb (pv 0) zga (λ_ _=>rfl)) (zaa (zlb zmf rfl T.zvo ydi (zaa (zmb zxb (pv 0) zga (λ_ _=>rfl)) zba)) (zaa (zia (zgn T 9) hr rfl T.zkb.m T.zkb.F.kp (zgj T) .nil zdb (zaa (zmb zxb (pv 0) zga (λ_ _=>rfl)) zba)) zba))))))
  (zca (zvb (zta zzd (zmb zxb (pv 0) zga (λ_ _=>rfl)) zja (zza _))
   (zea (zvc (zjf ypb PySem.F.slot_list_pop PySem.F.type_list_pop zktb (pv 1) (zaa zga zba))))
   zya)
  (zea (zwa (zjf ytb ygc yhc zqj zja (zaa (pv 1) zba)))))),?_⟩
 refine⟨_,rfl,a,_,_,_,rfl,rfl,SqT.of eA,zna (j:=0) rfl,_,rfl,a,_,_,_,rfl,rfl,SqT.of eA,zna (j:=1) rfl,_,rfl,a,_,_,_,rfl,rfl,SqT.of eA,zna (j:=2) rfl,zrjb hv _ _ ?_⟩;refine⟨_,rfl,a,_,_,_,rfl,rfl,SqT.of eA,zna (j:=3) rfl,x,y,rfl,W,ok.whom.1,yra (zzlb y) y9,y9,λH1 S1=>⟨sz4,λl hl=>?_⟩⟩;have hl0:H l=none:=none_of S1 hl;refine laid hl λH2 S2 e2=>?_;have S02:=S1.trans S2;refine⟨_,rfl,a,_,_,_,rfl,rfl,SqT.of (S02 _ _ eA),zna (j:=1) rfl,rfl,_,rfl,ite2 (λc=>?_) (λc=>?_)⟩
 ·have c':=of_decide_eq_true c;injection c' with c'
  have c2:kd = "leave":=c';have zn:z = .non:=by
   rcases hz with⟨_,h⟩|⟨h,_⟩
   ·exact h
   ·exact absurd c2 h
  subst zn;refine⟨_,rfl,.inl ⟨rfl,_,SqL.of e2⟩,l,_,2,2,_,rfl,rfl,e2,by decide,by decide,rfl,rfl,?_⟩;refine⟨rfl,_,rfl," ",l,[ea,kd,whT y],rfl,rfl,SqL.of zfa,?_,?_⟩
  ·simp only[ygb,ype,ydd,yni,yga,yre];omega
  ·have et:=zpy ea kd .non y;have et':yfa " " [ea,kd,whT y]=zcgb ⟨ea,kd,.non,y⟩:=et;rw[et'];exact q _ (zwf S02 hl0 _)
 ·have c2:kd ≠ "leave":=λh=>c (decide_eq_true (by show V.str kd=_;rw[h]));have zw:z.words=[u]:=by
   rcases hz with⟨h,_⟩|⟨_,h⟩
   ·exact absurd h c2
   ·exact h
  refine⟨rfl,_,rfl," ",l,[ea,kd,u,whT y],rfl,rfl,SqL.of e2,?_,?_⟩
  ·simp only[ygb,ype,ydd,yni,yga,yre];omega
  ·have et:=zpy ea kd z y;rw[zw] at et;have et':yfa " " [ea,kd,u,whT y]=zcgb ⟨ea,kd,z,y⟩:=et;rw[et'];exact q _ S02
theorem zzv {c:TT}{a rest:TS}{D:Ends}{σ:L2.St}{H:Hp}(M:L2.St->Hp->Prop)(hR:∀ σ' H',M σ' H'->rest D σ' H')(h:∀R:L2.St->Hp->Prop,(∀ σ' H',M σ' H'->R σ' H')->tIfS c a zlwb { D with nx:=R } σ H):tSeq (tIfS c a zlwb) rest D σ H:=h _ hR
abbrev J (ws:List Str):Str:=yfa " " ws
def R28 (H:Hp)(v:V):Rule->Prop
 | .wen kd y d=>Ex3 λa x dv=>v = .ref a∧H a=some (.tup [.str "when",.str kd,x,dv])∧WT H x y∧DT H dv d∧kd∈zch∧plain y
 | .instead kd y w z=>Ex2 λa x=>v = .ref a∧H a=some (.tup [.str "instead",.str kd,x,.str w,valV z])∧WT H x y∧kd∈zib∧plain y∧w∈turns kd∧TurnOk w z
 | .hold u hv y=>Ex2 λa x=>v = .ref a∧H a=some (.tup [.str "hold",.str (J (u::hv.words)),x])∧WT H x y∧plain y∧zof u hv
 | .may _ _=>False
theorem R28.kp {H H':Hp}(s:Kp H H'){v:V}{r:Rule}(h:R28 H v r):R28 H' v r:=by
 cases r with
 | wen kd y d =>
  obtain⟨a,x,dv,e,h1,h2,h3,h4⟩:=h;exact⟨a,x,dv,e,s.t h1,h2.kp s,h3.kp s,h4⟩
 | instead kd y w z =>
  obtain⟨a,x,e,h1,h2,h3⟩:=h;exact⟨a,x,e,s.t h1,h2.kp s,h3⟩
 | hold u hv y =>
  obtain⟨a,x,e,h1,h2,h3⟩:=h;exact⟨a,x,e,s.t h1,h2.kp s,h3⟩
 | may c d=>exact h
theorem R28.ok {H:Hp}{v:V}{r:Rule}(h:R28 H v r):r.ok:=by
 cases r with
 | wen kd y d =>
  obtain⟨a,x,dv,e,h1,h2,⟨_,_,_,_,_,_,_,dok⟩,h4,h5⟩:=h;exact⟨h4,h5,dok⟩
 | instead kd y w z =>
  obtain⟨a,x,e,h1,h2,h3,h4,h5,h6⟩:=h;exact⟨h3,h4,h5,h6⟩
 | hold u hv y =>
  obtain⟨a,x,e,h1,h2,h3,h4⟩:=h;exact⟨h4,h3⟩
 | may c d=>exact h.elim
def isHd:Rule->Bool
 | .hold _ _ _=>true
 | _=>false
def RF (H:Hp)(v:V)(r:Rule):Prop:=Ex3 λa (s:Str) xs=>v = .ref a∧H a=some (.tup (.str s::xs))∧decide (V.str s=V.str "hold")=isHd r
theorem R28.rf {H:Hp}{v:V}{r:Rule}(h:R28 H v r):RF H v r:=by
 cases r with
 | wen kd y d =>
  obtain⟨a,x,dv,e,h1,_⟩:=h;exact⟨a,_,_,e,h1,(show decide (V.str "when" = V.str "hold")=false by decide +kernel)⟩
 | instead kd y w z =>
  obtain⟨a,x,e,h1,_⟩:=h;exact⟨a,_,_,e,h1,(show decide (V.str "instead" = V.str "hold")=false by decide +kernel)⟩
 | hold u hv y =>
  obtain⟨a,x,e,h1,_⟩:=h;exact⟨a,_,_,e,h1,(show decide (V.str "hold" = V.str "hold")=true by decide +kernel)⟩
 | may c d=>exact h.elim
theorem RF.kp {H H':Hp}(s:Kp H H'){v:V}{r:Rule}(h:RF H v r):RF H' v r:=by
 obtain⟨a,x,xs,e,h1,h2⟩:=h;exact⟨a,x,xs,e,s.t h1,h2⟩
theorem jc:∀{a b:List Str},a≠[]->b≠[]->J a ++ " " ++ J b=J (a++b)
 | [],_,h,_=>absurd rfl h
 | _,[],_,h=>absurd rfl h
 | [x],y::r,_,_=>rfl
 | x::y::r,b::bs,_,hb=>by
  have ih:=jc (a:=y::r) (b:=b::bs) (by simp) hb;show (x ++ " " ++ J (y::r)) ++ " " ++ J (b::bs)=x ++ " " ++ J (y::r++b::bs)
  rw[← ih,ymc,ymc,ymc,ymc,ymc]
theorem zaac {u:Str}{v:Hv}{y:Wh}:("hold ":Str)++J (u::v.words) ++ " " ++ J y.words=zcc (.hold u v y):=by
 rw[show ("hold ":Str) = "hold" ++ " " by decide +kernel];have e1:("hold":Str) ++ " " ++ J (u::v.words)=J ("hold" :: u::v.words):=jc (a:=["hold"]) (b:=u::v.words) (by simp) (by simp);rw[e1,jc (by simp) y.zjc];rfl
theorem zryb {u:Str}{v:Hv}(h:zof u v):(J (u::v.words)).length≤450:=by
 have a:=text_len (ws:=u::v.words) (λx hx=>((yia.mp hx).elim (λe=>by rw[e];exact zrm (l:=changes) (by decide +kernel) h.word) (h.words x)).1);have b:=zpvb h;rw[yga] at a;show (yfa " " (u::v.words)).length≤450
 omega
def zvrb (K:yba):Sp:=λvs H Q _=>Ex6 λp nl kl (k:Int) (ns ks:List Str)=>vs=[.ref p,.ref nl,.ref kl]∧Tk K H p k∧k≤600000∧N4 H nl ns∧H kl=some (.lst (ks.map V.str))∧1≤ks.length∧(∀x∈ks,x∈zch)∧∀v (r:Rule) (k':Int) H',But p H H'->Tk K H' p k'->k'≤k+48->R28 H' v r->Q v H'
def zzrb (K:yba):Sp:=λvs H Q _=>Ex6 λp nl kl (k:Int) (ns ks:List Str)=>vs=[.ref p,.ref nl,.ref kl]∧Tk K H p k∧k≤600000∧N4 H nl ns∧H kl=some (.lst (ks.map V.str))∧1≤ks.length∧ks.length≤10∧(∀x∈ks,x∈zib)∧∀v (r:Rule) (k':Int) H',But p H H'->Tk K H' p k'->k'≤k+48->R28 H' v r->Q v H'
def zasb (K:yba):Sp:=λvs H Q _=>Ex4 λp nl (k:Int) (ns:List Str)=>vs=[.ref p,.ref nl]∧Tk K H p k∧k≤600000∧N4 H nl ns∧∀v (r:Rule) (k':Int) H',But p H H'->Tk K H' p k'->k'≤k+48->R28 H' v r->Q v H'
def zzwb:Sp:=λvs H Q _=>Ex2 λv (r:Rule)=>vs=[v]∧R28 H v r∧∀H',Same H H'->Q (.str (zcc r)) H'
theorem zlfb (T:Tx K mg):FnOk P w K mg base CX0 12 T.zig.f T.zig.d zmq (zvrb K):=by
 refine T.zig.ok zdu ?_;rintro f c A o s H vs Q E hr ⟨p,nl,kl,k,ns,ks,rfl,TT,hk,N0,ek,k1,kw,q⟩ X;have nk:kl≠p:=TT.strs ek;have kle:((ks.map V.str).length:Int)=(ks.length:Int):=by rw[yaa]
 refine⟨_,  (zca (zqa (i:=3) zdu.nd rfl (.inl rfl) (zmb zrb (pv 2) (zia (zla T).up hr rfl T.zda.m T.zda.F.kp (zsa T) .nil zdb (zaa (pv 0) (zaa (zma zra rfl T.zxd ykb (zaa (pv 2) zba)) zba))) (λ_ _=>rfl)))
  (zea (zwa (zqb (zaa zja (zaa (pv 3) (zaa (zia (zzq T 5).up hr rfl T.zcb.m T.zcb.F.kp (zsg T) .nil zdb (zaa (pv 0) (zaa (pv 1) (zaa (zub zlh zga (zia (zla T).up hr rfl T.zda.m T.zda.F.kp (zsa T) .nil zdb (zaa (pv 0) (zaa zga zba)))) zba)))) (zaa (zia (znfb T) hr rfl T.zkg.m T.zkg.F.kp (zmjb T) .nil zdb (zaa (pv 0) (zaa (pv 1) zba))) zba)))))))),?_⟩
 refine⟨_,rfl,_,rfl,_,rfl,kl,_,rfl,.inl (SqL.of ek),p,k,(ks.length:Int),(by rw[← kle];rfl),TT,by omega,by omega,λr H1 r0 r1 B1 T1=>?_⟩;obtain⟨kd,hkd,hm⟩:=zsm (ss:=ks) r0 r1;refine⟨kl,_,_,_,rfl,rfl,SqL.of (B1 _ _ nk ek),hkd,?_⟩;refine⟨_,rfl,_,rfl,_,rfl,_,rfl,p,k+1,5,rfl,T1,by omega,by decide,λd0 H2 d1 d2 B2 T2=>⟨_,_,rfl,rfl,?_⟩⟩;obtain⟨d,hd0⟩:∃d:Nat,1+d0=(d:Int):=⟨(1+d0).toNat,by omega⟩;have B02:=B1.trans B2;refine⟨p,nl,_,ns,d,(by show [V.ref p,V.ref nl,V.int (1+d0)]=_;rw[hd0]),T2,by omega,N0.but TT B02,by omega,by omega,λwv y k3 H3 B3 T3 hk3 W3 ok3 y3=>?_⟩;have B03:=B02.trans B3;refine⟨_,rfl,_,rfl,p,nl,k3,ns,rfl,T3,by omega,N0.but TT B03,λdv dd k4 H4 B4 T4 hk4 D4=>⟨sz4,λa ha=>?_⟩⟩;refine laid ha λH5 S5 e5=>?_;exact q (.ref a) (.wen kd y dd) k4 H5 (B03.trans (B4.trans (But.same S5))) (T4.same S5) (by omega) ⟨a,wv,dv,rfl,e5,(W3.but T3 B4).same S5,D4.kp (Kp.same S5),kw kd hm,ok3,by omega⟩
theorem zmfb (T:Tx K mg):FnOk P w K mg base CX0 12 T.zjg.f T.zjg.d zoq (zasb K):=by
 refine T.zjg.ok zfu ?_;rintro f c A o s H vs Q E hr ⟨p,nl,k,ns,rfl,TT,hk,N0,q⟩ X;refine⟨_,  (zca (zqa (i:=2) zfu.nd rfl (.inl rfl) (zmb zrb (zob (zaa zja (zaa zja (zaa (zub zwg zja (zmb zrb (pv 1) (zia (zla T).up hr rfl T.zda.m T.zda.F.kp (zsa T) .nil zdb (zaa (pv 0) (zaa zga zba))) (λ_ _=>rfl))) (zaa zja zba))))) (zia (zla T).up hr rfl T.zda.m T.zda.F.kp (zsa T) .nil zdb (zaa (pv 0) (zaa zga zba))) (λ_ _=>rfl)))
  (zea (zwa (zqb (zaa zja (zaa (pv 2) (zaa (zia (zzq T 5).up hr rfl T.zcb.m T.zcb.F.kp (zsg T) .nil zdb (zaa (pv 0) (zaa (pv 1) (zaa (zub zlh zga (zia (zla T).up hr rfl T.zda.m T.zda.F.kp (zsa T) .nil zdb (zaa (pv 0) (zaa zga zba)))) zba)))) zba))))))),?_⟩
 refine⟨_,rfl,_,rfl,p,k,4,rfl,TT,by omega,by decide,λr H1 r0 r1 B1 T1=>?_⟩;have N1:=N0.but TT B1;obtain⟨nm,hnm,hm⟩:=zsm (ss:=ns) r0 (by rw[N0.len];exact r1);have nok:=N0.ok nm hm;have n8:=nok.2.1;have l5:("gain ":Str).length=5:=by decide +kernel
 refine⟨nl,_,_,_,rfl,rfl,SqL.of N1.at_,hnm,_,_,rfl,rfl,small (by omega),sz4,λl2 hl2=>?_⟩;refine laid hl2 λH2 S2 e2=>?_;have n2:l2≠p:=yvc (T1.ne hl2);refine⟨_,rfl,p,_,4,rfl,T1.same S2,by omega,by decide,λr3 H3 r30 r31 B3 T3=>?_⟩;obtain⟨u,hv,hok,hat⟩:Ex2 λ(u:Str) (hv:Hv)=>zof u hv∧atI [V.str "mute",V.str "steal",V.str ("gain " ++ nm),V.str "less 1"] r3=some (.str (J (u::hv.words))):=by
  obtain⟨v,hv,hm⟩:=zss (xs:=[V.str "mute",V.str "steal",V.str ("gain " ++ nm),V.str "less 1"]) r30 r31;rw[hv];simp only[yia,yvb,or_false] at hm
  rcases hm with e|e|e|e<;>rw[e]
  ·exact⟨"mute",.v .non,.mute,rfl⟩
  ·exact⟨"steal",.v .non,.steal,rfl⟩
  ·exact⟨"gain",.v (.name nm),.gain nok,by rw[show ("gain ":Str) = "gain" ++ " " by decide +kernel];rfl⟩
  ·exact⟨"less",.v (.num 1),.less (by decide),by rw[show ("less 1":Str)=J ["less",(toString ((1:Nat):Int):Str)] by decide +kernel];rfl⟩
 refine⟨l2,_,_,_,rfl,rfl,SqL.of (B3 _ _ n2 e2),hat,?_⟩;have B03:=(B1.trans (But.same S2)).trans B3;refine⟨_,rfl,_,rfl,_,rfl,_,rfl,p,_,3,rfl,T3,by omega,by decide,λd0 H4 d1 d2 B4 T4=>⟨_,_,rfl,rfl,?_⟩⟩;obtain⟨d,hd0⟩:∃d:Nat,1+d0=(d:Int):=⟨(1+d0).toNat,by omega⟩;have B04:=B03.trans B4;refine⟨p,nl,_,ns,d,(by show [V.ref p,V.ref nl,V.int (1+d0)]=_;rw[hd0]),T4,by omega,N0.but TT B04,by omega,by omega,λwv y k5 H5 B5 T5 hk5 W5 ok5 y5=>⟨sz3,λa ha=>?_⟩⟩;refine laid ha λH6 S6 e6=>?_;exact q (.ref a) (.hold u hv y) k5 H6 ((B04.trans B5).trans (But.same S6)) (T5.same S6) (by omega) ⟨a,wv,rfl,e6,W5.same S6,⟨ok5,by omega⟩,hok⟩
theorem zyzb:∀kd∈zib,∀a∈(["less","more"]:List Str),kd∈(["hurt","lose","score","draw"]:List Str)->a∈turns kd:=by decide +kernel
theorem zsdc:∀kd∈zib,kd∈(["lose","score","draw"]:List Str)->("as":Str)∈turns kd:=by decide +kernel
theorem zgwb:∀kd∈zib,("none":Str)∈turns kd:=by decide +kernel
theorem ziwb:∀kd∈zib,kd∈(["leave","hurt","gain","lack"]:List Str)->("here":Str)∈turns kd:=by decide +kernel
def TnV (H:Hp)(kd:Str)(u:V):Prop:=Ex3 λa (x:Str) (z:Wv)=>u = .ref a∧H a=some (.tup [.str x,valV z])∧x∈turns kd∧TurnOk x z
theorem TnV.kp {H H':Hp}(s:Kp H H'){kd:Str}{u:V}(h:TnV H kd u):TnV H' kd u:=by
 obtain⟨a,x,z,e,h1,h2⟩:=h;exact⟨a,x,z,e,s.t h1,h2⟩
theorem zwx (T:Tx K mg):FnOk P w K mg base CX0 12 T.zud.f T.zud.d zul (zzrb K):=by
 refine T.zud.ok ztc ?_;rintro f c A o s H vs Q E hr ⟨p,nl,kl,k,ns,ks,rfl,TT,hk,N0,ek,k1,k10,kw,q⟩ X;have nk:kl≠p:=TT.strs ek;have kle:((ks.map V.str).length:Int)=(ks.length:Int):=by rw[yaa]
 refine⟨_,  (zca (zqa (i:=3) ztc.nd rfl (.inl rfl) (zmb zrb (pv 2) (zia (zla T).up hr rfl T.zda.m T.zda.F.kp (zsa T) .nil zdb (zaa (pv 0) (zaa (zma zra rfl T.zxd ykb (zaa (pv 2) zba)) zba))) (λ_ _=>rfl)))
  (zca (zvb (zta zzd (pv 3) zja (zza _))
   (zea (zqa (i:=3) ztc.nd rfl (.inl rfl) zja))
   zya)
  (zca (zqa (i:=4) ztc.nd rfl (.inl rfl) (zia (zzq T 5).up hr rfl T.zcb.m T.zcb.F.kp (zsg T) .nil zdb (zaa (pv 0) (zaa (pv 1) (zaa (zub zlh zga (zia (zla T).up hr rfl T.zda.m T.zda.F.kp (zsa T) .nil zdb (zaa (pv 0) (zaa zga zba)))) zba)))))
  (zca (zqa (i:=5) ztc.nd rfl (.inl rfl) (zob (zaa (zqb (zaa zja (zaa zyk zba))) zba)))
  (zca (zvb (zta zzi (pv 3) (zqb (zaa zja (zaa zja (zaa zja (zaa zja zba))))) rfl)
   (zea (zqa (i:=5) ztc.nd rfl (.inl rfl) (zub zbn (pv 5) (zob (zaa (zqb (zaa zja (zaa zyk zba))) (zaa (zqb (zaa zja (zaa zyk zba))) zba))))))
   zya)
  (zca (zvb (zta zzi (pv 3) (zqb (zaa zja (zaa zja (zaa zja (zaa zja zba))))) rfl)
   (zea (zqa (i:=5) ztc.nd rfl (.inl rfl) (zub zbn (pv 5) (zob (zaa (zqb (zaa zja (zaa zga zba))) (zaa (zqb (zaa zja (zaa (zia (zoi T).up hr rfl T.zzb.m T.zzb.F.kp (zyj T) .nil zdb (zaa (pv 0) zba)) zba))) zba))))))
   zya)
  (zca (zvb (zta zzi (pv 3) (zqb (zaa zja (zaa zja (zaa zja zba)))) rfl)
   (zea (zqa (i:=5) ztc.nd rfl (.inl rfl) (zub zbn (pv 5) (zub zobc (zob (zaa (zqb (zaa zja (zaa (zmb zrb (zob (zaa zja (zaa zja (zaa zja zba)))) (zia (zla T).up hr rfl T.zda.m T.zda.F.kp (zsa T) .nil zdb (zaa (pv 0) (zaa zga zba))) (λ_ _=>rfl)) zba))) zba)) zga))))
   zya)
  (zea (zwa (zub zspb (zqb (zaa zja (zaa (pv 3) (zaa (pv 4) zba)))) (zmb zrb (pv 5) (zia (zla T).up hr rfl T.zda.m T.zda.F.kp (zsa T) .nil zdb (zaa (pv 0) (zaa (zma zra rfl T.zxd ykb (zaa (pv 5) zba)) zba))) (λ_ _=>rfl)))))))))))),?_⟩
 refine⟨_,rfl,_,rfl,_,rfl,kl,_,rfl,.inl (SqL.of ek),p,k,(ks.length:Int),(by rw[← kle];rfl),TT,by omega,by omega,λr H1 r0 r1 B1 T1=>?_⟩;obtain⟨kd,hkd,hm⟩:=zsm (ss:=ks) r0 r1;have mk:=kw kd hm;refine⟨kl,_,_,_,rfl,rfl,SqL.of (B1 _ _ nk ek),hkd,?_⟩
 try dsimp only[zny]
 refine⟨_,rfl,rfl,_,rfl,?_⟩;refine ite2 (λc=>?_) (λ_=>?_)
 ·exfalso;have c':=of_decide_eq_true c;injection c' with c'
  rw[c'] at mk;exact absurd mk (by decide +kernel)
 refine⟨_,rfl,_,rfl,_,rfl,p,k+1,5,rfl,T1,by omega,by decide,λd0 H2 d1 d2 B2 T2=>⟨_,_,rfl,rfl,?_⟩⟩;obtain⟨d,hd0⟩:∃d:Nat,1+d0=(d:Int):=⟨(1+d0).toNat,by omega⟩;have B02:=B1.trans B2;refine⟨p,nl,_,ns,d,(by show [V.ref p,V.ref nl,V.int (1+d0)]=_;rw[hd0]),T2,by omega,N0.but TT B02,by omega,by omega,λwv y k3 H3 B3 T3 hk3 W3 ok3 y3=>?_⟩;have B03:=B02.trans B3;have py:plain y:=⟨ok3,by omega⟩;refine⟨sz2,λt4 ht4=>?_⟩;refine laid ht4 λH4 S4 e4=>?_;refine⟨sz1,λl5 hl5=>?_⟩;have n5:l5≠p:=yvc ((T3.same S4).ne hl5);refine laid hl5 λH5 S5 e5=>?_;have S35:=S4.trans S5;have tv5:TnV H5 kd (.ref t4):=⟨t4,"none",.non,rfl,S5 _ _ e4,zgwb kd mk,.none⟩
 try dsimp only[zny]
 refine zzv (fun σ' H'=>Ex2 λsl us=>σ'=[some (.ref p),some (.ref nl),some (.ref kl),some (.str kd),some wv,some (.ref sl)]∧H' sl=some (.lst us)∧sl≠p∧us≠[]∧us.length≤3∧(∀u∈us,TnV H' kd u)∧Same H3 H') ?_ ?_
 case refine_2 =>
  intro R hR;refine⟨_,rfl,sz4,λtp htp=>⟨tp,_,rfl,.inr (SqT.of zfa),rfl,rfl,_,rfl,?_⟩⟩;have S6:=zoa htp (.tup [.str "leave",.str "hurt",.str "gain",.str "lack"]);generalize upd H5 tp (.tup [.str "leave",.str "hurt",.str "gain",.str "lack"])=H6 at *;refine ite2 (λc=>?_) (λc=>?_)
  ·have m:=zrj (ss:=["leave","hurt","gain","lack"]).mp c;refine⟨_,rfl,sz2,λta hta=>?_⟩;refine laid hta λH7 S7 e7=>?_;refine⟨sz2,λtb htb=>?_⟩;refine laid htb λH8 S8 e8=>?_;refine⟨sz2,λl9 hl9=>?_⟩;refine laid hl9 λH9 S9 e9=>?_;have S59:=S6.trans (S7.trans (S8.trans S9));refine⟨l5,l9,_,_,rfl,rfl,S59 _ _ e5,e9,sz3,λc hc=>?_⟩;have ncp:c≠p:=yvc ((T3.same (S35.trans S59)).ne hc);refine laid hc λH10 S10 e10=>?_;refine hR _ _ ⟨c,_,rfl,e10,ncp,by simp,by show 3≤3;decide,λu hu=>?_,S35.trans (S59.trans S10)⟩;have hh:TurnOk "here" .non:=.here;have mh:=ziwb kd mk m
   rcases yua.mp hu with z|z
   ·rw[yda.mp z];exact tv5.kp (Kp.same (S59.trans S10))
   ·rcases yia.mp z with z|z
    ·rw[z];exact⟨ta,"here",.non,rfl,(S8.trans (S9.trans S10)) _ _ e7,mh,hh⟩
    ·rw[yda.mp z];exact⟨tb,"here",.non,rfl,(S9.trans S10) _ _ e8,mh,hh⟩
  ·refine hR _ _ ⟨l5,_,rfl,S6 _ _ e5,n5,by simp,by show 1≤3;decide,λu hu=>?_,S35.trans S6⟩;rw[yda.mp hu];exact tv5.kp (Kp.same S6)
 rintro σa Ha ⟨sa,ua,rfl,ea,nsa,una,ula,tva,Sa⟩;have Ta:=T3.same Sa;have Ba:=B03.trans (But.same Sa);have Wa:=W3.same Sa
 try dsimp only[zny]
 refine zzv (fun σ' H'=>Ex3 λsl us (k':Int)=>σ'=[some (.ref p),some (.ref nl),some (.ref kl),some (.str kd),some wv,some (.ref sl)]∧H' sl=some (.lst us)∧sl≠p∧us≠[]∧us.length≤5∧(∀u∈us,TnV H' kd u)∧But p Ha H'∧Tk K H' p k'∧k'≤k3+2) ?_ ?_
 case refine_2 =>
  intro R hR;refine⟨_,rfl,sz4,λtp htp=>⟨tp,_,rfl,.inr (SqT.of zfa),rfl,rfl,_,rfl,?_⟩⟩;have S6:=zoa htp (.tup [.str "hurt",.str "lose",.str "score",.str "draw"]);generalize upd Ha tp (.tup [.str "hurt",.str "lose",.str "score",.str "draw"])=H6 at *;refine ite2 (λc=>?_) (λc=>?_)
  ·have m:=zrj (ss:=["hurt","lose","score","draw"]).mp c;refine⟨_,rfl,sz2,λta hta=>?_⟩;refine laid hta λH7 S7 e7=>?_;refine⟨_,rfl,p,_,rfl,(Ta.same S6).same S7,by omega,λfi k8 H8 hfi B8 T8 hk8=>?_⟩;refine⟨sz2,λtb htb=>?_⟩;refine laid htb λH9 S9 e9=>?_;refine⟨sz2,λl10 hl10=>?_⟩;refine laid hl10 λH10 S10 e10=>?_;have B610:But p H6 H10:=(But.same S7).trans (B8.trans (But.same (S9.trans S10)));have kpx:=Kp.but (Ta.same S6) B610;have ea10:=B610 _ _ nsa (S6 _ _ ea);refine⟨sa,l10,_,_,rfl,rfl,ea10,e10,small (by show ua.length+2≤1000;omega),λc hc=>?_⟩;have T10:=T8.same (S9.trans S10);have ncp:c≠p:=yvc (T10.ne hc);refine laid hc λH11 S11 e11=>?_;refine hR _ _ ⟨c,_,k8,rfl,e11,ncp,by simp,by rw[yha];show ua.length+2≤5;omega,λu hu=>?_,((But.same S6).trans B610).trans (But.same S11),T10.same S11,hk8⟩
   rcases yua.mp hu with z|z
   ·exact (tva u z).kp ((Kp.same S6).trans (kpx.trans (Kp.same S11)))
   ·rcases yia.mp z with z|z
    ·rw[z];have e7':=(Kp.but ((Ta.same S6).same S7) B8).t e7;exact⟨ta,"less",.num 1,rfl,(S9.trans (S10.trans S11)) _ _ e7',zyzb kd mk "less" (by simp) m,.less (by decide)⟩
    ·rw[yda.mp z];exact⟨tb,"more",.num fi,rfl,(S10.trans S11) _ _ e9,zyzb kd mk "more" (by simp) m,.more hfi⟩
  ·exact hR _ _ ⟨sa,ua,k3,rfl,S6 _ _ ea,nsa,una,by omega,λu hu=>(tva u hu).kp (Kp.same S6),But.same S6,Ta.same S6,by omega⟩
 rintro σb Hb ⟨sb,ub,kb,rfl,eb,nsb,unb,ulb,tvb,Bab,Tb,hkb⟩;have Wb:=Wa.but Ta Bab
 try dsimp only[zny]
 refine zzv (fun σ' H'=>Ex3 λsl us (k':Int)=>σ'=[some (.ref p),some (.ref nl),some (.ref kl),some (.str kd),some wv,some (.ref sl)]∧H' sl=some (.lst us)∧sl≠p∧us≠[]∧us.length≤7∧(∀u∈us,TnV H' kd u)∧But p Hb H'∧Tk K H' p k'∧k'≤k3+3) ?_ ?_
 case refine_2 =>
  intro R hR;refine⟨_,rfl,sz3,λtp htp=>⟨tp,_,rfl,.inr (SqT.of zfa),rfl,rfl,_,rfl,?_⟩⟩;have S6:=zoa htp (.tup [.str "lose",.str "score",.str "draw"]);generalize upd Hb tp (.tup [.str "lose",.str "score",.str "draw"])=H6 at *;refine ite2 (λc=>?_) (λc=>?_)
  ·have m:=zrj (ss:=["lose","score","draw"]).mp c;refine⟨_,rfl,sz3,λl7 hl7=>?_⟩;have n7:l7≠p:=yvc ((Tb.same S6).ne hl7);refine laid hl7 λH7 S7 e7=>?_;refine⟨_,rfl,p,_,3,rfl,(Tb.same S6).same S7,by omega,by decide,λr8 H8 r80 r81 B8 T8=>?_⟩;obtain⟨x,hat,hx⟩:=zsm (ss:=zzh) r80 r81;refine⟨l7,_,_,_,rfl,rfl,SqL.of (B8 _ _ n7 e7),hat,sz2,λtb htb=>?_⟩;refine laid htb λH9 S9 e9=>?_;refine⟨sz1,λl10 hl10=>?_⟩;refine laid hl10 λH10 S10 e10=>?_;refine⟨l10,_,_,rfl,rfl,e10,(by decide),(by decide),(by show 1*(2:Int).toNat≤yxa;decide),λl11 hl11=>?_⟩;refine laid hl11 λH11 S11 e11=>?_;have B611:But p H6 H11:=(But.same S7).trans (B8.trans (But.same (S9.trans (S10.trans S11))));have kpx:=Kp.but (Tb.same S6) B611;have eb11:=B611 _ _ nsb (S6 _ _ eb);refine⟨sb,l11,_,_,rfl,rfl,eb11,e11,small (by show ub.length+2≤1000;omega),λc hc=>?_⟩;have T11:=T8.same (S9.trans (S10.trans S11));have ncp:c≠p:=yvc (T11.ne hc);refine laid hc λH12 S12 e12=>?_;refine hR _ _ ⟨c,_,_,rfl,e12,ncp,by simp[unb],by rw[yha];show ub.length+2≤7;omega,λu hu=>?_,((But.same S6).trans B611).trans (But.same S12),T11.same S12,by omega⟩
   rcases yua.mp hu with z|z
   ·exact (tvb u z).kp ((Kp.same S6).trans (kpx.trans (Kp.same S12)))
   ·have z':u∈[V.ref tb,V.ref tb]:=z;have eu:u=V.ref tb:=(by simpa using z');rw[eu];exact⟨tb,"as",.name x,rfl,(S10.trans (S11.trans S12)) _ _ e9,zsdc kd mk m,.as hx⟩
  ·exact hR _ _ ⟨sb,ub,kb,rfl,S6 _ _ eb,nsb,unb,by omega,λu hu=>(tvb u hu).kp (Kp.same S6),But.same S6,Tb.same S6,by omega⟩
 rintro σc Hc ⟨sc,uc,kc,rfl,ec,nsc,unc,ulc,tvc,Bbc,Tc,hkc⟩;have Wc:=Wb.but Tb Bbc;have ul1:1≤uc.length:=ygi.mpr unc;refine⟨_,rfl,_,rfl,sz3,λt1 ht1=>?_⟩;refine laid ht1 λHd Sd ed=>?_;have ec':=Sd _ _ ec;refine⟨_,rfl,_,rfl,_,rfl,sc,_,rfl,.inl (SqL.of ec'),p,_,_,rfl,Tc.same Sd,by omega,by omega,λr He r0 r1 Be Te=>?_⟩;obtain⟨v,hv,hmv⟩:=zss (xs:=uc) r0 r1;obtain⟨ta,x,z,rfl,eta,hx,hz⟩:=(tvc v hmv).kp ((Kp.same Sd).trans (Kp.but (Tc.same Sd) Be));refine⟨sc,_,_,_,rfl,rfl,SqL.of (Be _ _ nsc ec'),hv,?_⟩;have ed':=(Kp.but (Tc.same Sd) Be).t ed;refine⟨t1,ta,_,_,rfl,rfl,SqT.of ed',SqT.of eta,yib _ _,sz5,(λe=>by cases e),λ_ c hc=>?_⟩;refine laid hc λHf Sf ef=>?_;exact q (.ref c) (.instead kd y x z) _ Hf (((Ba.trans Bab).trans Bbc).trans ((But.same Sd).trans (Be.trans (But.same Sf)))) (Te.same Sf) (by omega) ⟨c,wv,rfl,ef,((Wc.same Sd).but (Tc.same Sd) Be).same Sf,mk,py,hx,hz⟩
theorem zaob (kd:Str)(y:Wh)(d:Deed):yfa " " ["when",kd,whT y,"do",zcgb d]=zcc (.wen kd y d):=zskb kd y d
theorem zinb (kd:Str)(y:Wh)(u:Str)(z:Wv):yfa " " ([("instead":Str),kd,whT y,"do",u]++z.words)=zcc (.instead kd y u z):=zkv kd y u z
theorem zas (T:Tx K mg):FnOk P w K mg base CX0 13 T.znc.f T.znc.d zii zzwb:=by
 refine T.znc.ok zrk ?_;rintro f c A o s H vs Q E hr ⟨v,r,rfl,hR,q⟩ X;refine⟨_,  (zca (zvb (zta zzd (zmb zxb (pv 0) zga (λ_ _=>rfl)) zja (zza _))
   (zea (zwa (zjf ytb ygc yhc zqj zja (zaa (zob (zaa zja (zaa (zmb zxb (pv 0) zga (λ_ _=>rfl)) (zaa (zia (zgn T 9).up hr rfl T.zkb.m T.zkb.F.kp (zgj T) .nil zdb (zaa (zmb zxb (pv 0) zga (λ_ _=>rfl)) zba)) (zaa zja (zaa (zia (zcs T) hr rfl T.zpc.m T.zpc.F.kp (zot T) .nil zdb (zaa (zmb zxb (pv 0) zga (λ_ _=>rfl)) zba)) zba)))))) zba))))
   zya)
  (zca (zvb (zta zzd (zmb zxb (pv 0) zga (λ_ _=>rfl)) zja (zza _))
   (zea (zwa (zub zwg (zub zwg (zub zwg zja (zmb zxb (pv 0) zga (λ_ _=>rfl))) zja) (zia (zgn T 9).up hr rfl T.zkb.m T.zkb.F.kp (zgj T) .nil zdb (zaa (zmb zxb (pv 0) zga (λ_ _=>rfl)) zba)))))
   zya)
  (zca (zqa (i:=1) zrk.nd rfl (.inl rfl) (zob (zaa zja (zaa (zmb zxb (pv 0) zga (λ_ _=>rfl)) (zaa (zia (zgn T 9).up hr rfl T.zkb.m T.zkb.F.kp (zgj T) .nil zdb (zaa (zmb zxb (pv 0) zga (λ_ _=>rfl)) zba)) (zaa zja (zaa (zmb zxb (pv 0) zga (λ_ _=>rfl)) zba)))))))
  (zca (zvb (zta zrpb (zmb zxb (pv 0) zga (λ_ _=>rfl)) zyk (zza _))
   (zea (zvc (zjf ypb ydc yec zae (pv 1) (zaa (zlb zmf rfl T.zvo ydi (zaa (zmb zxb (pv 0) zga (λ_ _=>rfl)) zba)) zba))))
   zya)
  (zea (zwa (zjf ytb ygc yhc zqj zja (zaa (pv 1) zba)))))))),?_⟩
 cases r with
 | may c d=>exact hR.elim
 | wen kd y d =>
  obtain⟨a,x,dv,rfl,eA,W,D,hkd,py⟩:=hR;have w1:(whT y).length≤200:=zml py.1 py.2;have k8:kd.length≤8:=(zrm (l:=zch) (by decide +kernel) hkd).1.2.2;have dl:(zcgb d).length≤250:=by
   obtain⟨_,_,_,_,_,_,_,dok⟩:=D;exact ztqb dok
  have l1:(" ":Str).length=1:=rfl;have lw:("when":Str).length=4:=by decide
  have ld:("do":Str).length=2:=by decide
  refine⟨_,rfl,a,_,_,_,rfl,rfl,SqT.of eA,zna (j:=0) rfl,rfl,_,rfl,iteT ?_⟩;refine⟨rfl,_,rfl,a,_,_,_,rfl,rfl,SqT.of eA,zna (j:=1) rfl,_,rfl,a,_,_,_,rfl,rfl,SqT.of eA,zna (j:=2) rfl,x,y,rfl,W,py.1,yra (zzlb y) py.2,py.2,λH1 S1=>?_⟩;refine⟨_,rfl,a,_,_,_,rfl,rfl,SqT.of (S1 _ _ eA),zna (j:=3) rfl,dv,d,rfl,D.kp (Kp.same S1),λH2 S2=>⟨sz5,λl hl=>?_⟩⟩;refine laid hl λH3 S3 e3=>?_;refine⟨" ",l,["when",kd,whT y,"do",zcgb d],rfl,rfl,SqL.of e3,?_,?_⟩
  ·simp only[ygb,ype,ydd,yni,yga,yre];omega
  ·rw[zaob];exact q H3 (S1.trans (S2.trans S3))
 | hold u hv y =>
  obtain⟨a,x,rfl,eA,W,py,hok⟩:=hR;have w1:(whT y).length≤200:=zml py.1 py.2;have hl:=zryb hok;have l5:("hold ":Str).length=5:=by decide +kernel
  have l1:(" ":Str).length=1:=rfl;refine⟨_,rfl,a,_,_,_,rfl,rfl,SqT.of eA,zna (j:=0) rfl,rfl,_,rfl,iteF ?_⟩;refine⟨_,rfl,a,_,_,_,rfl,rfl,SqT.of eA,zna (j:=0) rfl,rfl,_,rfl,iteT ?_⟩;refine⟨_,rfl,a,_,_,_,rfl,rfl,SqT.of eA,zna (j:=1) rfl,_,_,rfl,rfl,small (by omega),_,_,rfl,rfl,small (by rw[len_app];omega),_,rfl,a,_,_,_,rfl,rfl,SqT.of eA,zna (j:=2) rfl,x,y,rfl,W,py.1,yra (zzlb y) py.2,py.2,λH1 S1=>?_⟩;refine⟨_,_,rfl,rfl,small (by rw[len_app,len_app];omega),?_⟩;rw[show ("hold ":Str)++J (u::hv.words) ++ " " ++ whT y=zcc (.hold u hv y) from zaac];exact q H1 S1
 | instead kd y u z =>
  obtain⟨a,x,rfl,eA,W,hkd,py,hu,hz⟩:=hR;have w1:(whT y).length≤200:=zml py.1 py.2;have k8:kd.length≤8:=(zrm (l:=zib) (by decide +kernel) hkd).1.2.2;have u8:u.length≤8:=hz.word.1.2.2;have l1:(" ":Str).length=1:=rfl;have li:("instead":Str).length=7:=by decide
  have ld:("do":Str).length=2:=by decide
  refine⟨_,rfl,a,_,_,_,rfl,rfl,SqT.of eA,zna (j:=0) rfl,rfl,_,rfl,iteF ?_⟩;refine⟨_,rfl,a,_,_,_,rfl,rfl,SqT.of eA,zna (j:=0) rfl,rfl,_,rfl,iteF ?_⟩;refine⟨_,rfl,a,_,_,_,rfl,rfl,SqT.of eA,zna (j:=1) rfl,_,rfl,a,_,_,_,rfl,rfl,SqT.of eA,zna (j:=2) rfl,x,y,rfl,W,py.1,yra (zzlb y) py.2,py.2,λH1 S1=>?_⟩;refine⟨_,rfl,a,_,_,_,rfl,rfl,SqT.of (S1 _ _ eA),zna (j:=3) rfl,sz5,λl hl=>?_⟩;refine laid hl λH2 S2 e2=>?_;have eA2:=(S1.trans S2) _ _ eA;have fin:∀{H3:Hp} (ws:List Str),Same H H3->H3 l=some (.lst (([("instead":Str),kd,whT y,"do",u]++ws).map V.str))->ws=z.words->(∀x∈ws,x.length≤8)->ws.length≤1->Ex3 λsep a ys=>V.str " " = .str sep∧[V.ref l]=[.ref a]∧SqL K H3 a (ys.map V.str)∧(ys.map (·.length)).sum+ys.length*sep.length≤16777216∧Q (.str (yfa sep ys)) H3:=λ{H3} ws S3 e3 ew h8 h1=>by
   refine⟨" ",l,[("instead":Str),kd,whT y,"do",u]++ws,rfl,rfl,SqL.of e3,?_,?_⟩
   ·have z:=zyl (us:=ws) (m:=8) h8;simp only[yva,ywi,yha,ygb,ype,ydd,yni,yga,yre];rw[l1,Nat.mul_one];omega
   ·rw[ew,zinb];exact q H3 S3
  have hw8:∀x∈z.words,x.length≤8:=λx hx=>(hz.words x hx).1.2.2;cases z with
  | non =>
   refine⟨_,rfl,a,_,_,_,rfl,rfl,SqT.of eA2,zna (j:=4) rfl,rfl,_,rfl,iteF ?_⟩;exact⟨rfl,_,rfl,fin [] (S1.trans S2) e2 rfl (by simp) (by decide)⟩
  | name n =>
   refine⟨_,rfl,a,_,_,_,rfl,rfl,SqT.of eA2,zna (j:=4) rfl,rfl,_,rfl,iteT ?_⟩;refine⟨_,rfl,.inl ⟨rfl,_,SqL.of e2⟩,_,rfl,a,_,_,_,rfl,rfl,SqT.of eA2,zna (j:=4) rfl,?_⟩;refine zvs (u:=n) (.inl rfl) _ _ ?_;refine⟨l,_,_,rfl,rfl,e2,zyc (by show 5≤1000;decide),?_⟩;exact⟨rfl,_,rfl,fin [n] (zwf (S1.trans S2) (none_of S1 hl) _) zfa rfl hw8 (yja 1)⟩
  | num i =>
   have hi:i<1000:=(by cases hz<;>assumption);refine⟨_,rfl,a,_,_,_,rfl,rfl,SqT.of eA2,zna (j:=4) rfl,rfl,_,rfl,iteT ?_⟩;refine⟨_,rfl,.inl ⟨rfl,_,SqL.of e2⟩,_,rfl,a,_,_,_,rfl,rfl,SqT.of eA2,zna (j:=4) rfl,?_⟩;refine zvs (u:=(toString (i:Int):Str)) (.inr ⟨i,hi,rfl,rfl⟩) _ _ ?_;refine⟨l,_,_,rfl,rfl,e2,zyc (by show 5≤1000;decide),?_⟩;exact⟨rfl,_,rfl,fin [(toString (i:Int):Str)] (zwf (S1.trans S2) (none_of S1 hl) _) zfa rfl hw8 (yja 1)⟩
theorem zmtb {ns ms zs:List Str}(hs:ms.Sublist ns)(hl:ns.length=4)(hok:∀n∈ns,zkd n)(hnd:ns.Nodup)(hp:zs.Perm ms)(so:yom zs=true):Marks zs where
 ok:=λm hm=>hok m (hs.subset (hp.mem_iff.mp hm))
 nd:=hp.nodup_iff.mpr (hs.nodup hnd)
 so:=so
 le:=by
  have a:=hs.length_le;have b:=hp.length_eq;omega
theorem zgr {ms:List Str}(h:∀m∈ms,zkd m):ycd (.tuple (ms.map .str))=true:=by
 unfold ycd;rw[yod,zdw ms (λx hx=>zplb (h x hx)),ygg,zps];rfl
theorem zeub (zs:List Str):ywf (.tuple (zs.map .str)) (.tuple [])=decide (zs=[]):=by
 cases zs with
 | nil=>simp[ywf,yoe]
 | cons x r=>simp[ywf,yoe]
def zesb (K:yba):Sp:=λvs H Q _=>Ex7 λp nl rl (k:Int) (ns:List Str) us (rs:List Rule)=>vs=[.ref p,.ref nl,.ref rl]∧Tk K H p k∧k≤600000∧N4 H nl ns∧H rl=some (.lst us)∧rl≠p∧All2 (R28 H) us rs∧rs.length≤3∧∀l m (c:Crd) (k':Int) H',But p H H'->Tk K H' p k'->k'≤k+8->H l=none->H' l=some (.lst [.str c.text,.ref m,.int (c.force:Int),.ref rl,.int (c.cost:Int)])->H' m=some (.tup (sM c.marks))->c.ok->c.rules=rs->c.marks.length≤4->Q (.ref l) H'
theorem zpfb (T:Tx K mg):FnOk P w K mg base CX0 14 T.zmg.f T.zmg.d zsq (zesb K):=by
 refine T.zmg.ok zbe ?_;rintro f c A o s H vs Q E hr ⟨p,nl,rl,k,ns,us,rs,rfl,TT,hk,N0,er,nrp,al,r3,q⟩ X;refine⟨_,  (zca (zqa (i:=3) zbe.nd rfl (.inl rfl) (zlb zdc rfl T.zde yme (zaa (zma ztv rfl T.zyq boot_sorted (zaa (zxc (own:=["_law_name"]) (cap:=["_law_pen"]) rfl (zeb.chk rfl rfl) (.cons (j:=0) rfl (.inl rfl) (.inl rfl) .nil) (zyd (pv 1)) (λ_ _ _ _=>(zfb (i:=0) (show ync (["_law_name","_law_pen"]:List Str) by decide +kernel) rfl (.inl rfl))) (λ_ _ _ _=>zct (zta zzd (zia (zla T).up hr rfl T.zda.m T.zda.F.kp (zsa T) .nil zdb (zaa (pv 1) (zaa zga zba))) zga (zza _))) (λ_ _ _ _=>by exact (pv 0))) zba)) zba)))
  (zca (zqa (i:=4) zbe.nd rfl (.inl rfl) (zia (zoi T).up hr rfl T.zzb.m T.zzb.F.kp (zyj T) .nil zdb (zaa (pv 0) zba)))
  (zca (zqa (i:=5) zbe.nd rfl (.inl rfl) (zia (zla T).up hr rfl T.zda.m T.zda.F.kp (zsa T) .nil zdb (zaa (pv 0) (zaa zga zba))))
  (zca (zqa (i:=6) zbe.nd rfl (.inl rfl) (zjf ytb ygc yhc zqlb zja (zaa (pv 3) zba)))
  (zca (zvb (zta (zqbc hr.units) (pv 3) (zqb zba) (zza _))
   (zea (zqa (i:=6) zbe.nd rfl (.inl rfl) zja))
   zya)
  (zca (zqa (i:=7) zbe.nd rfl (.inl rfl) (zjf ytb ygc yhc zqj zja (zaa (zob (zaa (zmb zrb (pv 1) (zia (zla T).up hr rfl T.zda.m T.zda.F.kp (zsa T) .nil zdb (zaa (pv 0) (zaa zga zba))) (λ_ _=>rfl)) (zaa (zlb zfj rfl T.zvo ydi (zaa (pv 4) zba)) (zaa (zlb zfj rfl T.zvo ydi (zaa (pv 5) zba)) (zaa (pv 6) zba))))) zba)))
  (zca (zqa (i:=8) zbe.nd rfl (.inl rfl) (zjf ytb ygc yhc zqj zja (zaa (zub zbn (zob (zaa (pv 7) zba)) (zxc (own:=["_law_rule"]) (cap:=[]) rfl (zeb.chk rfl rfl) .nil (zyd (pv 2)) (λ_ _ _ _=>(zfb (i:=0) (show ync (["_law_rule"]:List Str) by decide +kernel) rfl (.inl rfl))) (λ_ _ _ _=>zuc) (λ_ _ _ _=>by exact (zia (zas T) hr rfl T.znc.m T.znc.F.kp (zmt T) .nil zdb (zaa (pv 0) zba))))) zba)))
  (zea (zwa (zob (zaa (pv 8) (zaa (pv 3) (zaa (pv 5) (zaa (pv 2) (zaa (pv 4) zba))))))))))))))),?_⟩
 refine⟨_,rfl,nl,rfl,⟨_,SqL.of N0.at_⟩,?_⟩;refine zbd (xs:=ns.map V.str) (λi ys H'=>Ex2 λ(ms:List Str) (k':Int)=>ys=ms.map V.str∧ms.Sublist (ns.take i)∧But p H H'∧Tk K H' p k'∧k'≤k+i∧i≤4) (λi ys H' ⟨ms,k',_,_,B,_⟩=>SqL.of (N0.but TT B).at_) ⟨[],k,rfl,List.nil_sublist _,But.refl p H,TT,by omega,by omega⟩ ?_ ?_ ?_
 ·rintro i ys H' ⟨ms,k',rfl,hs,_,_,_,hi⟩;rw[yaa];have:=hs.length_le;rw[yza] at this;exact small (by omega)
 ·rintro i v ys H' hv ⟨ms,k',rfl,hs,B',T',hk',_⟩;rw[yhb] at hv;obtain⟨u,hu,rfl⟩:=ymb.mp hv;have hi4:i<4:=by rw[← N0.len];exact (yma.mp hu).1
  refine⟨rfl,_,rfl,p,k',3,rfl,T',by omega,by decide,λr H5 a5 b5 B5 T5=>⟨rfl,_,rfl,?_⟩⟩;refine ite2 (λ_=>?_) (λ_=>?_)
  ·refine⟨_,rfl,ms++[u],k'+1,by rw[yva];rfl,?_,B'.trans B5,T5,by omega,by omega⟩;rw[yob,hu];exact hs.append (ydq _)
  ·refine⟨ms,k'+1,rfl,?_,B'.trans B5,T5,by omega,by omega⟩;rw[yob,hu];exact hs.trans (ygm _ _)
 rintro ys H1 ⟨ms,k1,rfl,hs,B1,T1,hk1,_⟩ b hb;rw[yaa,N0.len] at hk1;have ml4:=hs.length_le;rw[yaa,yya (yja _)] at hs;refine laid hb λH2 S2 e2=>?_;have ml:=hs.length_le;rw[N0.len] at ml;refine⟨b,ms,rfl,SqL.of e2,by omega,λso zs hso pz sz=>?_⟩;refine laid hso λH3 S3 e3=>?_;have MK:=zmtb hs N0.len N0.ok N0.nd pz sz;have zl:zs.length≤4:=by rw[pz.length_eq];exact ml
 refine⟨so,_,rfl,.inl ⟨SqL.of e3,λtm htm=>?_⟩⟩;refine laid htm λH4 S4 e4=>?_;have S14:=S2.trans (S3.trans S4);have T4:=T1.same S14;have B4:=B1.trans (But.same S14);refine⟨_,rfl,p,k1,rfl,T4,by omega,λco k5 H5 hco B5 T5 hk5=>?_⟩;refine⟨_,rfl,p,k5,5,rfl,T5,by omega,by decide,λfo0 H6 f0 f1 B6 T6=>?_⟩;obtain⟨fo,rfl⟩:∃f:Nat,fo0=(f:Int):=⟨fo0.toNat,by omega⟩;have hfo:fo<1000:=by omega
 have B46:=B5.trans B6;have e6:=(Kp.but T4 B46).t e4;have zz:(zs.map (·.length)).sum+zs.length*(",":Str).length≤16777216:=by
  have z:=zyl (us:=zs) (m:=8) λu hu=>(MK.ok u hu).2.1;have l1:(",":Str).length=1:=rfl;rw[l1];omega
 refine⟨rfl,_,rfl,",",tm,zs,rfl,rfl,SqT.of e6,zz,?_⟩;refine⟨_,rfl,sz0,λem hem=>?_⟩;refine laid hem λH7 S7 e7=>?_;refine⟨.tuple (zs.map .str),.tuple [],.tup (SqT.of (S7 _ _ e6)) (zmp _),.tup (SqT.of e7) .nil,zgr MK.ok,(by unfold ycd;rw[yod,ypd,ygg,yfe];rfl),_,rfl,?_⟩;rw[zeub];refine' zrhb (pre:=λv Hs=>Hs=H7∧v=V.str (zce zs)) (λkk=>?g1) ?k1
 case g1 =>
  refine ite2 (λc=>?a) (λc=>?b)
  case b =>
   have zn:yfa "," zs=zce zs:=by
    cases zs with
    | nil=>exact absurd (decide_eq_true rfl) c
    | cons x r=>rfl
   obtain⟨v4,hv4⟩:∃x,x=V.str (yfa "," zs):=⟨_,rfl⟩;obtain⟨Hz,hz⟩:∃h,h=H7:=⟨_,rfl⟩;rw[← hv4,← hz];exact kk v4 Hz ⟨hz,by rw[hv4,zn]⟩
  case a =>
   have z0:zs=[]:=of_decide_eq_true c;exact kk (.str "-") H7 ⟨rfl,by rw[z0];rfl⟩
 case k1 =>
 rintro _ _ ⟨rfl,rfl⟩;have T7:=T6.same S7;have B07:=B4.trans (B46.trans (But.same S7));refine⟨rfl,_,rfl,_,rfl,p,_,4,rfl,T7,by omega,by decide,λr H8 r0 r1 B8 T8=>?_⟩;have B08:=B07.trans B8;have N8:=N0.but TT B08;obtain⟨nm,hnm,hm⟩:=zsm (ss:=ns) r0 (by rw[N0.len];exact r1);have nok:=N0.ok nm hm;refine⟨nl,_,_,_,rfl,rfl,SqL.of N8.at_,hnm,_,rfl,_,rfl,(by rw[yve];exact zkk _ hco),_,rfl,_,rfl,(by rw[yve];exact zkk _ hfo),_,rfl,sz4,λl9 hl9=>?_⟩;refine laid hl9 λH9 S9 e9=>?_;have mt:=(zgm MK).2;have n8:=nok.2.1;have c8:=(zue hco).2.2;have f8:=(zue hfo).2.2;have l1:(" ":Str).length=1:=rfl;refine⟨" ",l9,(Crd.mk nm co fo zs rs).head,rfl,rfl,SqL.of e9,?_,?_⟩
 ·show ([nm,(toString (co:Int):Str),(toString (fo:Int):Str),zce zs].map (·.length)).sum+4*_≤_;simp only[ygb,ype,ydd,yni];omega
 have cok:(Crd.mk nm co fo zs rs).ok:=⟨nok,hco,hfo,MK,(λr hr=>by
  obtain⟨v,_,z⟩:=al.mem2 hr;exact z.ok),r3⟩
 refine⟨rfl,_,rfl,sz1,λl10 hl10=>?_⟩;refine laid hl10 λH10 S10 e10=>?_;have S810:=S9.trans S10;have B010:=B08.trans (But.same S810);have er10:=B010 _ _ nrp er;have al10:All2 (R28 H10) us rs:=al.imp λz=>z.kp (Kp.but TT B010);have ul:=al.len;refine⟨_,rfl,rl,rfl,⟨_,SqL.of er10⟩,?_⟩;refine zbd (xs:=us) (λi ys H'=>Same H10 H'∧ys=(rs.take i).map λr=>V.str (zcc r)) (λi ys H' z=>SqL.of (z.1 _ _ er10)) ⟨Same.refl _,rfl⟩ ?_ ?_ ?_
 ·rintro i ys H' ⟨_,rfl⟩;rw[yaa,yza];exact small (by omega)
 ·rintro i v ys H' hv ⟨S,rfl⟩;obtain⟨r,hr,z⟩:=al10.get hv;refine⟨rfl,_,rfl,v,r,rfl,z.kp (Kp.same S),λH'' S''=>⟨S.trans S'',?_⟩⟩;rw[yob,hr,yxc,yva];rfl
 rintro ys H11 ⟨S11,rfl⟩ l12 hl12;rw[ul,yya (yja _)];refine laid hl12 λH12 S12 e12=>?_;refine⟨l10,l12,_,_,rfl,rfl,(S11.trans S12) _ _ e10,e12,?_,λl13 hl13=>?_⟩
 ·rw[yaa];exact small (by show 1+rs.length≤1000;omega)
 refine laid hl13 λH13 S13 e13=>?_;have e13':H13 l13=some (.lst ((yfa " " (Crd.mk nm co fo zs rs).head::rs.map zcc).map V.str)):=by
  rw[e13,ygb,yud];rfl
 have hh:=Crd.zgw cok;refine⟨" / ",l13,_,rfl,rfl,SqL.of e13',?_,?_⟩
 ·have z:=zyl (us:=yfa " " (Crd.mk nm co fo zs rs).head::rs.map zcc) (m:=450) λu hu=>by
   rcases yia.mp hu with z|z
   ·rw[z];omega
   ·obtain⟨r,hr,rfl⟩:=ysb.mp z;exact zqr (cok.rules r hr)
  have l3:(" / ":Str).length=3:=by decide
  rw[yga,yaa] at z;rw[yga,yaa,l3];omega
 have S813:=S810.trans (S11.trans (S12.trans S13));refine⟨_,rfl,_,rfl,_,rfl,_,rfl,_,rfl,sz5,λl14 hl14=>?_⟩;have B013:=B08.trans (But.same S813);have hl0:H l14=none:=by
  cases e:H l14 with
  | none=>rfl
  | some o =>
   by_cases z:l14=p
   ·have T13:=T8.same S813;rw[z] at hl14;obtain⟨a,e2⟩:=T13.two;rw[e2] at hl14;cases hl14
   ·have:=B013 _ _ z e;rw[this] at hl14;cases hl14
 refine laid hl14 λH14 S14' e14=>?_;have S814:=S813.trans S14';refine q l14 tm (Crd.mk nm co fo zs rs) _ H14 (B08.trans (But.same S814)) (T8.same S814) (by omega) hl0 e14 ?_ cok rfl zl;exact S814 _ _ ((Kp.but T7 B8).t (S7 _ _ e6))
theorem zukb {H Hx:Hp}{p l:Addr}{us:List V}(e:H l=none)(B:But p H Hx):But p H (upd Hx l (.lst us)):=λb o nb hb=>by
 rw[zxa (zpa hb e)];exact B b o nb hb
def CT (H:Hp)(X:Addr->Prop)(v:V)(c:Crd):Prop:=Ex4 λl m rl us=>v = .ref l∧H l=some (.lst [.str c.text,.ref m,.int (c.force:Int),.ref rl,.int (c.cost:Int)])∧H m=some (.tup (sM c.marks))∧H rl=some (.lst us)∧All2 (RF H) us c.rules∧c.ok∧c.marks.length≤4∧X rl
theorem CT.ref {H:Hp}{X:Addr->Prop}{v:V}{c:Crd}(h:CT H X v c):∃l,v = .ref l:=by
 obtain⟨l,_,_,_,e,_⟩:=h;exact⟨l,e⟩
theorem CT.mono {H:Hp}{X Y:Addr->Prop}(i:∀a,X a->Y a){v:V}{c:Crd}(h:CT H X v c):CT H Y v c:=by
 obtain⟨l,m,rl,us,e,h1,h2,h3,h4,h5,h6,h7⟩:=h;exact⟨l,m,rl,us,e,h1,h2,h3,h4,h5,h6,i _ h7⟩
theorem CT.same {H H':Hp}{X:Addr->Prop}(s:Same H H'){v:V}{c:Crd}(h:CT H X v c):CT H' X v c:=by
 obtain⟨l,m,rl,us,e,h1,h2,h3,h4,h5⟩:=h;exact⟨l,m,rl,us,e,s _ _ h1,s _ _ h2,s _ _ h3,h4.imp λz=>z.kp (Kp.same s),h5⟩
theorem CT.but {K:yba}{H H':Hp}{X:Addr->Prop}{p:Addr}{k:Int}(t:Tk K H p k)(b:But p H H'){v:V}{c:Crd}(h:CT H X v c):CT H' X v c:=by
 obtain⟨l,m,rl,us,e,h1,h2,h3,h4,h5⟩:=h;obtain⟨a,ep⟩:=t.two;refine⟨l,m,rl,us,e,b _ _ (λz=>?_) h1,(Kp.but t b).t h2,b _ _ (λz=>?_) h3,h4.imp λz=>z.kp (Kp.but t b),h5⟩
 ·rw[z,ep] at h1;injection h1 with h1
  injection h1 with h1
  cases h1
 ·rw[z,ep] at h3;injection h3 with h3
  injection h3 with h3
  obtain⟨r,hr,a2,s2,xs2,e2,_⟩:=h4.mem (show V.int k∈us by rw[← h3];simp);cases e2
theorem CT.put {H:Hp}{X:Addr->Prop}{d:Addr}{us ws:List V}(e:H d=some (.lst us))(hr:∀u∈us,∃l,u=V.ref l)(hX:∀a,X a->a≠d){v:V}{c:Crd}(h:CT H X v c):CT (upd H d (.lst ws)) X v c:=by
 obtain⟨l,m,rl,vs,e1,h1,h2,h3,h4,h5,h6,h7⟩:=h;refine⟨l,m,rl,vs,e1,?_,(Kp.put e).t h2,?_,h4.imp λz=>z.kp (Kp.put e),h5,h6,h7⟩
 ·rw[zxa λz=>?_]
  ·exact h1
  ·rw[z,e] at h1;injection h1 with h1
   injection h1 with h1
   obtain⟨y,hy⟩:=hr (.str c.text) (by rw[h1];exact ypa);cases hy
 ·rw[zxa (hX rl h7)];exact h3
theorem CTs.ref {H:Hp}{X:Addr->Prop}{vs:List V}{cs:List Crd}(h:All2 (CT H X) vs cs):∀u∈vs,∃l,u=V.ref l:=λu hu=>by
 obtain⟨c,_,z⟩:=h.mem hu;exact z.ref
def zxob (K:yba):Sp:=λvs H Q _=>Ex5 λp nl (b:Bool) (k:Int) (ns:List Str)=>vs=[.ref p,.ref nl,.bl b]∧Tk K H p k∧k≤500000∧N4 H nl ns∧∀v (c:Crd) (k':Int) H',But p H H'->Tk K H' p k'->k'≤k+200->CT H' (λa=>H a=none) v c->Q v H'
theorem zbs (T:Tx K mg):FnOk P w K mg base CX0 15 T.zoc.f T.zoc.d zji (zxob K):=by
 refine T.zoc.ok zre ?_;rintro f c A o s H vs Q E hr ⟨p,nl,b,k,ns,rfl,TT,hk,N0,q⟩ X;refine⟨_,  (zca (zqa (i:=3) zre.nd rfl (.inl rfl) (zob zba))
  (zca (zur yqf rfl (zuf rfl T.zuh (zaa (zia (zla T).up hr rfl T.zda.m T.zda.F.kp (zsa T) .nil zdb (zaa (pv 0) (zaa zga zba))) zba)) (zfb (i:=4) zre.nd rfl (.inl rfl))
   (zca (zqa (i:=5) zre.nd rfl (.inl rfl) (zia (zla T).up hr rfl T.zda.m T.zda.F.kp (zsa T) .nil zdb (zaa (pv 0) (zaa zga zba))))
   (zea (zvb (PW.pt (zqp (zif (pv 2)) (zrn (PW.pt (zblb (zta zzd (pv 5) zga (zza _)) (ztbb (zta zzd (zia (zla T).up hr rfl T.zda.m T.zda.F.kp (zsa T) .nil zdb (zaa (pv 0) (zaa zga zba))) zga (zza _))))))))
    (zea (zvc (zjf ypb ydc yec zae (pv 3) (zaa (zia (zmfb T).up hr rfl T.zjg.m T.zjg.F.kp (zljb T) .nil zdb (zaa (pv 0) (zaa (pv 1) zba))) zba))))
    (zea (zvb (zta zzd (pv 5) zga (zza _))
     (zea (zvc (zjf ypb ydc yec zae (pv 3) (zaa (zia (zlfb T).up hr rfl T.zig.m T.zig.F.kp (zkjb T) .nil zdb (zaa (pv 0) (zaa (pv 1) (zaa (zob (zaa zja (zaa zja (zaa zja zba)))) zba)))) zba))))
     (zea (zvc (zjf ypb ydc yec zae (pv 3) (zaa (zia (zwx T).up hr rfl T.zud.m T.zud.F.kp (zaab T) .nil zdb (zaa (pv 0) (zaa (pv 1) (zaa (zob (zaa zja (zaa zja (zaa zja zba)))) zba)))) zba))))))))))
  (zea (zwa (zia (zpfb T) hr rfl T.zmg.m T.zmg.F.kp (zojb T) .nil zdb (zaa (pv 0) (zaa (pv 1) (zaa (pv 3) zba)))))))),?_⟩
 refine⟨sz0,λrl hrl=>?_⟩;refine laid hrl λH1 S1 e1=>?_;have T1:=TT.same S1;have nrp:rl≠p:=yvc (TT.ne hrl);refine⟨_,rfl,p,k,4,rfl,T1,by omega,by decide,λr0 H2 r1 r2 B2 T2=>?_⟩;obtain⟨r,rfl⟩:∃r:Nat,r0=(r:Int):=⟨r0.toNat,by omega⟩;refine⟨_,rfl,by omega,by omega,?_⟩;rw[yac];have B02:But p H H2:=(But.same S1).trans B2;refine zms (lo:=0) (n:=r) (λi σ Hz=>Ex5 λus (rs:List Rule) (k3:Int) o4 o5=>σ=[some (.ref p),some (.ref nl),some (.bl b),some (.ref rl),o4,o5]∧Hz rl=some (.lst us)∧All2 (R28 Hz) us rs∧rs.length=i∧i≤r∧But p H Hz∧Tk K Hz p k3∧k3≤k+1+50*(i:Int)) ⟨[],[],_,_,_,rfl,B2 _ _ nrp e1,.nil,rfl,yrb _,B02,T2,by omega⟩ ?_ ?_
 ·rintro i σ Hz hi ⟨us,rs,k3,o4,o5,rfl,eu,alu,rll,_,Bz,Tz,hk3⟩;have ul:=alu.len;refine⟨_,rfl,p,k3,3,rfl,Tz,by omega,by decide,λway H4 w0 w1 B4 T4=>?_⟩;have eu4:=B4 _ _ nrp eu;have al4:All2 (R28 H4) us rs:=alu.imp λz=>z.kp (Kp.but Tz B4);have B04:=Bz.trans B4;have put:∀{H8:Hp} {v:V} {rr:Rule} {kx ky:Int} {Hy:Hp},All2 (R28 Hy) us rs->Hy rl=some (.lst us)->But p H Hy->Tk K Hy p kx->But p Hy H8->Tk K H8 p ky->ky≤k3+50->R28 H8 v rr->Ex5 λus' (rs':List Rule) (k3':Int) o4 o5=>([some (.ref p),some (.ref nl),some (.bl b),some (.ref rl),some (.int (0+(i:Int))),some (.int way)]:L2.St)=[some (.ref p),some (.ref nl),some (.bl b),some (.ref rl),o4,o5]∧upd H8 rl (.lst (us++[v])) rl=some (.lst us')∧All2 (R28 (upd H8 rl (.lst (us++[v])))) us' rs'∧rs'.length=i+1∧i+1≤r∧But p H (upd H8 rl (.lst (us++[v])))∧Tk K (upd H8 rl (.lst (us++[v]))) p k3'∧k3'≤k+1+50*((i+1:Nat):Int):=λ{H8 v rr kx ky Hy} aly euy By Ty B8 T8 hk8 R8=>by
   have eu8:=B8 _ _ nrp euy;have kpp:Kp H8 (upd H8 rl (.lst (us++[v]))):=Kp.put eu8;exact⟨us++[v],rs++[rr],ky,_,_,rfl,zfa,All2.snoc (R8.kp kpp) (aly.imp λz=>z.kp ((Kp.but Ty B8).trans kpp)),by rw[yha,rll];rfl,hi,zukb hrl (By.trans B8),T8.other eu8 (yvc nrp),by omega⟩
  refine⟨_,rfl,_,rfl,?_⟩;cases b with
  | true =>
   refine iteT (iteT ?_);exact⟨_,rfl,.inl ⟨rfl,_,SqL.of eu4⟩,_,rfl,_,rfl,p,nl,_,ns,rfl,T4,by omega,N0.but TT B04,λv rr k5 H8 B8 T8 hk5 R8=>⟨rl,_,_,rfl,rfl,B8 _ _ nrp eu4,zyc (by omega),put al4 eu4 B04 T4 B8 T8 (by omega) R8⟩⟩
  | false =>
  refine iteF ?_;refine⟨_,rfl,rfl,_,rfl,?_⟩;refine ite2 (λc0=>?_) (λc0=>?_)
  ·refine⟨_,rfl,p,_,3,rfl,T4,by omega,by decide,λr5 H5 r50 r51 B5 T5=>⟨rfl,_,rfl,?_⟩⟩;have eu5:=B5 _ _ nrp eu4;have al5:All2 (R28 H5) us rs:=al4.imp λz=>z.kp (Kp.but T4 B5);have B05:=B04.trans B5;refine ite2 (λ_=>?_) (λ_=>?_)
   ·exact⟨_,rfl,.inl ⟨rfl,_,SqL.of eu5⟩,_,rfl,_,rfl,p,nl,_,ns,rfl,T5,by omega,N0.but TT B05,λv rr k5 H8 B8 T8 hk5 R8=>⟨rl,_,_,rfl,rfl,B8 _ _ nrp eu5,zyc (by omega),put al5 eu5 B05 T5 B8 T8 (by omega) R8⟩⟩
   refine⟨_,rfl,rfl,_,rfl,?_⟩;refine ite2 (λ_=>?_) (λ_=>?_)
   ·refine⟨_,rfl,.inl ⟨rfl,_,SqL.of eu5⟩,_,rfl,_,rfl,sz3,λkl hkl=>?_⟩;refine laid hkl λH7 S7 e7=>?_;have B07:=B05.trans (But.same S7);exact⟨p,nl,kl,_,ns,["come","leave","hurt"],rfl,T5.same S7,by omega,N0.but TT B07,e7,by decide,by decide +kernel,λv rr k5 H8 B8 T8 hk5 R8=>⟨rl,_,_,rfl,rfl,B8 _ _ nrp (S7 _ _ eu5),zyc (by omega),put (al5.imp λz=>z.kp (Kp.same S7)) (S7 _ _ eu5) B07 (T5.same S7) B8 T8 (by omega) R8⟩⟩
   ·refine⟨_,rfl,.inl ⟨rfl,_,SqL.of eu5⟩,_,rfl,_,rfl,sz3,λkl hkl=>?_⟩;refine laid hkl λH7 S7 e7=>?_;have B07:=B05.trans (But.same S7);exact⟨p,nl,kl,_,ns,["leave","hurt","lose"],rfl,T5.same S7,by omega,N0.but TT B07,e7,by decide,by decide,by decide +kernel,λv rr k5 H8 B8 T8 hk5 R8=>⟨rl,_,_,rfl,rfl,B8 _ _ nrp (S7 _ _ eu5),zyc (by omega),put (al5.imp λz=>z.kp (Kp.same S7)) (S7 _ _ eu5) B07 (T5.same S7) B8 T8 (by omega) R8⟩⟩
  ·refine⟨_,rfl,rfl,_,rfl,?_⟩;refine ite2 (λ_=>?_) (λ_=>?_)
   ·refine⟨_,rfl,.inl ⟨rfl,_,SqL.of eu4⟩,_,rfl,_,rfl,sz3,λkl hkl=>?_⟩;refine laid hkl λH7 S7 e7=>?_;have B07:=B04.trans (But.same S7);exact⟨p,nl,kl,_,ns,["come","leave","hurt"],rfl,T4.same S7,by omega,N0.but TT B07,e7,by decide,by decide +kernel,λv rr k5 H8 B8 T8 hk5 R8=>⟨rl,_,_,rfl,rfl,B8 _ _ nrp (S7 _ _ eu4),zyc (by omega),put (al4.imp λz=>z.kp (Kp.same S7)) (S7 _ _ eu4) B07 (T4.same S7) B8 T8 (by omega) R8⟩⟩
   ·refine⟨_,rfl,.inl ⟨rfl,_,SqL.of eu4⟩,_,rfl,_,rfl,sz3,λkl hkl=>?_⟩;refine laid hkl λH7 S7 e7=>?_;have B07:=B04.trans (But.same S7);exact⟨p,nl,kl,_,ns,["leave","hurt","lose"],rfl,T4.same S7,by omega,N0.but TT B07,e7,by decide,by decide,by decide +kernel,λv rr k5 H8 B8 T8 hk5 R8=>⟨rl,_,_,rfl,rfl,B8 _ _ nrp (S7 _ _ eu4),zyc (by omega),put (al4.imp λz=>z.kp (Kp.same S7)) (S7 _ _ eu4) B07 (T4.same S7) B8 T8 (by omega) R8⟩⟩
 ·rintro σ Hz ⟨us,rs,k3,o4,o5,rfl,eu,alu,rll,_,Bz,Tz,hk3⟩;refine⟨_,rfl,_,rfl,_,rfl,p,nl,rl,k3,ns,us,rs,rfl,Tz,by omega,N0.but TT Bz,eu,nrp,alu,by omega,λl mm c k4 H8 B8 T8 hk4 hl8 e8 em8 cok crs cm4=>?_⟩;refine q (.ref l) c k4 H8 (Bz.trans B8) T8 (by omega) ⟨l,mm,rl,us,rfl,e8,em8,B8 _ _ nrp eu,?_,cok,cm4,hrl⟩;rw[crs];exact alu.imp λz=>(z.kp (Kp.but Tz B8)).rf
def DkT (H:Hp)(X:Addr->Prop)(v:V)(cs:List Crd):Prop:=Ex2 λd vs=>v = .ref d∧H d=some (.lst vs)∧All2 (CT H X) vs cs∧cs.length≤7
theorem DkT.same {H H':Hp}{X:Addr->Prop}(s:Same H H'){v:V}{cs:List Crd}(h:DkT H X v cs):DkT H' X v cs:=by
 obtain⟨d,vs,e,h1,h2,h3⟩:=h;exact⟨d,vs,e,s _ _ h1,h2.imp λz=>z.same s,h3⟩
theorem DkT.but {K:yba}{H H':Hp}{X:Addr->Prop}{p:Addr}{k:Int}(t:Tk K H p k)(b:But p H H'){v:V}{cs:List Crd}(h:DkT H X v cs):DkT H' X v cs:=by
 obtain⟨d,vs,e,h1,h2,h3⟩:=h;refine⟨d,vs,e,b _ _ (λz=>?_) h1,h2.imp λz=>z.but t b,h3⟩;obtain⟨a,ep⟩:=t.two;rw[z,ep] at h1;injection h1 with h1
 injection h1 with h1
 obtain⟨l,hl⟩:=CTs.ref h2 (.int k) (by rw[← h1];simp);cases hl
theorem DkT.put {H:Hp}{X:Addr->Prop}{dl:Addr}{us ws:List V}(e:H dl=some (.lst us))(hr:∀u∈us,∃l,u=V.ref l)(hX:∀a,X a->a≠dl){v:V}{cs:List Crd}(hv:v ≠ .ref dl)(h:DkT H X v cs):DkT (upd H dl (.lst ws)) X v cs:=by
 obtain⟨d,vs,rfl,h1,h2,h3⟩:=h;exact⟨d,vs,rfl,by rw[zxa λz=>hv (by rw[z])];exact h1,h2.imp λz=>z.put e hr hX,h3⟩
def zyob (K:yba):Sp:=λvs H Q _=>Ex4 λp nl (k:Int) (ns:List Str)=>vs=[.ref p,.ref nl]∧Tk K H p k∧k≤400000∧N4 H nl ns∧∀dl ds (dss:List (List Crd)) (k':Int) H',But p H H'->Tk K H' p k'->k'≤k+8000->dl≠p->H' dl=some (.lst ds)->All2 (DkT H' λ_=>True) ds dss->dss.length≤5->Q (.ref dl) H'
theorem pk4 {a b c d r:Int}(h0:0≤r)(h1:r<4):∃x,atI [V.int a,V.int b,V.int c,V.int d] r=some (.int x)∧(x=a∨x=b∨x=c∨x=d):=by
 obtain⟨v,hv,hm⟩:=zss (xs:=[V.int a,V.int b,V.int c,V.int d]) h0 h1;simp only[yia,yvb,or_false] at hm
 rcases hm with e|e|e|e<;>rw[e] at hv
 ·exact⟨_,hv,.inl rfl⟩
 ·exact⟨_,hv,.inr (.inl rfl)⟩
 ·exact⟨_,hv,.inr (.inr (.inl rfl))⟩
 ·exact⟨_,hv,.inr (.inr (.inr rfl))⟩
theorem zfcb (T:Tx K mg):FnOk P w K mg base CX0 16 T.zdf.f T.zdf.d zmo (zyob K):=by
 refine T.zdf.ok zod ?_;rintro f c A o s H vs Q E hr ⟨p,nl,k,ns,rfl,TT,hk,N0,q⟩ X;refine⟨_,  (zca (zqa (i:=2) zod.nd rfl (.inl rfl) (zia (zla T).up hr rfl T.zda.m T.zda.F.kp (zsa T) .nil zdb (zaa (pv 0) (zaa zga zba))))
  (zca (zqa (i:=3) zod.nd rfl (.inl rfl) (zmb zrb (zob (zaa zga (zaa zga (zaa zga (zaa zga zba))))) (pv 2) (λ_ _=>rfl)))
  (zca (zqa (i:=4) zod.nd rfl (.inl rfl) (zmb zrb (zob (zaa (zia (zla T).up hr rfl T.zda.m T.zda.F.kp (zsa T) .nil zdb (zaa (pv 0) (zaa zga zba))) (zaa (zub zlh zga (zia (zla T).up hr rfl T.zda.m T.zda.F.kp (zsa T) .nil zdb (zaa (pv 0) (zaa zga zba)))) (zaa (zub zlh zga (zia (zla T).up hr rfl T.zda.m T.zda.F.kp (zsa T) .nil zdb (zaa (pv 0) (zaa zga zba)))) (zaa (zub zlh zga (zia (zla T).up hr rfl T.zda.m T.zda.F.kp (zsa T) .nil zdb (zaa (pv 0) (zaa zga zba)))) zba))))) (pv 2) (λ_ _=>rfl)))
  (zca (zqa (i:=5) zod.nd rfl (.inl rfl) (zob zba))
  (zca (zur yqf rfl (zuf rfl T.zuh (zaa (pv 4) zba)) (zfb (i:=6) zod.nd rfl (.inl rfl))
   (zca (zqa (i:=7) zod.nd rfl (.inl rfl) (zob zba))
   (zca (zur yqf rfl (zuf rfl T.zuh (zaa (zub zlh (zia (zla T).up hr rfl T.zda.m T.zda.F.kp (zsa T) .nil zdb (zaa (pv 0) (zaa (zub zlh (pv 3) zga) zba))) (zlb zwy rfl T.zdbb yhp (zaa (zkh zzd (pv 2) zga (zza _)) zba))) zba)) (zfb (i:=8) zod.nd rfl (.inl rfl))
    (zea (zvc (zjf ypb ydc yec zae (pv 7) (zaa (zia (zbs T) hr rfl T.zoc.m T.zoc.F.kp (znt T) .nil zdb (zaa (pv 0) (zaa (pv 1) (zaa (zkh zzd (pv 2) zga (zza _)) zba)))) zba)))))
   (zea (zvc (zjf ypb ydc yec zae (pv 5) (zaa (pv 7) zba)))))))
  (zea (zwa (pv 5)))))))),?_⟩
 refine⟨_,rfl,p,k,4,rfl,TT,by omega,by decide,λway H1 w0 w1 B1 T1=>?_⟩;refine⟨sz4,λl1 hl1=>?_⟩;refine laid hl1 λH2 S2 e2=>?_;obtain⟨sz,hsz,hz4⟩:=pk4 (a:=3) (b:=3) (c:=6) (d:=4) w0 w1;refine⟨_,rfl,l1,_,_,_,rfl,rfl,SqL.of e2,hsz,?_⟩;have T2:=T1.same S2;refine⟨_,rfl,p,_,6,rfl,T2,by omega,by decide,λm1 H3 m10 m11 B3 T3=>?_⟩;refine⟨_,rfl,p,_,3,rfl,T3,by omega,by decide,λm2 H4 m20 m21 B4 T4=>⟨_,_,rfl,rfl,?_⟩⟩;refine⟨_,rfl,p,_,3,rfl,T4,by omega,by decide,λm3 H5 m30 m31 B5 T5=>⟨_,_,rfl,rfl,?_⟩⟩;refine⟨_,rfl,p,_,2,rfl,T5,by omega,by decide,λm4 H6 m40 m41 B6 T6=>⟨_,_,rfl,rfl,?_⟩⟩;refine⟨sz4,λl7 hl7=>?_⟩;refine laid hl7 λH7 S7 e7=>?_;obtain⟨mm,hmm,hm4⟩:=pk4 (a:=m1) (b:=2+m2) (c:=2+m3) (d:=2+m4) w0 w1;refine⟨_,rfl,l7,_,_,_,rfl,rfl,SqL.of e7,hmm,?_⟩;obtain⟨m,rfl⟩:∃m:Nat,mm=(m:Int):=⟨mm.toNat,by omega⟩;have m5:m≤5:=by omega
 have B07:But p H H7:=B1.trans ((But.same S2).trans (B3.trans (B4.trans (B5.trans (B6.trans (But.same S7))))));have T7:=T6.same S7;refine⟨sz0,λdl hdl=>?_⟩;have hdl0:H dl=none:=by
  cases e:H dl with
  | none=>rfl
  | some o =>
   by_cases z:dl=p
   ·obtain⟨a,ep⟩:=T7.two;rw[z,ep] at hdl;cases hdl
   ·rw[B07 _ _ z e] at hdl;cases hdl
 have ndl:dl≠p:=yvc (T7.ne hdl);refine laid hdl λH8 S8 e8=>?_;have T8:=T7.same S8;have B08:=B07.trans (But.same S8);refine⟨_,rfl,(m:Int),rfl,by omega,by omega,?_⟩;rw[yac];refine zms (lo:=0) (n:=m) (λi σ Hx=>Ex6 λds (dss:List (List Crd)) (k':Int) o6 o7 o8=>σ=[some (.ref p),some (.ref nl),some (.int way),some (.int sz),some (.int (m:Int)),some (.ref dl),o6,o7,o8]∧Hx dl=some (.lst ds)∧All2 (DkT Hx λa=>a≠dl) ds dss∧(∀d∈ds,d≠V.ref dl)∧dss.length=i∧i≤m∧But p H Hx∧Tk K Hx p k'∧k'≤k+20+1500*(i:Int)) ⟨[],[],_,_,_,_,rfl,e8,.nil,(λ_ h=>nomatch h),rfl,yrb _,B08,T8,by omega⟩ ?_ ?_
 ·rintro i σ Hx hi ⟨ds,dss,k',o6,o7,o8,rfl,ed,al,nd,dl',_,B,TK,hk'⟩;refine⟨sz0,λd hd=>?_⟩;have ndp:d≠p:=yvc (TK.ne hd);have ddl:d≠dl:=λz=>by
   rw[z,ed] at hd;cases hd
  refine laid hd λH3 S3 e3=>?_;have T3:=TK.same S3;refine⟨_,rfl,_,rfl,_,_,rfl,rfl,p,k',_,rfl,T3,by omega,by omega,λj0 H4 j1 j2 B4 T4=>?_⟩;refine⟨_,rfl,rfl,.inr ⟨_,rfl,_,_,rfl,rfl,?_⟩⟩;have hb:∀b:Bool,0≤(if b then (1:Int) else 0)∧(if b then (1:Int) else 0)≤1:=λb=>by cases b<;>decide
  have hb2:=hb (decide (V.int way=V.int 2));obtain⟨jj,hjj⟩:∃jj:Nat,j0+(if decide (V.int way=V.int 2) then (1:Int) else 0)=(jj:Int):=⟨(j0+(if decide (V.int way=V.int 2) then (1:Int) else 0)).toNat,by omega⟩;have jj7:jj≤7:=by omega
  refine⟨(jj:Int),(by show [V.int (j0+(if decide (V.int way=V.int 2) then (1:Int) else 0))]=_;rw[hjj]),by omega,by omega,?_⟩;rw[yac];have B34:But p Hx H4:=(But.same S3).trans B4;have e4:H4 d=some (.lst []):=B4 _ _ ndp e3;refine zms (lo:=0) (n:=jj) (λi2 σ Hy=>Ex4 λvs (cs:List Crd) (k2:Int) o8=>σ=[some (.ref p),some (.ref nl),some (.int way),some (.int sz),some (.int (m:Int)),some (.ref dl),some (.int (0+(i:Int))),some (.ref d),o8]∧Hy d=some (.lst vs)∧All2 (CT Hy λa=>a≠dl∧a≠d) vs cs∧cs.length=i2∧i2≤jj∧But p Hx Hy∧Tk K Hy p k2∧k2≤k'+1+200*(i2:Int)) ⟨[],[],_,_,rfl,e4,.nil,rfl,yrb _,B34,T4,by omega⟩ ?_ ?_
  ·rintro i2 σ Hy hi2 ⟨vs,cs,k2,o8,rfl,ev,alv,cl,_,By,Ty,hk2⟩;have B0y:=B.trans By;refine⟨_,rfl,.inl ⟨rfl,_,SqL.of ev⟩,_,rfl,_,rfl,_,rfl,rfl,p,nl,_,k2,ns,rfl,Ty,by omega,N0.but TT B0y,λv c k4 H8 B8 T8 hk4 C8=>?_⟩;have e8':=B8 _ _ ndp ev;have edy:=By _ _ ndl ed;have vl:=alv.len;refine⟨d,_,_,rfl,rfl,e8',zyc (by omega),?_⟩;have Ca:All2 (CT H8 λa=>a≠dl∧a≠d) vs cs:=alv.imp λz=>z.but Ty B8;have Cn:CT H8 (λa=>a≠dl∧a≠d) v c:=C8.mono λa ha=>⟨(λz=>by rw[z,edy] at ha;cases ha),(λz=>by rw[z,ev] at ha;cases ha)⟩;have hrf:=CTs.ref Ca;exact⟨vs++[v],cs++[c],k4,_,rfl,zfa,All2.snoc (Cn.put e8' hrf λa ha=>ha.2) (Ca.imp λz=>z.put e8' hrf λa ha=>ha.2),by rw[yha,cl];rfl,hi2,zukb hd (By.trans B8),T8.other e8' (yvc ndp),by omega⟩
  ·rintro σ Hy ⟨vs,cs,k2,o8,rfl,ev,alv,cl,_,By,Ty,hk2⟩;have ey:=By _ _ ndl ed;have dsl:=al.len;refine⟨_,rfl,.inl ⟨rfl,_,SqL.of ey⟩,_,rfl,dl,_,_,rfl,rfl,ey,zyc (by omega),?_⟩;have Da:All2 (DkT Hy λa=>a≠dl) ds dss:=al.imp λz=>z.but TK By;have rf:∀u∈ds,∃l,u=V.ref l:=λu hu=>by
    obtain⟨cs,_,⟨d,_,e,_⟩⟩:=Da.mem hu;exact⟨d,e⟩
   have put:∀{us:List V} {dss:List (List Crd)},All2 (DkT Hy λa=>a≠dl) us dss->(∀u∈us,u≠V.ref dl)->All2 (DkT (upd Hy dl (.lst (ds++[V.ref d]))) λa=>a≠dl) us dss:=by
    intro us dss z
    induction z with
    | nil=>intro _;exact .nil
    | cons h t ih=>intro g;exact .cons (h.put ey rf (λ_ z=>z) (g _ ypa)) (ih λu hu=>g u (yla _ hu))
   have Dn:DkT Hy (λa=>a≠dl) (.ref d) cs:=⟨d,vs,rfl,ev,alv.imp λz=>z.mono λa ha=>ha.1,by omega⟩;have nd':∀u∈ds++[V.ref d],u≠V.ref dl:=λu hu=>by
    rcases yua.mp hu with z|z
    ·exact nd u z
    ·rw[yda.mp z];intro y;injection y with y
     exact ddl y
   exact⟨ds++[.ref d],dss++[cs],k2,_,_,_,rfl,zfa,put (All2.snoc Dn Da) nd',nd',by rw[yha,dl'];rfl,hi,zukb hdl0 (B.trans By),Ty.other ey (yvc ndl),by omega⟩
 ·rintro σ Hx ⟨ds,dss,k',o6,o7,o8,rfl,ed,al,nd,dl',_,B,TK,hk'⟩;exact⟨_,rfl,q dl ds dss k' Hx B TK (by omega) ndl ed (al.imp λz=>by obtain⟨d,vs,e,h1,h2,h3⟩:=z;exact⟨d,vs,e,h1,h2.imp λy=>y.mono λ_ _=>True.intro,h3⟩) (by omega)⟩
mutual
theorem IsW.kp {D:Addr}{H H':Hp}(s:Kp H H'):∀{v:V} {w:Wh},IsW D H v w->IsW D H' v w
 | _,_,.mk h1 h2 h3=>.mk (s _ _ (λ_ z=>by cases z) h1) (s.t h2) (h3.kp s)
theorem IsWs.kp {D:Addr}{H H':Hp}(s:Kp H H'):∀{vs:List V} {ws:List Wh},IsWs D H vs ws->IsWs D H' vs ws
 | _,_,.nil=>.nil
 | _,_,.cons h t=>.cons (h.kp s) (t.kp s)
end
theorem zjp.kp {D:Addr}{H H':Hp}(s:Kp H H'){v:V}{d:Deed}(h:zjp D H v d):zjp D H' v d:=by
 obtain⟨a,x,e,h1,h2⟩:=h;exact⟨a,x,e,s.t h1,h2.kp s⟩
theorem zth.kp {D:Addr}{H H':Hp}(s:Kp H H'){v:V}:∀{r:Rule},zth D H v r->zth D H' v r
 | .hold w y z,⟨a,x,u,e,h,p,q⟩=>⟨a,x,u,e,s.t h,(match y,p with
  | .v _,p=>p
  | .w _,p=>IsW.kp s p),q.kp s⟩
 | .wen k y d,⟨a,x,u,e,h,p,q⟩=>⟨a,x,u,e,s.t h,p.kp s,q.kp s⟩
 | .instead k y w z,⟨a,x,e,h,p⟩=>⟨a,x,e,s.t h,p.kp s⟩
 | .may c d,⟨a,u,e,h,p⟩=>⟨a,u,e,s.t h,p.kp s⟩
theorem IsRules.kp {D:Addr}{H H':Hp}(s:Kp H H'){vs:List V}{rs:List Rule}(z:IsRules D H vs rs):IsRules D H' vs rs:=by
 induction z with
 | nil=>exact .nil
 | cons h _ ih=>exact .cons (h.kp s) ih
theorem zlj.kp {B D:Addr}{H H':Hp}(s:Kp H H'){v:V}{c:Crd}(h:zlj B D H v c):zlj B D H' v c:=by
 obtain⟨a,dx,m,t,vs,e,h1,h2,h3,h4⟩:=h;exact⟨a,dx,m,t,vs,e,s _ _ (λ_ z=>by cases z) h1,s.t h2,s.t h3,h4.kp s⟩
def CmT (B:Addr)(H:Hp)(v:V)(ms:List Str):Prop:=Ex7 λa dx m tt (nm:Str) (c f:Nat)=>v = .ref a∧H a=some (.ins B dx (cfs nm c f m tt))∧H m=some (.tup (sM ms))
theorem CmT.kp {B:Addr}{H H':Hp}(s:Kp H H'){v:V}{ms:List Str}(h:CmT B H v ms):CmT B H' v ms:=by
 obtain⟨a,dx,m,tt,nm,c,f,e,h1,h2⟩:=h;exact⟨a,dx,m,tt,nm,c,f,e,s _ _ (λ_ z=>by cases z) h1,s.t h2⟩
def CdsT (B:Addr)(H:Hp)(ca:Addr)(cms:List (List Str)):Prop:=∃cvs,H ca=some (.lst cvs)∧All2 (CmT B H) cvs cms
theorem CdsT.same {B:Addr}{H H':Hp}(s:Same H H'){ca:Addr}{cms:List (List Str)}(h:CdsT B H ca cms):CdsT B H' ca cms:=by
 obtain⟨cvs,e,al⟩:=h;exact⟨cvs,s _ _ e,al.imp λz=>z.kp (Kp.same s)⟩
theorem zth.rf {D:Addr}{H:Hp}{v:V}:∀{r:Rule},zth D H v r->RF H v r
 | .hold w y z,⟨a,x,u,e,h,_⟩=>⟨a,_,_,e,h,(show decide (V.str "hold" = V.str "hold")=true by decide +kernel)⟩
 | .wen k y d,⟨a,x,u,e,h,_⟩=>⟨a,_,_,e,h,(show decide (V.str "when" = V.str "hold")=false by decide +kernel)⟩
 | .instead k y w z,⟨a,x,e,h,_⟩=>⟨a,_,_,e,h,(show decide (V.str "instead" = V.str "hold")=false by decide +kernel)⟩
 | .may c d,⟨a,u,e,h,_⟩=>⟨a,_,_,e,h,(show decide (V.str "may" = V.str "hold")=false by decide +kernel)⟩
theorem zlj.cm {B D:Addr}{H:Hp}{v:V}{c:Crd}(h:zlj B D H v c):CmT B H v c.marks:=by
 obtain⟨a,dx,m,t,vs,e,h1,h2,_⟩:=h;exact⟨a,dx,m,t,_,_,_,e,h1,h2⟩
def hc (c:Crd):Nat:=(c.rules.filter isHd).length
def zaxb (B D:Addr):Sp:=λvs H Q _=>Ex2 λv (c:Crd)=>vs=[v]∧zlj B D H v c∧c.rules.length≤3∧∀H',Same H H'->Q (.int (hc c:Int)) H'
def nums (os:List Int)(p:Int)(i:Nat):List Int:=((ypc i).filter λj=>decide (os[j]?=some p)).map λj:Nat=>(j:Int)
def zoac:Sp:=λvs H Q _=>Ex3 λoa (os:List Int) (p:Int)=>vs=[.ref oa,.int p]∧H oa=some (.lst (iM os))∧os.length≤16∧∀b H',Same H H'->H' b=some (.tup (iM (nums os p os.length)))->Q (.ref b) H'
theorem zccb (T:Tx K mg):FnOk P w K mg base CX0 2 T.zaf.f T.zaf.d zjo (zaxb T.zve T.zyb):=by
 refine T.zaf.ok znbb ?_;rintro f c A o s H vs Q E hr ⟨v,c,rfl,⟨a,dx,m,t,vs,rfl,hcd,_,ht,hrs⟩,few,q⟩ X;refine⟨_,  (zea (zwa (zma zra rfl T.zxd ykb (zaa (zxc (own:=["rule"]) (cap:=[]) rfl (zeb.chk rfl rfl) .nil (zveb (zsf (pv 0) rfl)) (λ_ _ _ _=>(zfb (i:=0) (show ync (["rule"]:List Str) by decide +kernel) rfl (.inl rfl))) (λ_ _ _ _=>zct (zta zzd (zmb (zdqb K) (pv 0) zga (λ_ _=>rfl)) zja (zza _))) (λ_ _ _ _=>by exact (pv 0))) zba)))),?_⟩;have rl:=hrs.length;refine⟨_,rfl,a,_,dx,_,_,rfl,hcd,T.zqe,T.zkf,zty _ _ _ _ _,t,rfl,⟨_,SqT.of ht⟩,?_⟩;refine zjw (xs:=vs) (λi ys H'=>H'=H∧ys.length=((c.rules.take i).filter isHd).length) (λi ys H' z=>by rw[z.1];exact SqT.of ht) ⟨rfl,rfl⟩ ?_ ?_ ?_
 ·rintro i ys H' ⟨_,e⟩;have z:=yuj isHd (c.rules.take i);rw[yza] at z;exact small (by omega)
 ·rintro i v ys H' hv ⟨rfl,e⟩;obtain⟨r,hr2,ir⟩:=hrs.get hv;obtain⟨ra,sw,xs,rfl,hra,eh⟩:=ir.rf;refine⟨rfl,_,rfl,ra,_,_,_,rfl,rfl,SqT.of hra,zna (j:=0) rfl,rfl,_,rfl,?_⟩;rw[eh];have et:c.rules.take (i+1)=c.rules.take i++[r]:=by rw[yob,hr2];rfl
  rw[et,yzi,yha];cases eb:isHd r with
  | true=>exact⟨_,rfl,rfl,by rw[yha,e,yaj eb];rfl⟩
  | false=>exact⟨rfl,by rw[ybj (by rw[eb];decide)];exact e⟩
 ·rintro ys H' ⟨rfl,e⟩ l hl;refine laid hl λH1 S1 e1=>?_;rw[show vs.length=c.rules.length from rl,yya (yja _)] at e;refine⟨l,ys,rfl,.inl (SqL.of e1),?_⟩;rw[e];exact q H1 S1
theorem zik (os:List Int)(p:Int)(i:Nat):nums os p (i+1)=nums os p i++(if os[i]?=some p then [(i:Int)] else []):=by
 unfold nums;rw[ysf,yzi,yva]
 congr 1
 by_cases h:os[i]?=some p
 ·rw[if_pos h,yaj (by exact decide_eq_true h)];rfl
 ·rw[if_neg h,ybj (by intro z;exact h (of_decide_eq_true z))];rfl
theorem zmlb (os:List Int)(p:Int)(i:Nat):(nums os p i).length≤i:=by
 unfold nums;rw[yaa];have:=yuj (λj=>decide (os[j]?=some p)) (ypc i);rw[ylc] at this;exact this
theorem zbcb (T:Tx K mg):FnOk P w K mg base CX0 2 T.zze.f T.zze.d zio zoac:=by
 refine T.zze.ok zmbb ?_;rintro f c A o s H vs Q E hr ⟨oa,os,p,rfl,eo,o16,q⟩ X;refine⟨_,  (zea (zwa (zlb zdc rfl T.zde yme (zaa (zxc (own:=["number","owner"]) (cap:=["player"]) rfl (zeb.chk rfl rfl) (.cons (j:=1) rfl (.inl rfl) (.inl rfl) .nil) (zelb rfl T.zak (zaa (pv 0) zba)) (λ_ _ _ _=>(ztxb K (n:=2) rfl (zqf (zfb (i:=0) (show ync (["number","owner","player"]:List Str) by decide +kernel) rfl (.inl rfl)) (zqf (zfb (i:=1) (show ync (["number","owner","player"]:List Str) by decide +kernel) rfl (.inl rfl)) zet)))) (λ_ _ _ _=>zct (zta zzd (pv 1) (pv 2) (zza _))) (λ_ _ _ _=>by exact (pv 0))) zba)))),?_⟩;refine⟨_,rfl,oa,_,rfl,SqL.of eo,?_⟩;refine zmnb (xs:=iM os) (λi ys H'=>Same H H'∧ys=iM (nums os p i)∧i≤os.length) (λi ys H' z=>SqL.of (z.1 _ _ eo)) ⟨Same.refl _,rfl,yrb _⟩ ?_ ?_ ?_
 ·rintro i ys H' ⟨_,rfl,hi⟩;unfold iM;rw[yaa];have:=zmlb os p i;exact small (by omega)
 ·rintro i v ys H' pp hv ⟨S,rfl,_⟩ hp;unfold iM at hv;rw[yhb] at hv;obtain⟨x,hx,rfl⟩:=ymb.mp hv;have hi:i<os.length:=(yma.mp hx).1;refine laid hp λH1 S1 e1=>?_;refine⟨pp,_,rfl,SqT.of e1,rfl,_,_,rfl,_,_,rfl,rfl,rfl,_,rfl,_,rfl,rfl,_,rfl,?_⟩;refine ite2 (λc=>?_) (λc=>?_)
  ·have c':=of_decide_eq_true c;injection c' with c'
   refine⟨_,rfl,S.trans S1,?_,hi⟩;rw[zik,if_pos (by rw[hx,c'])];unfold iM;rw[yva];rfl
  ·have c':¬ x=p:=λz=>c (decide_eq_true (by rw[z]));refine⟨S.trans S1,?_,hi⟩;rw[zik,if_neg (by rw[hx];intro z;injection z with z;exact c' z),yfc]
 ·rintro ys H' ⟨S,rfl,_⟩ l hl;refine laid hl λH1 S1 e1=>?_;refine⟨l,_,rfl,.inl ⟨SqL.of e1,λtm htm=>?_⟩⟩;refine laid htm λH2 S2 e2=>?_;refine q tm H2 (S.trans (S1.trans S2)) ?_;rw[e2];unfold iM;rw[yaa]
theorem zykb {X:Cx}(K:yba)(hK:X.K=K:=by rfl):SlR X (rSlA K):=hK▸zwhb
def tab0 (os:List Int)(np:Nat)(cms:List (List Str)):Tab :=
 ⟨ynb np 20,ynb np 0,ynb np false,(ypc np).map λp:Nat=>(nums os (p:Int) os.length).drop 3,(ypc np).map λp:Nat=>(nums os (p:Int) os.length).take 3,[],[],cms,ynb cms.length 0⟩
theorem zwlb (n:Nat)(x:V):(ynb n [x]).flatten=ynb n x:=by
 induction n with
 | zero=>rfl
 | succ n ih=>rw[yle,ytc,ih,yle];rfl
theorem zrr {K:yba}{a:Addr}{x:V}{n:Nat}{H:Hp}{Q:VK}(e:H a=some (.tup [x]))(hn:n≤1000)(q:∀b H',Same H H'->H' b=some (.tup (ynb n x))->Q (.ref b) H'):zevb K (.ref a) (.int (n:Int)) H Q:=by
 refine⟨a,_,_,rfl,rfl,SqT.of e,yib _ _,by omega,by omega,?_,λe1=>q a H (Same.refl _) ?_,λ_ p hp=>laid hp λH2 S2 e2=>q p H2 S2 ?_⟩
 ·rw[yac];exact small (by show 1*n≤1000;omega)
 ·rw[e,show n=1 by omega];rfl
 ·rw[e2,zwlb,yac]
theorem zgdc {xs:List V}{z:Int}(h:0≤z):cutV xs none (some z)=xs.take z.toNat:=by
 have e:z=((z.toNat:Nat):Int):=by omega
 rw[e,zdgb,yac]
theorem zfdc {xs:List V}{z:Int}(h:0≤z):cutV xs (some z) none=xs.drop z.toNat:=by
 have e:z=((z.toNat:Nat):Int):=by omega
 rw[e,zqs,yac]
theorem zvib {xs:List V}{lo hi:Option Int}(h:HT.sIx xs.length 0 lo=0∧HT.sIx xs.length xs.length hi=xs.length):cutV xs lo hi=xs:=by
 unfold cutV;rw[h.1,h.2,yxd,ywn,yya (yja _)]
theorem zwib (xs:List Int):cutV (iM xs) (some 3) none=iM (xs.drop 3):=by
 rw[zfdc (by decide)];unfold iM;rw[List.map_drop];rfl
theorem zxib (xs:List Int):cutV (iM xs) none (some 3)=iM (xs.take 3):=by
 rw[zgdc (by decide)];unfold iM;rw[List.map_take];rfl
theorem take_range {α:Type}(f:Nat->α){n i:Nat}(h:i<n):((ypc n).take (i+1)).map f=((ypc n).take i).map f++[f i]:=by
 rw[yob,yfi h,yxc,yva];rfl
def zbxb (B:Addr):Sp:=λvs H Q _=>Ex5 λca oa (np:Nat) (os:List Int) (cms:List (List Str))=>vs=[.ref ca,.ref oa,.int (np:Int)]∧CdsT B H ca cms∧H oa=some (.lst (iM os))∧os.length≤16∧2≤np∧np≤4∧cms.length≤16∧∀v H',Same H H'->TabT H' v (tab0 os np cms)->Q v H'
theorem zuz (T:Tx K mg):FnOk P w K mg base CX0 3 T.zie.f T.zie.d zvm (zbxb T.zve):=by
 refine T.zie.ok zyo ?_;rintro f c A o s H vs Q E hr ⟨ca,oa,np,os,cms,rfl,CD,eo,o16,np2,np4,c16,q⟩ X;refine⟨_,  (zca (zox (i:=3) zyo.nd rfl (.inl rfl) (own:=["player"]) (cap:=["owners"]) rfl (zeb.chk rfl rfl) (.cons (j:=1) rfl (.inl rfl) (.inl rfl) .nil) (zuf rfl T.zuh (zaa (pv 2) zba)) (λ_ _ _ _=>(zfb (i:=0) (show ync (["player","owners"]:List Str) by decide +kernel) rfl (.inl rfl))) (λ_ _ _ _=>zuc) (λ_ _ _ _=>by exact (zia (zbcb T) hr rfl T.zze.m T.zze.F.kp (ztgb T) .nil zdb (zaa (pv 1) (zaa (pv 0) zba)))))
  (zea (zwa (zqb (zaa (zub zwbb (zqb (zaa (zqc (v:=.int 20) rfl T.zui ⟨_,rfl⟩) zba)) (pv 2)) (zaa (zub zwbb (zqb (zaa zga zba)) (pv 2)) (zaa (zub zwbb (zqb (zaa zrv zba)) (pv 2)) (zaa (zlb zdc rfl T.zde yme (zaa (zxc (own:=["deck"]) (cap:=[]) rfl (zeb.chk rfl rfl) .nil (zyd (pv 3)) (λ_ _ _ _=>(zfb (i:=0) (show ync (["deck"]:List Str) by decide +kernel) rfl (.inl rfl))) (λ_ _ _ _=>zuc) (λ_ _ _ _=>by exact (zni (zykb K) (pv 0) (zol (zqc (v:=.int 3) rfl T.zdj ⟨_,rfl⟩)) zpl))) zba)) (zaa (zlb zdc rfl T.zde yme (zaa (zxc (own:=["deck"]) (cap:=[]) rfl (zeb.chk rfl rfl) .nil (zyd (pv 3)) (λ_ _ _ _=>(zfb (i:=0) (show ync (["deck"]:List Str) by decide +kernel) rfl (.inl rfl))) (λ_ _ _ _=>zuc) (λ_ _ _ _=>by exact (zni (zykb K) (pv 0) zpl (zol (zqc (v:=.int 3) rfl T.zdj ⟨_,rfl⟩))))) zba)) (zaa (zqb zba) (zaa (zqb zba) (zaa (zlb zdc rfl T.zde yme (zaa (zxc (own:=["card"]) (cap:=[]) rfl (zeb.chk rfl rfl) .nil (zyd (pv 0)) (λ_ _ _ _=>(zfb (i:=0) (show ync (["card"]:List Str) by decide +kernel) rfl (.inl rfl))) (λ_ _ _ _=>zuc) (λ_ _ _ _=>by exact (zyxb K (pv 0) rfl))) zba)) (zaa (zub zwr (zqb (zaa zga zba)) (zma zra rfl T.zxd ykb (zaa (pv 0) zba))) zba))))))))))))),?_⟩
 refine⟨_,rfl,_,rfl,by omega,by omega,?_⟩;rw[yac];refine zdi (λi ys H'=>Same H H'∧All2 (T1 H') ys ((ypc i).map λp:Nat=>iM (nums os (p:Int) os.length))∧i≤np) ⟨Same.refl _,.nil,yrb _⟩ ?_ ?_ ?_
 ·rintro i ys H' ⟨_,al,hi⟩;have:=al.len;rw[yaa,ylc] at this;exact small (by omega)
 ·rintro i ys H' hi ⟨S,al,_⟩;refine⟨rfl,_,rfl,_,rfl,oa,os,(i:Int),?_,S _ _ eo,o16,λb H2 S2 e2=>⟨S.trans S2,?_,hi⟩⟩
  ·show [V.ref oa,V.int (0+(i:Int))]=_;rw[yhg]
  ·rw[ysf,yva];exact All2.snoc ⟨b,rfl,e2⟩ (al.imp λz=>z.kp (Kp.same S2))
 rintro dv H1 ⟨S1,al1,_⟩ dl hdl;refine laid hdl λH2 S2 e2=>?_;have S02:=S1.trans S2;have al2:All2 (T1 H2) dv ((ypc np).map λp:Nat=>iM (nums os (p:Int) os.length)):=al1.imp λz=>z.kp (Kp.same S2);have dvl:=al2.len;rw[yaa,ylc] at dvl;have npz:([V.int 20]:List V).length*((np:Int)).toNat≤yxa:=by
  rw[yac];exact small (by show 1*np≤1000;omega)
 refine⟨sz1,λa1 h1=>?_⟩;refine laid h1 λH3 S3 e3=>?_;refine⟨_,rfl,a1,_,(np:Int),rfl,rfl,SqT.of e3,yib _ _,by omega,by omega,npz,λp1 hp1=>?_⟩;refine laid hp1 λH4 S4 e4=>?_;refine⟨sz1,λa2 h2=>?_⟩;refine laid h2 λH5 S5 e5=>?_;refine⟨_,rfl,a2,_,(np:Int),rfl,rfl,SqT.of e5,yib _ _,by omega,by omega,npz,λp2 hp2=>?_⟩;refine laid hp2 λH6 S6 e6=>?_;refine⟨sz1,λa3 h3=>?_⟩;refine laid h3 λH7 S7 e7=>?_;refine⟨_,rfl,a3,_,(np:Int),rfl,rfl,SqT.of e7,yib _ _,by omega,by omega,npz,λp3 hp3=>?_⟩;refine laid hp3 λH8 S8 e8=>?_;have S28:=S3.trans (S4.trans (S5.trans (S6.trans (S7.trans S8))));have e28:=S28 _ _ e2;refine⟨_,rfl,dl,rfl,⟨_,SqL.of e28⟩,?_⟩;refine zbd (xs:=dv) (λi ys H'=>Same H8 H'∧All2 (T1 H') ys (((ypc np).take i).map λp:Nat=>iM ((nums os (p:Int) os.length).drop 3))) (λi ys H' z=>SqL.of (z.1 _ _ e28)) ⟨Same.refl _,.nil⟩ ?_ ?_ ?_
 ·rintro i ys H' ⟨_,al⟩;have:=al.len;rw[yaa,yza,ylc] at this;exact small (by omega)
 ·rintro i v ys H' hv ⟨S,al⟩;have hi:i<np:=by rw[← dvl];exact (yma.mp hv).1
  obtain⟨xs,hx,b,rfl,eb⟩:=al2.get hv;rw[yhb,yfi hi] at hx;obtain rfl:=yub hx;have eb':=(S28.trans S) _ _ eb;refine⟨rfl,_,rfl,_,rfl,b,_,rfl,SqT.of eb',λwh=>?_,λ_ c hc=>?_⟩
  ·have ew:=zvib wh;rw[zwib] at ew;rw[← ew] at eb';refine⟨S,?_⟩;rw[take_range _ hi];exact All2.snoc ⟨b,rfl,eb'⟩ al
  ·rw[zwib];refine laid hc λH9 S9 e9=>⟨S.trans S9,?_⟩;rw[take_range _ hi];exact All2.snoc ⟨c,rfl,e9⟩ (al.imp λz=>z.kp (Kp.same S9))
 rintro ds H9 ⟨S9,ald⟩ l9 hl9;rw[dvl,yya (by rw[ylc];exact yja _)] at ald;refine laid hl9 λH10 S10 e10=>?_;refine⟨l9,_,rfl,.inl ⟨SqL.of e10,λt3 ht3=>?_⟩⟩;refine laid ht3 λH11 S11 e11=>?_;have S811:=S9.trans (S10.trans S11);have S211:=S28.trans S811;have e211:=S811 _ _ e28;have ald11:All2 (T1 H11) ds ((ypc np).map λp:Nat=>iM ((nums os (p:Int) os.length).drop 3)):=ald.imp λz=>z.kp (Kp.same (S10.trans S11));refine⟨_,rfl,dl,rfl,⟨_,SqL.of e211⟩,?_⟩;refine zbd (xs:=dv) (λi ys H'=>Same H11 H'∧All2 (T1 H') ys (((ypc np).take i).map λp:Nat=>iM ((nums os (p:Int) os.length).take 3))) (λi ys H' z=>SqL.of (z.1 _ _ e211)) ⟨Same.refl _,.nil⟩ ?_ ?_ ?_
 ·rintro i ys H' ⟨_,al⟩;have:=al.len;rw[yaa,yza,ylc] at this;exact small (by omega)
 ·rintro i v ys H' hv ⟨S,al⟩;have hi:i<np:=by rw[← dvl];exact (yma.mp hv).1
  obtain⟨xs,hx,b,rfl,eb⟩:=al2.get hv;rw[yhb,yfi hi] at hx;obtain rfl:=yub hx;have eb':=(S211.trans S) _ _ eb;refine⟨rfl,_,rfl,_,rfl,b,_,rfl,SqT.of eb',λwh=>?_,λ_ c hc=>?_⟩
  ·have ew:=zvib wh;rw[zxib] at ew;rw[← ew] at eb';refine⟨S,?_⟩;rw[take_range _ hi];exact All2.snoc ⟨b,rfl,eb'⟩ al
  ·rw[zxib];refine laid hc λH9 S9 e9=>⟨S.trans S9,?_⟩;rw[take_range _ hi];exact All2.snoc ⟨c,rfl,e9⟩ (al.imp λz=>z.kp (Kp.same S9))
 rintro hs H12 ⟨S12,alh⟩ l12 hl12;rw[dvl,yya (by rw[ylc];exact yja _)] at alh;refine laid hl12 λH13 S13 e13=>?_;refine⟨l12,_,rfl,.inl ⟨SqL.of e13,λt4 ht4=>?_⟩⟩;refine laid ht4 λH14 S14 e14=>?_;refine⟨sz0,λt5 ht5=>?_⟩;refine laid ht5 λH15 S15 e15=>?_;refine⟨sz0,λt6 ht6=>?_⟩;refine laid ht6 λH16 S16 e16=>?_;have S1116:=S12.trans (S13.trans (S14.trans (S15.trans S16)));have S16':=S02.trans (S211.trans S1116);have alh16:All2 (T1 H16) hs ((ypc np).map λp:Nat=>iM ((nums os (p:Int) os.length).take 3)):=alh.imp λz=>z.kp (Kp.same (S13.trans (S14.trans (S15.trans S16))));obtain⟨cvs,ec,alc⟩:=CD.same S16';have cl:=alc.len;refine⟨_,rfl,ca,rfl,⟨_,SqL.of ec⟩,?_⟩;refine zbd (xs:=cvs) (λi ys H'=>H'=H16∧All2 (T1 H') ys ((cms.take i).map sM)) (λi ys H' z=>by rw[z.1];exact SqL.of ec) ⟨rfl,.nil⟩ ?_ ?_ ?_
 ·rintro i ys H' ⟨_,al⟩;have:=al.len;rw[yaa,yza] at this;exact small (by omega)
 ·rintro i v ys H' hv ⟨rfl,al⟩;obtain⟨ms,hm,cd,dx,m,tt,nm,c,f,rfl,ecd,em⟩:=alc.get hv;refine⟨rfl,_,rfl,cd,_,dx,_,_,rfl,ecd,T.zqe,T.zlf,zuy _ _ _ _ _,rfl,?_⟩;rw[yob,hm,yxc,yva];exact All2.snoc ⟨m,rfl,em⟩ al
 rintro ms H17 ⟨rfl,alm⟩ l17 hl17;rw[cl,yya (yja _)] at alm;refine laid hl17 λH18 S18 e18=>?_;refine⟨l17,_,rfl,.inl ⟨SqL.of e18,λt7 ht7=>?_⟩⟩;refine laid ht7 λH19 S19 e19=>?_;refine⟨sz1,λa8 ha8=>?_⟩;refine laid ha8 λH20 S20 e20=>?_;have S1620:=S18.trans (S19.trans S20);refine⟨_,rfl,ca,_,rfl,.inl (SqL.of (S1620 _ _ ec)),zrr e20 (by omega) λt8 H21 S21 e21=>?_⟩;refine⟨(by show 9≤yxa;decide),λt ht=>?_⟩;refine laid ht λH22 S22 e22=>?_;have S2122:=S21.trans S22;have S1622:=S1620.trans S2122;have S1122:=S1116.trans S1622;have S1422:=(S15.trans S16).trans S1622;have S822:=S811.trans S1122;rw[zwlb,yac] at e4 e6 e8;refine q (.ref t) H22 (S16'.trans S1622) ⟨t,.ref p1,.ref p2,.ref p3,.ref t3,.ref t4,.ref t5,.ref t6,.ref t7,.ref t8,rfl,e22,?_⟩;exact {
  p0:=⟨p1,rfl,by rw[(S5.trans (S6.trans (S7.trans (S8.trans S822)))) _ _ e4];unfold iM tab0;rw[yrd]⟩
  p1:=⟨p2,rfl,by rw[(S7.trans (S8.trans S822)) _ _ e6];unfold iM tab0;rw[yrd]⟩
  p2:=⟨p3,rfl,by rw[S822 _ _ e8];unfold tab0;rw[yrd]⟩
  p3:=⟨t3,ds,rfl,S1122 _ _ e11,by unfold tab0;rw[yud];exact ald11.imp λz=>z.kp (Kp.same S1122)⟩
  p4:=⟨t4,hs,rfl,S1422 _ _ e14,by unfold tab0;rw[yud];exact alh16.imp λz=>z.kp (Kp.same S1622)⟩
  p5:=⟨t5,rfl,(S16.trans S1622) _ _ e15⟩
  p6:=⟨t6,rfl,S1622 _ _ e16⟩
  p7:=⟨t7,ms,rfl,(S20.trans S2122) _ _ e19,alm.imp λz=>z.kp (Kp.same S1622)⟩
  p8:=⟨t8,rfl,by rw[S22 _ _ e21];unfold iM tab0;rw[yrd,cl]⟩ }
theorem All2.app {α β:Type}{R:α->β->Prop}{as cs:List α}{bs ds:List β}(x:All2 R as bs)(y:All2 R cs ds):All2 R (as++cs) (bs++ds):=by
 induction x with
 | nil=>exact y
 | cons h _ ih=>exact .cons h ih
def own (ls:List Nat)(i:Nat):List Int:=(ypc i).flatMap λj:Nat=>ynb (ls.getD j 0) (j:Int)
theorem zvr (ls:List Nat)(i:Nat):own ls (i+1)=own ls i++ynb (ls.getD i 0) (i:Int):=by
 unfold own;rw[ysf,List.flatMap_append];simp
def lens {α:Type}(dss:List (List α)):List Nat:=dss.map (·.length)
def cmsF (dss:List (List Crd)):List (List Str):=dss.flatten.map (·.marks)
def DI (K:yba)(v:V)(o:Option Crd):Prop:=(∃t:Str,v = .str t∧Sm t 10000 19∧zsh t=o)∨((∀H,NoTx K H v)∧o=none)
def DtO (K:yba)(H:Hp)(v:V)(os:List (Option Crd)):Prop:=Ex2 λd us=>v = .ref d∧H d=some (.lst us)∧All2 (DI K) us os∧os.length≤7
theorem DtO.same {K:yba}{H H':Hp}(s:Same H H'){v:V}{os:List (Option Crd)}(h:DtO K H v os):DtO K H' v os:=by
 obtain⟨d,us,e,h1,h2⟩:=h;exact⟨d,us,e,s _ _ h1,h2⟩
def okF (dss:List (List Crd)):Prop:=2≤dss.length∧dss.length≤4∧dss.flatten.length≤16∧(dss.flatten.map hc).sum≤8
def tabF (dss:List (List Crd)):Tab:=tab0 (own (lens dss) dss.length) dss.length (cmsF dss)
def BgT (B D:Addr)(H H':Hp)(v:V)(dss:List (List Crd)):Prop:=Ex5 λt ca oa tv cvs=>v = .ref t∧H ca=none∧H oa=none∧H t=none∧H' t=some (.tup [.ref ca,.ref oa,tv])∧H' ca=some (.lst cvs)∧All2 (zlj B D H') cvs dss.flatten∧H' oa=some (.lst (iM (own (lens dss) dss.length)))∧TabT H' tv (tabF dss)
def zfbb (K:yba)(B D N F:Addr):Sp:=λvs H Q E=>Ex3 λ(a:Addr) (ds:List V) (oss:List (List (Option Crd)))=>vs=[.ref a]∧H a=some (.lst ds)∧All2 (DtO K H) ds oss∧oss.length≤5∧((∃os∈oss,none∈os)->∀H',Same H H'->E (.ref N) none H')∧∀dss:List (List Crd),oss=dss.map (yil some)->(∀c∈dss.flatten,c.ok)->(¬ okF dss->∀H',Same H H'->E (.ref F) none H')∧(okF dss->∀v H',Same H H'->BgT B D H H' v dss->Q v H')
theorem zzr (T:Tx K mg)(kb:K.In base):FnOk P w K mg base (CX1 P w) 11 T.zgg.f T.zgg.d ztjb (zfbb K T.zve T.zyb T.e_NoCard.c T.e_NoFight.c):=by
 refine T.zgg.okx zkr ?_;rintro f c A o s H vs Q E hr ⟨a,ds,oss,rfl,ea,al,d5,qn,qf⟩ X;refine⟨_,  (zca (zqa (i:=1) zkr.nd rfl (.inl rfl) (zob zba))
  (zca (zqa (i:=2) zkr.nd rfl (.inl rfl) (zob zba))
  (zca (zur ycq rfl (zelb rfl T.zak (zaa (pv 0) zba)) (zweb (n:=2) rfl (zqf (zfb (i:=3) zkr.nd rfl (.inr rfl)) (zqf (zfb (i:=4) zkr.nd rfl (.inl rfl)) zet)))
   (zca (zvc (zjf ypb ypi yqi zby (pv 1) (zaa (zglb (own:=["text"]) (cap:=[]) rfl (zeb.chk rfl rfl) .nil (zyd (pv 4)) (λ_ _ _ _ oB=>(zfb (i:=0) (show ync (["text"]:List Str) by decide +kernel) rfl (.inl rfl))) (λ_ _ _ _ oB=>zuc) (λ_ _ _ _ oB=>by exact (zia (zjfb T kb) hr rfl T.zeg.m T.zeg.F.kp (zijb T) .nil (znbc oB) (zaa (pv 0) zba)))) zba)))
   (zea (zvc (zjf ypb ypi yqi zby (pv 2) (zaa (zxc (own:=["text"]) (cap:=["player"]) rfl (zeb.chk rfl rfl) (.cons (j:=3) rfl (.inl rfl) (.inl rfl) .nil) (zyd (pv 4)) (λ_ _ _ _=>(zfb (i:=0) (show ync (["text","player"]:List Str) by decide +kernel) rfl (.inl rfl))) (λ_ _ _ _=>zuc) (λ_ _ _ _=>by exact (pv 1))) zba))))))
  (zca (zvb (zwj (zclb zsz zsz (zqc (v:=.int 2) rfl T.zyf ⟨_,rfl⟩) (zma zra rfl T.zxd ykb (zaa (pv 0) zba)) (zqc (v:=.int 4) rfl T.zti ⟨_,rfl⟩)))
   (zea (zse rfl rfl T.e_NoFight.m T.e_NoFight.q zxk zja))
   zya)
  (zca (zvb (zta zbfb (zma zra rfl T.zxd ykb (zaa (pv 1) zba)) (zqc (v:=.int 16) rfl T.zjl ⟨_,rfl⟩) (zza _))
   (zea (zse rfl rfl T.e_NoFight.m T.e_NoFight.q zxk zja))
   zya)
  (zca (zvb (zta zbfb (zma (zadb rfl) rfl T.ztdb ywq (zaa (zxc (own:=["card"]) (cap:=[]) rfl (zeb.chk rfl rfl) .nil (zyd (pv 1)) (λ_ _ _ _=>(zfb (i:=0) (show ync (["card"]:List Str) by decide +kernel) rfl (.inl rfl))) (λ_ _ _ _=>zuc) (λ_ _ _ _=>by exact (zia (zccb T).up hr rfl T.zaf.m T.zaf.F.kp (zugb T) .nil zdb (zaa (pv 0) zba)))) zba)) (zqc (v:=.int 8) rfl T.zil ⟨_,rfl⟩) (zza _))
   (zea (zse rfl rfl T.e_NoFight.m T.e_NoFight.q zxk zja))
   zya)
  (zea (zwa (zqb (zaa (pv 1) (zaa (pv 2) (zaa (zia (zuz T).up hr rfl T.zie.m T.zie.F.kp (zidb T) .nil zdb (zaa (pv 1) (zaa (pv 2) (zaa (zma zra rfl T.zxd ykb (zaa (pv 0) zba)) zba)))) zba)))))))))))),?_⟩
 have dl:=al.len;refine⟨sz0,λca hca=>?_⟩;refine laid hca λH1 S1 e1=>?_;refine⟨sz0,λoa hoa=>?_⟩;have nco:ca≠oa:=zpa e1 hoa;have hoa0:H oa=none:=none_of S1 hoa;refine laid hoa λH2 S2 e2=>?_;have S02:=S1.trans S2;refine⟨_,rfl,a,_,rfl,SqL.of (S02 _ _ ea),?_⟩;refine zpqb (xs:=ds) (λi σ Hx=>Ex4 λcvs (pss:List (List Crd)) o3 o4=>σ=[some (.ref a),some (.ref ca),some (.ref oa),o3,o4]∧Same H Hx∧Hx ca=some (.lst cvs)∧All2 (zlj T.zve T.zyb Hx) cvs pss.flatten∧(∀c∈pss.flatten,c.ok)∧Hx oa=some (.lst (iM (own (lens oss) i)))∧oss.take i=pss.map (yil some)∧pss.flatten.length≤7*i∧(own (lens oss) i).length=pss.flatten.length∧i≤oss.length) ⟨[],[],_,_,rfl,S02,S2 _ _ e1,.nil,(λc hc=>nomatch hc),e2,rfl,yrb _,rfl,yrb _⟩ (λi σ Hx _ ⟨cvs,pss,o3,o4,_,S,_⟩=>SqL.of (S _ _ ea)) ?_ ?_
 ·rintro i v σ Hx pp hv ⟨cvs,pss,o3,o4,rfl,S,ec,alc,pok,eo,ep,pl7,olen,_⟩ hp;obtain⟨os,hos,d,us,rfl,ed,alu,o7⟩:=al.get hv;have hi:i<oss.length:=(yma.mp hos).1;have omem:=ywa hos;have ul:=alu.len;refine laid hp λH3 S3 e3=>?_;refine⟨pp,_,rfl,SqT.of e3,rfl,_,_,rfl,_,_,rfl,rfl,?_⟩;have S03:=S.trans S3;have ed3:=S03 _ _ ed;refine⟨_,rfl,.inl ⟨rfl,_,SqL.of (S3 _ _ ec)⟩,_,rfl,d,rfl,⟨_,SqL.of ed3⟩,?_⟩;refine zbd (xs:=us) (λj ys H'=>Same H3 H'∧∃cs:List Crd,All2 (zlj T.zve T.zyb H') ys cs∧(∀c∈cs,c.ok)∧os.take j=cs.map some∧cs.length≤7) (λj ys H' z=>SqL.of (z.1 _ _ ed3)) ⟨Same.refl _,[],.nil,(λc hc=>nomatch hc),rfl,by decide⟩ ?_ ?_ ?_
  ·rintro j ys H' ⟨_,cs,al',_,_,c7⟩;have:=al'.len;exact small (by omega)
  ·rintro j u ys H' hu ⟨S',cs,al',cok,ecs,c7⟩;obtain⟨oc,hoc,di⟩:=alu.get hu;have ocm:=ywa hoc;have SS:=S03.trans S';refine⟨rfl,_,rfl,u,rfl,?_⟩
   rcases di with⟨t,rfl,sm,er⟩|⟨nt,rfl⟩
   ·refine .inl ⟨t,rfl,sm,λc v H9 hc S9 IC=>⟨S'.trans S9,cs++[c],All2.snoc IC (al'.imp λz=>z.same S9),?_,?_,?_⟩,λz H9 S9=>qn ⟨os,omem,by rw[← z,er];exact ocm⟩ H9 (SS.trans S9)⟩
    ·intro x hx
     rcases yua.mp hx with hx|hx
     ·exact cok x hx
     ·rw[yda.mp hx];exact (zueb sm hc).1
    ·rw[yob,hoc,ecs,← er,hc,yva];rfl
    ·have z:=congrArg ynf ecs;rw[yza,yaa] at z;have y:=(yma.mp hoc).1;rw[yha];show cs.length+1≤7
     omega
   ·exact .inr ⟨nt H',qn ⟨os,omem,ocm⟩ H' SS⟩
  rintro ys H4 ⟨S4,cs,aly,cok,ecs,c7⟩ l4 hl4;rw[ul,yya (yja _)] at ecs;have ol:os.length=cs.length:=by rw[ecs,yaa]
  refine laid hl4 λH5 S5 e5=>?_;have S35:=S4.trans S5;have ec5:=(S3.trans S35) _ _ ec;have yl:=aly.len;have cl:=alc.len;refine⟨ca,l4,_,_,rfl,rfl,ec5,e5,small (by omega),?_⟩;have S05:=S03.trans S35;have S06:Same H (upd H5 ca (.lst (cvs++ys))):=zwf S05 hca _;have ec6:upd H5 ca (.lst (cvs++ys)) ca=some (.lst (cvs++ys)):=zfa;have eo6:upd H5 ca (.lst (cvs++ys)) oa=some (.lst (iM (own (lens oss) i))):=by
   rw[zxa (yvc nco)];exact (S3.trans S35) _ _ eo
  have kp6:Kp H5 (upd H5 ca (.lst (cvs++ys))):=Kp.put ec5;have efl:(pss++[cs]).flatten=pss.flatten++cs:=by simp
  have alc6:All2 (zlj T.zve T.zyb (upd H5 ca (.lst (cvs++ys)))) (cvs++ys) (pss++[cs]).flatten:=by
   rw[efl];exact All2.app (alc.imp λz=>z.kp ((Kp.same (S3.trans S35)).trans kp6)) (aly.imp λz=>z.kp ((Kp.same S5).trans kp6))
  generalize upd H5 ca (.lst (cvs++ys))=H6 at *;have ed6:=S06 _ _ ed;refine⟨_,rfl,.inl ⟨rfl,_,SqL.of eo6⟩,_,rfl,d,rfl,⟨_,SqL.of ed6⟩,?_⟩;refine zbd (xs:=us) (λj ys H'=>H'=H6∧ys=ynb j (V.int (i:Int))∧j≤7) (λj ys H' z=>by rw[z.1];exact SqL.of ed6) ⟨rfl,rfl,by decide⟩ ?_ ?_ ?_
  ·rintro j ys H' ⟨_,rfl,hj⟩;rw[yyb];exact small (by omega)
  ·rintro j u ys H' hu ⟨rfl,rfl,_⟩;have hj:j<us.length:=(yma.mp hu).1;exact⟨rfl,_,rfl,rfl,by rw[yio],by omega⟩
  rintro zs H7 ⟨rfl,rfl,_⟩ l7 hl7;refine laid hl7 λH8 S8 e8=>?_;have eo8:=S8 _ _ eo6;refine⟨oa,l7,_,_,rfl,rfl,eo8,e8,?_,?_⟩
  ·unfold iM;rw[yaa,yyb];exact small (by omega)
  have S08:=S06.trans S8;have eos:own (lens oss) (i+1)=own (lens oss) i++ynb us.length (i:Int):=by
   rw[zvr,ycc];unfold lens;rw[yhb,hos,ul];rfl
  refine⟨cvs++ys,pss++[cs],_,_,rfl,zwf S08 hoa0 _,by rw[zxa nco];exact S8 _ _ ec6,alc6.imp λz=>z.kp ((Kp.same S8).trans (Kp.put eo8)),?_,?_,?_,?_,?_,hi⟩
  ·intro x hx;rw[efl] at hx;exact (yua.mp hx).elim (pok x) (cok x)
  ·rw[zfa,eos];unfold iM;rw[yva,yrd]
  ·rw[yob,hos,ep,ecs,yva];rfl
  ·rw[efl,yha];omega
  ·rw[eos,efl,yha,yha,yyb,olen];omega
 ·rintro σ Hx ⟨cvs,dss,o3,o4,rfl,S,ec,alc,pok,eo,ep,pl7,olen,_⟩;rw[dl] at eo olen;rw[dl,yya (yja _)] at ep;have ls:lens oss=lens dss:=by
   rw[ep];unfold lens;rw[yud]
   congr 1
   funext x
   exact yaa _
  have ol:oss.length=dss.length:=by rw[ep,yaa]
  rw[ls,ol] at eo olen;obtain⟨qF,qQ⟩:=qf dss ep pok;have cl:=alc.len;have eax:=S _ _ ea;refine⟨_,rfl,a,_,rfl,.inl (SqL.of eax),_,_,rfl,rfl,_,rfl,ite2 (λc2=>?_) (λc2=>?_)⟩
  case refine_2=>exact⟨_,rfl,iteT (qF (λz=>c2 (decide_eq_true (by have:=z.1;omega))) Hx S)⟩
  have c2':=of_decide_eq_true c2;refine⟨_,_,rfl,rfl,_,rfl,ite2 (λc4=>?_) (λc4=>?_)⟩
  ·refine qF (λz=>?_) Hx S;have c4':(!decide ((ds.length:Int)≤4))=true:=c4;rw[decide_eq_true (by have:=z.2.1;omega)] at c4';cases c4'
  have c4':(ds.length:Int)≤4:=by
   by_cases y:(ds.length:Int)≤4
   ·exact y
   ·exact absurd (show (!decide ((ds.length:Int)≤4))=true by rw[decide_eq_false y];rfl) c4
  refine⟨_,rfl,ca,_,rfl,.inl (SqL.of ec),_,_,rfl,rfl,_,rfl,ite2 (λc6=>?_) (λc6=>?_)⟩
  ·exact qF (λz=>by have:=z.2.2.1;have:=of_decide_eq_true c6;omega) Hx S
  have c6':cvs.length≤16:=by
   by_cases y:cvs.length≤16
   ·exact y
   ·exact absurd (decide_eq_true (by omega)) c6
  refine⟨_,rfl,ca,rfl,⟨_,SqL.of ec⟩,?_⟩;refine zbd (xs:=cvs) (λj ys H'=>Same Hx H'∧ys=((dss.flatten.take j).map λc=>V.int (hc c:Int))∧j≤cvs.length) (λj ys H' z=>SqL.of (z.1 _ _ ec)) ⟨Same.refl _,rfl,yrb _⟩ ?_ ?_ ?_
  ·rintro j ys H' ⟨_,rfl,hj⟩;rw[yaa,yza];exact small (by omega)
  ·rintro j v ys H' hv ⟨S',rfl,_⟩;obtain⟨cd,hm,ck⟩:=alc.get hv;refine⟨rfl,_,rfl,v,cd,rfl,ck.same S',(pok cd (ywa hm)).few,λH'' S''=>⟨S'.trans S'',?_,(yma.mp hv).1⟩⟩;rw[yob,hm,yva];rfl
  rintro zs H3 ⟨S3,rfl,_⟩ l3 hl3;rw[cl,yya (yja _)];refine laid hl3 λH4 S4 e4=>?_;have S34:=S3.trans S4;have e4':H4 l3=some (.lst ((dss.flatten.map λc=>(hc c:Int)).map V.int)):=by
   rw[e4,yud];rfl
  have hsum:∀cs:List Crd,(cs.map λc=>(hc c:Int)).sum=((cs.map hc).sum:Nat):=λcs=>by
   induction cs with
   | nil=>rfl
   | cons x r ih=>rw[ygb,ydd,ih,ygb,ydd,Int.natCast_add]
  refine⟨l3,_,rfl,SqL.of e4',_,_,rfl,rfl,_,rfl,ite2 (λc8=>?_) (λc8=>?_)⟩
  ·have c':=of_decide_eq_true c8;rw[hsum] at c';exact qF (λz=>by have:=z.2.2.2;omega) H4 (S.trans S34)
  have c8':(dss.flatten.map hc).sum≤8:=by
   by_cases y:(dss.flatten.map hc).sum≤8
   ·exact y
   ·exact absurd (decide_eq_true (by rw[hsum];omega)) c8
  have CD:CdsT T.zve H4 ca (cmsF dss):=⟨cvs,S34 _ _ ec,by
   have z:∀{vs:List V} {cs:List Crd},All2 (zlj T.zve T.zyb Hx) vs cs->All2 (CmT T.zve H4) vs (cs.map (·.marks)):=λy=>by
    induction y with
    | nil=>exact .nil
    | cons h _ ih=>exact .cons ((h.same S34).cm) ih
   exact z alc⟩
  have cml:(cmsF dss).length=dss.flatten.length:=by unfold cmsF;rw[yaa]
  refine⟨_,rfl,_,rfl,_,rfl,_,rfl,_,rfl,a,_,rfl,.inl (SqL.of (S34 _ _ eax)),ca,oa,dss.length,own (lens dss) dss.length,cmsF dss,(by show [V.ref ca,V.ref oa,V.int (ds.length:Int)]=_;rw[dl,ol]),CD,S34 _ _ eo,by rw[olen];omega,by omega,by omega,by omega,λtv H5 S5 TT=>⟨sz3,λt ht=>?_⟩⟩;refine laid ht λH6 S6 e6=>?_;have S56:=S5.trans S6;have S06:=S.trans (S34.trans S56);exact qQ ⟨by omega,by omega,by omega,c8'⟩ (.ref t) H6 S06 ⟨t,ca,oa,tv,cvs,rfl,hca,hoa0,none_of (S.trans (S34.trans S5)) ht,e6,(S34.trans S56) _ _ ec,alc.imp λz=>z.same (S34.trans S56),(S34.trans S56) _ _ eo,TT.kp (Kp.same S6)⟩
def cl2 (N F:Addr)(b:Bool):Addr:=cond b N F
def wd2 (b:Bool):Str:=cond b "card" "fight"
def Rf (oss:List (List (Option Crd)))(b:Bool):Prop:=(b=true∧∃os∈oss,none∈os)∨(b=false∧∃dss:List (List Crd),oss=dss.map (yil some)∧¬ okF dss)
theorem some_inj {xs ys:List (List Crd)}(h:xs.map (yil some)=ys.map (yil some)):xs=ys:=(yhl λa b e=>(yhl λ_ _ e=>yub e).mp e).mp h
theorem zjib {dss:List (List Crd)}{os:List (Option Crd)}(h:os∈dss.map (yil some))(n:none∈os):False:=by
 obtain⟨cs,_,rfl⟩:=ysb.mp h;obtain⟨c,_,e⟩:=ysb.mp n;cases e
def DsT (K:yba)(H:Hp)(a:Addr)(oss:List (List (Option Crd))):Prop:=∃ds:List V,H a=some (.lst ds)∧All2 (DtO K H) ds oss∧oss.length≤5
theorem DsT.same {K:yba}{H H':Hp}(s:Same H H'){a:Addr}{oss:List (List (Option Crd))}(h:DsT K H a oss):DsT K H' a oss:=by
 obtain⟨ds,e,al,l⟩:=h;exact⟨ds,s _ _ e,al.imp λz=>z.same s,l⟩
theorem zvvb {K:yba}{B D N F a:Addr}{H:Hp}{Q:VK}{E:XK}{oss:List (List (Option Crd))}{b:Bool}(h:DsT K H a oss)(r:Rf oss b)(e:∀H',Same H H'->E (.ref (cl2 N F b)) none H'):zfbb K B D N F [.ref a] H Q E:=by
 obtain⟨ds,ea,al,l⟩:=h;refine⟨a,ds,oss,rfl,ea,al,l,?_,?_⟩
 ·rintro⟨os,ho,n⟩ H' S
  rcases r with⟨rfl,_⟩|⟨rfl,dss,ed,_⟩
  ·exact e H' S
  ·rw[ed] at ho;exact (zjib ho n).elim
 ·intro dss ed _
  rcases r with⟨rfl,os,ho,n⟩|⟨rfl,dss',ed',nf⟩
  ·rw[ed] at ho;exact (zjib ho n).elim
  ·have z:=some_inj (ed.symm.trans ed');subst z;exact⟨λ_=>e,λo=>absurd o nf⟩
def zcsb (K:yba)(N F:Addr):Sp:=λvs H _ E=>Ex4 λ(x a:Addr) (oss:List (List (Option Crd))) (b:Bool)=>vs=[.ref x,.ref a]∧DsT K H a oss∧Rf oss b∧∀H',Same H H'->E (.ref (cl2 N F b)) none H'
def zurb (K:yba):Sp:=λvs H Q _=>Ex4 λ(k:Nat) (a:Addr) (oss:List (List (Option Crd))) (b:Bool)=>vs=[.int (k:Int),.ref a]∧DsT K H a oss∧Rf oss b∧∀H',Same H H'->Q (.str (wd2 b)) H'
def zlac (K:yba):Sp:=λvs H Q _=>Ex3 λ(a:Addr) (oss:List (List (Option Crd))) (b:Bool)=>vs=[.ref a]∧DsT K H a oss∧Rf oss b∧∀H',Same H H'->Q (.str (wd2 b)) H'
theorem zxy:yyf "ValueError" = some (.type "ValueError"):=by decide +kernel
structure XF {K:yba}{mg:Str->Option Value}(T:Tx K mg)(b:Bool):Prop where
 q:ExcC K (cl2 T.e_NoCard.c T.e_NoFight.c b)
 z:ExcQ K (cl2 T.e_NoCard.c T.e_NoFight.c b)
 u:L2.subIn K (cl2 T.e_NoCard.c T.e_NoFight.c b) T.e_FightError.c=true
 v:yna K (.ref (cl2 T.e_NoCard.c T.e_NoFight.c b)) (.type "ValueError")=some true
 n1:yna K (.ref (cl2 T.e_NoCard.c T.e_NoFight.c b)) (.ref T.zbo)=some false
 n2:yna K (.ref (cl2 T.e_NoCard.c T.e_NoFight.c b)) (.ref T.zkj)=some false
 n3:yna K (.ref (cl2 T.e_NoCard.c T.e_NoFight.c b)) (.ref T.zkl)=some false
 c:yna K (.ref (cl2 T.e_NoCard.c T.e_NoFight.c b)) (.ref T.e_NoCard.c)=some b
 f:yna K (.ref (cl2 T.e_NoCard.c T.e_NoFight.c b)) (.ref T.e_NoFight.c)=some (!b)
theorem xf {K:yba}{mg:Str->Option Value}(T:Tx K mg)(b:Bool):XF T b:=by
 cases b with
 | true=>exact⟨T.e_NoCard.q,T.e_NoCard.z,T.u_NoCard_FightError,T.v_NoCard_ValueError,T.v_NoCard_NoRow,T.v_NoCard_NotSame,T.v_NoCard_NotNow,T.v_NoCard_NoCard,T.v_NoCard_NoFight⟩
 | false=>exact⟨T.e_NoFight.q,T.e_NoFight.z,T.u_NoFight_FightError,T.v_NoFight_ValueError,T.v_NoFight_NoRow,T.v_NoFight_NotSame,T.v_NoFight_NotNow,T.v_NoFight_NoCard,T.v_NoFight_NoFight⟩
theorem znyb {H:Hp}{p:Prop}[Decidable p]{A B:Prop}{G:Hp->Prop}(a:(∀H1,Same H H1->G H1)->A)(b:(∀H1,Same H H1->G H1)->B)(k:∀H1,Same H H1->G H1):if p then A else B:=by
 split
 ·exact a k
 ·exact b k
theorem ifx {C:Addr}{x q:Str}{st:Stmt}{N ps:List Str}{k:Nat}{sp:Sp}(g:If K C x q st)(S:zva N ps (zka st))
  (hb:∀f (cdv:Value) (A:Around) (outer:List Env) (s:Shared) H vs (Q:VK) (E:XK),Room k (A.deeper (envOfC q (zka st) s.heap.objs.size f cdv))->sp vs H Q E->let X:=cxOf (CX1 P w) P w K mg base N q (zka st) f cdv A outer s H E;∃t,PSs X (zqg st) t∧t { nx:=λ_ H'=>Q .non H',rt:=Q } (start N vs) H)
  (len:∀vs H Q E,sp vs H Q E->vs.length=ps.length):FnOk P w K mg base (CX1 P w) (k+1) g.f g.d ps sp:=g.F.okx S len (hb g.f)
theorem zvz (T:Tx K mg):FnOk P w K mg base CX0 11 T.zje.f T.zje.d zwm (λ_ _ _ _=>False):=by
 refine T.zje.F.ok zqz (λvs H Q E h=>?_) (λcdv A outer s H vs Q E hr h=>?_)
 ·exact h.elim
 exact h.elim
theorem zdtb (T:Tx K mg)(kb:K.In base):FnOk P w K mg base (CX1 P w) 12 T.zwc.f T.zwc.d ztj (zcsb K T.e_NoCard.c T.e_NoFight.c):=by
 refine ifx T.zwc zpf ?_ ?_
 case refine_2 =>
  rintro _ _ _ _ ⟨x,a,oss,b,rfl,_⟩;rfl
 rintro f c A o s H vs Q E hr ⟨x,a,oss,b,rfl,dt,r,q⟩ X;refine⟨_,  (zca (zdlb (zia (zzr T kb) hr rfl T.zgg.m T.zgg.F.kp (zaz T) .nil zjd (zaa (pv 1) zba)) (zweb (n:=3) rfl (zqf (zfb (i:=2) zpf.nd rfl (.inl rfl)) (zqf (zfb (i:=3) zpf.nd rfl (.inl rfl)) (zqf (zfb (i:=4) zpf.nd rfl (.inl rfl)) zet)))))
  (zca (zfk (pv 0) (pv 2) rfl)
  (zca (zfk (pv 0) (pv 3) rfl)
  (zca (zfk (pv 0) (zia (zvz T) hr rfl T.zje.m T.zje.F.kp (zjdb T) .nil zdb (zaa (pv 4) zba)) rfl)
  (zca (zfk (pv 0) (zob zba) rfl)
  (zea (zfk (pv 0) (zob zba) rfl))))))),?_⟩
 exact⟨_,rfl,zvvb dt r q⟩
theorem ztn (T:Tx K mg)(kb:K.In base):FnOk P w K mg base CX0 14 T.zrc.f T.zrc.d ztl (zurb K):=by
 refine T.zrc.ok zeh ?_;rintro f c A o s H vs Q E hr ⟨k,a,oss,b,rfl,dt,r,q⟩ X;refine⟨_,  (zca (zqa (i:=2) zeh.nd rfl (.inl rfl) zyk)
  (zca (zjbc (k:=3) rfl rfl rfl T.e_FightError.m T.e_FightError.q zeh.nd rfl rfl (λE1 E pn hP=>(zea (zvb (zta zzd (pv 0) zga (zza _))
    (zea (zvc (zia (zzr T kb).up hr rfl T.zgg.m T.zgg.F.kp (zaz T) .nil hP (zaa (pv 1) zba))))
    (zea (zvc (ztx T.zwc.M (zdtb T kb) hr rfl T.zypb (zuv T) .nil hP (zaa (pv 1) zba))))))) λz=>(zea (zqa (i:=2) zeh.nd rfl (.inl rfl) (pv 3))))
  (zca (zvb (zta zklb (pv 2) zyk (zza _))
   (zea (zwa zja))
   zya)
  (zca (zvb (PW.pt (zqp (zwj (zif (zma zzn rfl T.zab yic (zaa (pv 2) (zaa (zpe (v:=.ty "ValueError") rfl T.zok zxy rfl) zba))))) (zrn (zif (zma zddb rfl T.zab yic (zaa (pv 2) (zaa (zqb (zaa (zqc (v:=.ref T.zbo) rfl T.zrcb rfl) (zaa (zqc (v:=.ref T.zkj) rfl T.zis rfl) (zaa (zqc (v:=.ref T.zkl) rfl T.ziw rfl) zba)))) zba)))))))
   (zea (zwa zja))
   zya)
  (zea (zwa (zmb zrb (zob (zaa zja (zaa zja (zaa zja (zaa zja zba))))) (zub zlh (zlb zwy rfl T.zdbb yhp (zaa (zma zzn rfl T.zab yic (zaa (pv 2) (zaa (zqc (v:=.ref T.e_NoCard.c) rfl T.e_NoCard.m rfl) zba))) zba)) (zub zrab zga (zlb zwy rfl T.zdbb yhp (zaa (zma zzn rfl T.zab yic (zaa (pv 2) (zaa (zqc (v:=.ref T.e_NoFight.c) rfl T.e_NoFight.m rfl) zba))) zba)))) (λ_ _=>rfl)))))))),?_⟩
 have F:=xf T b;refine⟨_,rfl,rfl,_,rfl,?_⟩;refine znyb (H:=H) (λk=>⟨_,rfl,zvvb dt r k⟩) (λk=>⟨_,rfl,λx dx nx ndx ne=>?_⟩) λH1 S1=>?_
 ·have SS:Same H (upd (upd H dx (.own x)) x (.ins T.zql dx [])):=λy u e=>by
   rw[zxa (zpa e nx),zxa (zpa e ndx)];exact e
  exact⟨x,a,oss,b,rfl,dt.same SS,r,λH' S'=>k H' (SS.trans S')⟩
 refine⟨⟨_,rfl,F.q,F.u⟩,fun σ x hl hx=>?_⟩
 match σ,hl with
 | [o0,o1,o2,o3],_ =>
 have S2:=S1.trans (zoa hx (excO x (.ref (cl2 T.e_NoCard.c T.e_NoFight.c b))));have e2:upd H1 x (excO x (.ref (cl2 T.e_NoCard.c T.e_NoFight.c b))) x=some (excO x (.ref (cl2 T.e_NoCard.c T.e_NoFight.c b))):=zfa;generalize upd H1 x (excO x (.ref (cl2 T.e_NoCard.c T.e_NoFight.c b)))=H2 at *;refine⟨_,rfl,_,rfl,rfl,_,rfl,iteF ?_⟩;refine⟨_,rfl,x,_,_,true,rfl,e2,F.z,.inl ⟨_,rfl,F.v⟩,_,rfl,iteF ?_⟩;refine⟨_,rfl,sz3,λtp htp=>?_⟩;refine laid htp λH3 S3 e3=>?_;have e23:=S3 _ _ e2;have ka:yai K (.ref (cl2 T.e_NoCard.c T.e_NoFight.c b)) ([T.zbo,T.zkj,T.zkl].map Value.ref)=some false:=by
  simp only[ygb,ype,yai,F.n1,F.n2,F.n3]
 refine⟨x,_,tp,[T.zbo,T.zkj,T.zkl],false,rfl,e23,F.z,SqT.of e3,ka,_,rfl,iteF ?_⟩;refine⟨sz4,λl hl=>?_⟩;refine laid hl λH4 S4 e4=>?_;have e24:=S4 _ _ e23;refine⟨_,rfl,x,_,_,b,rfl,e24,F.z,.inr ⟨_,rfl,F.c⟩,?_⟩;refine .inr ⟨b,rfl,_,rfl,x,_,_,(!b),rfl,e24,F.z,.inr ⟨_,rfl,F.f⟩,.inr ⟨!b,rfl,?_⟩⟩;have qq:=q H4 (S2.trans (S3.trans S4));cases b with
 | true=>exact⟨_,_,rfl,rfl,.inl ⟨by decide,by decide⟩,_,_,rfl,rfl,l,_,_,_,rfl,rfl,SqL.of e4,zna (j:=1) rfl,qq⟩
 | false=>exact⟨_,_,rfl,rfl,.inl ⟨by decide,by decide⟩,_,_,rfl,rfl,l,_,_,_,rfl,rfl,SqL.of e4,zna (j:=2) rfl,qq⟩
theorem zzu (T:Tx K mg)(kb:K.In base):FnOk P w K mg base CX0 15 T.zke.f T.zke.d zlq (zlac K):=by
 refine T.zke.ok zcu ?_;rintro f c A o s H vs Q E hr ⟨a,oss,b,rfl,dt,r,q⟩ X;refine⟨_,  (zca (zqa (i:=1) zcu.nd rfl (.inl rfl) (zia (ztn T kb) hr rfl T.zrc.m T.zrc.F.kp (zfp T) .nil zdb (zaa zga (zaa (pv 0) zba))))
  (zca (zvb (zta zsv (pv 1) (zia (ztn T kb) hr rfl T.zrc.m T.zrc.F.kp (zfp T) .nil zdb (zaa zga (zaa (pv 0) zba))) (zza _))
   (zea (zwa zja))
   zya)
  (zea (zwa (pv 1))))),?_⟩
 refine⟨_,rfl,0,a,oss,b,rfl,dt,r,λH1 S1=>?_⟩;refine⟨_,rfl,_,rfl,1,a,oss,b,rfl,dt.same S1,r,λH2 S2=>?_⟩;refine⟨rfl,_,rfl,?_⟩;rw[decide_eq_true rfl];exact iteF ⟨_,rfl,q H2 (S1.trans S2)⟩
theorem zpcc (K:yba):yna K (.type "str") (.type "bool")=some false:=by kernel_rfl
theorem zmec (K:yba):yna K (.type "str") (.type "tuple")=some false:=by kernel_rfl
theorem znec (K:yba):yna K (.type "str") (.type "list")=some false:=by kernel_rfl
theorem zoec (K:yba):yna K (.type "str") (.type "int")=some false:=by kernel_rfl
theorem zrcc (K:yba):yna K (.type "int") (.type "bool")=some false:=by kernel_rfl
theorem zqec (K:yba):yna K (.type "int") (.type "tuple")=some false:=by kernel_rfl
theorem zrec (K:yba):yna K (.type "int") (.type "list")=some false:=by kernel_rfl
theorem zocc (K:yba):yna K (.type "tuple") (.type "bool")=some false:=by kernel_rfl
theorem zncc (K:yba):yna K (.type "tuple") (.type "list")=some false:=by kernel_rfl
theorem ka_t (K:yba):yai K (.type "tuple") (["list","tuple"].map Value.type)=some true:=by kernel_rfl
structure TOk (np nc:Nat)(t:Tab):Prop where
 pts:t.pts.length=np
 scs:t.scs.length=np
 gone:t.gone.length=np
 decks:t.decks.length=np
 hands:t.hands.length=np
 marks:t.marks.length=nc
 wnds:t.wnds.length=nc
 ly:t.lying.length≤16
 hp:t.heap.length≤16
 ms:∀m∈t.marks,m.length≤40
 ds:∀d∈t.decks,d.length≤16
 hs:∀d∈t.hands,d.length≤16
 np4:np≤4
 nc16:nc≤16
theorem zqcc (K:yba):yna K (.type "list") (.type "bool")=some false:=by kernel_rfl
theorem zpec (K:yba):yna K (.type "list") (.type "tuple")=some false:=by kernel_rfl
theorem ka_l (K:yba):yai K (.type "list") (["list","tuple"].map Value.type)=some true:=by kernel_rfl
mutual
inductive AL (H:Hp):Nat->V->V->Prop where
 | str {n:Nat} (u:Str):AL H n (.str u) (.str u)
 | bl {n:Nat} (b:Bool):AL H n (.bl b) (.bl b)
 | int {n:Nat} (i:Int):AL H n (.int i) (.int i)
 | tup {n:Nat} {a b:Addr} {xs ys:List V}:H a=some (.tup xs)->H b=some (.tup ys)->ys.length≤1000->ALs H n xs ys->AL H (n+1) (.ref a) (.ref b)
 | lst {n:Nat} {a b:Addr} {xs ys:List V}:H a=some (.lst xs)->H b=some (.lst ys)->ys.length≤1000->ALs H n xs ys->AL H (n+1) (.ref a) (.ref b)
inductive ALs (H:Hp):Nat->List V->List V->Prop where
 | nil {n:Nat}:ALs H n [] []
 | cons {n:Nat} {x y:V} {xs ys:List V}:AL H n x y->ALs H n xs ys->ALs H n (x::xs) (y::ys)
end
mutual
theorem AL.same {H H':Hp}(s:Same H H'):∀{n:Nat} {x y:V},AL H n x y->AL H' n x y
 | _,_,_,.str u=>.str u
 | _,_,_,.bl u=>.bl u
 | _,_,_,.int u=>.int u
 | _,_,_,.tup h g l t=>.tup (s _ _ h) (s _ _ g) l (t.same s)
 | _,_,_,.lst h g l t=>.lst (s _ _ h) (s _ _ g) l (t.same s)
theorem ALs.same {H H':Hp}(s:Same H H'):∀{n:Nat} {xs ys:List V},ALs H n xs ys->ALs H' n xs ys
 | _,_,_,.nil=>.nil
 | _,_,_,.cons h t=>.cons (h.same s) (t.same s)
end
theorem ALs.len {H:Hp}{n:Nat}:∀{xs ys:List V},ALs H n xs ys->xs.length=ys.length
 | _,_,.nil=>rfl
 | _,_,.cons _ t=>by rw[yga,yga,t.len]
theorem ALs.get {H:Hp}{n:Nat}:∀{xs ys:List V} {i:Nat},ALs H n xs ys->i<ys.length->Ex2 λx y=>xs[i]?=some x∧ys[i]?=some y∧AL H n x y
 | _,_,i,.nil,h=>absurd h (yvi i)
 | _,_,0,.cons h t,_=>⟨_,_,rfl,rfl,h⟩
 | _,_,i+1,.cons h t,l=>by
  obtain⟨x,y,e1,e2,z⟩:=t.get (i:=i) (by rw[yga] at l;omega);exact⟨x,y,by rw[ysc];exact e1,by rw[ysc];exact e2,z⟩
theorem zkdb {H:Hp}{n:Nat}:∀xs:List Int,ALs H n (iM xs) (iM xs)
 | []=>.nil
 | x::r=>.cons (.int x) (zkdb r)
theorem zjrb {H:Hp}{n:Nat}:∀xs:List Str,ALs H n (sM xs) (sM xs)
 | []=>.nil
 | x::r=>.cons (.str x) (zjrb r)
theorem zxvb {H:Hp}{n:Nat}:∀xs:List Bool,ALs H n (xs.map V.bl) (xs.map V.bl)
 | []=>.nil
 | x::r=>.cons (.bl x) (zxvb r)
theorem T1.al {H:Hp}{n:Nat}{v u:V}{xs:List V}(h:T1 H v xs)(g:T1 H u xs)(l:xs.length≤1000)(z:ALs H n xs xs):AL H (n+1) v u:=by
 obtain⟨a,rfl,ea⟩:=h;obtain⟨b,rfl,eb⟩:=g;exact .tup ea eb l z
theorem T1s.al {H:Hp}{n:Nat}{vs us:List V}{xss:List (List V)}(h:All2 (T1 H) vs xss)(g:All2 (T1 H) us xss)(l:∀xs∈xss,xs.length≤1000∧ALs H n xs xs):ALs H (n+1) vs us:=by
 induction h generalizing us with
 | nil=>cases g;exact .nil
 | cons h _ ih =>
  cases g with
  | cons g gs =>
   obtain⟨l1,l2⟩:=l _ ypa;exact .cons (h.al g l1 l2) (ih gs λxs hx=>l xs (yla _ hx))
theorem T2.al {H:Hp}{n:Nat}{v u:V}{xss:List (List V)}(h:T2 H v xss)(g:T2 H u xss)(l0:xss.length≤1000)(l:∀xs∈xss,xs.length≤1000∧ALs H n xs xs):AL H (n+2) v u:=by
 obtain⟨a,vs,rfl,ea,al1⟩:=h;obtain⟨b,us,rfl,eb,al2⟩:=g;exact .tup ea eb (by rw[al2.len];exact l0) (T1s.al al1 al2 l)
theorem zzzb {H:Hp}{v u:V}{t:Tab}{np nc:Nat}(o:TOk np nc t)(h:TabT H v t)(g:TabT H u t):AL H 3 v u:=by
 obtain⟨a,v0,v1,v2,v3,v4,v5,v6,v7,v8,rfl,ea,A⟩:=h;obtain⟨b,u0,u1,u2,u3,u4,u5,u6,u7,u8,rfl,eb,B⟩:=g;have np4:=o.np4;have nc16:=o.nc16;have il:∀{xs:List Int},xs.length≤16->(iM xs).length≤1000:=λh=>by rw[show (iM _).length=_ from yaa _];omega
 have ip:∀{x y:V} {xs:List Int},T1 H x (iM xs)->T1 H y (iM xs)->xs.length≤16->AL H 2 x y:=λp q l=>p.al q (il l) (zkdb _);have dp:∀{x y:V} {xss:List (List Int)},T2 H x (xss.map iM)->T2 H y (xss.map iM)->xss.length≤16->(∀d∈xss,d.length≤16)->AL H 2 x y:=λp q l l2=>p.al q (by rw[yaa];omega) λxs hx=>by
  obtain⟨d,hd,rfl⟩:=ysb.mp hx;exact⟨il (l2 d hd),zkdb _⟩
 refine .tup ea eb (by show 9≤1000;decide) ?_;refine .cons (ip A.p0 B.p0 (by rw[o.pts];omega)) (.cons (ip A.p1 B.p1 (by rw[o.scs];omega)) (.cons (A.p2.al B.p2 (by rw[yaa,o.gone];omega) (zxvb _)) (.cons (dp A.p3 B.p3 (by rw[o.decks];omega) o.ds) (.cons (dp A.p4 B.p4 (by rw[o.hands];omega) o.hs) (.cons (ip A.p5 B.p5 o.ly) (.cons (ip A.p6 B.p6 o.hp) (.cons (A.p7.al B.p7 (by rw[yaa,o.marks];omega) λxs hx=>?_) (.cons (ip A.p8 B.p8 (by rw[o.wnds];exact nc16)) .nil))))))));obtain⟨d,hd,rfl⟩:=ysb.mp hx;have:=o.ms d hd;exact⟨by rw[show (sM d).length=_ from yaa _];omega,zjrb _⟩
def zkn (n:Nat):Sp:=λvs H Q _=>Ex3 λ(m:Nat) x y=>vs=[x,y]∧m<n∧AL H m x y∧∀H',Same H H'->Q (.bl true) H'
theorem zrnb (T:Tx K mg){n:Nat}(zphb:FnOk P w K mg base CX0 (n+2) T.zpb.f T.zpb.d zah (zkn n)):FnOk P w K mg base CX0 (n+3) T.zpb.f T.zpb.d zah (zkn (n+1)):=by
 refine T.zpb.ok zobb ?_;rintro f c A o s H vs Q E hr ⟨m,x,y,rfl,hm,al,q⟩ X;refine⟨_,  (zca (zvb (PW.pt (zqp (zif (zma zbc rfl T.zab yic (zaa (pv 1) (zaa (zpe (v:=.ty "bool") rfl T.zkw ygr rfl) zba)))) (zrn (zif (zma zbc rfl T.zab yic (zaa (pv 0) (zaa (zpe (v:=.ty "bool") rfl T.zkw ygr rfl) zba)))))))
   (zea (zwa (zwu (zma zbc rfl T.zab yic (zaa (pv 1) (zaa (zpe (v:=.ty "bool") rfl T.zkw ygr rfl) zba))) (zwu (zma zbc rfl T.zab yic (zaa (pv 0) (zaa (zpe (v:=.ty "bool") rfl T.zkw ygr rfl) zba))) (zsx (zkh zzd (pv 0) (pv 1) (zza _)))))))
   zya)
  (zca (zvb (PW.pt (zqp (zif (zma zbc rfl T.zab yic (zaa (pv 1) (zaa (zpe (v:=.ty "tuple") rfl T.zde yme rfl) zba)))) (zrn (zif (zma zbc rfl T.zab yic (zaa (pv 1) (zaa (zpe (v:=.ty "list") rfl T.zzm yvj rfl) zba)))))))
   (zca (zvb (PW.pt (zqp (zwj (zif (zma zjgb rfl T.zab yic (zaa (pv 0) (zaa (zqb (zaa (zpe (v:=.ty "list") rfl T.zzm yvj rfl) (zaa (zpe (v:=.ty "tuple") rfl T.zde yme rfl) zba))) zba))))) (zrn (zta zsv (zma zbc rfl T.zab yic (zaa (pv 0) (zaa (zpe (v:=.ty "list") rfl T.zzm yvj rfl) zba))) (zma zbc rfl T.zab yic (zaa (pv 1) (zaa (zpe (v:=.ty "list") rfl T.zzm yvj rfl) zba))) (zza _)))))
    (zea (zwa zrv))
    zya)
   (zca (zvb (zta zsv (zma zra rfl T.zxd ykb (zaa (pv 0) zba)) (zma zra rfl T.zxd ykb (zaa (pv 1) zba)) (zza _))
    (zea (zwa zrv))
    zya)
   (zea (zwa (zkh zzd (zma zra rfl T.zxd ykb (zaa (zxc (own:=["_law_k"]) (cap:=["_law_found","_law_due_here"]) rfl (zeb.chk rfl rfl) (.cons (j:=0) rfl (.inl rfl) (.inl rfl) (.cons (j:=1) rfl (.inl rfl) (.inl rfl) .nil)) (zuf rfl T.zuh (zaa (zma zra rfl T.zxd ykb (zaa (pv 1) zba)) zba)) (λ_ _ _ _=>(zfb (i:=0) (show ync (["_law_k","_law_found","_law_due_here"]:List Str) by decide +kernel) rfl (.inl rfl))) (λ_ _ _ _=>zct (zwj (zif (zia zphb hr rfl T.zpb.m T.zpb.F.kp (zao T) .nil zdb (zaa (zmb (zeqb K) (pv 1) (pv 0) (λ_ _=>rfl)) (zaa (zmb (zeqb K) (pv 2) (pv 0) (λ_ _=>rfl)) zba)))))) (λ_ _ _ _=>by exact (pv 0))) zba)) zga (zza _))))))
   zya)
  (zca (zvb (zif (zma zbc rfl T.zab yic (zaa (pv 1) (zaa (zpe (v:=.ty "int") rfl T.zdbb yhp rfl) zba))))
   (zea (zwa (zwu (zma zbc rfl T.zab yic (zaa (pv 0) (zaa (zpe (v:=.ty "int") rfl T.zdbb yhp rfl) zba))) (zsx (zkh zzd (pv 0) (pv 1) (zza _))))))
   zya)
  (zca (zvb (zta zklb (pv 1) zyk (zza _))
   (zea (zwa (zkh zklb (pv 0) zyk (zza _))))
   zya)
  (zea (zwa (zwu (zma zbc rfl T.zab yic (zaa (pv 0) (zaa (zpe (v:=.ty "str") rfl T.zvo ydi rfl) zba))) (zsx (zkh zzd (pv 0) (pv 1) (zza _)))))))))),?_⟩
 cases al with
 | str u =>
  refine⟨_,rfl,_,_,_,false,rfl,TyOf.str _,.inl ⟨"bool",rfl,zpcc _⟩,_,rfl,iteF ⟨_,rfl,_,_,_,false,rfl,TyOf.str _,.inl ⟨"bool",rfl,zpcc _⟩,_,rfl,iteF ?_⟩⟩;refine⟨_,rfl,_,_,_,false,rfl,TyOf.str _,.inl ⟨"tuple",rfl,zmec _⟩,_,rfl,iteF ⟨_,rfl,_,_,_,false,rfl,TyOf.str _,.inl ⟨"list",rfl,znec _⟩,_,rfl,iteF ?_⟩⟩;refine⟨_,rfl,_,_,_,false,rfl,TyOf.str _,.inl ⟨"int",rfl,zoec _⟩,_,rfl,iteF ?_⟩;refine⟨_,rfl,rfl,_,rfl,iteF ?_⟩;exact⟨_,rfl,_,_,_,true,rfl,TyOf.str _,.inl ⟨"str",rfl,rfl⟩,_,rfl,iteT ⟨_,rfl,_,rfl,rfl,by rw[decide_eq_true rfl];exact q H (Same.refl _)⟩⟩
 | bl u =>
  refine⟨_,rfl,_,_,_,true,rfl,TyOf.bl _,.inl ⟨"bool",rfl,rfl⟩,_,rfl,iteT (iteT ?_)⟩;exact⟨_,rfl,_,_,_,true,rfl,TyOf.bl _,.inl ⟨"bool",rfl,rfl⟩,_,rfl,iteT ⟨_,rfl,_,_,_,true,rfl,TyOf.bl _,.inl ⟨"bool",rfl,rfl⟩,_,rfl,iteT ⟨_,rfl,_,rfl,rfl,by rw[decide_eq_true rfl];exact q H (Same.refl _)⟩⟩⟩
 | int u =>
  refine⟨_,rfl,_,_,_,false,rfl,TyOf.int _,.inl ⟨"bool",rfl,zrcc _⟩,_,rfl,iteF ⟨_,rfl,_,_,_,false,rfl,TyOf.int _,.inl ⟨"bool",rfl,zrcc _⟩,_,rfl,iteF ?_⟩⟩;refine⟨_,rfl,_,_,_,false,rfl,TyOf.int _,.inl ⟨"tuple",rfl,zqec _⟩,_,rfl,iteF ⟨_,rfl,_,_,_,false,rfl,TyOf.int _,.inl ⟨"list",rfl,zrec _⟩,_,rfl,iteF ?_⟩⟩;refine⟨_,rfl,_,_,_,true,rfl,TyOf.int _,.inl ⟨"int",rfl,rfl⟩,_,rfl,iteT ?_⟩;exact⟨_,rfl,_,_,_,true,rfl,TyOf.int _,.inl ⟨"int",rfl,rfl⟩,_,rfl,iteT ⟨_,rfl,_,rfl,rfl,by rw[decide_eq_true rfl];exact q H (Same.refl _)⟩⟩
 | @tup m a b xs ys ea eb yl als =>
  refine⟨_,rfl,_,_,_,false,rfl,TyOf.tup eb,.inl ⟨"bool",rfl,zocc _⟩,_,rfl,iteF ⟨_,rfl,_,_,_,false,rfl,TyOf.tup ea,.inl ⟨"bool",rfl,zocc _⟩,_,rfl,iteF ?_⟩⟩;refine⟨_,rfl,_,_,_,true,rfl,TyOf.tup eb,.inl ⟨"tuple",rfl,rfl⟩,_,rfl,iteT (iteT ?_)⟩;refine⟨_,rfl,sz2,λt1 ht1=>?_⟩;refine laid ht1 λH1 S1 e1=>?_;have ea1:=S1 _ _ ea;have eb1:=S1 _ _ eb;refine⟨_,t1,_,["list","tuple"],true,rfl,TyB.tup (SqT.of ea1),SqT.of e1,ka_t _,_,rfl,iteF ?_⟩;refine⟨_,rfl,_,_,_,false,rfl,TyOf.tup ea1,.inl ⟨"list",rfl,zncc _⟩,_,rfl,_,_,_,false,rfl,TyOf.tup eb1,.inl ⟨"list",rfl,zncc _⟩,rfl,_,rfl,iteF ?_⟩;refine⟨_,rfl,a,_,rfl,.inr (SqT.of ea1),_,rfl,b,_,rfl,.inr (SqT.of eb1),rfl,_,rfl,?_⟩;rw[als.len,decide_eq_true rfl];refine iteF ⟨_,rfl,b,_,rfl,.inr (SqT.of eb1),_,rfl,by omega,by omega,?_⟩;rw[yac];refine zdi (λj zs Hx=>Same H1 Hx∧zs=[]) ⟨Same.refl _,rfl⟩ ?_ ?_ ?_
  ·rintro j zs Hx ⟨_,rfl⟩;exact yrb _
  ·rintro j zs Hx hj ⟨Sx,rfl⟩;obtain⟨x',y',ex,ey,al'⟩:=als.get hj;have ax:atI xs (0+(j:Int))=some x':=(by rw[yhg];exact zna ex);have ay:atI ys (0+(j:Int))=some y':=(by rw[yhg];exact zna ey);refine⟨rfl,_,rfl,_,rfl,.inr (.inl ⟨a,_,_,_,rfl,rfl,SqT.of (Sx _ _ ea1),ax,?_⟩)⟩;refine⟨_,rfl,_,rfl,.inr (.inl ⟨b,_,_,_,rfl,rfl,SqT.of (Sx _ _ eb1),ay,?_⟩)⟩;refine⟨m,x',y',rfl,by omega,(al'.same S1).same Sx,λHy Sy=>⟨_,rfl,iteF ⟨Sx.trans Sy,rfl⟩⟩⟩
  ·rintro zs Hx ⟨Sx,rfl⟩ l hl;refine laid hl λH3 S3 e3=>?_;refine⟨l,_,rfl,.inl (SqL.of e3),rfl,?_⟩;have zq:=q H3 (S1.trans (Sx.trans S3));rw[← decide_eq_true (p:=V.int ((([]:List V).length:Nat):Int)=V.int 0) rfl] at zq;exact zq
 | @lst m a b xs ys ea eb yl als =>
  refine⟨_,rfl,_,_,_,false,rfl,TyOf.lst eb,.inl ⟨"bool",rfl,zqcc _⟩,_,rfl,iteF ⟨_,rfl,_,_,_,false,rfl,TyOf.lst ea,.inl ⟨"bool",rfl,zqcc _⟩,_,rfl,iteF ?_⟩⟩;refine⟨_,rfl,_,_,_,false,rfl,TyOf.lst eb,.inl ⟨"tuple",rfl,zpec _⟩,_,rfl,iteF ⟨_,rfl,_,_,_,true,rfl,TyOf.lst eb,.inl ⟨"list",rfl,rfl⟩,_,rfl,iteT ?_⟩⟩;refine⟨_,rfl,sz2,λt1 ht1=>?_⟩;refine laid ht1 λH1 S1 e1=>?_;have ea1:=S1 _ _ ea;have eb1:=S1 _ _ eb;refine⟨_,t1,_,["list","tuple"],true,rfl,TyB.lst (SqL.of ea1),SqT.of e1,ka_l _,_,rfl,iteF ?_⟩;refine⟨_,rfl,_,_,_,true,rfl,TyOf.lst ea1,.inl ⟨"list",rfl,rfl⟩,_,rfl,_,_,_,true,rfl,TyOf.lst eb1,.inl ⟨"list",rfl,rfl⟩,rfl,_,rfl,iteF ?_⟩;refine⟨_,rfl,a,_,rfl,.inl (SqL.of ea1),_,rfl,b,_,rfl,.inl (SqL.of eb1),rfl,_,rfl,?_⟩;rw[als.len,decide_eq_true rfl];refine iteF ⟨_,rfl,b,_,rfl,.inl (SqL.of eb1),_,rfl,by omega,by omega,?_⟩;rw[yac];refine zdi (λj zs Hx=>Same H1 Hx∧zs=[]) ⟨Same.refl _,rfl⟩ ?_ ?_ ?_
  ·rintro j zs Hx ⟨_,rfl⟩;exact yrb _
  ·rintro j zs Hx hj ⟨Sx,rfl⟩;obtain⟨x',y',ex,ey,al'⟩:=als.get hj;have ax:atI xs (0+(j:Int))=some x':=(by rw[yhg];exact zna ex);have ay:atI ys (0+(j:Int))=some y':=(by rw[yhg];exact zna ey);refine⟨rfl,_,rfl,_,rfl,.inl ⟨a,_,_,_,rfl,rfl,SqL.of (Sx _ _ ea1),ax,?_⟩⟩;refine⟨_,rfl,_,rfl,.inl ⟨b,_,_,_,rfl,rfl,SqL.of (Sx _ _ eb1),ay,?_⟩⟩;refine⟨m,x',y',rfl,by omega,(al'.same S1).same Sx,λHy Sy=>⟨_,rfl,iteF ⟨Sx.trans Sy,rfl⟩⟩⟩
  ·rintro zs Hx ⟨Sx,rfl⟩ l hl;refine laid hl λH3 S3 e3=>?_;refine⟨l,_,rfl,.inl (SqL.of e3),rfl,?_⟩;have zq:=q H3 (S1.trans (Sx.trans S3));rw[← decide_eq_true (p:=V.int ((([]:List V).length:Nat):Int)=V.int 0) rfl] at zq;exact zq
theorem zsnb (T:Tx K mg):FnOk P w K mg base CX0 2 T.zpb.f T.zpb.d zah (zkn 0):=by
 have no:∀vs H Q E,¬ zkn 0 vs H Q E:=λvs H Q E h=>by
  obtain⟨m,x,y,_,hd,_⟩:=h;omega
 exact⟨λvs H Q E h=>absurd h (no vs H Q E),λA outer s H args us vs Q E _ _ _ _ h=>absurd h (no vs H Q E)⟩
theorem zgz (T:Tx K mg):∀n:Nat,FnOk P w K mg base CX0 (n+2) T.zpb.f T.zpb.d zah (zkn n)
 | 0=>zsnb T
 | n+1=>zrnb T (zgz T n)
theorem zgtb (A B:List Int)(p:Int):∀i,i≤B.length->nums (A++B) p (A.length+i)=nums A p A.length++(nums B p i).map λz=>(A.length:Int)+z:=by
 intro i
 induction i with
 | zero =>
  intro _;have e:∀k,k≤A.length->nums (A++B) p k=nums A p k:=by
   intro k
   induction k with
   | zero=>intro _;rfl
   | succ k ih =>
    intro h;rw[zik,zik,ih (by omega),yrc (by omega)]
  rw[Nat.add_zero,e _ (yja _)];exact (yfc _).symm
 | succ i ih =>
  intro h;rw[← Nat.add_assoc,zik,ih (by omega),zik,yva,← yuc,yzb (by omega),yxi]
  congr 1
  by_cases c:B[i]?=some p
  ·rw[if_pos c,if_pos c,ygb,ype,Int.natCast_add]
  ·rw[if_neg c,if_neg c];rfl
theorem zetb (x p:Int)(n:Nat):∀i,i≤n->nums (ynb n x) p i=if x=p then (ypc i).map (λk:Nat=>(k:Int)) else []:=by
 intro i
 induction i with
 | zero=>intro _;split<;>rfl
 | succ i ih =>
  intro h;rw[zik,ih (by omega),yti,if_pos (show i<n by omega)]
  by_cases c:x=p
  ·rw[if_pos c,if_pos c,if_pos (by rw[c]),ysf,yva];rfl
  ·rw[if_neg c,if_neg c,if_neg (λz=>c (yub z))];rfl
def seg (ls:List Nat)(p:Nat):List Int:=(ypc (ls.getD p 0)).map λk:Nat=>((own ls p).length:Int)+(k:Int)
theorem zftb (ls:List Nat)(p:Nat):∀m,nums (own ls m) (p:Int) (own ls m).length=if p<m then seg ls p else []:=by
 intro m
 induction m with
 | zero=>rw[if_neg (yvi _)];rfl
 | succ m ih =>
  rw[zvr,yha,zgtb _ _ _ _ (yja _),ih,yyb,zetb _ _ _ _ (yja _)]
  by_cases c:(m:Int)=(p:Int)
  ·have e:m=p:=by omega
   subst e;rw[if_neg (yqc _),if_pos rfl,if_pos (yhe _),yud];rfl
  ·rw[if_neg c]
   by_cases d:p<m
   ·rw[if_pos d,if_pos (by omega)];exact yfc _
   ·rw[if_neg d,if_neg (by omega)];rfl
theorem zvbb (dss:List (List Crd)):(own (lens dss) dss.length).length=dss.flatten.length:=by
 have z:∀i,i≤(lens dss).length->(own (lens dss) i).length=((lens dss).take i).sum:=by
  intro i
  induction i with
  | zero=>intro _;rfl
  | succ i ih =>
   intro h;have hi:i<(lens dss).length:=h;rw[zvr,yha,ih (by omega),yyb,yob,ycc,yqa hi,yxc,ywi];simp
 have e:(lens dss).length=dss.length:=yaa _;rw[← e,z _ (yja _),yya (yja _),List.length_flatten];rfl
theorem zsac {ls:List Nat}{n p:Nat}(h:p<n):nums (own ls n) (p:Int) (own ls n).length=seg ls p:=by rw[zftb,if_pos h]
def LdT (H:Hp)(dl:Addr)(dss:List (List Crd)):Prop:=∃ds:List V,H dl=some (.lst ds)∧All2 (DkT H λ_=>True) ds dss
theorem LdT.same {H H':Hp}(s:Same H H'){dl:Addr}{dss:List (List Crd)}(h:LdT H dl dss):LdT H' dl dss:=by
 obtain⟨ds,e,al⟩:=h;exact⟨ds,s _ _ e,al.imp λz=>z.same s⟩
theorem LdT.sum {H:Hp}{dl:Addr}{dss:List (List Crd)}(h:LdT H dl dss):Ex2 λ(bs:List Addr) (yss:List (List V))=>H dl=some (.lst (bs.map V.ref))∧bs.length=yss.length∧bs.length=dss.length∧(∀(i:Nat) b ys,bs[i]?=some b->yss[i]?=some ys->H b=some (.lst ys))∧All2 (CT H λ_=>True) yss.flatten dss.flatten:=by
 obtain⟨ds,e,al⟩:=h
 suffices z:Ex2 λ(bs:List Addr) (yss:List (List V))=>ds=bs.map V.ref∧bs.length=yss.length∧bs.length=dss.length∧(∀(i:Nat) b ys,bs[i]?=some b->yss[i]?=some ys->H b=some (.lst ys))∧All2 (CT H λ_=>True) yss.flatten dss.flatten by
  obtain⟨bs,yss,rfl,r⟩:=z;exact⟨bs,yss,e,r⟩
 clear e
 induction al with
 | nil=>exact⟨[],[],rfl,rfl,rfl,(λi b ys h=>by rw[yuh] at h;cases h),.nil⟩
 | cons h _ ih =>
  obtain⟨d,vs,rfl,e1,a1,_⟩:=h;obtain⟨bs,yss,rfl,l1,l2,g,af⟩:=ih;refine⟨d::bs,vs::yss,rfl,by rw[yga,yga,l1],by rw[yga,yga,l2],λi b ys hb hy=>?_,All2.app a1 af⟩;cases i with
  | zero =>
   cases hb;cases hy;exact e1
  | succ i=>exact g i b ys hb hy
def sumW (xs:List V)(H:Hp)(Q:VK):Prop:=(Ex4 λa st (bs:List Addr) (yss:List (List V))=>xs=[.ref a,.ref st]∧H a=some (.lst (bs.map V.ref))∧H st=some (.lst [])∧bs.length=yss.length∧(∀(i:Nat) b ys,bs[i]?=some b->yss[i]?=some ys->H b=some (.lst ys))∧bs≠[]∧yss.flatten.length≤yxa∧∀p,H p=none->Q (.ref p) (upd H p (.lst yss.flatten)))∨(∃a,∃st:Addr,xs=[.ref a,.ref st]∧H a=some (.lst [])∧H st=some (.lst [])∧Q (.ref st) H)
theorem zxkb {a st:Addr}{bs:List Addr}{yss:List (List V)}{H:Hp}{Q:VK}(ea:H a=some (.lst (bs.map V.ref)))(es:H st=some (.lst []))(l:bs.length=yss.length)(g:∀(i:Nat) b ys,bs[i]?=some b->yss[i]?=some ys->H b=some (.lst ys))(z:yss.flatten.length≤1000)(q:∀p H',Same H H'->H' p=some (.lst yss.flatten)->Q (.ref p) H'):sumW [.ref a,.ref st] H Q:=by
 by_cases e:bs=[]
 ·subst e;have y:yss=[]:=ydf.mp l.symm;subst y;exact .inr ⟨a,st,rfl,ea,es,q st H (Same.refl _) es⟩
 ·exact .inl ⟨a,st,bs,yss,rfl,ea,es,l,g,e,small z,λp hp=>laid hp λH2 S2 e2=>q p H2 S2 e2⟩
theorem zrs {X:Cx}(hc:X.calm=true):zqh X (.builtin "sum") sumW:=zezb (zxz hc) (zfgb hc)
def zaec (_:Unit):Sp:=λvs H Q _=>Ex2 λdl (dss:List (List Crd))=>vs=[.ref dl]∧LdT H dl dss∧2≤dss.length∧dss.length≤4∧dss.flatten.length≤16∧∀l ol tv H',Same H H'->H' l=some (.lst [.ref ol,tv])->H' ol=some (.lst (iM (own (lens dss) dss.length)))->TabT H' tv (tabF dss)->Q (.ref l) H'
theorem zbvb {a:Addr}{xs ys:List V}{lo hi:Option Int}{H:Hp}{Q:VK}(e:H a=some (.tup xs))(c:cutV xs lo hi=ys)(q:∀b H',Same H H'->H' b=some (.tup ys)->Q (.ref b) H'):rSlA K (.ref a) lo hi H Q:=by
 refine⟨a,xs,rfl,SqT.of e,λwh=>q a H (Same.refl _) ?_,λ_ p hp=>laid hp λH2 S2 e2=>q p H2 S2 (by rw[e2,c])⟩;rw[e,← c,zvib wh]
theorem zgib (T:Tx K mg):FnOk P w K mg base CX0 3 T.zxh.f T.zxh.d zrt (zaec ()):=by
 refine T.zxh.ok zvd ?_;rintro f c A o s H vs Q E hr ⟨dl,dss,rfl,LD,d2,d4,f16,q⟩ X;refine⟨_,  (zca (zqa (i:=1) zvd.nd rfl (.inr rfl) (zob zba))
  (zca (zqa (i:=2) zvd.nd rfl (.inl rfl) (zob zba))
  (zca (zqa (i:=3) zvd.nd rfl (.inl rfl) (zob zba))
  (zca (zur yqf rfl (zuf rfl T.zuh (zaa (zma zra rfl T.zxd ykb (zaa (pv 0) zba)) zba)) (zfb (i:=4) zvd.nd rfl (.inr rfl))
   (zca (zqa (i:=5) zvd.nd rfl (.inl rfl) (zlb zdc rfl T.zde yme (zaa (zxc (own:=["_law_k"]) (cap:=["_law_owners"]) rfl (zeb.chk rfl rfl) (.cons (j:=1) rfl (.inl rfl) (.inl rfl) .nil) (zuf rfl T.zuh (zaa (zma zra rfl T.zxd ykb (zaa (zmb zrb (pv 0) (pv 4) (λ_ _=>rfl)) zba)) zba)) (λ_ _ _ _=>(zfb (i:=0) (show ync (["_law_k","_law_owners"]:List Str) by decide +kernel) rfl (.inl rfl))) (λ_ _ _ _=>zuc) (λ_ _ _ _=>by exact (zub zlh (zma (zcdb K) rfl T.zxd ykb (zaa (pv 1) zba)) (pv 0)))) zba)))
   (zca (zqa (i:=1) zvd.nd rfl (.inr rfl) (zub zbn (pv 1) (zxc (own:=["_law_one"]) (cap:=["_law_player"]) rfl (zeb.chk rfl rfl) (.cons (j:=4) rfl (.inl rfl) (.inl rfl) .nil) (zveb (pv 5)) (λ_ _ _ _=>(zfb (i:=0) (show ync (["_law_one","_law_player"]:List Str) by decide +kernel) rfl (.inl rfl))) (λ_ _ _ _=>zuc) (λ_ _ _ _=>by exact (pv 1)))))
   (zca (zvc (zjf ypb ydc yec zae (pv 3) (zaa (zni zwhb (pv 5) zpl (zol zga)) zba)))
   (zea (zvc (zjf ypb ydc yec zae (pv 2) (zaa (zni zwhb (pv 5) (zol zga) zpl) zba))))))))
  (zca (zqa (i:=6) zvd.nd rfl (.inl rfl) (zma zra rfl T.zxd ykb (zaa (pv 0) zba)))
  (zca (zqa (i:=7) zvd.nd rfl (.inl rfl) (zlb zdc rfl T.zde yme (zaa (zxc (own:=["_law_card_here"]) (cap:=[]) rfl (zeb.chk rfl rfl) .nil (zyd (zma (zrs rfl) rfl T.ztdb ywq (zaa (pv 0) (zaa (zob zba) zba)))) (λ_ _ _ _=>(zfb (i:=0) (show ync (["_law_card_here"]:List Str) by decide +kernel) rfl (.inl rfl))) (λ_ _ _ _=>zuc) (λ_ _ _ _=>by exact (zmb (zfw K) (pv 0) zga (λ_ _=>rfl)))) zba)))
  (zca (zqa (i:=8) zvd.nd rfl (.inl rfl) (zqb (zaa (zub zwr (zqb (zaa zga zba)) (pv 6)) (zaa (zub zwr (zqb (zaa zga zba)) (pv 6)) (zaa (zub zwr (zqb (zaa zrv zba)) (pv 6)) (zaa (zlb zdc rfl T.zde yme (zaa (pv 2) zba)) (zaa (zlb zdc rfl T.zde yme (zaa (pv 3) zba)) (zaa (zqb zba) (zaa (zqb zba) zba)))))))))
  (zea (zwa (zob (zaa (pv 1) (zaa (zub zspb (pv 8) (zqb (zaa (pv 7) (zaa (zub zwr (zqb (zaa zga zba)) (zma zra rfl T.zxd ykb (zaa (pv 1) zba))) zba)))) zba)))))))))))),?_⟩
 obtain⟨ds,ed,al⟩:=id LD;have dsl:=al.len;refine⟨sz0,λoa hoa=>?_⟩;refine laid hoa λH1 S1 e1=>?_;refine⟨sz0,λla hla=>?_⟩;have hla0:=none_of S1 hla;refine laid hla λH2 S2 e2=>?_;refine⟨sz0,λha hha=>?_⟩;have hha0:=none_of (S1.trans S2) hha;have nlh:la≠ha:=zpa e2 hha;have nol:oa≠la:=zpa e1 hla;have noh:oa≠ha:=zpa (S2 _ _ e1) hha;refine laid hha λH3 S3 e3=>?_;have S03:=S1.trans (S2.trans S3);refine⟨_,rfl,dl,_,rfl,.inl (SqL.of (S03 _ _ ed)),_,rfl,by omega,by omega,?_⟩;rw[yac];refine zms (lo:=0) (n:=ds.length) (λi σ Hx=>Ex5 λoa lv hv o4 o5=>σ=[some (.ref dl),some (.ref oa),some (.ref la),some (.ref ha),o4,o5,none,none,none]∧Same H Hx∧Hx oa=some (.lst (iM (own (lens dss) i)))∧oa≠la∧oa≠ha∧Hx la=some (.lst lv)∧Hx ha=some (.lst hv)∧All2 (T1 Hx) lv ((ypc i).map λp:Nat=>iM ((seg (lens dss) p).drop 3))∧All2 (T1 Hx) hv ((ypc i).map λp:Nat=>iM ((seg (lens dss) p).take 3))∧(own (lens dss) i).length≤7*i∧i≤ds.length) ⟨oa,[],[],_,_,rfl,S03,(S2.trans S3) _ _ e1,nol,noh,S3 _ _ e2,e3,.nil,.nil,yrb _,yrb _⟩ ?_ ?_
 ·rintro i σ Hx hi ⟨ob,lv,hv,o4,o5,rfl,S,eo,n1,n2,el,eh,all,alh,o7,_⟩;obtain⟨cs,hcs,d,vs,ev,edk,alc,c7⟩:=al.get (yqa hi);have ai:atI ds (0+(i:Int))=some (.ref d):=by rw[yhg];exact zna (by rw[yqa hi,ev])
  have vl:=alc.len;have gi:(lens dss).getD i 0=vs.length:=by
   rw[ycc];unfold lens;rw[yhb,hcs,vl];rfl
  refine⟨_,rfl,_,rfl,dl,_,_,_,rfl,rfl,SqL.of (S _ _ ed),ai,d,_,rfl,.inl (SqL.of (S _ _ edk)),_,rfl,by omega,by omega,?_⟩;rw[yac];refine zdi (λj ys Hy=>Hy=Hx∧ys=iM ((ypc j).map λk:Nat=>((own (lens dss) i).length:Int)+(k:Int))∧j≤vs.length) ⟨rfl,rfl,yrb _⟩ ?_ ?_ ?_
  ·rintro j ys Hy ⟨_,rfl,hj⟩;unfold iM;rw[yaa,yaa,ylc];exact small (by omega)
  ·rintro j ys Hy hj ⟨rfl,rfl,_⟩;refine⟨rfl,_,rfl,ob,_,rfl,.inl (SqL.of eo),_,rfl,_,_,rfl,rfl,rfl,?_,hj⟩;unfold iM;rw[ysf,yva,yva,yaa,yhg];rfl
  rintro ys Hy ⟨rfl,rfl,_⟩ l5 hl5;have es:(ypc vs.length).map (λk:Nat=>((own (lens dss) i).length:Int)+(k:Int))=seg (lens dss) i:=by
   unfold seg;rw[gi]
  rw[es];have sl:(seg (lens dss) i).length=vs.length:=by rw[← es,yaa,ylc]
  refine laid hl5 λH5 S5 e5=>?_;refine⟨l5,_,rfl,.inl ⟨SqL.of e5,λtm htm=>?_⟩⟩;refine laid htm λH6 S6 e6=>?_;have S56:=S5.trans S6;have eo6:=S56 _ _ eo;refine⟨_,rfl,_,rfl,tm,rfl,⟨_,SqT.of e6⟩,?_⟩;refine zjw (xs:=iM (seg (lens dss) i)) (λj ys Hy=>Hy=H6∧ys=ynb j (V.int (i:Int))∧j≤7) (λj ys Hy z=>by rw[z.1];exact SqT.of e6) ⟨rfl,rfl,by decide⟩ ?_ ?_ ?_
  ·rintro j ys Hy ⟨_,rfl,hj⟩;rw[yyb];exact small (by omega)
  ·rintro j u ys Hy hu ⟨rfl,rfl,_⟩;have hj:=(yma.mp hu).1;unfold iM at hj;rw[yaa,sl] at hj;refine⟨rfl,_,rfl,rfl,?_,by omega⟩;rw[yio,yhg]
  rintro zs Hy ⟨rfl,rfl,_⟩ l7 hl7;rw[show (iM (seg (lens dss) i)).length=vs.length from (yaa _).trans sl];refine laid hl7 λH7 S7 e7=>?_;have S67:=S56.trans S7;refine⟨ob,l7,_,_,rfl,rfl,S67 _ _ eo,e7,?_,λoc hoc=>?_⟩
  ·unfold iM;rw[yaa,yyb];exact small (by omega)
  have n3:oc≠la:=yvc (zpa (S67 _ _ el) hoc);have n4:oc≠ha:=yvc (zpa (S67 _ _ eh) hoc);refine laid hoc λH8 S8 e8=>?_;have S68:=S67.trans S8;have e68:H8 tm=some (.tup (iM (seg (lens dss) i))):=(S7.trans S8) _ _ e6;have eh8:=S68 _ _ eh;refine⟨_,rfl,.inl ⟨rfl,_,SqL.of eh8⟩,_,rfl,_,rfl,zbvb e68 (zxib _) λb9 H9 S9 e9=>?_⟩;have hvl:=alh.len;rw[yaa,ylc] at hvl;have eh9:=S9 _ _ eh8;refine⟨ha,_,_,rfl,rfl,eh9,small (by omega),?_⟩;have S69:=S68.trans S9;have K10:Kp H9 (upd H9 ha (.lst (hv++[.ref b9]))):=Kp.put eh9;have S10:Same H (upd H9 ha (.lst (hv++[.ref b9]))):=zwf (S.trans S69) hha0 _;have eh10:upd H9 ha (.lst (hv++[.ref b9])) ha=some (.lst (hv++[.ref b9])):=zfa;have el10:upd H9 ha (.lst (hv++[.ref b9])) la=some (.lst lv):=by rw[zxa nlh];exact S69 _ _ el
  have eo10:upd H9 ha (.lst (hv++[.ref b9])) oc=some (.lst (iM (own (lens dss) i)++ynb vs.length (V.int (i:Int)))):=by rw[zxa n4];exact S9 _ _ e8
  generalize upd H9 ha (.lst (hv++[.ref b9]))=H10 at *;have e610:H10 tm=some (.tup (iM (seg (lens dss) i))):=K10.t (S9 _ _ e68);refine⟨_,rfl,.inl ⟨rfl,_,SqL.of el10⟩,_,rfl,_,rfl,?_⟩;dsimp only[zrob];refine zbvb e610 (zwib _) λb11 H11 S11 e11=>?_;have lvl:=all.len;rw[yaa,ylc] at lvl;have el11:=S11 _ _ el10;refine⟨la,_,_,rfl,rfl,el11,small (by omega),?_⟩;have K12:Kp H11 (upd H11 la (.lst (lv++[.ref b11]))):=Kp.put el11;have Ka:Kp _ (upd H11 la (.lst (lv++[.ref b11]))):=(Kp.same S69).trans (K10.trans ((Kp.same S11).trans K12));refine⟨oc,lv++[.ref b11],hv++[.ref b9],_,_,rfl,zwf (S10.trans S11) hla0 _,?_,n3,n4,zfa,by rw[zxa (yvc nlh)];exact S11 _ _ eh10,?_,?_,?_,hi⟩
  ·rw[zxa n3,S11 _ _ eo10,zvr,gi];unfold iM;rw[yva,yrd]
  ·rw[ysf,yva];exact All2.snoc ⟨b11,rfl,K12.t e11⟩ (all.imp λz=>z.kp Ka)
  ·rw[ysf,yva];exact All2.snoc ⟨b9,rfl,K12.t (S11 _ _ (K10.t e9))⟩ (alh.imp λz=>z.kp Ka)
  ·rw[zvr,yha,gi,yyb];omega
 ·rintro σ Hx ⟨ob,lv,hv,o4,o5,rfl,S,eo,n1,n2,el,eh,all,alh,o7,_⟩;have dl4:ds.length=dss.length:=dsl;rw[dl4] at eo all alh o7;have LDx:=LD.same S;refine⟨_,rfl,dl,_,rfl,.inl (SqL.of (S _ _ ed)),?_⟩;obtain⟨bs,yss,eb,bl1,bl2,bg,aly⟩:=LDx.sum;have yl:=aly.len;refine⟨_,rfl,sz0,λst hst=>?_⟩;refine laid hst λH4 S4 e4=>?_;dsimp only[tNil];refine zxkb (S4 _ _ eb) e4 bl1 (λi b ys hb hy=>S4 _ _ (bg i b ys hb hy)) (by omega) λsm H5 S5 e5=>?_;have S45:=S4.trans S5;have aly5:All2 (CT H5 λ_=>True) yss.flatten dss.flatten:=aly.imp λz=>z.same S45;refine⟨sm,rfl,⟨_,SqL.of e5⟩,?_⟩;refine zbd (xs:=yss.flatten) (λi ys Hy=>Hy=H5∧All2 (T1 H5) ys ((dss.flatten.take i).map λc=>sM c.marks)) (λi ys Hy z=>by rw[z.1];exact SqL.of e5) ⟨rfl,.nil⟩ ?_ ?_ ?_
  ·rintro i ys Hy ⟨_,a1⟩;have:=a1.len;rw[yaa,yza] at this;exact small (by omega)
  ·rintro i v ys Hy hv2 ⟨rfl,a1⟩;obtain⟨c,hc,l,m,rl,us,rfl,ec,em,_⟩:=aly5.get hv2;refine⟨rfl,_,rfl,l,_,_,_,rfl,rfl,SqL.of ec,zna (j:=1) rfl,rfl,?_⟩;rw[yob,hc,yxc,yva];exact All2.snoc ⟨m,rfl,em⟩ a1
  rintro ms H6 ⟨rfl,alm⟩ l6 hl6;rw[yl,yya (yja _)] at alm;refine laid hl6 λH7 S7 e7=>?_;refine⟨l6,_,rfl,.inl ⟨SqL.of e7,λt7 ht7=>?_⟩⟩;refine laid ht7 λH8 S8 e8=>?_;have S58:=S7.trans S8;have Sx8:=S45.trans S58;refine⟨sz1,λa1 h1=>?_⟩;refine laid h1 λH9 S9 e9=>?_;refine⟨_,rfl,zrr (n:=ds.length) e9 (by omega) λp0 H10 S10 e10=>?_⟩;refine⟨sz1,λa2 h2=>?_⟩;refine laid h2 λH11 S11 e11=>?_;refine⟨_,rfl,zrr (n:=ds.length) e11 (by omega) λp1 H12 S12 e12=>?_⟩;refine⟨sz1,λa3 h3=>?_⟩;refine laid h3 λH13 S13 e13=>?_;refine⟨_,rfl,zrr (n:=ds.length) e13 (by omega) λp2 H14 S14 e14=>?_⟩;have S814:=S9.trans (S10.trans (S11.trans (S12.trans (S13.trans S14))));have Sx14:=Sx8.trans S814;refine⟨_,rfl,la,_,rfl,.inl ⟨SqL.of (Sx14 _ _ el),λt3 ht3=>?_⟩⟩;refine laid ht3 λH15 S15 e15=>?_;refine⟨_,rfl,ha,_,rfl,.inl ⟨SqL.of ((Sx14.trans S15) _ _ eh),λt4 ht4=>?_⟩⟩;refine laid ht4 λH16 S16 e16=>?_;refine⟨sz0,λt5 ht5=>?_⟩;refine laid ht5 λH17 S17 e17=>?_;refine⟨sz0,λt6 ht6=>?_⟩;refine laid ht6 λH18 S18 e18=>?_;refine⟨sz7,λhd hhd=>?_⟩;refine laid hhd λH19 S19 e19=>?_;have S1419:=S15.trans (S16.trans (S17.trans (S18.trans S19)));have Sx19:=Sx14.trans S1419;refine⟨_,rfl,_,rfl,_,rfl,sz1,λa4 h4=>?_⟩;refine laid h4 λH20 S20 e20=>?_;have eo20:=(Sx19.trans S20) _ _ eo;refine⟨_,rfl,ob,_,rfl,.inl (SqL.of eo20),zrr e20 (by unfold iM;rw[yaa];omega) λp8 H21 S21 e21=>?_⟩;refine⟨sz2,λt9 ht9=>?_⟩;refine laid ht9 λH22 S22 e22=>?_;have S1922:=S20.trans (S21.trans S22);refine⟨hd,t9,_,_,rfl,rfl,SqT.of (S1922 _ _ e19),SqT.of e22,yib _ _,(by show 7+2≤yxa;decide),(λz=>absurd z (yib _ _)),λ_ tb htb=>?_⟩;refine laid htb λH23 S23 e23=>?_;refine⟨sz2,λl hl=>?_⟩;refine laid hl λH24 S24 e24=>?_;have S2224:=S23.trans S24;have S1924:=S1922.trans S2224;have Sx24:=Sx19.trans S1924;have S1424:=S1419.trans S1924;rw[dl4] at e10 e12 e14;rw[show (iM (own (lens dss) dss.length)).length=(cmsF dss).length by unfold iM cmsF;rw[yaa,yaa,zvbb]] at e21;refine q l ob (.ref tb) H24 (S.trans Sx24) e24 (Sx24 _ _ eo) ⟨tb,.ref p0,.ref p1,.ref p2,.ref t3,.ref t4,.ref t5,.ref t6,.ref t7,.ref p8,rfl,S24 _ _ e23,?_⟩;have pm:∀f:List Int->List Int,((ypc dss.length).map λp:Nat=>f (nums (own (lens dss) dss.length) (p:Int) (own (lens dss) dss.length).length)).map iM=(ypc dss.length).map λp:Nat=>iM (f (seg (lens dss) p)):=λf=>by
   rw[yud];refine List.map_congr_left λp hp=>?_;show iM (f (nums _ _ _))=_
   rw[zsac (yjo.mp hp)]
  exact {
   p0:=⟨p0,rfl,by rw[(S11.trans (S12.trans (S13.trans (S14.trans S1424)))) _ _ e10];unfold iM tabF tab0;rw[yrd]⟩
   p1:=⟨p1,rfl,by rw[(S13.trans (S14.trans S1424)) _ _ e12];unfold iM tabF tab0;rw[yrd]⟩
   p2:=⟨p2,rfl,by rw[S1424 _ _ e14];unfold tabF tab0;rw[yrd]⟩
   p3:=⟨t3,lv,rfl,(S16.trans (S17.trans (S18.trans (S19.trans S1924)))) _ _ e15,by unfold tabF tab0;rw[pm (ycp 3)];exact all.imp λz=>z.kp (Kp.same Sx24)⟩
   p4:=⟨t4,hv,rfl,(S17.trans (S18.trans (S19.trans S1924))) _ _ e16,by unfold tabF tab0;rw[pm (List.take 3)];exact alh.imp λz=>z.kp (Kp.same Sx24)⟩
   p5:=⟨t5,rfl,(S18.trans (S19.trans S1924)) _ _ e17⟩
   p6:=⟨t6,rfl,(S19.trans S1924) _ _ e18⟩
   p7:=⟨t7,ms,rfl,(S814.trans S1424) _ _ e8,by unfold tabF tab0 cmsF;rw[yud];exact alm.imp λz=>z.kp (Kp.same (S58.trans (S814.trans S1424)))⟩
   p8:=⟨p8,rfl,by rw[(S22.trans S2224) _ _ e21];unfold iM tabF tab0;rw[yrd]⟩ }
def zxrb (_:Unit):Sp:=λvs H Q _=>Ex2 λdl (dss:List (List Crd))=>vs=[.ref dl]∧LdT H dl dss∧dss.length≤5∧dss.flatten.length≤35∧(∀c∈dss.flatten,c.ok)∧∀(b:Bool) H',(b=true↔okF dss)->Same H H'->Q (.bl b) H'
theorem zzfb:∀cs:List Crd,(cs.map hc).sum=((cs.map (·.rules)).flatten.filter isHd).length
 | []=>rfl
 | c::r=>by
  rw[ygb,ydd,zzfb r,ygb,ytc,yzi,yha];rfl
theorem CTs.rules {H:Hp}:∀{vs:List V} {cs:List Crd},All2 (CT H λ_=>True) vs cs->(∀c∈cs,c.ok)->Ex2 λ(bs:List Addr) (yss:List (List V))=>bs.length=vs.length∧bs.length=yss.length∧(∀(i:Nat) b v,bs[i]?=some b->vs[i]?=some v->Ex5 λl m (t:Str) (f k:Int)=>v = .ref l∧H l=some (.lst [.str t,.ref m,.int f,.ref b,.int k]))∧(∀(i:Nat) b ys,bs[i]?=some b->yss[i]?=some ys->H b=some (.lst ys))∧All2 (RF H) yss.flatten (cs.map (·.rules)).flatten∧yss.flatten.length≤3*vs.length:=by
 intro vs cs h ok
 induction h with
 | nil=>exact⟨[],[],rfl,rfl,(λi b v h=>by rw[yuh] at h;cases h),(λi b v h=>by rw[yuh] at h;cases h),.nil,yja _⟩
 | cons h _ ih =>
  obtain⟨l,m,rl,us,rfl,e1,_,e3,a1,co,_⟩:=h;obtain⟨bs,yss,l1,l2,g1,g2,af,z⟩:=ih λc hc=>ok c (yla _ hc);have few:=co.few;have ul:=a1.len;refine⟨rl::bs,us::yss,by rw[yga,yga,l1],by rw[yga,yga,l2],λi b v hb hv=>?_,λi b ys hb hy=>?_,All2.app a1 af,?_⟩
  ·cases i with
   | zero =>
    cases hb;cases hv;exact⟨l,m,_,_,_,rfl,e1⟩
   | succ i=>exact g1 i b v hb hv
  ·cases i with
   | zero =>
    cases hb;cases hy;exact e3
   | succ i=>exact g2 i b ys hb hy
  ·rw[ytc,yha,yga];omega
theorem zecb (T:Tx K mg):FnOk P w K mg base CX0 3 T.zcf.f T.zcf.d zlo (zxrb ()):=by
 refine T.zcf.ok znm ?_;rintro f c A o s H vs Q E hr ⟨dl,dss,rfl,LD,d5,f35,cok,q⟩ X;refine⟨_,  (zca (zqa (i:=1) znm.nd rfl (.inl rfl) (zma (zrs rfl) rfl T.ztdb ywq (zaa (pv 0) (zaa (zob zba) zba))))
  (zca (zox (i:=2) znm.nd rfl (.inl rfl) (own:=["_law_rule"]) (cap:=[]) rfl (zeb.chk rfl rfl) .nil (zyd (zma (zrs rfl) rfl T.ztdb ywq (zaa (zxc (own:=["_law_card_here"]) (cap:=[]) rfl (zeb.chk rfl rfl) .nil (zyd (pv 1)) (λ_ _ _ _=>(zfb (i:=0) (show ync (["_law_card_here"]:List Str) by decide +kernel) rfl (.inl rfl))) (λ_ _ _ _=>zuc) (λ_ _ _ _=>by exact (zmb (zfw K) (pv 0) zga (λ_ _=>rfl)))) (zaa (zob zba) zba)))) (λ_ _ _ _=>(zfb (i:=0) (show ync (["_law_rule"]:List Str) by decide +kernel) rfl (.inl rfl))) (λ_ _ _ _=>zct (zta zzd (zmb (zdqb K) (pv 0) zga (λ_ _=>rfl)) zja (zza _))) (λ_ _ _ _=>by exact (pv 0)))
  (zea (zwa (zwu (zilb zsz zsz zga (zma zra rfl T.zxd ykb (zaa (pv 0) zba)) zga) (zwu (zkh zsz (zma zra rfl T.zxd ykb (zaa (pv 1) zba)) zga (zza _)) (zsx (zkh zsz (zma zra rfl T.zxd ykb (zaa (pv 2) zba)) zga (zza _))))))))),?_⟩
 obtain⟨bs,yss,eb,bl1,bl2,bg,aly⟩:=LD.sum;have yl:=aly.len;refine⟨_,rfl,sz0,λst hst=>?_⟩;refine laid hst λH1 S1 e1=>?_;dsimp only[tNil];refine zxkb (S1 _ _ eb) e1 bl1 (λi b ys hb hy=>S1 _ _ (bg i b ys hb hy)) (by omega) λcl H2 S2 e2=>?_;have S02:=S1.trans S2;obtain⟨rbs,rss,rl1,rl2,rg1,rg2,arf,rz⟩:=CTs.rules (aly.imp λz=>z.same S02) cok;refine⟨_,rfl,cl,rfl,⟨_,SqL.of e2⟩,?_⟩;refine zbd (xs:=yss.flatten) (λi ys Hy=>Hy=H2∧ys=(rbs.take i).map V.ref) (λi ys Hy z=>by rw[z.1];exact SqL.of e2) ⟨rfl,rfl⟩ ?_ ?_ ?_
 ·rintro i ys Hy ⟨_,rfl⟩;rw[yaa,yza];exact small (by omega)
 ·rintro i v ys Hy hv ⟨rfl,rfl⟩;have hi:i<rbs.length:=by rw[rl1];exact (yma.mp hv).1
  obtain⟨l,m,t,f,k,rfl,el⟩:=rg1 i _ v (yqa hi) hv;refine⟨rfl,_,rfl,l,_,_,_,rfl,rfl,SqL.of el,zna (j:=3) rfl,rfl,?_⟩;rw[yob,yqa hi,yva];rfl
 rintro ys Hy ⟨rfl,rfl⟩ l3 hl3;rw[← rl1,yya (yja _)];refine laid hl3 λH3 S3 e3=>?_;refine⟨sz0,λst2 hst2=>?_⟩;refine laid hst2 λH4 S4 e4=>?_;have S34:=S3.trans S4;dsimp only[tNil];refine zxkb (S4 _ _ e3) e4 rl2 (λi b ys hb hy=>S34 _ _ (rg2 i b ys hb hy)) (by omega) λrl H5 S5 e5=>?_;have S35:=S34.trans S5;have arf5:All2 (RF H5) rss.flatten (dss.flatten.map (·.rules)).flatten:=arf.imp λz=>z.kp (Kp.same S35);have rfl1:=arf5.len;refine⟨rl,rfl,⟨_,SqL.of e5⟩,?_⟩;refine zbd (xs:=rss.flatten) (λi ys Hy=>Hy=H5∧ys.length=(((dss.flatten.map (·.rules)).flatten.take i).filter isHd).length) (λi ys Hy z=>by rw[z.1];exact SqL.of e5) ⟨rfl,rfl⟩ ?_ ?_ ?_
 ·rintro i ys Hy ⟨_,e⟩;have z:=yuj isHd ((dss.flatten.map (·.rules)).flatten.take i);rw[yza] at z;exact small (by omega)
 ·rintro i v ys Hy hv ⟨rfl,e⟩;obtain⟨r,hr2,ra,sw,xs,rfl,hra,eh⟩:=arf5.get hv;refine⟨rfl,_,rfl,ra,_,_,_,rfl,rfl,SqT.of hra,zna (j:=0) rfl,rfl,_,rfl,?_⟩;rw[eh];rw[yob,hr2,yxc,yzi,yha];cases ebb:isHd r with
  | true=>exact⟨_,rfl,rfl,by rw[yha,e,yaj ebb];rfl⟩
  | false=>exact⟨rfl,by rw[ybj (by rw[ebb];decide)];exact e⟩
 rintro hs Hy ⟨rfl,e⟩ l6 hl6;rw[rfl1,yya (yja _),← zzfb] at e;refine laid hl6 λH6 S6 e6=>?_;have S06:=S02.trans (S35.trans S6);have ebl:(bs.map V.ref).length=dss.length:=by rw[yaa];exact bl2
 have no:¬ okF dss->Q (.bl false) H6:=λz=>q false H6 ⟨(λy=>nomatch y),λy=>absurd y z⟩ S06;refine⟨_,rfl,dl,_,rfl,.inl (SqL.of (S06 _ _ eb)),_,_,rfl,rfl,_,rfl,ite2 (λc1=>?_) (λc1=>⟨_,rfl,iteF (no λz=>c1 (decide_eq_true (by have:=z.1;omega)))⟩)⟩;have c1':=of_decide_eq_true c1;refine⟨_,_,rfl,rfl,_,rfl,ite2 (λc2=>?_) (λc2=>no λz=>c2 (decide_eq_true (by have:=z.2.1;omega)))⟩;have c2':=of_decide_eq_true c2;refine⟨_,rfl,cl,_,rfl,.inl (SqL.of ((S35.trans S6) _ _ e2)),_,_,rfl,rfl,_,rfl,ite2 (λc3=>?_) (λc3=>no λz=>c3 (decide_eq_true (by have:=z.2.2.1;omega)))⟩;have c3':=of_decide_eq_true c3;refine⟨_,rfl,l6,_,rfl,.inl (SqL.of e6),_,_,rfl,rfl,?_⟩;refine q _ H6 ⟨λy=>?_,λy=>decide_eq_true (by have:=y.2.2.2;omega)⟩ S06;have y':=of_decide_eq_true y;exact⟨by omega,by omega,by omega,by omega⟩
def GdT (B D:Addr)(H:Hp)(v:V)(dss:List (List Crd)):Prop:=Ex5 λt ca oa tv cvs=>v = .ref t∧H t=some (.tup [.ref ca,.ref oa,tv])∧H ca=some (.lst cvs)∧All2 (zlj B D H) cvs dss.flatten∧H oa=some (.lst (iM (own (lens dss) dss.length)))∧TabT H tv (tabF dss)
def zqac (B D:Addr):Sp:=λvs H Q _=>Ex3 λv dl (dss:List (List Crd))=>vs=[v,.ref dl]∧GdT B D H v dss∧LdT H dl dss∧okF dss∧∀H',Same H H'->Q (.bl true) H'
theorem zjwb {dss:List (List Crd)}(o:okF dss)(m:∀c∈dss.flatten,c.marks.length≤4):TOk dss.length dss.flatten.length (tabF dss):=by
 have ol:=zvbb dss;have f16:=o.2.2.1;have cl:(cmsF dss).length=dss.flatten.length:=yaa _;have nl:∀p:Nat,(nums (own (lens dss) dss.length) (p:Int) (own (lens dss) dss.length).length).length≤16:=λp=>by
  have:=zmlb (own (lens dss) dss.length) (p:Int) (own (lens dss) dss.length).length;omega
 refine⟨yyb,yyb,yyb,(yaa _).trans ylc,(yaa _).trans ylc,cl,yyb.trans cl,yrb _,yrb _,λx hx=>?_,λd hd=>?_,λd hd=>?_,o.2.1,f16⟩
 ·obtain⟨c,hc,rfl⟩:=ysb.mp hx;have:=m c hc;show c.marks.length≤40
  omega
 ·obtain⟨p,_,rfl⟩:=ysb.mp hd;rw[yie];have:=nl p;omega
 ·obtain⟨p,_,rfl⟩:=ysb.mp hd;rw[yza];have:=nl p;omega
def rw2 (rs:List Rule):List Str:=rs.flatMap λr=>("/":Str)::r.words
theorem ziab:∀(rs:List Rule) {ws:List Str},ws≠[]->yfa SL (yfa " " ws::rs.map zcc)=yfa " " (ws++rw2 rs)
 | [],ws,_=>by
  show yfa " " ws=yfa " " (ws++[])
  rw[yfc]
 | r::rs,ws,h=>by
  have ih:=ziab rs (ws:=r.words) r.zjc;have e:rw2 (r::rs)=("/":Str)::(r.words++rw2 rs):=rfl;have ne:r.words++rw2 rs≠[]:=λz=>r.zjc (yih.mp z).1;rw[ygb,join_cons SL _ (yib _ _),e,zri " " h (yib _ _),join_cons " " _ ne,← ih];show _++SL++yfa SL (zcc r::rs.map zcc)=_ ++ " " ++ ("/" ++ " " ++ yfa SL (zcc r::rs.map zcc))
  rw[show SL = " " ++ ("/" ++ " ") by decide +kernel,ymc,ymc,ymc,ymc]
theorem zqob {c:Crd}(h:c.ok):∃r,yeb c.text " " = c.name::r:=by
 have e:c.text=yfa " " (c.head++rw2 c.rules):=ziab c.rules (yib _ _);refine⟨c.head.tail++rw2 c.rules,?_⟩;rw[e];refine zzj (c:=32) (ws:=c.head++rw2 c.rules) (by simp[Crd.head]) λu hu=>?_
 rcases yua.mp hu with hu|hu
 ·exact (Crd.zfs h u hu).1
 ·obtain⟨r,hr,hu⟩:=List.mem_flatMap.mp hu
  rcases yia.mp hu with rfl|hu
  ·decide +kernel
  ·exact (Rule.zoe (h.rules r hr) u hu).1.1
theorem zun (T:Tx K mg):FnOk P w K mg base CX0 15 T.zed.f T.zed.d zpq (zqac T.zve T.zyb):=by
 refine T.zed.ok zgf ?_;rintro f c A o s H vs Q E hr ⟨v,dl,dss,rfl,⟨t,ca,oa,tv,cvs,rfl,et,eca,alc,eoa,TT⟩,LD,o,q⟩ X;refine⟨_,  (zca (zdlb (zia (zgib T).up hr rfl T.zxh.m T.zxh.F.kp (zqnb T) .nil zdb (zaa (pv 1) zba)) (zlbc (n:=2) rfl (zqf (zfb (i:=2) zgf.nd rfl (.inl rfl)) (zqf (zfb (i:=3) zgf.nd rfl (.inl rfl)) zet))))
  (zca (zqa (i:=4) zgf.nd rfl (.inl rfl) (zma (zrs rfl) rfl T.ztdb ywq (zaa (pv 1) (zaa (zob zba) zba))))
  (zca (zvb (PW.pt (zqp (zwj (zif (zma zbc rfl T.zab yic (zaa (pv 0) (zaa (zpe (v:=.ty "tuple") rfl T.zde yme rfl) zba))))) (zqp (zta zsv (zma zra rfl T.zxd ykb (zaa (pv 0) zba)) zga (zza _)) (zrn (zwj (zif (zma zbc rfl T.zab yic (zaa (zmb zxb (pv 0) zga (λ_ _=>rfl)) (zaa (zpe (v:=.ty "list") rfl T.zzm yvj rfl) zba)))))))))
   (zea (zwa zrv))
   zya)
  (zca (zvb (PW.pt (zqp (zwj (zif (zia (zgz T 5).up hr rfl T.zpb.m T.zpb.F.kp (zao T) .nil zdb (zaa (zmb zxb (pv 0) zga (λ_ _=>rfl)) (zaa (pv 2) zba))))) (zqp (zwj (zif (zia (zgz T 5).up hr rfl T.zpb.m T.zpb.F.kp (zao T) .nil zdb (zaa (zmb zxb (pv 0) zga (λ_ _=>rfl)) (zaa (pv 3) zba))))) (zrn (zta zsv (zma zra rfl T.zxd ykb (zaa (zmb zxb (pv 0) zga (λ_ _=>rfl)) zba)) (zma zra rfl T.zxd ykb (zaa (pv 4) zba)) (zza _))))))
   (zea (zwa zrv))
   zya)
  (zca (zur yqf rfl (zsxb rfl T.zlrb (zaa (zmb zxb (pv 0) zga (λ_ _=>rfl)) (zaa (pv 4) zba))) (zweb (n:=2) rfl (zqf (zfb (i:=5) zgf.nd rfl (.inl rfl)) (zqf (zfb (i:=6) zgf.nd rfl (.inl rfl)) zet)))
   (zca (zqa (i:=7) zgf.nd rfl (.inl rfl) (zjf ytb yjh ykh zbw (zmb zrb (pv 6) zga (λ_ _=>rfl)) (zaa zja zba)))
   (zca (zvb (PW.pt (zqp (zta zsv (zia (zgfb T) hr rfl T.zcg.m T.zcg.F.kp (zfjb T) .nil zdb (zaa (pv 5) zba)) (zmb zrb (pv 6) zga (λ_ _=>rfl)) (zza _)) (zqp (zta (zzeb hr.units) (zsf (pv 5) rfl) (zmb zrb (pv 6) zga (λ_ _=>rfl)) (zza _)) (zqp (zta zsv (zsf (pv 5) rfl) (zmb zrb (pv 6) zga (λ_ _=>rfl)) (zza _)) (zrn (zta zsv (zsf (pv 5) rfl) (zmb zrb (pv 6) zga (λ_ _=>rfl)) (zza _)))))))
    (zea (zwa zrv))
    zya)
   (zea (zvb (PW.pt (zqp (zta zsv (zsf (pv 5) rfl) (zmb zrb (pv 7) zga (λ_ _=>rfl)) (zza _)) (zrn (zta zsv (zma zra rfl T.zxd ykb (zaa (zsf (pv 5) rfl) zba)) (zma zra rfl T.zxd ykb (zaa (zmb zrb (pv 6) zga (λ_ _=>rfl)) zba)) (zza _)))))
    (zea (zwa zrv))
    zya)))))
  (zea (zwa zrv))))))),?_⟩
 refine⟨_,rfl,dl,dss,rfl,LD,o.1,o.2.1,o.2.2.1,λl ol du H1 S1 el eol TD=>?_⟩;refine⟨l,_,rfl,SqL.of el,rfl,_,_,rfl,_,_,rfl,rfl,?_⟩;obtain⟨bs,yss,eb,bl1,bl2,bg,aly⟩:=(LD.same S1).sum;have yl:=aly.len;have cvl:=alc.len;have f16:=o.2.2.1;refine⟨_,rfl,sz0,λst hst=>?_⟩;refine laid hst λH2 S2 e2=>?_;dsimp only[tNil];refine zxkb (S2 _ _ eb) e2 bl1 (λi b ys hb hy=>S2 _ _ (bg i b ys hb hy)) (by omega) λcl H3 S3 e3=>?_;have S23:=S2.trans S3;have S03:=S1.trans S23;have et3:=S03 _ _ et;have ec3:=S03 _ _ eca;have aly3:All2 (CT H3 λ_=>True) yss.flatten dss.flatten:=aly.imp λz=>z.same S23;refine⟨_,rfl,_,_,_,true,rfl,TyOf.tup et3,.inl ⟨"tuple",rfl,rfl⟩,_,rfl,iteF ?_⟩;refine⟨_,rfl,t,_,rfl,.inr (SqT.of et3),rfl,_,rfl,?_⟩;refine iteF ?_;refine⟨_,rfl,t,_,_,_,rfl,rfl,SqT.of et3,zna (j:=0) rfl,_,_,_,true,rfl,TyOf.lst ec3,.inl ⟨"list",rfl,rfl⟩,_,rfl,iteF ?_⟩;have m4:∀c∈dss.flatten,c.marks.length≤4:=λc hc=>by
  obtain⟨v,_,l,m,rl,us,_,_,_,_,_,_,z,_⟩:=aly3.mem2 hc;exact z
 have il:(iM (own (lens dss) dss.length)).length≤1000:=by
  unfold iM;rw[yaa,zvbb];omega
 refine⟨_,rfl,t,_,_,_,rfl,rfl,SqT.of et3,zna (j:=1) rfl,_,rfl,1,.ref oa,.ref ol,rfl,by decide,.lst (S03 _ _ eoa) (S23 _ _ eol) il (zkdb _),λH4 S4=>⟨_,rfl,iteF ?_⟩⟩;have S34:=S4;refine⟨_,rfl,t,_,_,_,rfl,rfl,SqT.of (S4 _ _ et3),zna (j:=2) rfl,_,rfl,3,tv,du,rfl,by decide,zzzb (zjwb o m4) (TT.kp (Kp.same (S03.trans S4))) (TD.kp (Kp.same (S23.trans S4))),λH5 S5=>⟨_,rfl,iteF ?_⟩⟩;have S35:=S4.trans S5;have et5:=S35 _ _ et3;have ec5:=S35 _ _ ec3;have e35:=S35 _ _ e3;refine⟨_,rfl,t,_,_,_,rfl,rfl,SqT.of et5,zna (j:=0) rfl,ca,_,rfl,.inl (SqL.of ec5),_,rfl,cl,_,rfl,.inl (SqL.of e35),rfl,_,rfl,?_⟩;rw[show cvs.length=yss.flatten.length by omega,decide_eq_true rfl];refine iteF ?_;refine⟨_,rfl,t,_,_,_,rfl,rfl,SqT.of et5,zna (j:=0) rfl,_,rfl,ca,cl,cvs,yss.flatten,rfl,SqL.of ec5,SqL.of e35,?_⟩;refine zbub (λi σ Hx=>Ex3 λ(o5 o6 o7:Option V)=>σ=[some (.ref t),some (.ref dl),some (.ref ol),some du,some (.ref cl),o5,o6,o7]∧Same H5 Hx) (by omega) ⟨_,_,_,rfl,Same.refl _⟩ (λi σ Hx _ ⟨_,_,_,_,S⟩=>⟨SqL.of (S _ _ ec5),SqL.of (S _ _ e35)⟩) ?_ ?_
 ·rintro i x y σ Hx p hx hy ⟨o5,o6,o7,rfl,S⟩ hp;obtain⟨c,hc,IC⟩:=alc.get hx;obtain⟨c2,hc2,lc,m2,rl,us,rfl,elc,em2,erl,arl,cok,cm,_⟩:=aly3.get hy;rw[hc] at hc2;cases hc2;refine laid hp λH6 S6 e6=>?_;have Sa:=(S03.trans S35).trans (S.trans S6);have Sb:=S35.trans (S.trans S6);refine⟨p,_,rfl,SqT.of e6,rfl,_,_,rfl,_,_,rfl,rfl,?_⟩;have tl:=zshb cok;refine⟨_,rfl,lc,_,_,_,rfl,rfl,SqL.of (Sb _ _ elc),zna (j:=0) rfl,rfl,_,_,rfl,rfl,(by decide +kernel),(by have:yxa=16777216:=rfl;omega),λlw hlw=>?_⟩;obtain⟨rw3,ew⟩:=zqob cok;rw[ew];refine laid hlw λH7 S7 e7=>?_;refine⟨_,rfl,x,c,rfl,IC.same (Sa.trans S7),cok,λH8 S8=>?_⟩;have Sc:=Sa.trans (S7.trans S8);have Sd:=Sb.trans (S7.trans S8);have ed8:=Sd _ _ elc;obtain⟨a,dx,m,tt,vs,rfl,ea,em,ett,hrs⟩:=IC.same Sc;refine⟨_,rfl,lc,_,_,_,rfl,rfl,SqL.of ed8,zna (j:=0) rfl,rfl,_,rfl,?_⟩;rw[decide_eq_true rfl];refine iteF ?_;have sh:=zgr cok.marks.ok;refine⟨_,rfl,a,_,dx,_,_,rfl,ea,T.zqe,T.zlf,zuy _ _ _ _ _,_,rfl,lc,_,_,_,rfl,rfl,SqL.of ed8,zna (j:=1) rfl,_,_,.tup (SqT.of em) (zmp _),.tup (SqT.of (Sd _ _ em2)) (zmp _),sh,sh,_,rfl,?_⟩;rw[SeqAt.eqv_refl _ (ycn sh)];refine iteF ?_;refine⟨_,rfl,a,_,dx,_,_,rfl,ea,T.zqe,T.zyg,zegb _ _ _ _ _,_,rfl,lc,_,_,_,rfl,rfl,SqL.of ed8,zna (j:=2) rfl,rfl,_,rfl,?_⟩;rw[decide_eq_true rfl];refine iteF ?_;refine⟨_,rfl,a,_,dx,_,_,rfl,ea,T.zqe,T.zci,zdmb _ _ _ _ _,_,rfl,lc,_,_,_,rfl,rfl,SqL.of ed8,zna (j:=4) rfl,rfl,_,rfl,?_⟩;rw[decide_eq_true rfl];refine iteF ?_;refine⟨_,rfl,a,_,dx,_,_,rfl,ea,T.zqe,T.zbi,zcmb _ _ _ _ _,_,rfl,lw,_,_,_,rfl,rfl,SqL.of (S8 _ _ e7),zna (j:=0) rfl,rfl,_,rfl,?_⟩;rw[decide_eq_true rfl];refine iteF ?_;refine⟨_,rfl,a,_,dx,_,_,rfl,ea,T.zqe,T.zkf,zty _ _ _ _ _,tt,_,rfl,.inr (SqT.of ett),_,rfl,lc,_,_,_,rfl,rfl,SqL.of ed8,zna (j:=3) rfl,rl,_,rfl,.inl (SqL.of (Sd _ _ erl)),rfl,_,rfl,?_⟩;have l1:=hrs.length;have l2:=arl.len;rw[show vs.length=us.length by omega,decide_eq_true rfl];exact iteF ⟨_,_,_,rfl,S.trans (S6.trans (S7.trans S8))⟩
 ·rintro σ Hx ⟨o5,o6,o7,rfl,S⟩;exact q Hx ((S03.trans S35).trans S)
theorem zysb {X:Cx}{tg l:Expr}{tl:TE}(K:yba)(hl:PE X l tl)(hK:X.K=K:=by rfl):PI X tg l (zxcc K tl):=hK▸zyd hl
theorem zmyb {n j:Nat}(h:j<n):ixN n (j:Int)=some j:=by
 unfold ixN;rw[if_pos (by omega),if_pos (by omega),yac]
theorem zfz {α β:Type}{R:α->β->Prop}:∀{as:List α} {bs:List β},as.length=bs.length->(∀(i:Nat) a b,as[i]?=some a->bs[i]?=some b->R a b)->All2 R as bs
 | [],[],_,_=>.nil
 | a::as,b::bs,h,r=>.cons (r 0 a b rfl rfl) (zfz (by rw[yga,yga] at h;omega) λi x y hx hy=>r (i+1) x y hx hy)
def tx (cs:List Crd):List V:=(cs.map (·.text)).map V.str
theorem znw (cs:List Crd):(tx cs).length=cs.length:=by unfold tx;rw[yaa,yaa]
structure CpT (H:Hp)(bs:List Addr)(dss:List (List Crd)):Prop where
 nd:bs.Nodup
 len:bs.length=dss.length
 at_:∀(i:Nat) b cs,bs[i]?=some b->dss[i]?=some cs->H b=some (.lst (tx cs))
theorem CpT.same {H H':Hp}(s:Same H H'){bs:List Addr}{dss:List (List Crd)}(h:CpT H bs dss):CpT H' bs dss:=⟨h.nd,h.len,λi b cs hb hc=>s _ _ (h.at_ i b cs hb hc)⟩
theorem CpT.but {K:yba}{H H':Hp}{p:Addr}{k:Int}(t:Tk K H p k)(z:But p H H'){bs:List Addr}{dss:List (List Crd)}(h:CpT H bs dss):CpT H' bs dss:=⟨h.nd,h.len,λi b cs hb hc=>by
 have e:=h.at_ i b cs hb hc;refine z _ _ (λy=>?_) e;obtain⟨a,ep⟩:=t.two;rw[y,ep] at e;injection e with e
 injection e with e
 cases cs with
 | nil=>cases e
 | cons c r =>
  injection e with e
  cases e⟩
theorem CpT.mem {H:Hp}{bs:List Addr}{dss:List (List Crd)}(h:CpT H bs dss){b:Addr}(hb:b∈bs):∃xs,H b=some (.lst xs):=by
 obtain⟨i,hi⟩:=List.getElem?_of_mem hb;have l:i<dss.length:=by rw[← h.len];exact (yma.mp hi).1
 exact⟨_,h.at_ i b _ hi (yqa l)⟩
structure GdC (dss:List (List Crd)):Prop where
 d5:dss.length≤5
 c7:∀cs∈dss,cs.length≤7
 ok:∀c∈dss.flatten,c.ok∧c.marks.length≤4
theorem GdC.f35 {dss:List (List Crd)}(h:GdC dss):dss.flatten.length≤35:=by
 have z:∀ls:List (List Crd),(∀cs∈ls,cs.length≤7)->ls.flatten.length≤7*ls.length:=by
  intro ls
  induction ls with
  | nil=>intro _;exact yrb _
  | cons x r ih =>
   intro y;have a:=y x ypa;have b:=ih λcs hc=>y cs (yla _ hc);rw[ytc,yha,yga];omega
 have:=z dss h.c7;have:=h.d5;omega
theorem GdC.sm {dss:List (List Crd)}(h:GdC dss){cs:List Crd}(hc:cs∈dss){c:Crd}(hm:c∈cs):c.ok∧c.marks.length≤4:=h.ok c (ytq.mpr ⟨cs,hc,hm⟩)
theorem zdwb {K:yba}{cs:List Crd}(h:∀c∈cs,c.ok∧c.marks.length≤4):All2 (DI K) (tx cs) (cs.map some):=zfz (by rw[znw,yaa]) λj x o hx ho=>by
 unfold tx at hx;rw[yud,yhb] at hx;rw[yhb] at ho;obtain⟨c,hc1,rfl⟩:=ymb.mp hx;obtain⟨c',hc2,rfl⟩:=ymb.mp ho;rw[hc1] at hc2;cases hc2;obtain⟨o1,o2⟩:=h c (ywa hc1);exact .inl ⟨c.text,rfl,(zzdb o1 o2).up (by decide) (by decide),zmpb o1⟩
theorem CpT.ds {K:yba}{H:Hp}{a:Addr}{bs:List Addr}{dss:List (List Crd)}(g:GdC dss)(ea:H a=some (.lst (bs.map V.ref)))(h:CpT H bs dss):DsT K H a (dss.map (yil some)):=by
 refine⟨_,ea,zfz (by rw[yaa,yaa];exact h.len) λi u os hu ho=>?_,by rw[yaa];exact g.d5⟩;rw[yhb] at hu ho;obtain⟨b,hb,rfl⟩:=ymb.mp hu;obtain⟨cs,hc,rfl⟩:=ymb.mp ho;have cm:=ywa hc;exact⟨b,tx cs,rfl,h.at_ i b cs hb hc,zdwb λc hm=>g.sm cm hm,by rw[yaa];exact g.c7 cs cm⟩
theorem zbjb {K:yba}{B D N F a:Addr}{H:Hp}{Q:VK}{E:XK}{dss:List (List Crd)}(h:DsT K H a (dss.map (yil some)))(o:okF dss)(q:∀v H',Same H H'->BgT B D H H' v dss->Q v H'):zfbb K B D N F [.ref a] H Q E:=by
 obtain⟨ds,ea,al,l⟩:=h;refine⟨a,ds,_,rfl,ea,al,l,(λ⟨os,ho,n⟩=>(zjib ho n).elim),λdss' ed _=>?_⟩;have z:=some_inj ed;subst z;exact⟨λz=>absurd o z,λ_=>q⟩
theorem BgT.gd {B D:Addr}{H H':Hp}{v:V}{dss:List (List Crd)}(h:BgT B D H H' v dss):GdT B D H' v dss:=by
 obtain⟨t,ca,oa,tv,cvs,e,_,_,_,h1⟩:=h;exact⟨t,ca,oa,tv,cvs,e,h1⟩
theorem GdT.same {B D:Addr}{H H':Hp}(s:Same H H'){v:V}{dss:List (List Crd)}(h:GdT B D H v dss):GdT B D H' v dss:=by
 obtain⟨t,ca,oa,tv,cvs,e,h1,h2,h3,h4,h5⟩:=h;exact⟨t,ca,oa,tv,cvs,e,s _ _ h1,s _ _ h2,h3.imp λz=>z.same s,s _ _ h4,h5.kp (Kp.same s)⟩
def ButL (bs:List Addr)(H H':Hp):Prop:=∀a o,a∉bs->H a=some o->H' a=some o
theorem BgT.far {B D:Addr}{H H1 H':Hp}{bs:List Addr}(hb:∀b∈bs,∃xs,H b=some (.lst xs))(hb1:∀b∈bs,∃xs,H1 b=some (.lst xs))(z:ButL bs H1 H'){v:V}{dss:List (List Crd)}(h:BgT B D H H1 v dss):GdT B D H' v dss:=by
 obtain⟨t,ca,oa,tv,cvs,e,n1,n2,n3,h1,h2,h3,h4,h5⟩:=h;have kp:Kp H1 H':=λa o n y=>z a o (λm=>by
  obtain⟨xs,ex⟩:=hb1 a m;rw[ex] at y;injection y with y
  exact n _ y.symm) y
 have far:∀{a:Addr},H a=none->a∉bs:=λy m=>by
  obtain⟨xs,ex⟩:=hb _ m;rw[y] at ex;cases ex
 exact⟨t,ca,oa,tv,cvs,e,z _ _ (far n3) h1,z _ _ (far n1) h2,h3.imp λy=>y.kp kp,z _ _ (far n2) h4,h5.kp kp⟩
theorem zycb {a:Addr}{bs:List Addr}{dss:List (List Crd)}{H:Hp}{σ:L2.St}{Q:VK}(ea:H a=some (.lst (bs.map V.ref)))(C:CpT H bs dss)(l5:dss.length≤5)(q:∀(ws:List Addr) l H',Same H H'->H' l=some (.lst (ws.map V.ref))->CpT H' ws dss->(∀b∈ws,H b=none)->H l=none->l∉ws->Q (.ref l) H'):zsdb (Itl K a) H (zny 0) zkwb (tCB (λxs H Q=>Ex2 λp ys=>xs=[.ref p]∧(SqL K H p ys∨SqT K H p ys)∧∀l,H l=none->Q (.ref l) (upd H l (.lst ys))) (zfac (tVar 0) tNil)) 1 [] σ Q:=by
 have cl:=C.len;refine zbd (xs:=bs.map V.ref) (λi ys Hx=>Same H Hx∧∃ws:List Addr,ys=ws.map V.ref∧CpT Hx ws (dss.take i)∧∀b∈ws,H b=none) (λi ys Hx z=>SqL.of (z.1 _ _ ea)) ⟨Same.refl _,[],rfl,⟨yql,rfl,λi b cs h=>by rw[yuh] at h;cases h⟩,λb h=>nomatch h⟩ ?_ ?_ ?_
 ·rintro i ys Hx ⟨_,ws,rfl,c,_⟩;have:=c.len;rw[yza] at this;rw[yaa];exact small (by omega)
 ·rintro i v ys Hx hv ⟨S,ws,rfl,c,fr⟩;rw[yhb] at hv;obtain⟨b,hb,rfl⟩:=ymb.mp hv;have hi:i<dss.length:=by rw[← cl];exact (yma.mp hb).1
  have hd:=yqa hi;have eb:=S _ _ (C.at_ i b _ hb hd);refine⟨rfl,_,rfl,b,_,rfl,.inl (SqL.of eb),λl hl=>?_⟩;have wl:=c.len;rw[yza] at wl;have nl:l∉ws:=λm=>by
   obtain⟨xs,ex⟩:=c.mem m;rw[hl] at ex;cases ex
  refine laid hl λH2 S2 e2=>⟨S.trans S2,ws++[l],by rw[yva];rfl,⟨?_,?_,λj b' cs hb' hc'=>?_⟩,λb' hb'=>?_⟩
  ·rw[ymj];exact⟨c.nd,by simp,λx hx y hy=>by rw[yda.mp hy];rintro rfl;exact nl hx⟩
  ·rw[yha,yza,c.len,yza];show _+1=_
   omega
  ·rw[yob,hd,yxc] at hc'
   by_cases jl:j<ws.length
   ·rw[yrc jl] at hb';rw[yrc (by rw[yza];omega)] at hc';exact S2 _ _ (c.at_ j b' cs hb' hc')
   ·have jj:j<ws.length+1:=by
     have:=(yma.mp hb').1;rw[yha] at this;exact this
    have je:j=ws.length:=(by omega);subst je;rw[yzb (yja _),yoi] at hb';rw[yzb (by rw[yza];omega),yza,show ws.length-min i dss.length=0 by omega] at hc';cases hb';cases hc';exact e2
  ·rcases yua.mp hb' with m|m
   ·exact fr b' m
   ·rw[yda.mp m];exact none_of S hl
 ·rintro ys Hx ⟨S,ws,rfl,c,fr⟩ l hl;rw[yaa,cl,yya (yja _)] at c;refine laid hl λH2 S2 e2=>?_;refine q ws l H2 (S.trans S2) e2 (c.same S2) fr (none_of S hl) λm=>?_;obtain⟨xs,ex⟩:=c.mem m;rw[hl] at ex;cases ex
theorem ztzb {u:Str}(h:WdOk u):yod (.str u)=true:=by
 rw[yod];unfold PyData.strOk;rw[← ysq,ymd];intro c hc;exact decide_eq_true (by have:=h.2 c hc;omega)
def txD (cs:List Crd):PyData:=.list ((cs.map (·.text)).map .str)
theorem zvub {cs:List Crd}(h:∀c∈cs,c.ok∧c.marks.length≤4):ypd ((cs.map (·.text)).map .str)=true:=zdw _ λx hx=>by
 obtain⟨c,hc,rfl⟩:=ysb.mp hx;exact ztzb ((zzdb (h c hc).1 (h c hc).2).up (M:=10000) (O:=19) (by decide) (by decide)).wd
theorem zdob {cs:List Crd}(h:∀c∈cs,c.ok∧c.marks.length≤4):ycd (txD cs)=true:=by
 unfold ycd txD;rw[yod,zvub h,ygg,zps];rfl
theorem zcob:∀{dss:List (List Crd)},(∀cs∈dss,∀c∈cs,c.ok∧c.marks.length≤4)->ypd (dss.map txD)=true∧yfe (dss.map txD)≤1
 | [],_=>by simp[ypd,yfe]
 | cs::r,h=>by
  obtain⟨h1,h2⟩:=zcob λx hx=>h x (yla _ hx);have g1:=zvub (h cs ypa);refine⟨?_,?_⟩
  ·rw[ygb,ypd,h1];unfold txD;rw[yod,g1];rfl
  ·rw[ygb,yfe];unfold txD at h2 ⊢;rw[ygg,zps];omega
theorem zlmb {dss:List (List Crd)}(h:∀cs∈dss,∀c∈cs,c.ok∧c.marks.length≤4):ycd (.list (dss.map txD))=true:=by
 obtain⟨h1,h2⟩:=zcob h;unfold ycd;rw[yod,h1,ygg];simp;omega
theorem zwzb {K:yba}{H:Hp}{b:Addr}{cs:List Crd}(e:H b=some (.lst (tx cs))):DV K H (.ref b) (txD cs):=.lst (SqL.of e) (zmp _)
theorem CpT.DVs {K:yba}{H:Hp}:∀{bs:List Addr} {dss:List (List Crd)},bs.length=dss.length->(∀(i:Nat) b cs,bs[i]?=some b->dss[i]?=some cs->H b=some (.lst (tx cs)))->L2.DVs K H (bs.map V.ref) (dss.map txD)
 | [],[],_,_=>.nil
 | b::bs,cs::dss,l,h=>.cons (zwzb (h 0 b cs rfl rfl)) (CpT.DVs (by rw[yga,yga] at l;omega) λi x y hx hy=>h (i+1) x y hx hy)
theorem zadc (cs:List Crd):ywf (txD cs) (.list [])=decide (cs=[]):=by
 unfold txD;cases cs with
 | nil=>simp[ywf,yoe]
 | cons x r=>simp[ywf,yoe]
theorem ztab:ycd (.list [])=true:=by unfold ycd;rw[yod,ypd,ygg,yfe];rfl
theorem zoyb {K:yba}{H:Hp}(c:List Int):DVs K H (c.map V.int) (c.map PyData.int):=by
 induction c with
 | nil=>exact .nil
 | cons i r ih=>exact .cons (.int i) ih
theorem zrib (c:List Int):ycd (.list (c.map .int))=true:=by
 have z:ypd (c.map .int)=true∧yfe (c.map .int)=0:=by
  induction c with
  | nil=>exact⟨rfl,rfl⟩
  | cons i r ih=>exact⟨by simp[ypd,yod,ih.1],by simp[yfe,ygg,ih.2]⟩
 unfold ycd;rw[yod,z.1,ygg,z.2];rfl
theorem zbdc (c:List Int):ywf (.list (c.map .int)) (.list [])=decide (c=[]):=by
 cases c with
 | nil=>simp[ywf,yoe]
 | cons x r=>simp[ywf,yoe]
theorem LdT.but {K:yba}{H H':Hp}{p:Addr}{k:Int}(t:Tk K H p k)(b:But p H H'){dl:Addr}(n:dl≠p){dss:List (List Crd)}(h:LdT H dl dss):LdT H' dl dss:=by
 obtain⟨ds,e,al⟩:=h;exact⟨ds,b _ _ n e,al.imp λz=>z.but t b⟩
theorem LdT.gd {H:Hp}{dl:Addr}{dss:List (List Crd)}(h:LdT H dl dss)(l:dss.length≤5):GdC dss:=by
 obtain⟨ds,_,al⟩:=h;refine⟨l,λcs hc=>?_,λc hc=>?_⟩
 ·obtain⟨v,_,d,vs,_,_,_,z⟩:=al.mem2 hc;exact z
 ·obtain⟨cs,hcs,hc⟩:=ytq.mp hc;obtain⟨v,_,d,vs,_,_,al2,_⟩:=al.mem2 hcs;obtain⟨u,_,l,m,rl,us,_,_,_,_,_,o1,o2,_⟩:=al2.mem2 hc;exact⟨o1,o2⟩
theorem zupb {K:yba}:(∀H,NoTx K H .non)∧∀i H,NoTx K H (.int i):=⟨λ_=>⟨_,.non,by kernel_rfl⟩,λi _=>⟨_,TyOf.int i,by kernel_rfl⟩⟩
theorem zjac {K:yba}{c:Crd}(h:c.ok)(m:c.marks.length≤4){r:Int}(r0:0≤r)(r1:r<5):∃v,atI [V.non,.str (c.text ++ " x"),.str ("Z" ++ c.text),.str "",.int 7] r=some v∧DI K v none:=by
 obtain⟨v,hv,hm⟩:=zss (xs:=[V.non,.str (c.text ++ " x"),.str ("Z" ++ c.text),.str "",.int 7]) r0 r1;refine⟨v,hv,?_⟩;simp only[yia,yvb,or_false] at hm
 rcases hm with e|e|e|e|e<;>rw[e]
 ·exact .inr ⟨zupb.1,rfl⟩
 ·exact .inl ⟨_,rfl,sm_x h m,zmsb h⟩
 ·exact .inl ⟨_,rfl,sm_Z h m,zosb h m⟩
 ·exact .inl ⟨_,rfl,sm_e,znsb⟩
 ·exact .inr ⟨zupb.2 7,rfl⟩
theorem zrbc (T:Tx K mg)(kb:K.In base):FnOk P w K mg base CX0 17 T.zxnb.f T.zxnb.d zodc (zyrb K):=by
 refine T.zxnb.ok zam ?_;rintro f c A o s H vs Q E hr ⟨sa,sc,rfl,hS,h63,q⟩ X;refine⟨_,  (zca (zqa (i:=1) zam.nd rfl (.inl rfl) (zob (zaa (pv 0) (zaa zga zba))))
  (zca (zqa (i:=2) zam.nd rfl (.inl rfl) (zia (zdcb T).up hr rfl T.zbf.m T.zbf.F.kp (zwgb T) .nil zdb (zaa (pv 1) zba)))
  (zca (zqa (i:=3) zam.nd rfl (.inl rfl) (zia (zfcb T) hr rfl T.zdf.m T.zdf.F.kp (zygb T) .nil zdb (zaa (pv 1) (zaa (pv 2) zba))))
  (zca (zox (i:=4) zam.nd rfl (.inl rfl) (own:=["_law_deck"]) (cap:=[]) rfl (zeb.chk rfl rfl) .nil (zyd (pv 3)) (λ_ _ _ _=>(zfb (i:=0) (show ync (["_law_deck"]:List Str) by decide +kernel) rfl (.inl rfl))) (λ_ _ _ _=>zuc) (λ_ _ _ _=>by exact (zxc (own:=["_law_card_here"]) (cap:=[]) rfl (zeb.chk rfl rfl) .nil (zysb K (pv 0)) (λ_ _ _ _=>(zfb (i:=0) (show ync (["_law_card_here"]:List Str) by decide +kernel) rfl (.inl rfl))) (λ_ _ _ _=>zuc) (λ_ _ _ _=>by exact (zmb (zfw K) (pv 0) zga (λ_ _=>rfl))))))
  (zca (zqa (i:=5) zam.nd rfl (.inr rfl) (zxc (own:=["_law_deck"]) (cap:=[]) rfl (zeb.chk rfl rfl) .nil (zyd (pv 4)) (λ_ _ _ _=>(zfb (i:=0) (show ync (["_law_deck"]:List Str) by decide +kernel) rfl (.inl rfl))) (λ_ _ _ _=>zuc) (λ_ _ _ _=>by exact (zlb (zxj K) rfl T.zzm yvj (zaa (pv 0) zba)))))
  (zca (zox (i:=6) zam.nd rfl (.inl rfl) (own:=["_law_k"]) (cap:=["_law_wrong"]) rfl (zeb.chk rfl rfl) (.cons (j:=5) rfl (.inl rfl) (.inl rfl) .nil) (zuf rfl T.zuh (zaa (zma zra rfl T.zxd ykb (zaa (pv 5) zba)) zba)) (λ_ _ _ _=>(zfb (i:=0) (show ync (["_law_k","_law_wrong"]:List Str) by decide +kernel) rfl (.inl rfl))) (λ_ _ _ _=>zct (zta (zayb K hr.units) (zmb (zfw K) (pv 1) (pv 0) (λ_ _=>rfl)) (zob zba) (zza _))) (λ_ _ _ _=>by exact (pv 0)))
  (zca (zvb (PW.pt (zblb (zta (zzeb hr.units) (pv 6) (zob zba) (zza _)) (ztbb (zta zzd (zia (zla T).up hr rfl T.zda.m T.zda.F.kp (zsa T) .nil zdb (zaa (pv 1) (zaa zga zba))) zga (zza _)))))
   (zca (zqa (i:=7) zam.nd rfl (.inl rfl) (zmb zrb (pv 5) (zmb zrb (pv 6) (zia (zla T).up hr rfl T.zda.m T.zda.F.kp (zsa T) .nil zdb (zaa (pv 1) (zaa (zma zra rfl T.zxd ykb (zaa (pv 6) zba)) zba))) (λ_ _=>rfl)) (λ_ _=>rfl)))
   (zca (zqa (i:=8) zam.nd rfl (.inl rfl) (zia (zla T).up hr rfl T.zda.m T.zda.F.kp (zsa T) .nil zdb (zaa (pv 1) (zaa (zma zra rfl T.zxd ykb (zaa (pv 7) zba)) zba))))
   (zca (zdlb (zmb zrb (zob (zaa zyk (zaa (zub zwg (zmb zrb (pv 7) (pv 8) (λ_ _=>rfl)) zja) (zaa (zub zwg zja (zmb zrb (pv 7) (pv 8) (λ_ _=>rfl))) (zaa zja (zaa zga zba)))))) (zia (zla T).up hr rfl T.zda.m T.zda.F.kp (zsa T) .nil zdb (zaa (pv 1) (zaa zga zba))) (λ_ _=>rfl)) (zgvb (pv 7) (pv 8) set_list))
   (zea (zvb (zta zsv (zia (zzu T kb).up hr rfl T.zke.m T.zke.F.kp (zbz T) .nil zdb (zaa (pv 5) zba)) zja (zza _))
    (zea (zwa zrv))
    zya)))))
   zya)
  (zca (zvb (zwj (zif (zia (zecb T).up hr rfl T.zcf.m T.zcf.F.kp (zxgb T) .nil zdb (zaa (pv 3) zba))))
   (zea (zwa (zkh zzd (zia (zzu T kb).up hr rfl T.zke.m T.zke.F.kp (zbz T) .nil zdb (zaa (pv 4) zba)) zja (zza _))))
   zya)
  (zca (zox (i:=9) zam.nd rfl (.inl rfl) (own:=["_law_deck"]) (cap:=[]) rfl (zeb.chk rfl rfl) .nil (zyd (pv 4)) (λ_ _ _ _=>(zfb (i:=0) (show ync (["_law_deck"]:List Str) by decide +kernel) rfl (.inl rfl))) (λ_ _ _ _=>zuc) (λ_ _ _ _=>by exact (zlb (zxj K) rfl T.zzm yvj (zaa (pv 0) zba))))
  (zca (zqa (i:=10) zam.nd rfl (.inl rfl) (zia (zzr T kb).up hr rfl T.zgg.m T.zgg.F.kp (zaz T) .nil zzxb (zaa (pv 9) zba)))
  (zca (zvb (PW.pt (zqp (zta (zzeb hr.units) (pv 9) (pv 4) (zza _)) (zrn (zwj (zif (zia (zun T).up hr rfl T.zed.m T.zed.F.kp (zzp T) .nil zdb (zaa (pv 10) (zaa (pv 3) zba))))))))
   (zea (zwa zrv))
   zya)
  (zca (zur yqf rfl (zyd (pv 9)) (zfb (i:=7) zam.nd rfl (.inl rfl))
   (zea (zvc (zivb ypb ysm ytm zrlb (pv 7)))))
  (zca (zqa (i:=11) zam.nd rfl (.inl rfl) (zia (zzr T kb).up hr rfl T.zgg.m T.zgg.F.kp (zaz T) .nil zzxb (zaa (zxc (own:=["_law_deck"]) (cap:=[]) rfl (zeb.chk rfl rfl) .nil (zyd (pv 4)) (λ_ _ _ _=>(zfb (i:=0) (show ync (["_law_deck"]:List Str) by decide +kernel) rfl (.inl rfl))) (λ_ _ _ _=>zuc) (λ_ _ _ _=>by exact (zlb (zxj K) rfl T.zzm yvj (zaa (pv 0) zba)))) zba)))
  (zca (zvc (zjf ypb ydc yec zae (zmb zxb (pv 11) zga (λ_ _=>rfl)) (zaa zga zba)))
  (zca (zvc (zivb ypb ysm ytm zrlb (zmb zxb (pv 11) zga (λ_ _=>rfl))))
  (zea (zwa (zwu (zia (zun T).up hr rfl T.zed.m T.zed.F.kp (zzp T) .nil zdb (zaa (pv 10) (zaa (pv 3) zba))) (zsx (zia (zun T).up hr rfl T.zed.m T.zed.F.kp (zzp T) .nil zdb (zaa (zia (zzr T kb).up hr rfl T.zgg.m T.zgg.F.kp (zaz T) .nil zzxb (zaa (zxc (own:=["_law_deck"]) (cap:=[]) rfl (zeb.chk rfl rfl) .nil (zyd (pv 4)) (λ_ _ _ _=>(zfb (i:=0) (show ync (["_law_deck"]:List Str) by decide +kernel) rfl (.inl rfl))) (λ_ _ _ _=>zuc) (λ_ _ _ _=>by exact (zlb (zxj K) rfl T.zzm yvj (zaa (pv 0) zba)))) zba)) (zaa (pv 3) zba)))))))))))))))))))))),?_⟩
 refine⟨_,rfl,sz2,λp hp=>?_⟩;have T1:=Tk.begin hp hS h63;generalize upd H p (.lst [.ref sa,.int 0])=H1 at T1 ⊢;refine⟨_,rfl,p,0,rfl,T1,by decide,λnl ns k2 H2 B2 T2 hk2 _ N2=>?_⟩;refine⟨_,rfl,_,rfl,p,nl,k2,ns,rfl,T2,by omega,N2,λdl ds dss k3 H3 B3 T3 hk3 hdl ed al d5=>?_⟩;have LD3:LdT H3 dl dss:=⟨ds,ed,al⟩;have g:=LD3.gd d5;have dsl:=al.len;refine⟨_,rfl,dl,rfl,⟨_,SqL.of ed⟩,?_⟩;refine zbd (xs:=ds) (λi ys Hx=>Same H3 Hx∧∃ws:List Addr,ys=ws.map V.ref∧CpT Hx ws (dss.take i)) (λi ys Hx z=>SqL.of (z.1 _ _ ed)) ⟨Same.refl _,[],rfl,⟨yql,rfl,λi b cs h=>by rw[yuh] at h;cases h⟩⟩ ?_ ?_ ?_
 ·rintro i ys Hx ⟨_,ws,rfl,c⟩;have:=c.len;rw[yza] at this;rw[yaa];exact small (by omega)
 ·rintro i v ys Hx hv ⟨S,ws,rfl,c⟩;obtain⟨cs,hcs,d,vs,rfl,edd,alv,c7⟩:=al.get hv;have hi:i<dss.length:=(yma.mp hcs).1;have ed2:=S _ _ edd;refine⟨rfl,_,rfl,d,rfl,⟨_,SqL.of ed2⟩,?_⟩;refine zbd (xs:=vs) (λj ys Hy=>Hy=Hx∧ys=tx (cs.take j)) (λj ys Hy z=>by rw[z.1];exact SqL.of ed2) ⟨rfl,rfl⟩ ?_ ?_ ?_
  ·rintro j ys Hy ⟨_,rfl⟩;rw[znw,yza];exact small (by omega)
  ·rintro j u ys Hy hu ⟨rfl,rfl⟩;obtain⟨cc2,hcc,l,m,rl,us,rfl,el,_⟩:=alv.get hu;refine⟨rfl,_,rfl,l,_,_,_,rfl,rfl,SqL.of (S _ _ el),zna (j:=0) rfl,rfl,?_⟩;unfold tx;rw[yob,hcc,yva,yva];rfl
  rintro ys Hy ⟨rfl,rfl⟩ l hl;rw[alv.len,yya (yja _)];have wl:=c.len;rw[yza] at wl;have nl2:l∉ws:=λm=>by
   obtain⟨xs,ex⟩:=c.mem m;rw[hl] at ex;cases ex
  refine laid hl λH5 S5 e5=>⟨S.trans S5,ws++[l],by rw[yva];rfl,?_,?_,λj b' cs' hb' hc'=>?_⟩
  ·rw[ymj];exact⟨c.nd,by simp,λx hx y hy=>by rw[yda.mp hy];rintro rfl;exact nl2 hx⟩
  ·rw[yha,yza,c.len,yza];show _+1=_
   omega
  ·rw[yob,hcs,yxc] at hc'
   by_cases jl:j<ws.length
   ·rw[yrc jl] at hb';rw[yrc (by rw[yza];omega)] at hc';exact S5 _ _ (c.at_ j b' cs' hb' hc')
   ·have jj:j<ws.length+1:=by
     have:=(yma.mp hb').1;rw[yha] at this;exact this
    have je:j=ws.length:=(by omega);subst je;rw[yzb (yja _),yoi] at hb';rw[yzb (by rw[yza];omega),yza,show ws.length-min i dss.length=0 by omega] at hc';cases hb';cases hc';exact e5
 rintro ys Hx ⟨S3,tb,rfl,C3⟩ tl htl;rw[dsl,yya (yja _)] at C3;refine laid htl λH4 S4 etl=>?_;have S34:=S3.trans S4;have C4:=C3.same S4;have T4:=T3.same S34;have LD4:=LD3.same S34;refine⟨_,rfl,tl,rfl,⟨_,SqL.of etl⟩,zycb etl C4 d5 λwb wl H5 S5 ewl C5 fr5 hwl nwl=>?_⟩;have T5:=T4.same S5;have wbl:=C5.len;refine⟨_,rfl,wl,_,rfl,.inl (SqL.of ewl),_,rfl,by omega,by rw[yaa];omega,?_⟩;rw[yac,yaa,wbl];refine zdi (λi ys Hx=>Same H5 Hx∧∃ns:List Int,ys=iM ns∧ns.length≤i∧i≤dss.length∧∀x∈ns,Ex2 λ(k:Nat) (cs:List Crd)=>x=(k:Int)∧dss[k]?=some cs∧cs≠[]) ⟨Same.refl _,[],rfl,yja _,yrb _,λx h=>nomatch h⟩ ?_ ?_ ?_
 ·rintro i ys Hx ⟨_,ns,rfl,hn,hi,_⟩;unfold iM;rw[yaa];exact small (by omega)
 ·rintro i ys Hx hi ⟨S,ns2,rfl,hn,_,hns⟩;have hb:=yqa (show i<wb.length by omega);have hd:=yqa hi;have ai:atI (wb.map V.ref) (0+(i:Int))=some (.ref wb[i]):=by rw[yhg];exact zna (by rw[yhb,hb];rfl)
  refine⟨rfl,_,rfl,_,rfl,wl,_,_,_,rfl,rfl,SqL.of (S _ _ ewl),ai,sz0,λe0 he0=>?_⟩;refine laid he0 λH6 S6 e6=>?_;refine⟨_,_,zwzb ((S.trans S6) _ _ (C5.at_ i _ _ hb hd)),.lst (SqL.of e6) .nil,zdob (λc hc=>g.sm (ywa hd) hc),ztab,_,rfl,?_⟩;rw[zadc];refine ite2 (λc=>?_) (λc=>?_)
  ·have ne:dss[i]≠[]:=λz=>by
    rw[decide_eq_true z] at c;cases c
   refine⟨_,rfl,S.trans S6,ns2++[(i:Int)],?_,by rw[yha];show _+1≤_;omega,hi,λx hx=>?_⟩
   ·unfold iM;rw[yva,yhg];rfl
   ·rcases yua.mp hx with hx|hx
    ·exact hns x hx
    ·exact⟨i,_,yda.mp hx,hd,ne⟩
  ·exact⟨S.trans S6,ns2,rfl,by omega,hi,hns⟩
 rintro ys Hx ⟨S6a,ns2,rfl,hn,_,hns⟩ sl hsl;refine laid hsl λH6 S6b esl=>?_;have S56:=S6a.trans S6b;have T6:=T5.same S56;have B46:But p H4 H6:=But.same (S5.trans S56)
 try dsimp only[zny]
 refine zzv (fun σ Hx=>Ex2 λ(o7 o8:Option V)=>σ=[some (.ref sa),some (.ref p),some (.ref nl),some (.ref dl),some (.ref tl),some (.ref wl),some (.ref sl),o7,o8,none,none,none]∧But p H4 Hx) ?_ ?_
 case refine_2 =>
  intro R hR;refine⟨_,rfl,sz0,λe0 he0=>?_⟩;refine laid he0 λH7 S7 e7=>?_;refine⟨_,_,.lst (SqL.of (S7 _ _ esl)) (zoyb _),.lst (SqL.of e7) .nil,zrib _,ztab,_,rfl,?_⟩;rw[zbdc];have B47:=B46.trans (But.same S7);have T7:=T6.same S7;refine ite2 (λc=>?_) (λc=>iteF (hR _ _ ⟨_,_,rfl,B47⟩));have ne:ns2≠[]:=λz=>by
   rw[decide_eq_true z] at c;cases c
  have nz:0<ns2.length:=ygi.mpr ne;refine⟨_,rfl,p,k3,3,rfl,T7,by omega,by decide,λr H8 r0 r1 B8 T8=>⟨rfl,_,rfl,?_⟩⟩;refine ite2 (λc2=>?_) (λc2=>hR _ _ ⟨_,_,rfl,B47.trans B8⟩);have nsp:sl≠p:=yvc (T5.ne (none_of S6a hsl));have nwp:wl≠p:=yvc (T4.ne hwl);have esl8:=B8 _ _ nsp (S7 _ _ esl);have ewl8:=B8 _ _ nwp ((S56.trans S7) _ _ ewl);refine⟨_,rfl,_,rfl,_,rfl,_,rfl,sl,_,rfl,.inl (SqL.of esl8),p,_,_,rfl,T8,by omega,(by unfold iM;rw[yaa];omega),λr2 H9 r20 r21 B9 T9=>?_⟩;obtain⟨v2,hv2,hm2⟩:=zss (xs:=iM ns2) r20 r21;obtain⟨x2,hx2,rfl⟩:=ysb.mp hm2;obtain⟨kk,cs,rfl,hcs,cne⟩:=hns x2 hx2;have hk:kk<dss.length:=(yma.mp hcs).1;have hwb:=yqa (show kk<wb.length by omega);have wmem:=ywa hwb;have nwb:∀b∈wb,b≠p:=λb hb=>yvc (T4.ne (fr5 b hb));have B59:But p H5 H9:=(But.same (S56.trans S7)).trans (B8.trans B9);have ewl9:=B9 _ _ nwp ewl8;refine⟨sl,_,_,_,rfl,rfl,SqL.of (B9 _ _ nsp esl8),hv2,wl,_,_,_,rfl,rfl,SqL.of ewl9,zna (by rw[yhb,hwb];rfl),?_⟩;have ewd:=C5.at_ kk _ _ hwb hcs;generalize wb[kk]=wd at *;have nwd:=nwb wd wmem;have cs7:=g.c7 cs (ywa hcs);have csn:0<cs.length:=ygi.mpr cne;refine⟨_,rfl,_,rfl,wd,_,rfl,.inl (SqL.of (B59 _ _ nwd ewd)),p,_,_,rfl,T9,by omega,(by rw[znw];omega),λr3 H10 r30 r31 B10 T10=>?_⟩;rw[znw] at r31;obtain⟨j,rfl⟩:∃j:Nat,r3=(j:Int):=⟨r3.toNat,by omega⟩;have hj:j<cs.length:=by omega
  have hcj:=yqa hj;have B510:=B59.trans B10;obtain⟨co,cm⟩:=g.sm (ywa hcs) (ywa hcj);have txj:atI (tx cs) (j:Int)=some (.str cs[j].text):=zna (by unfold tx;rw[yhb,yhb,hcj];rfl);generalize cs[j]=cd at *;have tle:=zshb co;have sz:yxa=16777216:=rfl;refine⟨_,rfl,_,rfl,wd,_,_,_,rfl,rfl,SqL.of (B510 _ _ nwd ewd),txj,_,_,rfl,rfl,(by show cd.text.length+2≤yxa;omega),?_⟩;refine⟨_,rfl,_,rfl,wd,_,_,_,rfl,rfl,SqL.of (B510 _ _ nwd ewd),txj,_,_,rfl,rfl,(by show 1+cd.text.length≤yxa;omega),?_⟩;refine⟨sz5,λl10 hl10=>?_⟩;refine laid hl10 λH11 S11 e11=>?_;have T11:=T10.same S11;have nl10:l10≠p:=yvc (T10.ne hl10);refine⟨_,rfl,p,_,5,rfl,T11,by omega,by decide,λr4 H12 r40 r41 B12 T12=>?_⟩;obtain⟨sv,hsv,di⟩:=zjac (K:=K) co cm r40 r41;refine⟨l10,_,_,_,rfl,rfl,SqL.of (B12 _ _ nl10 e11),hsv,?_⟩;have B512:=B510.trans ((But.same S11).trans B12);have ewd12:=B512 _ _ nwd ewd;refine⟨_,rfl,_,rfl,wd,_,_,j,rfl,rfl,ewd12,zmyb (by rw[znw];exact hj),?_⟩;have B412:But p H4 (upd H12 wd (.lst ((tx cs).set j sv))):=zukb (fr5 wd wmem) ((But.same S5).trans B512);have nww:wl≠wd:=λz=>nwl (by rw[z];exact wmem);have ewl13:upd H12 wd (.lst ((tx cs).set j sv)) wl=some (.lst (wb.map V.ref)):=by rw[zxa nww];exact B512 _ _ nwp ewl
  have DS:DsT K (upd H12 wd (.lst ((tx cs).set j sv))) wl ((dss.map (yil some)).set kk ((cs.map some).set j none)):=by
   refine⟨_,ewl13,zfz (by rw[yaa,yrg,yaa];exact wbl) λi u os hu ho=>?_,by rw[yrg,yaa];exact d5⟩;rw[yhb] at hu;obtain⟨b,hb,rfl⟩:=ymb.mp hu
   by_cases ik:i=kk
   ·subst ik;rw[hwb] at hb;cases hb;rw[ybd (by rw[yaa];exact hk)] at ho;cases ho;refine⟨wd,_,rfl,zfa,zfz (by rw[yrg,znw,yrg,yaa]) λm x o hx ho=>?_,by rw[yrg,yaa];exact cs7⟩
    by_cases mj:m=j
    ·subst mj;rw[ybd (by rw[znw];exact hj)] at hx;rw[ybd (by rw[yaa];exact hj)] at ho;cases hx;cases ho;exact di
    ·rw[ybf (yvc mj)] at hx ho;obtain⟨o',ho',y⟩:=(zdwb (K:=K) λc hm=>g.sm (ywa hcs) hm).get hx;rw[ho] at ho';cases ho';exact y
   ·rw[ybf (yvc ik)] at ho;have nb:b≠wd:=λz=>by
     rw[z] at hb;exact ik ((List.getElem?_inj (yma.mp hb).1 C5.nd).mp (hb.trans hwb.symm))
    rw[yhb] at ho;obtain⟨cs2,hcs2,rfl⟩:=ymb.mp ho;exact⟨b,tx cs2,rfl,by rw[zxa nb];exact B512 _ _ (nwb b (ywa hb)) (C5.at_ i b cs2 hb hcs2),zdwb λc hm=>g.sm (ywa hcs2) hm,by rw[yaa];exact g.c7 cs2 (ywa hcs2)⟩
  refine⟨_,rfl,wl,_,true,rfl,DS,.inl ⟨rfl,_,ywa (ybd (by rw[yaa];exact hk)),ywa (ybd (by rw[yaa];exact hj))⟩,λH13 S13=>⟨rfl,_,rfl,?_⟩⟩;rw[show wd2 true = "card" from rfl,decide_eq_true rfl];exact iteF (hR _ _ ⟨_,_,rfl,B412.trans (But.same S13)⟩)
 rintro σ Hx ⟨o7,o8,rfl,B⟩;have LDx:=LD4.but T4 B hdl;have Cx:=C4.but T4 B;have ntp:tl≠p:=yvc ((T3.same S3).ne htl);have etx:=B _ _ ntp etl;refine⟨_,rfl,dl,dss,rfl,LDx,d5,g.f35,(λc hc=>(g.ok c hc).1),λb H7 hb S7=>⟨_,rfl,?_⟩⟩;have C7:=Cx.same S7;have et7:=S7 _ _ etx;cases b with
 | false =>
  refine iteT ?_;refine⟨_,rfl,tl,_,false,rfl,C7.ds g et7,.inr ⟨rfl,dss,rfl,λo=>absurd (hb.mpr o) (by decide)⟩,λH8 S8=>⟨rfl,?_⟩⟩;rw[show wd2 false = "fight" from rfl,decide_eq_true rfl];exact q H8
 | true =>
 have o:=hb.mp rfl;refine iteF ?_;have LD7:=LDx.same S7;refine⟨_,rfl,tl,rfl,⟨_,SqL.of et7⟩,zycb et7 C7 d5 λhs hl H9 S9 ehl C9 fr9 hhl nhl=>?_⟩;refine⟨_,rfl,zbjb (C9.ds g ehl) o λfv H10 S10 BG=>?_⟩;have S710:=S9.trans S10;have shp:=zlmb (dss:=dss) λcs hc c hm=>g.sm hc hm;have C10:=C9.same S10;have Ct10:=C7.same S710;refine⟨_,rfl,_,rfl,_,_,.lst (SqL.of (S10 _ _ ehl)) (CpT.DVs C10.len C10.at_),.lst (SqL.of (S710 _ _ et7)) (CpT.DVs Ct10.len Ct10.at_),shp,shp,_,rfl,?_⟩;rw[SeqAt.eqv_refl _ (ycn shp)];refine iteF ?_;refine⟨_,rfl,_,rfl,fv,dl,dss,rfl,BG.gd,LD7.same S710,o,λH11 S11=>⟨_,rfl,iteF ?_⟩⟩;have S1011:=S10.trans S11;refine⟨_,rfl,hl,rfl,⟨_,SqL.of (S1011 _ _ ehl)⟩,?_⟩;refine zcub (xs:=hs.map V.ref) (λi σ Hx=>∃o7:Option V,σ=[some (.ref sa),some (.ref p),some (.ref nl),some (.ref dl),some (.ref tl),some (.ref wl),some (.ref sl),o7,o8,some (.ref hl),some fv,none]∧ButL hs H11 Hx∧∀b∈hs,∃xs,Hx b=some (.lst xs)) ⟨_,rfl,λ_ _ _ e=>e,λb m=>(C10.same S11).mem m⟩ (λi σ Hx _ ⟨_,_,z,_⟩=>SqL.of (z _ _ nhl (S1011 _ _ ehl))) ?_ ?_
 ·rintro i v σ Hx hv ⟨o7,rfl,bl,ml⟩;rw[yhb] at hv;obtain⟨b,hb2,rfl⟩:=ymb.mp hv;have bm:=ywa hb2;obtain⟨xs,eb⟩:=ml b bm;refine⟨_,rfl,.inl ⟨rfl,_,SqL.of eb⟩,b,_,rfl,rfl,eb,_,rfl,λa o' na ea=>?_,λb' m'=>?_⟩
  ·rw[zxa λz=>na (by rw[z];exact bm)];exact bl a o' na ea
  ·by_cases e:b'=b
   ·rw[e];exact⟨_,zfa⟩
   ·rw[zxa e];exact ml b' m'
 rintro σ H12 ⟨o7,rfl,bl,ml⟩;have S712:Same H7 H12:=λa o' e=>bl a o' (λm=>by rw[fr9 a m] at e;cases e) ((S710.trans S11) _ _ e);have GD12:GdT T.zve T.zyb H12 fv dss:=by
  obtain⟨t,ca,oa,tv,cvs,e,n1,n2,n3,h1,h2,h3,h4,h5⟩:=BG;exact BgT.far (H:=H9) (H1:=H11) (bs:=hs) (λb m=>C9.mem m) (λb m=>(C10.same S11).mem m) bl ⟨t,ca,oa,tv,cvs,e,n1,n2,n3,S11 _ _ h1,S11 _ _ h2,h3.imp λz=>z.same S11,S11 _ _ h4,h5.kp (Kp.same S11)⟩
 have et12:=S712 _ _ et7;have C12:=C7.same S712;refine⟨_,rfl,tl,rfl,⟨_,SqL.of et12⟩,zycb et12 C12 d5 λas al2 H13 S13 eal C13 fr13 hal nal=>?_⟩;refine zbjb (C13.ds g eal) o λav H14 S14 BG2=>?_;obtain⟨t2,ca2,oa2,tv2,cvs2,rfl,n1,n2,n3,f1,f2,f3,f4,f5⟩:=BG2;refine⟨_,rfl,t2,_,_,_,rfl,rfl,SqT.of f1,zna (j:=1) rfl,.inl ⟨rfl,_,SqL.of f4⟩,oa2,_,_,rfl,rfl,f4,small (by unfold iM;rw[yaa,zvbb];have:=o.2.2.1;omega),?_⟩;have S15:=zwf S14 n2 (.lst (iM (own (lens dss) dss.length)++[.int 9]));have K15:Kp H14 (upd H14 oa2 (.lst (iM (own (lens dss) dss.length)++[.int 9]))):=Kp.put f4;have c15:∃xs,upd H14 oa2 (.lst (iM (own (lens dss) dss.length)++[.int 9])) ca2=some (.lst xs):=by
  by_cases e:ca2=oa2
  ·rw[e];exact⟨_,zfa⟩
  ·rw[zxa e];exact⟨_,f2⟩
 generalize upd H14 oa2 (.lst (iM (own (lens dss) dss.length)++[.int 9]))=H15 at *;obtain⟨xs15,c15⟩:=c15;refine⟨_,rfl,t2,_,_,_,rfl,rfl,SqT.of (K15.t f1),zna (j:=0) rfl,.inl ⟨rfl,_,SqL.of c15⟩,ca2,_,rfl,rfl,c15,?_⟩;have S16:=zwf S15 n1 (.lst []);generalize upd H15 ca2 (.lst [])=H16 at *;have S1216:=S13.trans S16;have S716:=S712.trans S1216;refine⟨_,rfl,_,rfl,fv,dl,dss,rfl,GD12.same S1216,LD7.same S716,o,λH17 S17=>⟨_,rfl,iteT ?_⟩⟩;have S717:=S716.trans S17;refine⟨_,rfl,tl,rfl,⟨_,SqL.of (S717 _ _ et7)⟩,zycb (S717 _ _ et7) (C7.same S717) d5 λzs zl H18 S18 ezl C18 _ _ _=>?_⟩;refine zbjb (C18.ds g ezl) o λzv H19 S19 BG3=>?_;exact⟨_,rfl,zv,dl,dss,rfl,BG3.gd,LD7.same (S717.trans (S18.trans S19)),o,λH20 _=>q H20⟩
end
def mkT {K:yba}{h:Heap}{mg:Str->Option Value}(X:K.In h)(G:h.Ns yfb mg){C_Words:Addr}{C_Whom:Addr}{C_Card:Addr}{C_Fight:Addr}{E_NoCard:Addr}{E_NoFight:Addr}{E_FightError:Addr}{A_NotNow:Addr}{A_NotSame:Addr}{A_NoRow:Addr}{t_LETTERS:Tok}{t_FIGURES:Tok}{t_MOST_WORDS:Tok}{A_PARTS:Addr}{t_MOST_RULES:Tok}{A_SORTS:Addr}{A_CHANGES:Addr}{A_WHEN_KINDS:Addr}{A_DEED_KINDS:Addr}{A_PLAYER_KINDS:Addr}{A_TURNS:Addr}{t_FEWEST_PLAYERS:Tok}{t_MOST_PLAYERS:Tok}{t_MOST_CARDS:Tok}{t_MOST_HOLDS:Tok}{t_FIRST_POINTS:Tok}{t_FIRST_HAND:Tok}{t_SCORES:Tok}{t_GONE:Tok}{t_TURN_COINS:Tok}(tf:Tf K mg)
  (zoub:yjb K yfb "Words" = some (some (.ref C_Words)))
  (zzsb:yxe K C_Words ypj=true)
  (zytb:yhf K C_Words=true)
  (zusb:ypg K C_Words=true)
  (zfsb:ybb K (.ref C_Words) "__setattr__" = some (some (.builtin "object.__setattr__")))
  (y_Words___init__:If K C_Words "__init__" "Words.__init__" zmj)
  (y_Words_take:Mf K C_Words "take" "Words.take" znn)
  (y_Words_take_one_of:Mf K C_Words "take_one_of" "Words.take_one_of" zng)
  (y_Words_take_name:Mf K C_Words "take_name" "Words.take_name" zyh)
  (y_Words_take_number:Mf K C_Words "take_number" "Words.take_number" zog)
  (y_Words_finish:Mf K C_Words "finish" "Words.finish" znl)
  (zle:ybb K (.ref C_Words) "words" = some none)
  (zrd:ybb K (.ref C_Words) "place" = some none)
  (znzb:yjb K yfb "Whom" = some (some (.ref C_Whom)))
  (zuxb:yxe K C_Whom ypj=true)
  (ztyb:yhf K C_Whom=true)
  (zqxb:ypg K C_Whom=true)
  (zgxb:ybb K (.ref C_Whom) "__setattr__" = some (some (.builtin "object.__setattr__")))
  (y_Whom___init__:If K C_Whom "__init__" "Whom.__init__" zck)
  (y_Whom_told:Mf K C_Whom "told" "Whom.told" znp)
  (zjk:ybb K (.ref C_Whom) "word" = some none)
  (zxg:ybb K (.ref C_Whom) "value" = some none)
  (zbj:ybb K (.ref C_Whom) "parts" = some none)
  (q1_Whom:ybb K (.ref C_Whom) "__class__" = some (some (.builtin "object.__class__")))
  (q2_Whom:ygj K (.builtin "object.__class__") "__get__" = some (some (.builtin "getset_descriptor.__get__")))
  (q3_Whom:yhn K (.builtin "object.__class__")=some true)
  (q4_Whom:yuo K C_Whom (.type "object")=some true)
  (q5_Whom:yna K (.ref C_Whom) (.type "str")=some false)
  (q6_Whom:yna K (.ref C_Whom) (.type "int")=some false)
  (q7_Whom:yna K (.ref C_Whom) (.type "tuple")=some false)
  (q8_Whom:yna K (.ref C_Whom) (.type "list")=some false)
  (q9_Whom:yna K (.type "str") (.ref C_Whom)=some false)
  (q10_Whom:yna K (.type "int") (.ref C_Whom)=some false)
  (zozb:yjb K yfb "Card" = some (some (.ref C_Card)))
  (zvxb:yxe K C_Card ypj=true)
  (zuyb:yhf K C_Card=true)
  (zrxb:ypg K C_Card=true)
  (zixb:ybb K (.ref C_Card) "__setattr__" = some (some (.builtin "object.__setattr__")))
  (y_Card___init__:If K C_Card "__init__" "Card.__init__" zdk)
  (zbi:ybb K (.ref C_Card) "name" = some none)
  (zci:ybb K (.ref C_Card) "cost" = some none)
  (zyg:ybb K (.ref C_Card) "force" = some none)
  (zlf:ybb K (.ref C_Card) "marks" = some none)
  (zkf:ybb K (.ref C_Card) "rules" = some none)
  (zpub:yjb K yfb "Fight" = some (some (.ref C_Fight)))
  (zatb:yxe K C_Fight ypj=true)
  (zztb:yhf K C_Fight=true)
  (zvsb:ypg K C_Fight=true)
  (zgsb:ybb K (.ref C_Fight) "__setattr__" = some (some (.builtin "object.__setattr__")))
  (y_Fight___init__:If K C_Fight "__init__" "Fight.__init__" znj)
  (zai:ybb K (.ref C_Fight) "all_cards" = some none)
  (zoh:ybb K (.ref C_Fight) "all_owners" = some none)
  (zup:ybb K (.ref C_Fight) "now" = some none)
  (zpj:ybb K (.ref C_Fight) "last_log" = some none)
  (zwn:ybb K (.ref C_Fight) "past" = some none)
  (zok:yjb K yfb "ValueError" = some none)
  (zgmb:yjb K yfb "all" = some none)
  (zkw:yjb K yfb "bool" = some none)
  (zak:yjb K yfb "enumerate" = some none)
  (zdbb:yjb K yfb "int" = some none)
  (zab:yjb K yfb "isinstance" = some none)
  (zxd:yjb K yfb "len" = some none)
  (zzm:yjb K yfb "list" = some none)
  (zuh:yjb K yfb "range" = some none)
  (zoo:yjb K yfb "reversed" = some none)
  (zmrb:yjb K yfb "set" = some none)
  (zyq:yjb K yfb "sorted" = some none)
  (zvo:yjb K yfb "str" = some none)
  (ztdb:yjb K yfb "sum" = some none)
  (zde:yjb K yfb "tuple" = some none)
  (zlrb:yjb K yfb "zip" = some none)
  (aE_NoCard:yjb K yfb "NoCard" = some (some (.ref E_NoCard)))
  (xE_NoCard:L2.ExcC K E_NoCard)
  (n1E_NoCard:ybb K (.ref E_NoCard) "__getattribute__" = some (some (.builtin "BaseException.__getattribute__")))
  (n2E_NoCard:ybb K (.ref E_NoCard) "__getattr__" = some none)
  (n3E_NoCard:ybb K (.ref E_NoCard) "__class__" = some (some (.builtin "object.__class__")))
  (n4E_NoCard:yeh K (.ref E_NoCard) (.type "BaseException")=some true)
  (n5E_NoCard:yeh K (.ref E_NoCard) (.type "object")=some true)
  (n6E_NoCard:(yui K E_NoCard).isSome=true)
  (aE_NoFight:yjb K yfb "NoFight" = some (some (.ref E_NoFight)))
  (xE_NoFight:L2.ExcC K E_NoFight)
  (n1E_NoFight:ybb K (.ref E_NoFight) "__getattribute__" = some (some (.builtin "BaseException.__getattribute__")))
  (n2E_NoFight:ybb K (.ref E_NoFight) "__getattr__" = some none)
  (n3E_NoFight:ybb K (.ref E_NoFight) "__class__" = some (some (.builtin "object.__class__")))
  (n4E_NoFight:yeh K (.ref E_NoFight) (.type "BaseException")=some true)
  (n5E_NoFight:yeh K (.ref E_NoFight) (.type "object")=some true)
  (n6E_NoFight:(yui K E_NoFight).isSome=true)
  (aE_FightError:yjb K yfb "FightError" = some (some (.ref E_FightError)))
  (xE_FightError:L2.ExcC K E_FightError)
  (n1E_FightError:ybb K (.ref E_FightError) "__getattribute__" = some (some (.builtin "BaseException.__getattribute__")))
  (n2E_FightError:ybb K (.ref E_FightError) "__getattr__" = some none)
  (n3E_FightError:ybb K (.ref E_FightError) "__class__" = some (some (.builtin "object.__class__")))
  (n4E_FightError:yeh K (.ref E_FightError) (.type "BaseException")=some true)
  (n5E_FightError:yeh K (.ref E_FightError) (.type "object")=some true)
  (n6E_FightError:(yui K E_FightError).isSome=true)
  (ziw:yjb K yfb "NotNow" = some (some (.ref A_NotNow)))
  (zis:yjb K yfb "NotSame" = some (some (.ref A_NotSame)))
  (zrcb:yjb K yfb "NoRow" = some (some (.ref A_NoRow)))
  (u_NoCard_FightError:L2.subIn K E_NoCard E_FightError=true)
  (v_NoCard_NoCard:yna K (.ref E_NoCard) (.ref E_NoCard)=some true)
  (v_NoCard_ValueError:yna K (.ref E_NoCard) (.type "ValueError")=some true)
  (v_NoCard_NotNow:yna K (.ref E_NoCard) (.ref A_NotNow)=some false)
  (v_NoCard_NotSame:yna K (.ref E_NoCard) (.ref A_NotSame)=some false)
  (v_NoCard_NoFight:yna K (.ref E_NoCard) (.ref E_NoFight)=some false)
  (v_NoCard_NoRow:yna K (.ref E_NoCard) (.ref A_NoRow)=some false)
  (u_NoFight_FightError:L2.subIn K E_NoFight E_FightError=true)
  (v_NoFight_NoCard:yna K (.ref E_NoFight) (.ref E_NoCard)=some false)
  (v_NoFight_ValueError:yna K (.ref E_NoFight) (.type "ValueError")=some true)
  (v_NoFight_NotNow:yna K (.ref E_NoFight) (.ref A_NotNow)=some false)
  (v_NoFight_NotSame:yna K (.ref E_NoFight) (.ref A_NotSame)=some false)
  (v_NoFight_NoFight:yna K (.ref E_NoFight) (.ref E_NoFight)=some true)
  (v_NoFight_NoRow:yna K (.ref E_NoFight) (.ref A_NoRow)=some false)
  (zjs:yjb K yfb "LETTERS" = some (some (.str zkz t_LETTERS)))
  (zks:yjb K yfb "FIGURES" = some (some (.str zlz t_FIGURES)))
  (zfl:yjb K yfb "MOST_WORDS" = some (some (.int 9 t_MOST_WORDS)))
  (zit:yjb K yfb "PARTS" = some (some (.ref A_PARTS)))
  (zlcb:ydr (ymi λb=>K.lookup b) (λb=>K.lookup b) A_PARTS zph=true)
  (zgl:yjb K yfb "MOST_RULES" = some (some (.int 3 t_MOST_RULES)))
  (zpcb:yjb K yfb "SORTS" = some (some (.ref A_SORTS)))
  (zkcb:TupK K A_SORTS ["hold","when","instead","may"])
  (zls:yjb K yfb "CHANGES" = some (some (.ref A_CHANGES)))
  (zes:TupK K A_CHANGES ["mute","steal","gain","lack","be","more","less","per"])
  (zel:yjb K yfb "WHEN_KINDS" = some (some (.ref A_WHEN_KINDS)))
  (zal:TupK K A_WHEN_KINDS ["come","leave","hurt","gain","lack","lose","score","draw"])
  (zej:yjb K yfb "DEED_KINDS" = some (some (.ref A_DEED_KINDS)))
  (zcj:TupK K A_DEED_KINDS ["leave","hurt","gain","lack","lose","score","draw"])
  (zsi:yjb K yfb "PLAYER_KINDS" = some (some (.ref A_PLAYER_KINDS)))
  (zqi:TupK K A_PLAYER_KINDS ["lose","score","draw"])
  (zocb:yjb K yfb "TURNS" = some (some (.ref A_TURNS)))
  (zjcb:TabK K A_TURNS zqkb)
  (zyf:yjb K yfb "FEWEST_PLAYERS" = some (some (.int 2 t_FEWEST_PLAYERS)))
  (zti:yjb K yfb "MOST_PLAYERS" = some (some (.int 4 t_MOST_PLAYERS)))
  (zjl:yjb K yfb "MOST_CARDS" = some (some (.int 16 t_MOST_CARDS)))
  (zil:yjb K yfb "MOST_HOLDS" = some (some (.int 8 t_MOST_HOLDS)))
  (zui:yjb K yfb "FIRST_POINTS" = some (some (.int 20 t_FIRST_POINTS)))
  (zdj:yjb K yfb "FIRST_HAND" = some (some (.int 3 t_FIRST_HAND)))
  (zqcb:yjb K yfb "SCORES" = some (some (.int 1 t_SCORES)))
  (znqb:yjb K yfb "GONE" = some (some (.int 2 t_GONE)))
  (zxn:yjb K yfb "TURN_COINS" = some (some (.int 5 t_TURN_COINS))):Tx K mg :=
 { tf with zfc:=C_Words,zpib:=yxb X G zoub,zjb:=⟨zzsb,zytb,zusb,zfsb⟩,zlc:=y_Words___init__,zsc:=y_Words_take,zua:=y_Words_take_one_of,zsb:=y_Words_take_name,zbb:=y_Words_take_number,zcd:=y_Words_finish,zle:=zle,zrd:=zrd,zyb:=C_Whom,zxpb:=yxb X G znzb,zrg:=⟨zuxb,ztyb,zqxb,zgxb⟩,zfd:=y_Whom___init__,ztb:=y_Whom_told,zjk:=zjk,zxg:=zxg,zbj:=zbj,zyfb:=⟨q1_Whom,q2_Whom,q3_Whom,q4_Whom,q5_Whom,q6_Whom,q7_Whom,q8_Whom,q9_Whom,q10_Whom⟩,zve:=C_Card,zjvb:=yxb X G zozb,zqe:=⟨zvxb,zuyb,zrxb,zixb⟩,zgd:=y_Card___init__,zbi:=zbi,zci:=zci,zyg:=zyg,zlf:=zlf,zkf:=zkf,zql:=C_Fight,zypb:=yxb X G zpub,ziub:=⟨zatb,zztb,zvsb,zgsb⟩,zwc:=y_Fight___init__,zai:=zai,zoh:=zoh,zup:=zup,zpj:=zpj,zwn:=zwn,zok:=ykc X G zok,zgmb:=ykc X G zgmb,zkw:=ykc X G zkw,zak:=ykc X G zak,zdbb:=ykc X G zdbb,zab:=ykc X G zab,zxd:=ykc X G zxd,zzm:=ykc X G zzm,zuh:=ykc X G zuh,zoo:=ykc X G zoo,zmrb:=ykc X G zmrb,zyq:=ykc X G zyq,zvo:=ykc X G zvo,ztdb:=ykc X G ztdb,zde:=ykc X G zde,zlrb:=ykc X G zlrb,e_NoCard:=⟨E_NoCard,yxb X G aE_NoCard,xE_NoCard,⟨n1E_NoCard,n2E_NoCard,n3E_NoCard,n4E_NoCard,n5E_NoCard,n6E_NoCard⟩⟩,e_NoFight:=⟨E_NoFight,yxb X G aE_NoFight,xE_NoFight,⟨n1E_NoFight,n2E_NoFight,n3E_NoFight,n4E_NoFight,n5E_NoFight,n6E_NoFight⟩⟩,e_FightError:=⟨E_FightError,yxb X G aE_FightError,xE_FightError,⟨n1E_FightError,n2E_FightError,n3E_FightError,n4E_FightError,n5E_FightError,n6E_FightError⟩⟩,zkl:=A_NotNow,ziw:=yxb X G ziw,zkj:=A_NotSame,zis:=yxb X G zis,zbo:=A_NoRow,zrcb:=yxb X G zrcb,u_NoCard_FightError:=u_NoCard_FightError,v_NoCard_NoCard:=v_NoCard_NoCard,v_NoCard_ValueError:=v_NoCard_ValueError,v_NoCard_NotNow:=v_NoCard_NotNow,v_NoCard_NotSame:=v_NoCard_NotSame,v_NoCard_NoFight:=v_NoCard_NoFight,v_NoCard_NoRow:=v_NoCard_NoRow,u_NoFight_FightError:=u_NoFight_FightError,v_NoFight_NoCard:=v_NoFight_NoCard,v_NoFight_ValueError:=v_NoFight_ValueError,v_NoFight_NotNow:=v_NoFight_NotNow,v_NoFight_NotSame:=v_NoFight_NotSame,v_NoFight_NoFight:=v_NoFight_NoFight,v_NoFight_NoRow:=v_NoFight_NoRow,zufb:=t_LETTERS,zjs:=yxb X G zjs,zvfb:=t_FIGURES,zks:=yxb X G zks,zdv:=t_MOST_WORDS,zfl:=yxb X G zfl,zaq:=A_PARTS,zit:=yxb X G zit,zlcb:=zlcb,zfv:=t_MOST_RULES,zgl:=yxb X G zgl,ziz:=A_SORTS,zpcb:=yxb X G zpcb,zkcb:=zkcb,zco:=A_CHANGES,zls:=yxb X G zls,zes:=zes,zjj:=A_WHEN_KINDS,zel:=yxb X G zel,zal:=zal,znf:=A_DEED_KINDS,zej:=yxb X G zej,zcj:=zcj,zvf:=A_PLAYER_KINDS,zsi:=yxb X G zsi,zqi:=zqi,zldb:=A_TURNS,zocb:=yxb X G zocb,zjcb:=zjcb,zcn:=t_FEWEST_PLAYERS,zyf:=yxb X G zyf,zdp:=t_MOST_PLAYERS,zti:=yxb X G zti,ziv:=t_MOST_CARDS,zjl:=yxb X G zjl,zgv:=t_MOST_HOLDS,zil:=yxb X G zil,zep:=t_FIRST_POINTS,zui:=yxb X G zui,zjv:=t_FIRST_HAND,zdj:=yxb X G zdj,ztlb:=t_SCORES,zqcb:=yxb X G zqcb,zlvb:=t_GONE,znqb:=yxb X G znqb,zcv:=t_TURN_COINS,zxn:=yxb X G zxn }
theorem all_mk {l:yln}{w:World}{K:yba}{mg:Str->Option Value}{fa:Addr}(hfa:mg "law" = some (.ref fa))(T:Tx K mg) :
  ∃fd:yne,(∀(s:Shared) (v:Value),ypp s fd ⟨[v],[]⟩ [("_law_script",v)])∧∀base:Heap,K.In base->base.Ns yfb mg->FnOk l.prog w K mg base CX0 17 fa fd ["_law_script"] (zyrb K):=by
 cases zdcc T.zxnb hfa;refine⟨_,(λs v=>?_),λbase kb _=>zrbc T kb⟩;obtain⟨oc,od,kV,doc,pm,an,cdv,ct,osl,e,lk,hcd⟩:=T.zxnb.F.ex;rw[e];exact .of_eq rfl
theorem walk {l:yln}{q:ybc}{loose:List Str}{XP:(Str->Option Value)->Heap->Prop}{YP:World->Heap->Prop}{d:DefRec}{K:Params->yba}(hn:l.most=some 63)(hdf:d.params.defaults=[])
  (hY:∀(w:World) (h:Heap),YP w h->(K w.params).In h)
  (F:∀(w:World) (mg:Str->Option Value) fa (h:Heap),(K w.params).In h->h.Ns yfb mg->mg d.name=some (.ref fa) →
   ∃fd:yne,(∀(s:Shared) (u:Value),ypp s fd ⟨[u],[]⟩ [("_law_script",u)])∧∀base:Heap,(K w.params).In base->base.Ns yfb mg->FnOk l.prog w (K w.params) mg base CX0 17 fa fd ["_law_script"] (zyrb (K w.params))) :
  ykr q loose XP YP l.row.toRowW d [] (λf vs=>yhr f vs) :=
 L2.zcwb (n:=63) (k:=17) (x:="_law_script") (CX:=λ_=>CX0) (sp:=λw=>zyrb (K w.params)) hn (by decide) hdf ⟨rfl,by decide,by decide⟩ hY F (λ_ _ a ns hl hO hS=>⟨a,ns,rfl,SqF.of hO hS,hl,λ_=>rfl⟩) λ_ _ _ _ _ z=>z
end K25
namespace PySem.W.Fast
def tw890359507104204031:=()
def tw639430236661263387:=()
def tw3719633002262912593:=()
def tw10158665227589544719:=()
def tw14873226590651926582:=()
def tw598471396771614158:=()
def tw5754298251608703524:=()
def tw3055572615819498289:=()
def tw10590544804008445719:=()
def tw14293845297567180530:=()
def tw17581837610807857643:=()
def tw7796044230968197147:=()
def tw10321489912492634014:=()
def tw10126296319081280027:=()
def tw1044197468473567305:=()
def tw7753975663019290284:=()
def tw6793348360082775274:=()
def tw10438012620149000110:=()
def tw17391387910359082782:=()
def tw12624801116114492203:=()
def tw16139337511764746804:=()
def tw14639763777600724648:=()
def tw5247121119089326445:=()
def tw15796885808718484513:=()
def tw3535038245647040050:=()
def tw7590737418392358077:=()
def tw11612484922796400455:=()
def tw678299499740088827:=()
def tw16048503860750539763:=()
def tw17160748584775900200:=()
def tw3841800565036967550:=()
def tw18169643762141100735:=()
def tw2838319913257445287:=()
def tw7810201301430453936:=()
def tw2865364869679333355:=()
def tw15035801275041936827:=()
def tw13980902234219296514:=()
def tw9221106029591549800:=()
def tw9256222371014944228:=()
def tw1323587523482484390:=()
def tw15594581541189842181:=()
def tw8112074534321615939:=()
def tw18233797671967674644:=()
def tw13479808395645726640:=()
def tw7416791739034911728:=()
def tw17896594310790589320:=()
def tw13024554018326897995:=()
def tw12177701588058633106:=()
def tw5542253971614346241:=()
def tw2774752421237861688:=()
def tw14197285329361820829:=()
def tw12474550657288018626:=()
def tw15595495245474683484:=()
def tw9994024290301052992:=()
def tw15242103001504123300:=()
def tw10814822511478270366:=()
def tw12272594681275582413:=()
def tw14233126656840932261:=()
def tw7462923832700669248:=()
def tw2247820396139425244:=()
def tw12177562299983165962:=()
def tw5292849982757296620:=()
def tw18080197359309893783:=()
def tw10810369918950415099:=()
def tw17030503421774734400:=()
def tw8474352474413806328:=()
def tw17906867862004741788:=()
def tw16253242303631795342:=()
def tw9236660571473540636:=()
def tw3690362462739629537:=()
def tw13230027188385198120:=()
def tw17496951936712275140:=()
def tw6005484719529326358:=()
def tw4510763116202626546:=()
def tw16657402368896355592:=()
def tw5752537369411037913:=()
def tw3592629493218560455:=()
def tw7222258059729742982:=()
def tw11293468465048672617:=()
def tw4604474240722431742:=()
def tw3582465322789423993:=()
def tw17357905146699315731:=()
def tw13407383751026688948:=()
def tw6366340872019951284:=()
def tw2244604738171091:=()
def tw16637205494315441417:=()
def tw16785860952085263:=()
def tw17056877927969918546:=()
def tw3560800976161771141:=()
def tw10601445237091822606:=()
def tw15278276678892223709:=()
def tw13870377746427931971:=()
def tw15028756418590179663:=()
def tw853782357428251515:=()
def tw9878140009051882832:=()
def tw7246307477717488996:=()
def tw4657247582812251209:=()
def tw10875029530474307835:=()
def tw11915163048983369000:=()
def tw11047450891399562453:=()
def tw13644212782847652796:=()
def tw1827433195114830454:=()
def tw7643360496701982791:=()
def tw8040213020880294431:=()
def tw55146722151048443:=()
def tw11843749942977794070:=()
def tw15094166354026731805:=()
def tw6743238335285467063:=()
def tw1954757195094080523:=()
def tw15780005227238212676:=()
def tw6277826442613289984:=()
def tw4696235764472645408:=()
def tw16744491354612739374:=()
def tw7344992836843432428:=()
def tw3605711098619873320:=()
def tw11297085374816713261:=()
def tw10528213681296544807:=()
def tw3458609035191674554:=()
def tw131699451723331320:=()
def tw12727125936943892673:=()
def tw9178853806137997888:=()
def tw7025389740720896870:=()
def tw11767042993232738642:=()
def tw14164085737639286517:=()
def tw13260753157727290480:=()
def tw2251489863739922777:=()
def tw394834599285195428:=()
def tw4901275578275248517:=()
def tw2693162327832291920:=()
def tw15102848590386320819:=()
def tw9519176176708477799:=()
def tw11512374077961693191:=()
def tw5312102654636409018:=()
def tw2248152516773124788:=()
def tw4323661419253300104:=()
def tw13420763066150296929:=()
def tw11900106953919612694:=()
def tw17035590350959303264:=()
def tw17078765268936184756:=()
def tw3469547642811915250:=()
def tw13781492523533134726:=()
def tw17240692484755055207:=()
def tw18113973437628623776:=()
def tw11632496696855155523:=()
def tw15672694443940707688:=()
def tw8880028384279243837:=()
def tw7469695592656074734:=()
def tw8785593406359257340:=()
def tw12144794510458629527:=()
def tw118932826375454672:=()
def tw12274598414247297164:=()
def tw10449782389871740846:=()
def tw9429012527369683036:=()
def tw4266919012084398897:=()
def tw5272337369513680131:=()
def tw8037377001066773883:=()
def tw1574680816657812114:=()
def tw11744198702488419411:=()
def tw8579439675766073411:=()
def tw15897673208349604844:=()
def tw10388361194603361117:=()
def tw4868082412571568694:=()
def tw2987327539357996225:=()
def tw10231280346383507769:=()
def tw14349661694443254738:=()
def tw9897241326107088849:=()
def tw11992689162791240740:=()
def tw1924731473776958103:=()
def tw5748884319904955190:=()
def tw269143310182751642:=()
def tw4601718485086870388:=()
def tw13770745529569481902:=()
def tw13992110611477309276:=()
def tw15690293760844981126:=()
def tw15861771187503270614:=()
def tw12471649615786618722:=()
def tw11252908987331195860:=()
def tw4820854807517562750:=()
def tw5292709153967725165:=()
def tw13547544378978782441:=()
def tw8838493139408961713:=()
def tw2948167015342763073:=()
def tw12265832645478368068:=()
def tw7538956359040530559:=()
def tw9128606048869298652:=()
def tw18278640447873511298:=()
def tw11793260280319871958:=()
def tw5762705133101514886:=()
def tw15561620838082859529:=()
def tw10193783093202498809:=()
def tw17940504757857532914:=()
def tw15306400735320661848:=()
def tw6545595021345429439:=()
def tw13594021396118040582:=()
def tw8330712126405662780:=()
def tw2467280579220469057:=()
def tw15471557894570286366:=()
def tw8704907020238346411:=()
def tw453602335790913975:=()
def tw18233613733962661329:=()
def tw10298093490401721915:=()
def tw1689008916484717567:=()
def tw14654909665700561356:=()
def tw7666330364617132569:=()
def tw16453241370069661800:=()
def tw6578774217063198982:=()
def tw8563301884979275986:=()
def tw18223650170355062041:=()
def tw1322723124796030629:=()
def tw15970200378001115351:=()
def tw13891689729799844805:=()
def tw11030872394936236391:=()
def tw6688833039972033359:=()
def tw4376496708486996116:=()
def tw10711654800846049979:=()
def tw15139808776129885353:=()
def tw6679342421178496971:=()
def tw9250771703318838851:=()
def tw5181632401073540568:=()
def tw12021076358978663558:=()
def tw18061334616797636708:=()
def tw9501302380306987610:=()
def tw8165242484099085214:=()
def tw2928189159801390943:=()
def tw5662804242821817863:=()
def tw5097227437375540166:=()
def tw8583691634992854918:=()
def tw8952038197502714934:=()
def tw8271372030223183576:=()
def tw4104825204885153765:=()
def tw4673066428331544261:=()
def tw8467330337525261661:=()
def tw3515891755432721759:=()
def tw3068926196495500687:=()
def tw16975240209510631417:=()
def tw4242246351372502157:=()
def tw9660924973714793638:=()
def tw7469260394315119663:=()
def tw10265112502862695484:=()
def tw2062278835835502163:=()
def tw5582874165658894524:=()
def tw3672735712531435011:=()
def tw4238177157349452123:=()
def tw9367760586057921598:=()
def tw18307262272139162105:=()
def tw7289199584309001092:=()
def tw2204555866053205246:=()
def tw13213816907522627323:=()
def tw6333534317699245554:=()
def tw5539747163769359476:=()
def tw9836967281656790377:=()
def tw17425392961021478018:=()
def tw4694732317909429836:=()
def tw4770449013013600199:=()
def tw16675377503828058824:=()
def tw16441757472239084550:=()
def tw9351446020565307339:=()
def tw9425248891705027890:=()
def tw17630574832689572868:=()
def tw9829230368535405605:=()
def tw15752597406921791697:=()
def tw13530079173504077991:=()
def tw3536829296304425063:=()
def tw15098776773764701339:=()
def tw7044760367967871268:=()
def tw8794641707180882145:=()
def tw17744433067002778104:=()
def tw15145098665246418606:=()
def tw5942776177162981539:=()
def tw7860897549659912262:=()
def tw8478757708781949310:=()
def tw12695398684594078729:=()
def tw17181645067492529867:=()
def tw762815398751712199:=()
def tw16375484792000411502:=()
def tw18340348704513016863:=()
def tw7606802923918438494:=()
def tw17048891137116404072:=()
def tw6469319393515403693:=()
def tw12660809740472542887:=()
def tw16557618570513589683:=()
def tw12387576839285803853:=()
def tw3039031544133305777:=()
def tw13647558352716290459:=()
def tw17452654218289332768:=()
def tw5945627865907673783:=()
def tw11237628941424089030:=()
def tw9324099696253629623:=()
def tw4614688599042193918:=()
def tw3901788067209241702:=()
def tw7536091872490835068:=()
def tw10108613663714457121:=()
def tw8909918787236209385:=()
def tw18143824363256667675:=()
def tw11793365305008478332:=()
def tw2695058733781468198:=()
def tw2387562049280522967:=()
def tw6542329573182276641:=()
def tw14394165253059497579:=()
def tw13159251829027071758:=()
def tw12939332309308595249:=()
def tw10545815298936988232:=()
def tw151899244528638253:=()
def tw5336708514266436992:=()
def tw15756866828913656782:=()
def tw12274674155590843483:=()
def tw5056425763791779440:=()
def tw633653555582829786:=()
def tw5050874941358511386:=()
def tw1562897350055061199:=()
def tw3889535331357065258:=()
def tw13306749098578230318:=()
def tw11455868638931486104:=()
def tw18364657093923186467:=()
def tw3015475415247927707:=()
def tw9946732337904634395:=()
def tw4199163596188925974:=()
def tw12128037586362869947:=()
def tw2627258611766633859:=()
def tw851784147444896103:=()
def tw14180680336544691903:=()
def tw14041683679530587736:=()
def tw14976996177602224547:=()
def tw12355463041161331439:=()
def tw10187513053624410854:=()
def tw13013295069565014853:=()
def tw16191787778783629252:=()
def tw15085505695561419360:=()
def tw10903276722084169373:=()
def tw17209029584223652185:=()
def tw15187274679881702201:=()
def tw2680006034988404704:=()
def tw650362960969480296:=()
def tw5221516560112452714:=()
def tw11188113343883193423:=()
def tw2958328675801550758:=()
def tw13151566806180039427:=()
def tw8621055169602238277:=()
def tw16513286799351806692:=()
def tw9432217218041650895:=()
def tw7574057098183458229:=()
def tw3803552131724581488:=()
def tw6306352150534312240:=()
def tw4317735796952733672:=()
def tw9825391823496005301:=()
def tw8073052366039002305:=()
def tw17687273328164374739:=()
def tw2384694607250376220:=()
def tw18341018353520518450:=()
def tw4414800944628811007:=()
def tw15652169618419653863:=()
def tw5376161289837807314:=()
def tw11668531971546686105:=()
def tw6650865738405417392:=()
def tw2988656760488999519:=()
def tw9838172471967501847:=()
def tw2139020861331988473:=()
def tw16067431529310858708:=()
def tw14995810038554021164:=()
def tw4911824574724453911:=()
def tw6647850502021071238:=()
def tw9876271035137309464:=()
def tw14571918889123396702:=()
def tw6187802777067594694:=()
def tw3351723808618612047:=()
def tw10733198002042479454:=()
def tw16705444912302996513:=()
def tw11050109957633026140:=()
def tw7268962624065848398:=()
def tw6268087886349247878:=()
def tw15691325997434181427:=()
def tw6258023005252003708:=()
def tw17887307662198950185:=()
def tw13753056142855437097:=()
def tw13683779926591638928:=()
def tw17403089314203740761:=()
def tw9880407747520397028:=()
def tw13593094967231298376:=()
def tw6419724959416765158:=()
def tw3304271606462764923:=()
def tw1774551481571352740:=()
def tw9244656275507343075:=()
def tw8375011242577753593:=()
def tw10870389708323811134:=()
def tw13479457239928657367:=()
def tw4053975218401169963:=()
def tw11169747414534965659:=()
def tw11240155377677202554:=()
def tw2276053524571111674:=()
def tw10210394781870437896:=()
def tw9280894164199722539:=()
def tw5366605840816231134:=()
def tw6861254551433090930:=()
def tw9587110533362866926:=()
def tw11093162407806934273:=()
def tw17092547928818394981:=()
def tw16763711181045765292:=()
def tw2199124243525932786:=()
def tw14036714199760358742:=()
def tw13332133101568022223:=()
def tw3828367524886247275:=()
def tw13642932306125347813:=()
def tw10826458882524186119:=()
def tw14055181703392998618:=()
def tw12590837166199949258:=()
def tw7153875396635776806:=()
def tw5399112115142253697:=()
def tw5443261527606259305:=()
def tw15549961249240266694:=()
def tw16591914082870096567:=()
def tw5026599624679127019:=()
def tw2496379890510555218:=()
def tw7116619316117670525:=()
def tw4924485089690120695:=()
def tw7122822671398226922:=()
def tw183839725232593553:=()
def tw11912514477895958101:=()
def tw12324974687598968306:=()
def tw5862303599689244209:=()
def tw8212161867157433119:=()
def tw12801907475279419867:=()
end PySem.W.Fast
open PySem PySem.W PyProof.Rows
set_option maxRecDepth 100000 in
set_option maxHeartbeats 0 in
theorem PySem.Challenge.cw_turnstack_k25_begun_holds : PySem.Challenge.rw_turnstack_k25_begun.Holds := by
  w_on; o_law; k_head; (case hw => w_witness2)
  k_fill
  refine K25.walk (l := PySem.Challenge.rw_turnstack_k25_begun) rfl rfl (fun w h Y => PySem.W.kIn_of Y) ?F
  case F =>
    intro w mg fa h KX G hmg
    refine' K25.all_mk hmg (K25.mkT KX G ⟨L2.gf_of KX G ?qea ?qfa ?qga ?qha, L2.gf_of KX G ?qia ?qja ?qka ?qla, L2.gf_of KX G ?qma ?qna ?qoa ?qpa, L2.gf_of KX G ?qec ?qfc ?qgc ?qhc, L2.gf_of KX G ?qic ?qjc ?qkc ?qlc, L2.gf_of KX G ?qmc ?qnc ?qoc ?qpc, L2.gf_of KX G ?qvc ?qwc ?qxc ?qyc, L2.gf_of KX G ?qzc ?qad ?qbd ?qcd, L2.gf_of KX G ?qdd ?qed ?qfd ?qgd, L2.gf_of KX G ?qhd ?qid ?qjd ?qkd, L2.gf_of KX G ?qld ?qmd ?qnd ?qod, L2.gf_of KX G ?qpd ?qqd ?qrd ?qsd, L2.gf_of KX G ?qtd ?qud ?qvd ?qwd, L2.gf_of KX G ?qxd ?qyd ?qzd ?qae, L2.gf_of KX G ?qbe ?qce ?qde ?qee, L2.gf_of KX G ?qfe ?qge ?qhe ?qie, L2.gf_of KX G ?qje ?qke ?qle ?qme, L2.gf_of KX G ?qne ?qoe ?qpe ?qqe, L2.gf_of KX G ?qre ?qse ?qte ?que, L2.gf_of KX G ?qve ?qwe ?qxe ?qye, L2.gf_of KX G ?qze ?qaf ?qbf ?qcf, L2.gf_of KX G ?qdf ?qef ?qff ?qgf, L2.gf_of KX G ?qhf ?qif ?qjf ?qkf, L2.gf_of KX G ?qlf ?qmf ?qnf ?qof, L2.gf_of KX G ?qpf ?qqf ?qrf ?qsf, L2.gf_of KX G ?qtf ?quf ?qvf ?qwf, L2.gf_of KX G ?qxf ?qyf ?qzf ?qag, L2.gf_of KX G ?qgg ?qhg ?qig ?qjg, L2.gf_of KX G ?qkg ?qlg ?qmg ?qng, L2.gf_of KX G ?qog ?qpg ?qqg ?qrg, L2.gf_of KX G ?qsg ?qtg ?qug ?qvg, L2.gf_of KX G ?qwg ?qxg ?qyg ?qzg, L2.gf_of KX G ?qah ?qbh ?qch ?qdh, L2.gf_of KX G ?qeh ?qfh ?qgh ?qhh, L2.gf_of KX G ?qih ?qjh ?qkh ?qlh, L2.gf_of KX G ?qmh ?qnh ?qoh ?qph, L2.gf_of KX G ?qqh ?qrh ?qsh ?qth, L2.gf_of KX G ?quh ?qvh ?qwh ?qxh, L2.gf_of KX G ?qyh ?qzh ?qai ?qbi, L2.gf_of KX G ?qci ?qdi ?qei ?qfi, L2.gf_of KX G ?qgi ?qhi ?qii ?qji, L2.gf_of KX G ?qki ?qli ?qmi ?qni, L2.gf_of KX G ?qoi ?qpi ?qqi ?qri, L2.gf_of KX G ?qsi ?qti ?qui ?qvi, L2.gf_of KX G ?qwi ?qxi ?qyi ?qzi, L2.gf_of KX G ?qaj ?qbj ?qcj ?qdj, L2.gf_of KX G ?qej ?qfj ?qgj ?qhj, L2.gf_of KX G ?qij ?qjj ?qkj ?qlj, L2.gf_of KX G ?qmj ?qnj ?qoj ?qpj⟩ ?qaa ?qqj ?qrj ?qsj ?qtj (L2.if_of ?qqa ?qra ?qsa ?qta ?qua ?quj ?qvj) (L2.mf_of ?qva ?qwa ?qxa ?qya ?qza) (L2.mf_of ?qab ?qbb ?qcb ?qdb ?qeb) (L2.mf_of ?qfb ?qgb ?qhb ?qib ?qjb) (L2.mf_of ?qkb ?qlb ?qmb ?qnb ?qob) (L2.mf_of ?qpb ?qqb ?qrb ?qsb ?qtb) ?qwj ?qxj ?qba ?qyj ?qzj ?qak ?qbk (L2.if_of ?qub ?qvb ?qwb ?qxb ?qyb ?qck ?qdk) (L2.mf_of ?qzb ?qac ?qbc ?qcc ?qdc) ?qek ?qfk ?qgk ?qhk ?qik ?qjk ?qkk ?qlk ?qmk ?qnk ?qok ?qpk ?qqk ?qca ?qrk ?qsk ?qtk ?quk (L2.if_of ?qqc ?qrc ?qsc ?qtc ?quc ?qvk ?qwk) ?qxk ?qyk ?qzk ?qal ?qbl ?qda ?qcl ?qdl ?qel ?qfl (L2.if_of ?qbg ?qcg ?qdg ?qeg ?qfg ?qgl ?qhl) ?qil ?qjl ?qkl ?qll ?qml ?qnl ?qol ?qpl ?qql ?qrl ?qsl ?qtl ?qul ?qvl ?qwl ?qxl ?qyl ?qzl ?qam ?qbm ?qcm ?qdm ?qem ?qfm ?qgm ?qhm ?qim ?qjm ?qkm ?qlm ?qmm ?qnm ?qom ?qpm ?qqm ?qrm ?qsm ?qtm ?qum ?qvm ?qwm ?qxm ?qym ?qzm ?qan ?qbn ?qcn ?qdn ?qen ?qfn ?qgn ?qhn ?qin ?qjn ?qkn ?qln ?qmn ?qnn ?qon ?qpn ?qqn ?qrn ?qsn ?qtn ?qun ?qvn ?qwn ?qxn ?qyn ?qzn ?qao ?qbo ?qco ?qdo ?qeo ?qfo ?qgo ?qho ?qio ?qjo ?qko ?qlo ?qmo ?qno ?qoo ?qpo ?qqo ?qro ?qso)
    case qaa | qba | qca | qda | qea | qfa | qga | qha | qia | qja | qka | qla | qma | qna | qoa | qpa | qqa | qra | qsa | qta | qua | qva | qwa | qxa | qya | qza | qab | qbb | qcb | qdb | qeb | qfb | qgb | qhb | qib | qjb | qkb | qlb | qmb | qnb | qob | qpb | qqb | qrb | qsb | qtb | qub | qvb | qwb | qxb | qyb | qzb | qac | qbc | qcc | qdc | qec | qfc | qgc | qhc | qic | qjc | qkc | qlc | qmc | qnc | qoc | qpc | qqc | qrc | qsc | qtc | quc | qvc | qwc | qxc | qyc | qzc | qad | qbd | qcd | qdd | qed | qfd | qgd | qhd | qid | qjd | qkd | qld | qmd | qnd | qod | qpd | qqd | qrd | qsd | qtd | qud | qvd | qwd | qxd | qyd | qzd | qae | qbe | qce | qde | qee | qfe | qge | qhe | qie | qje | qke | qle | qme | qne | qoe | qpe | qqe | qre | qse | qte | que | qve | qwe | qxe | qye | qze | qaf | qbf | qcf | qdf | qef | qff | qgf | qhf | qif | qjf | qkf | qlf | qmf | qnf | qof | qpf | qqf | qrf | qsf | qtf | quf | qvf | qwf | qxf | qyf | qzf | qag | qbg | qcg | qdg | qeg | qfg | qgg | qhg | qig | qjg | qkg | qlg | qmg | qng | qog | qpg | qqg | qrg | qsg | qtg | qug | qvg | qwg | qxg | qyg | qzg | qah | qbh | qch | qdh | qeh | qfh | qgh | qhh | qih | qjh | qkh | qlh | qmh | qnh | qoh | qph | qqh | qrh | qsh | qth | quh | qvh | qwh | qxh | qyh | qzh | qai | qbi | qci | qdi | qei | qfi | qgi | qhi | qii | qji | qki | qli | qmi | qni | qoi | qpi | qqi | qri | qsi | qti | qui | qvi | qwi | qxi | qyi | qzi | qaj | qbj | qcj | qdj | qej | qfj | qgj | qhj | qij | qjj | qkj | qlj | qmj | qnj | qoj | qpj | qqj | qrj | qsj | qtj | quj | qvj | qwj | qxj | qyj | qzj | qak | qbk | qck | qdk | qek | qfk | qgk => k_is
    case qhk | qik | qjk | qkk | qlk | qmk | qnk | qok | qpk | qqk => first | k_is | kit_is | kernel_rfl
    case qrk | qsk | qtk | quk | qvk | qwk | qxk | qyk | qzk | qal | qbl | qcl | qdl | qel | qfl | qgl | qhl | qil | qjl | qkl | qll | qml | qnl | qol | qpl | qql | qrl | qsl | qtl | qul | qvl | qwl | qxl | qyl | qzl | qam | qbm | qcm | qdm => k_is
    case qem => (unfold L2.ExcC; first | k_exc | k_is | kernel_rfl)
    case qfm | qgm | qhm => k_is
    case qim | qjm | qkm => first | kit_is | k_is | kernel_rfl
    case qlm => k_is
    case qmm => (unfold L2.ExcC; first | k_exc | k_is | kernel_rfl)
    case qnm | qom | qpm => k_is
    case qqm | qrm | qsm => first | kit_is | k_is | kernel_rfl
    case qtm => k_is
    case qum => (unfold L2.ExcC; first | k_exc | k_is | kernel_rfl)
    case qvm | qwm | qxm => k_is
    case qym | qzm | qan => first | kit_is | k_is | kernel_rfl
    case qbn | qcn | qdn => k_is
    case qen | qfn | qgn | qhn | qin | qjn | qkn | qln | qmn | qnn | qon | qpn | qqn | qrn => first | kit_is | k_is | kernel_rfl
    case qsn | qtn | qun | qvn => k_is
    case qwn => first | kernel_rfl | (unfold L2.TupK; kernel_rfl)
    case qxn | qyn => k_is
    case qzn => first | kernel_rfl | (unfold L2.TupK; kernel_rfl)
    case qao => k_is
    case qbo => first | kernel_rfl | (unfold L2.TupK; kernel_rfl)
    case qco => k_is
    case qdo => first | kernel_rfl | (unfold L2.TupK; kernel_rfl)
    case qeo => k_is
    case qfo => first | kernel_rfl | (unfold L2.TupK; kernel_rfl)
    case qgo => k_is
    case qho => first | kernel_rfl | (unfold L2.TupK; kernel_rfl)
    case qio => k_is
    case qjo => first | kernel_rfl | (unfold L2.TupK; kernel_rfl)
    case qko | qlo | qmo | qno | qoo | qpo | qqo | qro | qso => k_is
