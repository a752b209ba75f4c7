import PyProof.Rows.All
import Wide.All
import OpenK.AllK
import Wide.FinOn
import Lean
import PyProof.EqAt
import PyProof.EqKinds
import PyProof.TupleCall
import PyProof.StrLawsTight
import PyProof.StrLawsChain
import KE.KSortTup
import PyProof.EnumIter
import PyProof.EnumMake
import PyProof.EnumFor
import KE.KDictOf
import PyProof.AttrMissHeap
import PyProof.Walks
import PyProof.WalksMore
import PyProof.P3In
import PyProof.DictIter
import PyProof.SumWalkG
import PyProof.Rows.SumAny
import PyProof.FactsAll.subtypes_4
import PyProof.ListOps
import PyProof.ListRange
import PyProof.FactsAll.tuple
import PyProof.ListMulRoad
import PyProof.FactsAll.set_2
import PyProof.StrLawsIn
import PyProof.ZipIter
import PySem.Challenge.RW_turnstack_k23_the_sight_of_a_table
set_option Elab.async false
set_option linter.all false
set_option maxRecDepth 100000
set_option compiler.extract_closed false
set_option hygiene false in
local macro_rules|`(tactic|lk)=>`(tactic|omega)
local macro_rules|`(tactic|lia)=>`(tactic|decide+kernel)
set_option hygiene false in
local macro_rules|`(tactic|ext $a:ident $b:ident $c:ident $d:ident)=>`(tactic|refine laid $a fun $b $c $d=>?_)
set_option hygiene false in
local macro_rules|`(#[$q9,*])=>let q1:Char->Lean.MacroM Lean.Term:=fun q0=>match q0 with|'0'=>`(⟨rfl⟩)|'1'=>`(⟨_,rfl⟩)|'2'=>`(⟨Vb _ _ (by lia) (by lia)⟩)|'3'=>`(⟨by lk⟩)|'4'=>`(⟨_,_,rfl,rfl⟩)|'5'=>`(⟨?_⟩)|'6'=>`(⟨_,rfl,iteF ?_⟩)|'7'=>`(⟨by decide⟩)|'8'=>`(⟨_,_,rfl,h1,T.cx,T.uK,UM _ _ _⟩)|'9'=>`(⟨aI (j:=0) rfl⟩)|_=>`(⟨?_⟩);let q2:Lean.Term->Lean.MacroM (List Lean.Term):=fun q8=>match q8.raw.isLit? `num with|some q3=>q3.toList.mapM q1|none=>(`(⟨$q8⟩))>>=fun q4=>pure [q4];(q9.getElems.toList.mapM q2:Lean.MacroM (List (List Lean.Term)))>>=fun q5=>let q6:Array Lean.Term:=q5.flatten.toArray.flatMap fun q7=>match q7 with|`(⟨$q4,*⟩)=>q4.getElems|_=>.empty;`(⟨$q6,*⟩)
theorem aUA(_:True:=by decide):True:=⟨⟩
theorem aUB(_:True:=by rfl):True:=⟨⟩
theorem aUC(_:True:=by first|exact .inl rfl|exact .inr rfl|assumption):True:=⟨⟩
inductive Ex2{A B:Type}(p:A->B->Prop):Prop|mk(a b)(h:p a b)
inductive Ex3{A B C:Type}(p:A->B->C->Prop):Prop|mk(a b c)(h:p a b c)
inductive Ex4{A B C D:Type}(p:A->B->C->D->Prop):Prop|mk(a b c d)(h:p a b c d)
inductive Ex5{A B C D E:Type}(p:A->B->C->D->E->Prop):Prop|mk(a b c d e)(h:p a b c d e)
inductive Ex6{A B C D E F:Type}(p:A->B->C->D->E->F->Prop):Prop|mk(a b c d e f)(h:p a b c d e f)
inductive Ex7{A B C D E F G:Type}(p:A->B->C->D->E->F->G->Prop):Prop|mk(a b c d e f g)(h:p a b c d e f g)
inductive Ex8{A B C D E F G H:Type}(p:A->B->C->D->E->F->G->H->Prop):Prop|mk(a b c d e f g h)(h:p a b c d e f g h)
inductive Ex9{A B C D E F G H I:Type}(p:A->B->C->D->E->F->G->H->I->Prop):Prop|mk(a b c d e f g h i)(h:p a b c d e f g h i)
inductive Ex10{A B C D E F G H I J:Type}(p:A->B->C->D->E->F->G->H->I->J->Prop):Prop|mk(a b c d e f g h i j)(h:p a b c d e f g h i j)
inductive Ex11{A B C D E F G H I J K:Type}(p:A->B->C->D->E->F->G->H->I->J->K->Prop):Prop|mk(a b c d e f g h i j k)(h:p a b c d e f g h i j k)
inductive Ex12{A B C D E F G H I J K L:Type}(p:A->B->C->D->E->F->G->H->I->J->K->L->Prop):Prop|mk(a b c d e f g h i j k l)(h:p a b c d e f g h i j k l)
inductive Ex16{A B C D E F G H I J K L M N O P:Type}(p:A->B->C->D->E->F->G->H->I->J->K->L->M->N->O->P->Prop):Prop|mk(a b c d e f g h i j k l m n o q)(h:p a b c d e f g h i j k l m n o q)
set_option maxHeartbeats 0
noncomputable section
open List renaming toArray→yA
open PySem renaming wpAny_bind→ac,wpAny_pure→aq,sizeLine→aE,mainGlobals→bv,Program→aR,boot_len→cE,wpAny_newObj_type→fA,wpAny_holding→dG,wpAny_callSpecial?_slot→jf,wpAny_call_entry→fN,starEach→bO,wpAny_truthy_bool→ie,codeAny_builtin→gp,NameKind→b6,wpAny_setField_rec→iW,compareOp→cy,strKind→fm,wpAny_mono→dE,Builtin→bY,plainId_quiet→gE,FuncData→cP,wpAny_field→gu,wpAny_typeNameOfWhole_keyiter→Af,wpAny_setState_of→pU,call_meets→gL,SetTable→dU,wpAny_passesOwn→mU,slot_dict_getitem→qY,wpAny_typeNameOf_keyiter→zN,bootBuiltins→kR,mem_of_lookup→uP,wpAny_getItem_str_slice→zt,sysModules→iw,wpAny_pyIter_tuple→xj,DictEntry→g9,codeAny_mono→lq,wpAny_updateSeq→qe,wpAny_pyIter_list→wJ,attributeBase→oj,wpAny_attempt→ow,firstArgMember→sf,wpAny_seqItems→si,wpAny_askSetting→xO,argBest→eT,wpAny_rule→kX,binaryOp→gW,wpAny_Call_Name_kw→zH,wpAny_ite_split→tN,tupleKind_room_in1→Ax,assignEach→lM,codeAny→gi,sliceBounds→ma,wpAny_dictEntries→y6,wpAny_tryCatch→ve,scanBound→kq,builtinLookup_eq_fast→Ke,wpAny_isInstance→zV,behindInMarks→xN,setField→ju,wpAny_execs_nil→Ae,letOwnedTupleGo→Az,post_val_or_str→yW,pickOrder→lx,wpAny_typeOf→tK,wpAny_setField→za,foldedSetIterable→Lw,wpAny_sequenceKey→F1,typeIs_str→rX,wpAny_comprehension_free→Ui,fits_of_scanBound→FD,seqItems?→mD,wpAny_pyIter_slot→Bf,holding→jq,keywordEach→vy,getItem→jv,wpAny_of_eq→uj,wpAny_letGo→ym,noFill_tuple_add→FY,Within→z7,wpAny_isTrue_Compare1→Ry,codeAny_of_tree→Br,weight_type_call_type→SZ,typeLookup_type→CS,setNext→kO,wpAny_notOrdered_dict→QE,wpAny_dictEpoch→ER,wpAny_isOneOf_keyiter→Tw,relayAll→nK,setsByText→tS,sliceRange_one→Je,wpAny_runValue→HQ,isSubtype_type→BQ,isSubtype_stop→KK,wpAny_fieldsOf→Hk,wpAny_newTuple→LE,subscripted→AR,tupleKind→yc,swapsWith→sW,wpAny_standAt→Jo,seq_tuple_add→Li,raiseNew→rE,wpAny_handled→Bx,wpAny_newList→Io,wpAny_load→A4,BindsTo→mn,wpAny_call→An,Keyword→oe,typeLookup→zP,callerA→oh,relabel→pN,ElemsOf→mq,isInstance→Au,valueAt→oJ,concat_meets→Gj,Operator→wM,backToKw→sX,standAt→rF,getMethod→yQ,notedBy→qQ,putSet_of→AB,call→KH
open List renaming length_map→aw,length_cons→aK,length_append→aS,getElem?_eq_some_iff→br,mem_singleton→aX,mem_cons→aM,mem_of_getElem?→bq,mem_cons_self→bb,size_toArray→a7,mem_cons_of_mem→bx,take_of_length_le→bX,getElem?_map→bH,getElem?_eq_getElem→cA,getD_eq_getElem?_getD→cJ,map_cons→bp,map_append→bE,take_add_one→bU,length_take→bQ,mem_append→bM,replicate→bS,getElem?_append_right→eh,getElem?_cons_succ→dX,append_nil→ci,mem_map→bT,Nodup→bG,mem_append_right→fG,length_singleton→fH,mem_append_left→fL,length_filter_le→fY,not_mem_nil→dN,getElem?_append_left→iU,cons_ne_nil→dS,append_assoc→fV,map_map→cW,sum_cons→d9,getElem?_cons_zero→lC,mem_filter→h7,length_replicate→lW,flatten_cons→jr,filter_cons_of_pos→oE,getElem?_of_mem→lD,length_nil→iq,length_drop→jb,pairwise_cons→lv,filter_append→lH,filter_cons_of_neg→sw,lookup→fT,map_nil→gU,lookup_cons→l8,cons_append→lQ,pairwise_singleton→vA,range→gM,all_eq_true→pM,getElem?_drop→qG,getElem?_eq_none→vf,cons_lt_cons_iff→x6,pairwise_iff_getElem→yP,lt_irrefl→lJ,getElem?_set_ne→xV,eraseIdxIfInBounds_toArray→Dq,nodup_append→qw,length→jA,replicate_succ→w9,getElem_map→rP,filter_cons→rB,getElem?_set_self→zu,nodup_cons→rV,length_set→rT,find?_cons→qb,length_range→yy,lt_trans→mJ,filterMap_cons→yV,map_congr_left→z6,flatten_append→yY,sum_nil→ou,getElem?_replicate→IV,nil_append→sB,length_eq_zero_iff→OM,append_eq_nil_iff→Cs,pairwise_map→A5,drop_drop→u0,getElem?_toArray→Kg,take_append_drop→JA,set_append_right→K2,take_length→A3,replicate_succ'→Js,any_cons→xq,countP_eq_length_filter→P7,length_pos_iff→LK,sum_append→zx,length_eraseIdx_of_lt→Tj,find?_eq_none→HW,length_mapIdx→CU,drop_zero→Ag,drop_left→zT,mem_of_find?_eq_some→Pu,getElem?_take_of_lt→Pq,sublist_append_left→Tq,eraseIdx_cons_succ→QV,of_mem_zip→Ek,Perm→qp,contains_iff_mem→RE,map_set→AV,mem_of_mem_take→Tm,set_append_left→PV,mem_range→OG,nodup_nil→Hl,take_zero→Fo,not_lt→zm,getElem_of_mem→Uh,filter_sublist→Rm,filter_eq_self→RK,mem_filterMap→P8,zip_cons_cons→RU,filterMap_map→Sr,take_sublist→Qi,ext_getElem?→QI,getElem?_inj→PR,filter_congr→RC,getElem_inj→Uk,getElem_mem→To,le_antisymm→Rz,map_fst_zip→QC,nil_sublist→Uc,map_id→Jb,foldl→C7
open PySem.W renaming Frag→ah,kitOne→ce,nsIn→bW,findIn→cm,mg_none_of→eO,mg_of→dJ,kia_one→i7,emptyDict→jV,keepIn→jB,instObj→lX,plainGet→pW,fnOf→jD,hasDictIn→qU,codeIn→m4,kia_tup→rf,plainOver→vU,specialIn→A2,plainGet_of→MP,isFn→uu,callWith_K→O5,lookIn→AN,methodObj→CA,kitx_list→L7,cellsFrom_some→Sn,takerIn→Ob,makesIn→IZ,takesIn→Nt,methodCall_KW→PX,OpenLaw→OR,kitAny→GD,mroIn→Os,kitx_tuple→Qv,kitx_none→QF,kitx_bool→Qj,kitx_dict→Pj,handedIn→TF,kitx_int→Pt,kitx_str→Pl,WalkO→RF
open PySem.Heap renaming get?_push_of_some→aW,get?_push_size→bD,lt_size→aY,get?_update_other→iL,get?_update_self→kH,SameBut→eN,size_push→iz,get?_push_ne→QM,ExtBut→EL
open Nat renaming le_refl→az,le_trans→aV,lt_of_lt_of_le→b8,zero_le→ba,ne_of_lt→bB,lt_irrefl→gw,lt_succ_self→lp,le_succ→gD,add_sub_cancel_left→wK,le_of_lt→iR,lt_succ_of_lt→nW,le_succ_of_le→pk,ne_of_gt→ja,lt_or_ge→jw,lt_of_succ_lt_succ→z4,sub_self→lZ,add_le_add_right→M4,not_lt_zero→AS,lt_of_le_of_lt→OA,zero_add→xL,le_of_eq→zZ,sub_zero→yX,mul_le_mul_right→TH,lt_trichotomy→Tu
open PySem.Str renaming join→aj,ofString→iV,append_assoc→re,length_append→Q7,empty→zS,length→IQ
open PySem.F renaming plainAttrs_list→cO,plainAttrs_str→eM,slot_list_append→fQ,type_list_append→fC,slot_str_join→gk,type_str_join→gq,called_set→eV,slot_dict_keyiterator_next→yn,slot_tuple_iterator_next→Ad,plain_min_loop→pQ,slot_list_getattribute→Lh,slot_enumerate_next→zp,args_dict_keyiterator_next_1→TL,entry_dict_keyiterator_next→PF,args_tuple_add_2→MU,entry_tuple_add→Kq,slot_tuple_add→O0,slot_str_split→Ly,type_str_split→OO,args_tuple_iterator_next_1→RQ,entry_tuple_iterator_next→QW,args_str_split_2→GK,plain_extend_loop→Qp,entry_str_split→OX,slot_list_extend→SX,type_list_extend→Qh,slot_list_insert→Qg,type_list_insert→Po,entry_type_call→Su,plain_list_iadd→Uf,args_enumerate_next_1→Pr,slot_str_split→J2,entry_min_loop→K1,typeCall_set_1→Uu,entry_set_init→Ub,entry_enumerate_next→Ps,slot_dict_iter→Ss,plain_set_new→PH,slot_set_iter→Ul,slot_list_pop→PU,type_list_pop→SY
open Bool renaming false_ne_true→cf,and_eq_true→gz,false_eq_true→kr,eq_false_iff→lu,false_and→kK,or_false→jM,true_and→lI,eq_iff_iff→uq,and_false→A1,false_or→MB,true_or→Pd
open Array renaming length_toList→cR,getElem?_eq_getElem→gO,getElem?_toList→fB,toArray_toList→qo,toList_append→uB,getElem?_eq_none→A6,getD_eq_getD_getElem?→O7,perm_iff_toList_perm→MC,toList_inj→tL,size_append→zf,getElem?_eq_some_iff→Tl,toList_push→Sv,getElem_mem→Qn
open Int renaming toNat_natCast→cS,natAbs_natCast→mM,zero_add→lV,emod_lt_of_pos→Ao,emod_nonneg→zE,lt_irrefl→BP
open Option renaming toList_some→dF,map_eq_some_iff→ko,map_some→zC,isSome_iff_exists→RX,isSome_map→My,getD_none→Qd
open Ne renaming symm→a8
open PySem.Around renaming under_plainId→ik,under_plain→Q3,under→Bt
open PyProof.Rows renaming boot_isinstance→eF,boot_tuple→db,wpS_bind→cg,callWith_type1→tI,wpS_pure→dD,slot_tuple_getitem→OY,sortedS→cX,boot_str→gK,IntsAre→eR,subscriptTail_builtinR→EX,boot_sorted→pC,wpS_forRange→qW,boot_list→kh,pairsOf_size→uL,StrsAre→iP,pendingOf→qd,SortKind→oN,pairsOf_toList→Jw,AllBare→lB,pairsOf→lU,subscriptTail→EA,listUpdate_at→La,mem_zip_self→KF,sortedAll→Ah,wpS_get→rS,boot_bool→z5
open Option.some renaming inj→eQ
open PySem.PassesOwn renaming never→eZ
open PySem.SeqAt renaming shaped→dO,EqAt→dB,canLay_of_shaped→SU,readOf→FT
open PySem.PyData renaming canLay0→fR,depthAll→gB,canLayAll0→jh,depth→gm,eqvAll→jE,eqv→fX
open PySem.Builtin.Str renaming occurrences→lz,strSliceIndices→yZ,partsBetween→Av,strKind→zG
open PySem.Heap.SameBut renaming update→kY,refl→Q0
open PySem.Obj renaming mapSeq→fE,data_mapFields→Ab,putSet→qz,isFreed_of_fields→P4,cls_mapFields→Q4
open PyProof.Rows.F renaming plain_set_update_loop→Lj,entry_set_update_loop→Qt
open PySem.Txt renaming split→eW,slice→rQ,slice_le→zU
open False renaming elim→gH
open PySem.Builtin.Slice renaming slicePlaces→zD,sliceAdjust→DE,sliceApplied→RM
open PySem.Builtin.SmallTypes renaming nextOf→zB,ownedTupleHandOut→QZ,ownedTupleIsFree→QJ
open PySem.Builtin.Tuple renaming tupleExact→z9
open PySem.Builtin.List renaming listTooLong→y4,listLengthHint→Pg,listExtendWith→P3,listSameRef→Pf
open PyProof.Rows.KTD renaming datLooks→jP,datumAt→qj,tabLook→wq,TextTab→yU,Dat→qJ
open PySem.Value renaming isStrOf→lY,isStrOf_shape→IB
open PySem.SetTable renaming grown→md,below→nY
open List.Perm renaming eq_of_pairwise→Gb,refl→AU
open PySem.MeetsSeq renaming plain_remove_loop→Am
open List.Nodup renaming length_le_of_subset→TV
open PySem.Builtin.Frozenset renaming updateFrom→SR
open PySem.Builtin.Dict_items renaming ownsTuple→Uq
open List.cons renaming injEq→Aw
open PySem.Calls renaming Name_function_global→Ru,call_function_entry→TW,callWith_builtin→Qx
open PySem.SeqAt.EqAt renaming int_int→Gz,int_str→Rl,str_int→Ph
open List.Pairwise renaming imp→EF
open PySem.Paired renaming length→zg
open PySem.Shared renaming TypeIs→AC
open PySem.Builtin.Dict renaming updateFrom→Uj,showsAll→QS
open Classical renaming propDecidable→Pm,not_imp→Q2
open PySem.StrLaws renaming glued_eq_join→SE
open PySem.Code renaming quiet_builtin→RL,isFrame→E5
open PySem.Walks renaming list→AY
open PySem.SetTable.below renaming go→TK
open List.Sublist renaming refl→Qc
open Array.Perm renaming refl→Sw
open PyProof.Rows.IsTup renaming new→A9
open PySem.pickOrder renaming go→Qb
namespace L2
open PySem PySem.Spec PyProof.Rows
noncomputable abbrev Key:=Sum Int Str
noncomputable def gC:Key->Value->Bool
 | .inl k,v=>Value.isInt k v
 | .inr x,v=>lY x v
noncomputable def keyH (w:World):Key->Int
 | .inl k=>hashInt k
 | .inr x=>hashStr w x
theorem kQ:∀{k:Key} {v:Value},gC k v=true->(Ex2 λi t=>k=Sum.inl i/\v=Value.int i t)∨(Ex2 λx t=>k=Sum.inr x/\v=Value.str x t)
 | .inl i,v,h=>by
  obtain⟨t,e⟩:=Value.isInt_shape (k:=i) (v:=v) h;exact .inl #[i,t,0,e]
 | .inr x,v,h=>by
  obtain⟨t,e⟩:=IB (x:=x) (v:=v) h;exact .inr #[x,t,0,e]
theorem G0 (i:Int)(t:Tok):gC (.inl i) (.int i t)=true:=by simp[gC,Value.isInt]
theorem KP (x:Str)(t:Tok):gC (.inr x) (.str x t)=true:=by simp[gC,lY]
theorem E9 (a b:Int):decide ((Sum.inl a:Key)=Sum.inl b)=(a==b):=by
 by_cases e:a=b
 .subst e;simp
 .have h:¬ (Sum.inl a:Key)=Sum.inl b:=λq=>e (Sum.inl.inj q);rw[decide_eq_false h];exact (beq_eq_false_iff_ne.mpr e).symm
theorem NW (a b:Str):decide ((Sum.inr a:Key)=Sum.inr b)=decide (a=b):=by
 by_cases e:a=b
 .subst e;simp
 .have h:¬ (Sum.inr a:Key)=Sum.inr b:=λq=>e (Sum.inr.inj q);rw[decide_eq_false h,decide_eq_false e]
theorem Oa (a:Int)(b:Str):decide ((Sum.inl a:Key)=Sum.inr b)=false:=decide_eq_false (λq=>nomatch q)
theorem J0 (a:Str)(b:Int):decide ((Sum.inr a:Key)=Sum.inl b)=false:=decide_eq_false (λq=>nomatch q)
noncomputable def fw (prog:aR)(w:World):PySem.KeyKind prog w Key where
 is:=gC
 hash:=keyH w
 inj:=λv a b ha hb=>by
  rcases kQ ha with⟨i,t,rfl,rfl⟩|⟨x,t,rfl,rfl⟩
  .rcases kQ hb with⟨j,u,rfl,e⟩|⟨y,u,rfl,e⟩
   .injection e with e1 _;rw[e1]
   .exact nomatch e
  .rcases kQ hb with⟨j,u,rfl,e⟩|⟨y,u,rfl,e⟩
   .exact nomatch e
   .injection e with e1 _;rw[e1]
 byValue:=λk v h=>by
  rcases kQ h with⟨i,t,rfl,rfl⟩|⟨x,t,rfl,rfl⟩<;>rfl
 pyHash:=λhv h=>by
  rcases kQ hv with⟨i,t,rfl,rfl⟩|⟨x,t,rfl,rfl⟩
  .exact wpAny_pyHash_int h
  .exact wpAny_pyHash_str h
 eqBool:=λhu hv h=>by
  rcases kQ hu with⟨i,t,rfl,rfl⟩|⟨x,t,rfl,rfl⟩
  .rcases kQ hv with⟨j,u,rfl,rfl⟩|⟨y,u,rfl,rfl⟩
   .rw[E9] at h;exact wpAny_eqBool_int h
   .rw[Oa] at h;exact Rl i t y u _ _ _ _ h
  .rcases kQ hv with⟨j,u,rfl,rfl⟩|⟨y,u,rfl,rfl⟩
   .rw[J0] at h;exact Ph x t j u _ _ _ _ h
   .rw[NW] at h;exact wpAny_eqBool_str h
 «strs»:=λk x t v h=>by
  rcases kQ h with⟨i,u,rfl,e⟩|⟨y,u,rfl,e⟩
  .exact nomatch e
  .injection e with e1 _
   subst e1;cases v<;>rfl
theorem Ir (prog:aR)(w:World)(i:Int)(t:Tok):(fw prog w).is (.inl i) (.int i t)=true:=G0 i t
theorem C5 (prog:aR)(w:World)(x:Str)(t:Tok):(fw prog w).is (.inr x) (.str x t)=true:=KP x t
end L2
namespace L2
open PySem PySem.Spec PyProof.Rows
inductive V where
 | non|bl (b:Bool)|int (i:Int)|str (x:Str)|byt (b:Array UInt8)|flt (b:UInt64)|ref (a:Addr)|ty (n:String)
 deriving DecidableEq
noncomputable def RelV:V->Value->Prop
 | .non,u=>u=Value.none
 | .bl b,u=>u=Value.bool b
 | .int i,u=>∃t,u=Value.int i t
 | .str x,u=>∃t,u=Value.str x t
 | .byt b,u=>∃t,u=Value.bytes b t
 | .flt b,u=>∃t,u=Value.float b t
 | .ref a,u=>u=Value.ref a
 | .ty n,u=>u=Value.type n
noncomputable abbrev Vals:List V->List Value->Prop:=Paired RelV
theorem Vals.length {xs:List V}{us:List Value}(r:Vals xs us):xs.length=us.length:=zg r
theorem Vals.get:∀{xs:List V} {us:List Value} {i:Nat} {x:V},Vals xs us->xs[i]?=some x->∃u,us[i]?=some u/\RelV x u
 | _,_,_,_,.nil,e=>by simp at e
 | _,_,0,_,.cons r _,e=>by simp at e;subst e;exact#[1,r]
 | _,_,i+1,x,.cons _ t,e=>by
  obtain⟨u,h1,h2⟩:=Vals.get (i:=i) (x:=x) t (by simpa using e);exact#[u,by simpa using h1,h2]
theorem Vals.set {x:V}{u:Value}(r:RelV x u):∀{xs:List V} {us:List Value} (i:Nat),Vals xs us->Vals (xs.set i x) (us.set i u)
 | _,_,_,.nil=>.nil
 | _,_,0,.cons _ t=>.cons r t
 | _,_,i+1,.cons q t=>.cons q (Vals.set r i t)
theorem Vals.append:∀{xs ys:List V} {us ws:List Value},Vals xs us->Vals ys ws->Vals (xs++ys) (us++ws)
 | _,_,_,_,.nil,s=>s
 | _,_,_,_,.cons r t,s=>.cons r (Vals.append t s)
theorem Vals.take:∀{xs:List V} {us:List Value} (n:Nat),Vals xs us->Vals (xs.take n) (us.take n)
 | _,_,0,_=>.nil
 | _,_,_+1,.nil=>.nil
 | _,_,n+1,.cons r t=>.cons r (Vals.take n t)
theorem Vals.drop:∀{xs:List V} {us:List Value} (n:Nat),Vals xs us->Vals (xs.drop n) (us.drop n)
 | _,_,0,r=>r
 | _,_,_+1,.nil=>.nil
 | _,_,n+1,.cons _ t=>Vals.drop n t
noncomputable def RelO:Option V->Option Value->Prop
 | some v,some u=>RelV v u
 | none,none=>True
 | _,_=>False
noncomputable def KV {κ:Type}:List (κ×V)->List (κ×Value)->Prop:=Paired λ(p:κ×V) (q:κ×Value)=>p.1=q.1/\RelV p.2 q.2
noncomputable def kV:Key->V
 | .inl i=>.int i
 | .inr x=>.str x
inductive HO where
 | lst (xs:List V)
 | tup (xs:List V)
 | dK (kvs:List (Key×V))|dT (kvs:List (List Key×V))
 | set (S:Int->Bool) (n:Nat)
 | ins (C dx:Addr) (fs:List (Str×V))
 | own (x:Addr)
 | xd (fs:List (Str×V))
 | met (f x:Addr)
 | rng (lo hi:Int)
 | frz (o:Obj) (u:HO)
 | tbl (ps:Array Value)
 | ext (φ:Heap->Prop)
noncomputable abbrev Hp:=Addr->Option HO
noncomputable def upd (H:Hp)(a:Addr)(o:HO):Hp:=λb=>if b=a then some o else H b
theorem aB {H:Hp}{a:Addr}{o:HO}:upd H a o a=some o:=by unfold upd;rw[if_pos rfl]
theorem aF {H:Hp}{a b:Addr}{o:HO}(h:b≠a):upd H a o b=H b:=by unfold upd;rw[if_neg h]
theorem kM {H:Hp}{a:Addr}{o u:HO}:upd (upd H a o) a u=upd H a u:=by
 funext b;unfold upd;split<;>rfl
theorem cw {H:Hp}{a b:Addr}{o u:HO}(h:H a=some o)(h':H b=some u)(d:o≠u):a≠b:=by
 intro e;subst e;rw[h] at h';exact d (eQ h')
theorem a9 {H:Hp}{a b:Addr}{o:HO}(h:H a=some o)(h':H b=none):a≠b:=by
 intro e;subst e;rw[h] at h';cases h'
section
variable (P:aR)(w:World)
noncomputable def cq (H:Hp)(h:Heap)(a:Addr):HO->Prop
 | .lst xs=>xs.length<=aE/\Ex2 λ(its:List Value) (n:Nat)=>Vals xs its/\h.get? a=some { cls:=.type "list",data:=.seq its.toArray n }
 | .tup xs=>xs.length<=aE/\∃its:List Value,Vals xs its/\IsTup h a its.toArray
 | .dK kvs=>kvs.length<=aE/\(a==iw)=false/\∃vs,KV kvs vs/\h.DictOf (fw P w) a vs
 | .dT kvs=>kvs.length<=aE/\(a==iw)=false/\∃xs:List (List Key×Addr×Value),
   Paired (λ(p:List Key×V) (q:List Key×Addr×Value)=>p.1=q.1/\H q.2.1=some (.tup (p.1.map kV))/\RelV p.2 q.2.2) kvs xs /\
   Ex3 λo es ep=>h.get? a=some o/\o.ExactDict/\o.data = .dict es ep/\es.toList=xs.map (entryOfKey (yc (fw P w)))/\(xs.map (·.1)).Nodup
 | .set S n=>h.SetOf (intKind P w) a S n
 | .ins C dx fs=>H dx=some (.own a)/\fs.length<=1000/\dx≠a/\h.get? a=some (lX C dx) /\
   ∃mA,h.Ns1 dx mA/\(∀f,RelO (fs.lookup f) (mA f))/\z7 mA (fs.map (·.1))
 | .own _=>∃o,h.get? a=some o
 | .xd fs=>∃mA,h.Ns1 a mA/\∀f,RelO (fs.lookup f) (mA f)
 | .rng lo hi=>Ex3 λt u v=>h.get? a=some { cls:=.type "range",data:=.fields (yA [.int lo t,.int hi u,.int 1 v]) }
 | .frz o u=>h.get? a=some o/\cq H h a u
 | .tbl ps=>h.get? a=some { cls:=.none,data:=.fields ps }
 | .met f x=>h.get? a=some (CA (.ref f) (.ref x))
 | .ext φ=>φ h/\(∃o,h.get? a=some o)/\∀h1 h2:Heap,φ h1->(∀o,h1.get? a=some o->h2.get? a=some o)->φ h2
noncomputable def HOk (H:Hp)(h:Heap):Prop:=∀a o,H a=some o->cq P w H h a o
end
section
variable {P:aR}{w:World}{H H':Hp}{h h':Heap}{a:Addr}{o:HO}
theorem cq.lt (x:cq P w H h a o):a<h.objs.size:=by
 cases o with
 | lst xs=>obtain⟨_,_,_,_,e⟩:=x;exact aY e
 | tup xs=>obtain⟨_,_,_,p⟩:=x;exact p.lt
 | dK kvs=>obtain⟨_,_,_,_,o,_,_,e,_⟩:=x;exact aY e
 | dT kvs=>obtain⟨_,_,_,_,o,_,_,e,_⟩:=x;exact aY e
 | set S n=>obtain⟨o,_,_,_,e,_⟩:=x;exact aY e
 | ins C dx fs=>obtain⟨_,_,_,e,_⟩:=x;exact aY e
 | own y=>obtain⟨_,e⟩:=x;exact aY e
 | xd fs=>obtain⟨_,⟨_,_,_,e,_⟩,_⟩:=x;exact aY e
 | rng lo hi=>obtain⟨_,_,_,e⟩:=x;exact aY e
 | frz ob u=>obtain⟨e,_⟩:=x;exact aY e
 | tbl ps=>exact aY (show h.get? a=some _ from x)
 | met f y=>exact aY (show h.get? a=some _ from x)
 | ext φ=>obtain⟨_,⟨_,e⟩,_⟩:=x;exact aY e
theorem Paired.mapP {α β:Type}{F G:α->β->Prop}:∀{l₁:List α} {l₂:List β},Paired F l₁ l₂->(∀a b,F a b->G a b)->Paired G l₁ l₂
 | _,_,.nil,_=>.nil
 | _,_,.cons r t,f=>.cons (f _ _ r) (Paired.mapP t f)
theorem cq.stay (x:cq P w H h a o)(k:∀b u,(b=a∨H b=some (.own a))->h.get? b=some u->h'.get? b=some u)
  (ho:∀b,H b=some (.own a)->H' b=some (.own a)) (ht:∀b xs,H b=some (.tup xs)->H' b=some (.tup xs)):cq P w H' h' a o:=by
 induction o with
 | lst xs=>obtain⟨z,its,n,r,e⟩:=x;exact#[z,its,n,r,k _ _ (.inl rfl) e]
 | tup xs=>obtain⟨z,its,r,ob,e,c⟩:=x;exact#[z,its,r,ob,k _ _ (.inl rfl) e,c]
 | dK kvs=>obtain⟨z,y,vs,r,ob,es,ep,e,c⟩:=x;exact#[z,y,vs,r,ob,es,ep,k _ _ (.inl rfl) e,c]
 | dT kvs =>
  obtain⟨z,y,xs,r,ob,es,ep,e,c⟩:=x;exact#[z,y,xs,Paired.mapP r λp q z=>#[z.1,ht _ _ z.2.1,z.2.2],ob,es,ep,k _ _ (.inl rfl) e,c]
 | set S n=>obtain⟨ob,es,ep,t,e,c⟩:=x;exact#[ob,es,ep,t,k _ _ (.inl rfl) e,c]
 | ins C dx fs =>
  obtain⟨d,z,ne,e,mA,⟨od,es,ep,e2,c⟩,r⟩:=x;exact#[ho _ d,z,ne,k _ _ (.inl rfl) e,mA,#[od,es,ep,k _ _ (.inr d) e2,c],r]
 | own y=>obtain⟨ob,e⟩:=x;exact#[ob,k _ _ (.inl rfl) e]
 | xd fs=>obtain⟨mA,⟨od,es,ep,e,c⟩,r⟩:=x;exact#[mA,#[od,es,ep,k _ _ (.inl rfl) e,c],r]
 | rng lo hi=>obtain⟨t,u,v,e⟩:=x;exact#[t,u,v,k _ _ (.inl rfl) e]
 | frz ob u ih=>obtain⟨e,q⟩:=x;exact#[k _ _ (.inl rfl) e,ih q]
 | tbl ps =>
  have e:h.get? a=some { cls:=.none,data:=.fields ps }:=x;show h'.get? a=some { cls:=.none,data:=.fields ps }
  exact k a _ (.inl rfl) e
 | met f y =>
  have e:h.get? a=some (CA (.ref f) (.ref y)):=x;show h'.get? a=some (CA (.ref f) (.ref y))
  exact k a _ (.inl rfl) e
 | ext φ=>obtain⟨p,⟨o,e⟩,st⟩:=x;exact#[st _ _ p λo q=>k _ _ (.inl rfl) q,#[o,k _ _ (.inl rfl) e],st]
theorem HOk.lt (x:HOk P w H h)(e:H a=some o):a<h.objs.size:=(x a o e).lt
theorem HOk.fresh (x:HOk P w H h)(e:h.objs.size<=a):H a=none:=by
 cases q:H a with
 | none=>rfl
 | some u=>exact absurd (b8 (x.lt q) e) (gw _)
theorem HOk.kept (x:HOk P w H h)(k:∀b u,h.get? b=some u->h'.get? b=some u):HOk P w H h':=λa o e =>
 (x a o e).stay (λb u _ q=>k b u q) (λ_ q=>q) λ_ _ q=>q
theorem HOk.laid (x:HOk P w H h)(k:∀b u,h.get? b=some u->h'.get? b=some u)(hp:h.objs.size<=a)(new:cq P w (upd H a o) h' a o):HOk P w (upd H a o) h':=λb u e=>by
 have hn:=x.fresh hp
 by_cases hb:b=a
 .subst hb;rw[aB] at e;cases e;exact new
 .rw[aF hb] at e;exact (x b u e).stay (λc v _ q=>k c v q) (λc q=>by rw[aF (a9 q hn)];exact q) λc xs q=>by rw[aF (a9 q hn)];exact q
end
noncomputable def Rd (H:Hp)(a:Addr)(u:HO):Prop:=H a=some u∨∃o,H a=some (.frz o u)
theorem Rd.ok {P:aR}{w:World}{H:Hp}{h:Heap}{a:Addr}{u:HO}(r:Rd H a u)(x:HOk P w H h):cq P w H h a u:=by
 rcases r with r|⟨o,r⟩
 .exact x a u r
 .obtain⟨_,q⟩:=x a _ r;exact q
noncomputable def Mut:Option HO->Prop
 | some (.lst _)=>True
 | some (.dK _)=>True
 | some (.dT _)=>True
 | some (.set _ _)=>True
 | some (.ins _ _ _)=>True
 | some (.ext _)=>True
 | _=>False
section
variable {P:aR}{w:World}{H:Hp}{h h':Heap}{x e:Addr}{o':HO}
theorem HOk.write (ok:HOk P w H h)(mu:Mut (H x))(he:e=x∨H e=some (.own x))(k:∀b u,b≠e->h.get? b=some u->h'.get? b=some u)(heo:∃u,h'.get? e=some u)
  (new:cq P w (upd H x o') h' x o'):HOk P w (upd H x o') h':=λb u q=>by
 have nown:∀c y,H c=some (.own y)->c≠x:=λc y r z=>by subst z;rw[r] at mu;exact mu
 have ntup:∀c xs,H c=some (.tup xs)->c≠x:=λc xs r z=>by subst z;rw[r] at mu;exact mu
 by_cases hb:b=x
 .subst hb;rw[aB] at q;cases q;exact new
 .rw[aF hb] at q
  by_cases hbe:b=e
  .have q':H b=some (.own x):=by
    rcases he with z|z
    .exact absurd (hbe.trans z) hb
    .rw[hbe];exact z
   rw[q] at q';cases q';obtain⟨v,hv⟩:=heo;exact#[v,by rw[hbe];exact hv]
  .refine (ok b u q).stay (λc v hc r=>k c v ?_ r) (λc r=>by rw[aF (nown c b r)];exact r) λc xs r=>by rw[aF (ntup c xs r)];exact r
   rcases hc with rfl|hc
   .exact hbe
   .rintro rfl
    rcases he with z|z
    .exact nown c b hc z
    .rw[hc] at z;cases z;exact hb rfl
end
structure Un (fs ex:List Addr)(H H':Hp)(h h':Heap):Prop where
 keep:∀b o,h.get? b=some o->H b=none->b∉fs->b∉ex->h'.get? b=some o
 slot:∀b o,h.get? b=some o->H b=none->b∈fs->b∉ex->∃sl,h'.get? b=some { o with slots:=sl }
 free:∀b o,h.get? b=some o->H b=none->b∉ex->H' b=none
 there:∀b o,h.get? b=some o->b∉ex->∃o',h'.get? b=some o'
 tups:∀b xs,H b=some (.tup xs)->H' b=some (.tup xs)
 frzs:∀b o u,H b=some (.frz o u)->H' b=some (.frz o u)
 tbls:∀b ps,H b=some (.tbl ps)->∃more,H' b=some (.tbl (ps++more))
section
variable {fs fs' ex ex':List Addr}{H H1 H2:Hp}{h h1 h2 h':Heap}{a x e:Addr}{o:HO}
theorem Un.any (u:Un fs ex H H1 h h1){b:Addr}{ob:Obj}(q:h.get? b=some ob)(n:H b=none)(hx:b∉ex):∃sl,h1.get? b=some { ob with slots:=sl }:=by
 by_cases hb:b∈fs
 .exact u.slot b ob q n hb hx
 .exact#[ob.slots,u.keep b ob q n hb hx]
theorem Un.kept (k:∀b u,h.get? b=some u->h'.get? b=some u):Un fs ex H H h h' :=
 #[λb ob q _ _ _=>k b ob q,λb ob q _ _ _=>#[ob.slots,k b ob q],λ_ _ _ n _=>n,λb ob q _=>#[ob,k b ob q],λ_ _ q=>q,λ_ _ _ q=>q,λ_ ps q=>#[(yA []),by rw[q];simp]]
theorem Un.refl:Un fs ex H H h h:=Un.kept λ_ _ q=>q
theorem Un.laid (k:∀b u,h.get? b=some u->h'.get? b=some u)(hp:h.objs.size<=a)(hn:H a=none):Un fs ex H (upd H a o) h h' where
 keep:=λb u q _ _ _=>k b u q
 slot:=λb u q _ _ _=>#[u.slots,k b u q]
 free:=λb u q n _=>by rw[aF (bB (b8 (aY q) hp))];exact n
 there:=λb u q _=>#[u,k b u q]
 tups:=λb xs q=>by rw[aF (a9 q hn)];exact q
 frzs:=λb u xs q=>by rw[aF (a9 q hn)];exact q
 tbls:=λb ps q=>#[(yA []),by rw[aF (a9 q hn),q];simp]
theorem Un.write (mu:Mut (H x))(he:e=x∨H e=some (.own x))(k:∀b u,b≠e->h.get? b=some u->h'.get? b=some u)(heo:∃u,h'.get? e=some u):Un fs ex H (upd H x o) h h':=by
 have hx:∀b,H b=none->b≠x:=λb n z=>by subst z;rw[n] at mu;exact mu
 have hb:∀b,H b=none->b≠e:=λb n z=>by
  subst z
  rcases he with r|r
  .exact hx b n r
  .rw[n] at r;cases r
 have hm:∀b u,H b=some u->¬ Mut (some u)->b≠x:=λb u q nm z=>by subst z;rw[q] at mu;exact nm mu
 refine#[λb u q n _ _=>k b u (hb b n) q,λb u q n _ _=>#[u.slots,k b u (hb b n) q],λb u q n _=>by rw[aF (hx b n)];exact n,λb u q _=>?_,λb xs q=>by rw[aF (hm b _ q λz=>z)];exact q,λb u xs q=>by rw[aF (hm b _ q λz=>z)];exact q,λb ps q=>#[(yA []),by rw[aF (hm b _ q λz=>z),q];simp]]
 by_cases hbe:b=e
 .subst hbe;exact heo
 .exact#[u,k b u hbe q]
end
noncomputable def trk (h:Heap)(H:Hp):List Addr:=(gM h.objs.size).filter λa=>(H a).isSome
noncomputable def hidT (h:Heap)(H:Hp):Heap:=PySem.W.hideAll h (trk h H)
theorem CI (h:Heap)(H:Hp):(hidT h H).objs.size=h.objs.size:=PySem.W.hideAll_size _ _
theorem Bj {h:Heap}{H:Hp}{b:Addr}{o:Obj}(e:h.get? b=some o)(n:H b=none):(hidT h H).get? b=some o :=
 PySem.W.hideAll_get _ e λhm=>by
  have q:(H b).isSome=true:=(h7.mp hm).2;rw[n] at q;simp at q
theorem BJ {h:Heap}{H:Hp}{b:Addr}{o:Obj}(e:(hidT h H).get? b=some o):h.get? b=some o/\H b=none:=by
 have e':h.get? b=some o:=PySem.W.of_hideAll (trk h H) e;refine#[e',5];cases q:H b with
 | none=>rfl
 | some x =>
  have hm:b∈trk h H:=h7.mpr #[OG.mpr (aY e'),by simp[q]];have z:(hidT h H).get? b=none:=PySem.W.hideAll_none (trk h H) hm;rw[z] at e;cases e
noncomputable def Et (g h:Heap)(L:Addr):List (Addr×Obj):=(gM h.objs.size).filterMap λa=>if a=L∨(g.get? a).isSome=true then none else (h.get? a).map λo=>(a,o)
noncomputable def rest (g h:Heap)(L d:Addr):List (Addr×Obj):=(Et g h L).filter λp=>decide (p.1≠d)
end L2
namespace L2
open PySem PySem.Spec PyProof.Rows
structure Mod (K:ah)(mg:Str->Option Value)(base:Heap):Prop where
 kin:K.In base
 glob:base.Ns bv mg
 blt:∃mb,base.Ns builtinsNs mb/\∀x:Str,x ≠ "__name__"->mb x=kR x
 nolimit:base.NoLimit
structure Cx where
 prog:aR
 w:World
 K:ah
 mg:Str->Option Value
 base:Heap
 A:Around
 N:List Str
 s₀:Shared
 H₀:Hp
 env:Env
 outer:List Env
 stack:List Env
 ex:List Addr
 fn:Str->Bool
 calm:Bool
 pn:List (Addr×Obj)
 xe:Value->Shared->Prop
noncomputable def frs (l:List Env):List Addr:=l.filterMap (·.frame)
noncomputable abbrev Cx.fs (X:Cx):List Addr:=frs X.outer
noncomputable def Vis (sc:Scope)(x:Str):Prop:=sc.names.lookup x=some .local∨sc.names.lookup x=some .cell∨sc.names.lookup x=some .free
noncomputable def Loc (sc:Scope)(x:Str):Prop:=sc.names.lookup x=some .local∨sc.names.lookup x=some .cell
noncomputable def Look (env:Env)(h:Heap)(m:Str->Option Value)(x:Str)(u:Value):Prop :=
 (env.kindOf x=some .local/\m x=some u)∨((env.kindOf x=some .cell∨env.kindOf x=some .free)/\∃c,env.cells.lookup x=some c/\h.IsCell c (some u))
structure Cx.Ok (X:Cx):Prop where
 mod:Mod X.K X.mg X.base
 kind:X.env.scope.kind = .function
 glob:X.env.globals=bv
 blt:X.env.builtins=builtinsNs
 above:X.s₀.heap.objs.size<=X.env.locals
 inj:∀x y c,X.env.cells.lookup x=some c->X.env.cells.lookup y=some c->x=y
 has:∀x,(X.env.kindOf x=some .cell∨X.env.kindOf x=some .free)->∃c,X.env.cells.lookup x=some c
 cab:∀x c,X.fn x=true->X.env.cells.lookup x=some c->X.s₀.heap.objs.size<=c
 hd:X.calm=true->X.A.handled=none
 frames:X.A.frames=some X.stack
 stk:X.stack=X.outer∨(X.stack=X.env::X.outer/\X.env.frame=some X.env.locals)
 exf:∀b∈X.ex,b≠X.env.locals/\∀x c,X.env.cells.lookup x=some c->c≠b
 bs:∀b o,X.base.get? b=some o->X.s₀.heap.get? b=some o/\X.H₀ b=none
 bsz:X.base.objs.size<=X.s₀.heap.objs.size
 noex:∀b o,X.base.get? b=some o->b∉X.ex
 exfs:∀b∈X.ex,b∉X.fs
 funs:X.s₀.heap.FunFrames X.base X.outer
 frf:∀b∈X.fs,X.H₀ b=none
structure Inv (X:Cx)(pins:List (Addr×Obj))(σ:List (Option V))(H:Hp)(s:Shared):Prop where
 ok:X.Ok
 os:s.os=X.s₀.os
 bare:lB s.gens
 base:Un X.fs X.ex X.H₀ H X.s₀.heap s.heap
 loc:∃m,s.heap.Ns X.env.locals m/\∀(i:Nat) (x:Str) (v:V),X.N[i]?=some x->σ[i]?=some (some v)->Vis X.env.scope x->∃u,RelV v u/\Look X.env s.heap m x u
 cell:∀x c,X.env.cells.lookup x=some c->∃v,s.heap.IsCell c v
 free:H X.env.locals=none
 freeC:∀x c,X.env.cells.lookup x=some c->H c=none
 pin:∀p∈X.pn++pins,s.heap.get? p.1=some p.2/\H p.1=none/\p.1≠X.env.locals/\p.1∉X.fs/\∀v,p.2.data ≠ .cell v
 hok:HOk X.prog X.w H s.heap
 len:σ.length=X.N.length
section
variable {X:Cx}{pins:List (Addr×Obj)}{σ:List (Option V)}{H H':Hp}{s:Shared}{h':Heap}
theorem Cx.Ok.nofr (ok:X.Ok){b:Addr}{o:Obj}(e:X.base.get? b=some o):b∉X.fs:=λhb=>by
 have:=(ok.funs.mem hb).1;rw[e] at this;cases this
theorem Inv.bs (I:Inv X pins σ H s):∀b o,X.base.get? b=some o->s.heap.get? b=some o/\H b=none:=λb o e =>
 #[I.base.keep b o (I.ok.bs b o e).1 (I.ok.bs b o e).2 (I.ok.nofr e) (I.ok.noex b o e),I.base.free b o (I.ok.bs b o e).1 (I.ok.bs b o e).2 (I.ok.noex b o e)]
theorem Inv.bk (I:Inv X pins σ H s):∀b o,X.base.get? b=some o->s.heap.get? b=some o:=λb o e=>(I.bs b o e).1
theorem Inv.mod (I:Inv X pins σ H s):Mod X.K X.mg X.base:=I.ok.mod
theorem Inv.kIn (I:Inv X pins σ H s):X.K.In s.heap:=I.ok.mod.kin.keeps I.bk
theorem Inv.fr (I:Inv X pins σ H s):∃m,Fr X.base X.env.locals s.heap m :=
 let ⟨m,hn,_⟩:=I.loc
 #[m,hn,I.bk,aV I.ok.bsz I.ok.above]
theorem Inv.lt (I:Inv X pins σ H s):X.env.locals<s.heap.objs.size:=let ⟨_,hn,_⟩:=I.loc;hn.lt
theorem Inv.sz (I:Inv X pins σ H s):X.s₀.heap.objs.size<=s.heap.objs.size:=aV I.ok.above (iR I.lt)
theorem Inv.nofs (I:Inv X pins σ H s){a:Addr}(h:s.heap.objs.size<=a):a∉X.fs:=λhb=>by
 obtain⟨_,o,ho,_⟩:=I.ok.funs.mem hb;exact absurd (b8 (aY ho) (aV I.sz h)) (gw _)
theorem Inv.cne (I:Inv X pins σ H s):∀x c,X.env.cells.lookup x=some c->c≠X.env.locals:=λx c e z=>by
 obtain⟨v,o,ho,hd⟩:=I.cell x c e;obtain⟨m,⟨o',es,ep,ho',hd',_⟩,_⟩:=I.loc;rw[z,ho'] at ho;cases ho;rw[hd'] at hd;cases hd
theorem Inv.funs (I:Inv X pins σ H s):s.heap.FunFrames X.base X.outer:=by
 have all:∀(l:List Env),(∀b∈frs l,b∈X.fs)->X.s₀.heap.FunFrames X.base l->s.heap.FunFrames X.base l:=by
  intro l
  induction l with
  | nil=>intro _ _;trivial
  | cons env r ih =>
   intro hs hl;obtain⟨hk,⟨L,o,hf,hn,ho,hd⟩,hr⟩:=hl;have hL:L∈X.fs:=hs L (by unfold frs;rw[yV,hf];exact bb);obtain⟨sl,e⟩:=I.base.slot L o ho (I.ok.frf L hL) hL λz=>I.ok.exfs L z hL;exact#[hk,#[L,_,hf,hn,e,hd],ih (λb hb=>hs b (by unfold frs;rw[yV,hf];exact bx _ hb)) hr]
 exact all X.outer (λ_ hb=>hb) I.ok.funs
theorem Inv.stack (I:Inv X pins σ H s):s.heap.FunFrames X.base X.stack:=by
 rcases I.ok.stk with e|⟨e,hf⟩
 .rw[e];exact I.funs
 .rw[e];obtain⟨m,hn,_⟩:=I.loc;refine .cons (by rw[I.ok.kind];decide) hf hn ?_ I.funs;exact Heap.get?_none_of_le (aV I.ok.bsz I.ok.above)
theorem Inv.j9 (I:Inv X pins σ H s):∀b∈frs X.stack,b∈X.env.locals::X.fs:=λb hb=>by
 rcases I.ok.stk with e|⟨e,hf⟩
 .rw[e] at hb;exact bx _ hb
 .rw[e] at hb;unfold frs at hb;rw[yV,hf] at hb;exact hb
theorem Inv.tD (I:Inv X pins σ H s):∀b∈frs X.stack,H b=none:=λb hb=>by
 rcases aM.mp (I.j9 b hb) with e|hb
 .rw[e];exact I.free
 .obtain⟨_,o,ho,_⟩:=I.ok.funs.mem hb;exact I.base.free b o ho (I.ok.frf b hb) λz=>I.ok.exfs b z hb
theorem Inv.step {g':Array GenState}{t':Nat}{d':Drawn}{ch:List Addr}(I:Inv X pins σ H s)
  (hch:∀b∈ch,(b∈X.ex∨X.s₀.heap.objs.size<=b)/\b≠X.env.locals/\(∀x c,X.env.cells.lookup x=some c->c≠b)/\∀p∈X.pn++pins,p.1≠b)
  (keep:∀b o,b≠X.env.locals->b∉X.fs->b∉ch->s.heap.get? b=some o->H b=none->h'.get? b=some o)
  (slot:∀b o,b≠X.env.locals->b∈X.fs->b∉ch->s.heap.get? b=some o->H b=none->∃sl,h'.get? b=some { o with slots:=sl }) (free:∀b o,b∉ch->s.heap.get? b=some o->H b=none->H' b=none)
  (there:∀b o,b∉ch->s.heap.get? b=some o->∃o',h'.get? b=some o')
  (tups:∀b xs,H b=some (.tup xs)->H' b=some (.tup xs)) (frzs:∀b o u,H b=some (.frz o u)->H' b=some (.frz o u)) (tbls:∀b ps,H b=some (.tbl ps)->∃more,H' b=some (.tbl (ps++more)))
  (ns:∀m,s.heap.Ns X.env.locals m->h'.Ns X.env.locals m) (hok:HOk X.prog X.w H' h') (hg:lB g') :
  Inv X pins σ H' { s with heap:=h',gens:=g',drawn:=d',toks:=t' }:=by
 have neL:∀b o,X.s₀.heap.get? b=some o->b≠X.env.locals:=λb o e=>bB (b8 (aY e) I.ok.above);have neC:∀b o,X.s₀.heap.get? b=some o->b∉X.ex->b∉ch:=λb o e hx hb=>by
  rcases (hch b hb).1 with z|z
  .exact hx z
  .exact absurd (b8 (aY e) z) (gw _)
 have cellK:∀x c,X.env.cells.lookup x=some c->∀v,s.heap.IsCell c v->h'.IsCell c v:=λx c e v #[o,ho,hd]=>by
  have nch:c∉ch:=λz=>(hch c z).2.2.1 x c e rfl
  by_cases hc:c∈X.fs
  .obtain⟨sl,q⟩:=slot c o (I.cne x c e) hc nch ho (I.freeC x c e);exact#[_,q,hd]
  .exact#[o,keep c o (I.cne x c e) hc nch ho (I.freeC x c e),hd]
 refine#[I.ok,I.os,hg,#[λb o e n hb hx=>?_,λb o e n hb hx=>?_,λb o e n hx=>?_,λb o e hx=>?_,λb xs e=>tups b xs (I.base.tups b xs e),λb o xs e=>frzs b o xs (I.base.frzs b o xs e),λb ps e=>?_],5,λx c e=>?_,5,λx c e=>?_,λp hp=>?_,hok,I.len]
 .exact keep b o (neL b o e) hb (neC b o e hx) (I.base.keep b o e n hb hx) (I.base.free b o e n hx)
 .obtain⟨sl,e1⟩:=I.base.slot b o e n hb hx;obtain⟨sl',e2⟩:=slot b _ (neL b o e) hb (neC b o e hx) e1 (I.base.free b o e n hx);exact#[sl',e2]
 .obtain⟨o',e1⟩:=I.base.there b o e hx;exact free b o' (neC b o e hx) e1 (I.base.free b o e n hx)
 .obtain⟨o',e1⟩:=I.base.there b o e hx;exact there b o' (neC b o e hx) e1
 .obtain⟨m1,e1⟩:=I.base.tbls b ps e;obtain⟨m2,e2⟩:=tbls b _ e1;exact#[m1++m2,by rw[e2,Array.append_assoc]]
 .obtain⟨m,hn,hl⟩:=I.loc;refine#[m,ns m hn,λi x v e1 e2 e3=>?_];obtain⟨u,r,l⟩:=hl i x v e1 e2 e3;refine#[u,r,5]
  rcases l with l|⟨k,c,e,z⟩
  .exact .inl l
  .exact .inr #[k,c,e,cellK x c e _ z]
 .obtain⟨v,z⟩:=I.cell x c e;exact#[v,cellK x c e v z]
 .obtain⟨m,⟨o,_,_,ho,_⟩,_⟩:=I.loc;exact free _ o (λz=>(hch _ z).2.1 rfl) ho I.free
 .obtain⟨v,o,ho,hd⟩:=I.cell x c e;exact free c o (λz=>(hch c z).2.2.1 x c e rfl) ho (I.freeC x c e)
 .obtain⟨e,n,ne,nf,d⟩:=I.pin p hp;have nch:p.1∉ch:=λz=>(hch p.1 z).2.2.2 p hp rfl;exact#[keep p.1 p.2 ne nf nch e n,free p.1 p.2 nch e n,ne,nf,d]
theorem Inv.un {t':Nat}(I:Inv X pins σ H s)(u:Un X.fs [] H H' s.heap h')(hok:HOk X.prog X.w H' h'):Inv X pins σ H' { s with heap:=h',toks:=t' }:=by
 obtain⟨m,⟨o,es,ep,ho,r⟩,_⟩:=id I.loc;obtain⟨sl,hL⟩:=u.any ho I.free (by simp);exact I.step (g':=s.gens) (d':=s.drawn) (ch:=[]) (λ_ z=>nomatch z) (λb o _ hb _ e n=>u.keep b o e n hb (by simp)) (λb o _ hb _ e n=>u.slot b o e n hb (by simp)) (λb o _ e n=>u.free b o e n (by simp)) (λb o _ e=>u.there b o e (by simp)) u.tups u.frzs u.tbls (λm' hm=>by
  obtain⟨o',es',ep',ho',r'⟩:=hm;rw[ho] at ho';cases ho';exact#[_,es',ep',hL,r']) hok I.bare
theorem Inv.call {g':Array GenState}{t':Nat}{d':Drawn}{ch:List Addr}(I:Inv X pins σ H s)(u:Un (frs X.stack) ch H H' s.heap h')(hok:HOk X.prog X.w H' h')(hg:lB g')
  (hch:∀b∈ch,(b∈X.ex∨X.s₀.heap.objs.size<=b)/\b≠X.env.locals/\(∀x c,X.env.cells.lookup x=some c->c≠b)/\∀p∈X.pn++pins,p.1≠b) :
  Inv X pins σ H' { s with heap:=h',gens:=g',drawn:=d',toks:=t' }:=by
 obtain⟨m,⟨o,es,ep,ho,r⟩,_⟩:=id I.loc;obtain⟨sl,hL⟩:=u.any ho I.free λz=>(hch _ z).2.1 rfl;exact I.step (ch:=ch) hch (λb o hL hb hc e n=>u.keep b o e n (λz=>(aM.mp (I.j9 b z)).elim hL hb) hc) (λb o _ _ hc e n=>u.any e n hc) (λb o hc e n=>u.free b o e n hc) (λb o hc e=>u.there b o e hc) u.tups u.frzs u.tbls (λm' hm=>by
  obtain⟨o',es',ep',ho',r'⟩:=hm;rw[ho] at ho';cases ho';exact#[_,es',ep',hL,r']) hok hg
theorem Inv.turned {t':Nat}{it:Addr}(I:Inv X pins σ H s)(k:∀b o,b≠it->s.heap.get? b=some o->h'.get? b=some o)(hn:H it=none)(hL:it≠X.env.locals)
  (h1:it∈X.ex∨X.s₀.heap.objs.size<=it) (h2:∀x c,X.env.cells.lookup x=some c->c≠it) (h3:∀p∈X.pn++pins,p.1≠it):Inv X pins σ H { s with heap:=h',toks:=t' }:=by
 have nit:∀b u,H b=some u->b≠it:=λb u e z=>by rw[z,hn] at e;cases e
 refine I.step (g':=s.gens) (d':=s.drawn) (ch:=[it]) (λb hb=>?_) (λb o _ _ hc e _=>k b o (λz=>hc (by simp[z])) e) (λb o _ _ hc e _=>#[o.slots,k b o (λz=>hc (by simp[z])) e]) (λ_ _ _ _ n=>n)
  (λb o hc e=>#[o,k b o (λz=>hc (by simp[z])) e]) (λ_ _ e=>e) (λ_ _ _ e=>e) (λb ps e=>#[(yA []),by rw[e];simp]) (λm hm=>?_) (λb u e=>?_) I.bare
 .have e:b=it:=by simpa using hb
  subst e;exact#[h1,hL,h2,h3]
 .obtain⟨o,es,ep,ho,r⟩:=hm;exact#[o,es,ep,k _ o (a8 hL) ho,r]
 .refine (I.hok b u e).stay (λc v hc q=>k c v ?_ q) (λ_ q=>q) λ_ _ q=>q
  rcases hc with z|z
  .rw[z];exact nit b u e
  .exact nit c _ z
theorem Inv.tok (I:Inv X pins σ H s)(t:Nat):Inv X pins σ H { s with toks:=t }:=I.un (h':=s.heap) (t':=t) Un.refl I.hok
theorem Inv.kept {t':Nat}(I:Inv X pins σ H s)(k:∀b u,s.heap.get? b=some u->h'.get? b=some u):Inv X pins σ H { s with heap:=h',toks:=t' }:=I.un (Un.kept k) (I.hok.kept k)
theorem Inv.laid {a:Addr}{o:HO}{t':Nat}(I:Inv X pins σ H s)(k:∀b u,s.heap.get? b=some u->h'.get? b=some u)(hp:s.heap.objs.size<=a)(new:cq X.prog X.w (upd H a o) h' a o) :
  Inv X pins σ (upd H a o) { s with heap:=h',toks:=t' }:=I.un (Un.laid k hp (I.hok.fresh hp)) (I.hok.laid k hp new)
theorem Inv.write {x e:Addr}{o:HO}{t':Nat}(I:Inv X pins σ H s)(mu:Mut (H x))(he:e=x∨H e=some (.own x))(k:∀b u,b≠e->s.heap.get? b=some u->h'.get? b=some u)(heo:∃u,h'.get? e=some u)
  (new:cq X.prog X.w (upd H x o) h' x o):Inv X pins σ (upd H x o) { s with heap:=h',toks:=t' }:=I.un (Un.write mu he k heo) (I.hok.write mu he k heo new)
theorem Inv.weak {σ':List (Option V)}(I:Inv X pins σ H s)(hl:σ'.length=σ.length)(w:∀(i:Nat) v,σ'[i]?=some (some v)->σ[i]?=some (some v)):Inv X pins σ' H s :=
 #[I.ok,I.os,I.bare,I.base,let ⟨m,hn,hl'⟩:=I.loc;#[m,hn,λi x v e1 e2 e3=>hl' i x v e1 (w i v e2) e3],I.cell,I.free,I.freeC,I.pin,I.hok,hl.trans I.len]
theorem Inv.uE {pins':List (Addr×Obj)}(I:Inv X pins σ H s)(h:∀p∈pins',s.heap.get? p.1=some p.2/\H p.1=none/\p.1≠X.env.locals/\p.1∉X.fs/\∀v,p.2.data ≠ .cell v):Inv X pins' σ H s :=
 #[I.ok,I.os,I.bare,I.base,I.loc,I.cell,I.free,I.freeC,λp hp=>(bM.mp hp).elim (λz=>I.pin p (fL _ z)) (h p),I.hok,I.len]
theorem sP {N:List Str}(hN:N.Nodup){i j:Nat}{x:Str}(a:N[i]?=some x)(b:N[j]?=some x):i=j:=by
 obtain⟨h1,e1⟩:=br.mp a;obtain⟨h2,e2⟩:=br.mp b;exact (Uk hN).mp (e1.trans e2.symm)
theorem yF {M:Model}{A:Around}{E:Value->Shared->Prop}{i:Nat}{x:Str}{v:V}{u:Value}{Q:Unit->Shared->Prop}(I:Inv X pins σ H s)(hN:X.N.Nodup)(hi:X.N[i]?=some x)(hx:Loc X.env.scope x)(r:RelV v u)
  (h:∀s',Inv X pins (σ.set i (some v)) H s'->(∃a,eN a s.heap s'.heap/\(a=X.env.locals∨X.env.cells.lookup x=some a))->Q () s') (hf:X.fn x=true∨X.env.scope.names.lookup x=some .local:=by first|exact .inl rfl|exact .inr rfl|assumption):wpAny M A (storeName X.env x u) Q E s:=by
 obtain⟨m,hn,hl⟩:=id I.loc;have hcls:(X.env.scope.kind == .class||(X.env.scope.kind == .module&&X.env.locals != X.env.globals))=false:=by rw[I.ok.kind];rfl
 have hiσ:i<σ.length:=by rw[I.len];exact (br.mp hi).1
 have cne:=I.cne;have tracked:∀{a:Addr} {h':Heap},(∃o,s.heap.get? a=some o/\H a=none)->eN a s.heap h'->HOk X.prog X.w H h':=λ{a h'} ha hs b ob e=>by
  obtain⟨_,_,hfree⟩:=ha;refine (I.hok b ob e).stay (λc w' hc q=>(hs.2 c ?_).trans q) (λ_ q=>q) λ_ _ q=>q;rintro rfl
  rcases hc with rfl|hc
  .rw[hfree] at e;cases e
  .rw[hfree] at hc;cases hc
 rcases hx with hk|hk
 .refine wpAny_storeName_local hk hn (λh' hn' hs=>?_) hcls;obtain⟨oL,_,_,hoL,_⟩:=id hn;refine h _ #[I.ok,I.os,I.bare,#[λb o e n hb hx=>?_,λb o e n hb hx=>?_,I.base.free,λb o e hx=>?_,I.base.tups,I.base.frzs,I.base.tbls],#[_,hn',λj y v' e1 e2 e3=>?_],λy c e=>?_,I.free,I.freeC,λp hp=>?_,tracked #[oL,hoL,I.free] hs,by simpa using I.len] #[_,hs,.inl rfl]
  .exact (hs.2 b (bB (b8 (aY e) I.ok.above))).trans (I.base.keep b o e n hb hx)
  .obtain⟨sl,e1⟩:=I.base.slot b o e n hb hx;exact#[sl,(hs.2 b (bB (b8 (aY e) I.ok.above))).trans e1]
  .obtain⟨o',e1⟩:=I.base.there b o e hx;exact#[o',(hs.2 b (bB (b8 (aY e) I.ok.above))).trans e1]
  .by_cases hj:j=i
   .subst hj;rw[hi] at e1;cases e1;rw[zu hiσ] at e2;cases e2;exact#[u,r,.inl #[hk,by simp]]
   .rw[xV (a8 hj)] at e2;obtain⟨u',r',q⟩:=hl j y v' e1 e2 e3;refine#[u',r',5]
    rcases q with⟨k,e⟩|⟨k,c,e,z⟩
    .refine .inl #[k,5];have:y≠x:=λe=>hj (sP hN e1 (e▸hi));simp[this,e]
    .exact .inr #[k,c,e,z.sameBut hs (cne y c e)]
  .obtain⟨w',z⟩:=I.cell y c e;exact#[w',z.sameBut hs (cne y c e)]
  .obtain⟨e,n,ne,nf,d⟩:=I.pin p hp;exact#[(hs.2 p.1 ne).trans e,n,ne,nf,d]
 .have hfn:X.fn x=true:=by
   rcases hf with z|z
   .exact z
   .rw[z] at hk;cases hk
  obtain⟨c,hc⟩:=I.ok.has x (.inl hk);obtain⟨w',z⟩:=I.cell x c hc;refine wpAny_storeName_cell I.ok.kind hk hc z (λh' hc' hs=>?_);obtain⟨oc,hoc,hocd⟩:=id z;refine h { s with heap:=h' } #[I.ok,I.os,I.bare,#[λb o e n hb hx=>?_,λb o e n hb hx=>?_,I.base.free,λb o e hx=>?_,I.base.tups,I.base.frzs,I.base.tbls],#[m,hn.sameBut hs (a8 (cne x c hc)),λj y v' e1 e2 e3=>?_],λy c' e=>?_,I.free,I.freeC,λp hp=>?_,tracked #[oc,hoc,I.freeC x c hc] hs,by simpa using I.len] #[c,hs,.inr hc]
  .exact (hs.2 b (bB (b8 (aY e) (I.ok.cab x c hfn hc)))).trans (I.base.keep b o e n hb hx)
  .obtain⟨sl,e1⟩:=I.base.slot b o e n hb hx;exact#[sl,(hs.2 b (bB (b8 (aY e) (I.ok.cab x c hfn hc)))).trans e1]
  .obtain⟨o',e1⟩:=I.base.there b o e hx;exact#[o',(hs.2 b (bB (b8 (aY e) (I.ok.cab x c hfn hc)))).trans e1]
  .by_cases hj:j=i
   .subst hj;rw[hi] at e1;cases e1;rw[zu hiσ] at e2;cases e2;exact#[u,r,.inr #[.inl hk,c,hc,hc']]
   .rw[xV (a8 hj)] at e2;obtain⟨u',r',q⟩:=hl j y v' e1 e2 e3;refine#[u',r',5]
    rcases q with q|⟨k,c',e,z'⟩
    .exact .inl q
    .refine .inr #[k,c',e,z'.sameBut hs ?_];rintro rfl;exact hj (sP hN e1 (I.ok.inj _ _ _ e hc▸hi))
  .by_cases hcc:c'=c
   .subst hcc;exact#[_,hc']
   .obtain⟨w2,z2⟩:=I.cell y c' e;exact#[w2,z2.sameBut hs hcc]
  .obtain⟨e,n,ne,nf,d⟩:=I.pin p hp;refine#[(hs.2 p.1 ?_).trans e,n,ne,nf,d];intro q;rw[q,hoc] at e;have q':oc=p.2:=eQ e;exact d w' (by rw[<- q'];exact hocd)
theorem oq {M:Model}{A:Around}{E:Value->Shared->Prop}{i:Nat}{x:Str}{v:V}{u:Value}{Q:Unit->Shared->Prop}(I:Inv X pins σ H s)(hN:X.N.Nodup)(hi:X.N[i]?=some x)(hx:Loc X.env.scope x)(r:RelV v u)
  (h:∀s',Inv X pins (σ.set i (some v)) H s'->Q () s') (hf:X.fn x=true∨X.env.scope.names.lookup x=some .local:=by first|exact .inl rfl|exact .inr rfl|assumption):wpAny M A (storeName X.env x u) Q E s :=
 yF I hN hi hx r (λs' I' _=>h s' I') hf
end
noncomputable abbrev XK:=Value->Option Addr->Hp->Prop
noncomputable abbrev St:=List (Option V)
noncomputable abbrev VK:=V->Hp->Prop
noncomputable abbrev TE:=St->Hp->VK->Prop
noncomputable abbrev TT:=St->Hp->(Bool->Hp->Prop)->Prop
noncomputable abbrev TA:=St->Hp->(List V->Hp->Prop)->Prop
structure Ends where
 nx:St->Hp->Prop
 rt:VK
 bk:St->Hp->Prop:=λ_ _=>False
 ct:St->Hp->Prop:=λ_ _=>False
noncomputable abbrev TS:=Ends->St->Hp->Prop
noncomputable def EP (X:Cx)(pins:List (Addr×Obj))(σ:St)(Q:VK)(u:Value)(s':Shared):Prop:=Ex2 λv H'=>Inv X pins σ H' s'/\RelV v u/\Q v H'
noncomputable def TP (X:Cx)(pins:List (Addr×Obj))(σ:St)(Q:Bool->Hp->Prop)(b:Bool)(s':Shared):Prop:=∃H',Inv X pins σ H' s'/\Q b H'
noncomputable def AP (X:Cx)(pins:List (Addr×Obj))(σ:St)(Q:List V->Hp->Prop)(us:List Value)(s':Shared):Prop:=Ex2 λvs H'=>Inv X pins σ H' s'/\Vals vs us/\Q vs H'
noncomputable def SP (X:Cx)(pins:List (Addr×Obj))(D:Ends)(f:Flow)(s':Shared):Prop :=
 match f with
 | .next=>∃ σ' H',Inv X pins σ' H' s'/\D.nx σ' H'
 | .brk=>∃ σ' H',Inv X pins σ' H' s'/\D.bk σ' H'
 | .cont=>∃ σ' H',Inv X pins σ' H' s'/\D.ct σ' H'
 | .ret u=>∃v σ' H',Inv X pins σ' H' s'/\RelV v u/\D.rt v H'
noncomputable def PE (X:Cx)(e:Expr)(t:TE):Prop :=
 ∀(pins:List (Addr×Obj)) (s:Shared) (σ:St) (H:Hp) (Q:VK),Inv X pins σ H s->t σ H Q->wpAny (model X.prog X.w) X.A (eval e X.env) (EP X pins σ Q) X.xe s
noncomputable def PT (X:Cx)(e:Expr)(t:TT):Prop :=
 ∀(pins:List (Addr×Obj)) (s:Shared) (σ:St) (H:Hp) (Q:Bool->Hp->Prop),Inv X pins σ H s->t σ H Q->wpAny (model X.prog X.w) X.A (isTrue e X.env (eval e X.env)) (TP X pins σ Q) X.xe s
noncomputable def PW (X:Cx)(e:Expr)(t:TT):Prop :=
 ∀(whole:Sem Value) (pins:List (Addr×Obj)) (s:Shared) (σ:St) (H:Hp) (Q:Bool->Hp->Prop),Inv X pins σ H s->t σ H Q->wpAny (model X.prog X.w) X.A (isTrue e X.env whole) (TP X pins σ Q) X.xe s
theorem PW.pt {X:Cx}{e:Expr}{t:TT}(h:PW X e t):PT X e t:=h _
noncomputable def PA (X:Cx)(es:List Expr)(t:TA):Prop :=
 ∀(pos:Pos) (pins:List (Addr×Obj)) (s:Shared) (σ:St) (H:Hp) (Q:List V->Hp->Prop),Inv X pins σ H s->t σ H Q->wpAny (model X.prog X.w) X.A (spliced (backTo pos (bO es X.env))) (AP X pins σ Q) X.xe s
noncomputable def PS (X:Cx)(st:Stmt)(t:TS):Prop :=
 ∀(pins:List (Addr×Obj)) (s:Shared) (σ:St) (H:Hp) (D:Ends),Inv X pins σ H s->t D σ H->wpAny (model X.prog X.w) X.A (exec st X.env) (SP X pins D) X.xe s
noncomputable def PSs (X:Cx)(st:List Stmt)(t:TS):Prop :=
 ∀(pins:List (Addr×Obj)) (s:Shared) (σ:St) (H:Hp) (D:Ends),Inv X pins σ H s->t D σ H->wpAny (model X.prog X.w) X.A (execs st X.env) (SP X pins D) X.xe s
theorem thn {α:Type}{t:Sem α}{Q Q':α->Shared->Prop}{M:Model}{A:Around}{E:Value->Shared->Prop}{s:Shared}(h:wpAny M A t Q E s)(hQ:∀a s,Q a s->Q' a s):wpAny M A t Q' E s:=dE h hQ λ_ _ x=>x
end L2
namespace L2
open PySem PySem.Spec PyProof.Rows
section
variable {X:Cx}
noncomputable def tVar (i:Nat):TE:=fun σ H Q=>∃v,σ[i]?=some (some v)/\Q v H
noncomputable def tC (v:V):TE:=λ_ H Q=>Q v H
theorem Iu {i:Nat}{x:Str}{pos:Pos}(hN:X.N[i]?=some x)(hv:Vis X.env.scope x)(hd:autoParam ((x==("__debug__":Str))=false) aUA._auto_1)(hcd:autoParam ((x==("__classdict__":Str))=false) aUA._auto_1):PE X (.Name x pos) (tVar i):=by
 intro pins s σ H Q I h;obtain⟨v,e,h⟩:=h;obtain⟨m,hn,hl⟩:=I.loc;obtain⟨u,r,l⟩:=hl i x v hN e hv;have fin:EP X pins σ Q u s:=#[v,H,I,r,h]
 rcases l with⟨hk,hm⟩|⟨hk,c,hc,hcell⟩
 .exact wpAny_Name (wpAny_loadName_local I.ok.kind hk hn hm fin) hd
 .rcases hk with hk|hk
  .exact wpAny_Name (wpAny_loadName_cell I.ok.kind hk hc hcell fin) hd
  .exact wpAny_Name (wpAny_loadName_free I.ok.kind hk hc hcell fin hcd) hd
theorem ad {i j pos}:PE X (.Constant (.int i) j pos) (tC (.int i)):=λ_ _ _ H _ I h=>wpAny_Constant_int #[.int i,H,I.tok _,#[1],h]
theorem fK {b j pos}:PE X (.Constant (.bool b) j pos) (tC (.bl b)):=λ_ _ _ H _ I h=>Constant_bool #[.bl b,H,I,0,h]
theorem gP {j pos}:PE X (.Constant .none j pos) (tC .non):=λ_ _ _ H _ I h=>Constant_none #[.non,H,I,0,h]
theorem ar {x j pos}:PE X (.Constant (.str x) j pos) (tC (.str x)):=λ_ _ _ H _ I h=>Calls.Constant_str #[.str x,H,I.tok _,#[1],h]
noncomputable def Gl (X:Cx)(x:Str):Prop:=X.env.kindOf x=some .globalImplicit
theorem pS {E:Value->Shared->Prop}{pins:List (Addr×Obj)}{s:Shared}{σ:St}{H:Hp}{x:Str}{u:Value}{pos:Pos}{Q:Value->Shared->Prop}(I:Inv X pins σ H s)(hg:Gl X x)(hm:X.mg x=some u)(h:Q u s)
  (hd:(x==("__debug__":Str))=false:=by decide):wpAny (model X.prog X.w) X.A (eval (.Name x pos) X.env) Q E s :=
 Ru I.ok.kind hg (Calls.loadGlobal_global (by rw[I.ok.glob];exact I.mod.glob.keeps I.bk) hm h) hd
theorem me {E:Value->Shared->Prop}{pins:List (Addr×Obj)}{s:Shared}{σ:St}{H:Hp}{x:Str}{u:Value}{pos:Pos}{Q:Value->Shared->Prop}(I:Inv X pins σ H s)(hg:Gl X x)(hm:X.mg x=none)(hv:kR x=some u)(h:Q u s)
  (hn:x ≠ "__name__":=by decide) (hd:(x==("__debug__":Str))=false:=by decide):wpAny (model X.prog X.w) X.A (eval (.Name x pos) X.env) Q E s:=by
 obtain⟨mb,h1,h2⟩:=I.mod.blt;exact Ru I.ok.kind hg (Calls.loadGlobal_builtin (by rw[I.ok.glob];exact I.mod.glob.keeps I.bk) hm (by rw[I.ok.blt];exact h1.keeps I.bk) ((h2 x hn).trans hv) h) hd
theorem dR {x:Str}{v:V}{u:Value}{pos:Pos}(hg:Gl X x)(hm:X.mg x=some u)(r:RelV v u)(hd:autoParam ((x==("__debug__":Str))=false) aUA._auto_1):PE X (.Name x pos) (tC v) :=
 λ_ _ _ H _ I h=>pS I hg hm #[v,H,I,r,h] hd
theorem eG {x:Str}{v:V}{u:Value}{pos:Pos}(hg:Gl X x)(hm:X.mg x=none)(hv:kR x=some u)(r:RelV v u)(hn:autoParam (x ≠ "__name__") aUA._auto_1)(hd:autoParam ((x==("__debug__":Str))=false) aUA._auto_1):PE X (.Name x pos) (tC v) :=
 λ_ _ _ H _ I h=>me I hg hm hv #[v,H,I,r,h] hn hd
variable {a b:Expr}{ta tb:TE}{pos:Pos}
noncomputable def PC (X:Cx)(op:CmpOp)(a b:Expr)(t:TE):Prop :=
 ∀(pins:List (Addr×Obj)) (s:Shared) (σ:St) (H:Hp) (Q:VK),Inv X pins σ H s->t σ H Q →
  wpAny (model X.prog X.w) X.A (eval a X.env) (λv s₁=>wpAny (model X.prog X.w) X.A (eval b X.env) (λu s₂=>wpAny (model X.prog X.w) X.A (cy op v u) (EP X pins σ Q) X.xe s₂) X.xe s₁) X.xe s
noncomputable def tB (t:TE):TT:=fun σ H Q=>t σ H λx H1=>∃c,x = .bl c/\Q c H1
theorem mC {op:CmpOp}{t:TE}(h:PC X op a b t)(h1:xN op b=false:=by first|exact nobehind _ (by decide) (by decide)|rfl):PT X (.Compare a [op] [b] pos) (tB t):=by
 intro pins s σ H Q I hw;refine Ry (thn (h pins s σ H _ I hw) λv s1 h1=>thn h1 λu s2 h2=>thn h2 λc s3 #[x,H1,I1,r1,q1]=>?_) h1;obtain⟨d,rfl,q⟩:=q1;cases r1;exact ie #[H1,I1,q]
theorem cN {e:Expr}{t:TE}(h:PE X e t)(he:∀whole,isTrue e X.env whole=(do let v <- whole;rF e.pos;jq [v] (truthy v)):=by intro _;rfl):PT X e (tB t):=by
 intro pins s σ H Q I hw;refine isTrue_plain (thn (h pins s σ H _ I hw) λv s1 #[x,H1,I1,r1,q1]=>?_) (he _);obtain⟨d,rfl,q⟩:=q1;cases r1;exact ie #[H1,I1,q]
variable {tA tB':TT}{rest:List Expr}
noncomputable def tAnd (t u:TT):TT:=fun σ H Q=>t σ H λc H1=>if c=true then u σ H1 Q else Q false H1
noncomputable def tOr (t u:TT):TT:=fun σ H Q=>t σ H λc H1=>if c=true then Q true H1 else u σ H1 Q
noncomputable def tNot (t:TT):TT:=fun σ H Q=>t σ H λc H1=>Q (!c) H1
theorem xT (ha:PT X a tA):PW X (.BoolOp .And [a] pos) tA:=by
 intro wh pins s σ H Q I h;refine isTrue_and (thn (ha pins s σ H Q I h) λc s1 e=>?_);cases c with
 | true=>exact isTrue_and_nil e
 | false=>exact e
theorem lO (ha:PT X a tA):PW X (.BoolOp .Or [a] pos) tA:=by
 intro wh pins s σ H Q I h;refine isTrue_or (thn (ha pins s σ H Q I h) λc s1 e=>?_);cases c with
 | false=>exact isTrue_or_nil e
 | true=>exact e
theorem iu (ha:PT X a tA)(hb:PW X (.BoolOp .And (b::rest) pos) tB'):PW X (.BoolOp .And (a::b::rest) pos) (tAnd tA tB'):=by
 intro wh pins s σ H Q I h;refine isTrue_and (thn (ha pins s σ H _ I h) λc s1 #[H1,I1,q1]=>?_);cases c with
 | true=>exact hb wh pins s1 σ H1 Q I1 q1
 | false=>exact#[H1,I1,q1]
theorem jd (ha:PT X a tA)(hb:PW X (.BoolOp .Or (b::rest) pos) tB'):PW X (.BoolOp .Or (a::b::rest) pos) (tOr tA tB'):=by
 intro wh pins s σ H Q I h;refine isTrue_or (thn (ha pins s σ H _ I h) λc s1 #[H1,I1,q1]=>?_);cases c with
 | true=>exact#[H1,I1,q1]
 | false=>exact hb wh pins s1 σ H1 Q I1 q1
theorem fj (ha:PT X a tA):PT X (.UnaryOp .Not a pos) (tNot tA):=by
 intro pins s σ H Q I h;exact isTrue_not (ha pins s σ H (λc H1=>Q (!c) H1) I h)
noncomputable def Dc (ta tb:TE):TE:=fun σ H Q=>ta σ H λx H1=>∃c,x = .bl c/\if c=true then tb σ H1 Q else Q (.bl false) H1
noncomputable def tOrV (ta tb:TE):TE:=fun σ H Q=>ta σ H λx H1=>∃c,x = .bl c/\if c=true then Q (.bl true) H1 else tb σ H1 Q
noncomputable def Jz (ta:TE):TE:=fun σ H Q=>ta σ H λx H1=>∃c,x = .bl c/\Q (.bl (!c)) H1
theorem lL {op}{t:TE}(h:PE X a t):PE X (.BoolOp op [a] pos) t:=λpins s σ H Q I hw=>BoolOp_one (h pins s σ H Q I hw)
theorem m3 (ha:PE X a ta)(hb:PE X (.BoolOp .And (b::rest) pos) tb):PE X (.BoolOp .And (a::b::rest) pos) (Dc ta tb):=by
 intro pins s σ H Q I h;refine BoolOp_and (thn (ha pins s σ H _ I h) λv s1 #[x,H1,I1,r1,q1]=>?_);obtain⟨c,rfl,q1⟩:=q1;cases r1;refine ie ?_;cases c with
 | true=>exact hb pins s1 σ H1 Q I1 q1
 | false=>exact#[.bl false,H1,I1,0,q1]
theorem wO (ha:PE X a ta)(hb:PE X (.BoolOp .Or (b::rest) pos) tb):PE X (.BoolOp .Or (a::b::rest) pos) (tOrV ta tb):=by
 intro pins s σ H Q I h;refine BoolOp_or (thn (ha pins s σ H _ I h) λv s1 #[x,H1,I1,r1,q1]=>?_);obtain⟨c,rfl,q1⟩:=q1;cases r1;refine ie ?_;cases c with
 | false=>exact hb pins s1 σ H1 Q I1 q1
 | true=>exact#[.bl true,H1,I1,0,q1]
theorem EZ (ha:PE X a ta):PE X (.UnaryOp .Not a pos) (Jz ta):=by
 intro pins s σ H Q I h;refine UnaryOp_ (thn (ha pins s σ H _ I h) λv s1 #[x,H1,I1,r1,q1]=>?_);obtain⟨c,rfl,q1⟩:=q1;cases r1;exact not_of (ie #[.bl (!c),H1,I1,0,q1])
noncomputable def tIf (t:TT)(ta tb:TE):TE:=fun σ H Q=>t σ H λc H1=>if c=true then ta σ H1 Q else tb σ H1 Q
theorem oY {c:Expr}(hc:PT X c tA)(ha:PE X a ta)(hb:PE X b tb):PE X (.IfExp c a b pos) (tIf tA ta tb):=by
 intro pins s σ H Q I h;refine wpAny_IfExp (thn (hc pins s σ H _ I h) λd s1 #[H1,I1,q1]=>?_);cases d with
 | true=>exact ha pins s1 σ H1 Q I1 q1
 | false=>exact hb pins s1 σ H1 Q I1 q1
end
end L2
namespace L2
open PySem PySem.Spec PyProof.Rows
noncomputable def SqL (K:ah)(H:Hp)(a:Addr)(xs:List V):Prop :=
 Rd H a (.lst xs) ∨
  Ex3 λ(o:Obj) (its:Array Value) (n:Nat)=>K.lookup a=some o/\o.cls = .type "list" /\ o.dict=none/\o.data = .seq its n/\its.size<=aE/\Vals xs its.toList
noncomputable def SqT (K:ah)(H:Hp)(a:Addr)(xs:List V):Prop :=
 Rd H a (.tup xs) ∨
  Ex3 λ(o:Obj) (its:Array Value) (n:Nat)=>K.lookup a=some o/\o.cls = .type "tuple" /\ o.data = .seq its n/\its.size<=aE/\Vals xs its.toList
noncomputable def absV:Value->Option V
 | .none=>some .non
 | .bool b=>some (.bl b)
 | .int i _=>some (.int i)
 | .str x _=>some (.str x)
 | .bytes b _=>some (.byt b)
 | .float b _=>some (.flt b)
 | .ref a=>some (.ref a)
 | .type n=>some (.ty n)
 | _=>none
theorem RelV.abs {x:V}{u:Value}(r:RelV x u):absV u=some x:=by
 cases x with
 | non=>cases r;rfl
 | bl _=>cases r;rfl
 | int _=>obtain⟨t,rfl⟩:=r;rfl
 | str _=>obtain⟨t,rfl⟩:=r;rfl
 | byt _=>obtain⟨t,rfl⟩:=r;rfl
 | flt _=>obtain⟨t,rfl⟩:=r;rfl
 | ref _=>cases r;rfl
 | ty _=>cases r;rfl
theorem RelV.inj {x y:V}{u:Value}(r:RelV x u)(q:RelV y u):x=y:=eQ (r.abs.symm.trans q.abs)
theorem Vals.inj:∀{xs ys:List V} {us:List Value},Vals xs us->Vals ys us->xs=ys
 | _,_,_,.nil,.nil=>rfl
 | _,_,_,.cons r t,.cons r' t'=>by rw[r.inj r',Vals.inj t t']
section
variable {X:Cx}{pins:List (Addr×Obj)}{σ:St}{H:Hp}{s:Shared}{a:Addr}{xs ys:List V}
theorem SqL.of {K:ah}(h:H a=some (.lst xs)):SqL K H a xs:=.inl (.inl h)
theorem SqT.of {K:ah}(h:H a=some (.tup xs)):SqT K H a xs:=.inl (.inl h)
theorem Inv.list (I:Inv X pins σ H s)(h:SqL X.K H a xs):∃its:List Value,Vals xs its/\PlainL s.heap a its.toArray/\xs.length<=aE:=by
 rcases h with h|⟨o,its,n,hk,hc,hd,hs,hz,r⟩
 .obtain⟨z,its,n,r,e⟩:=h.ok I.hok;exact#[its,r,#[_,n,e,000],z]
 .refine#[its.toList,r,#[o,n,I.kIn a o hk,hc,hd,by simpa using hs],5];have e:=r.length;simp only[cR] at e;lk
theorem Inv.tuple (I:Inv X pins σ H s)(h:SqT X.K H a xs):∃its:List Value,Vals xs its/\IsTup s.heap a its.toArray/\xs.length<=aE:=by
 rcases h with h|⟨o,its,n,hk,hc,hs,hz,r⟩
 .obtain⟨z,its,r,p⟩:=h.ok I.hok;exact#[its,r,p,z]
 .refine#[its.toList,r,#[o,I.kIn a o hk,hc,n,by simpa using hs],5];have e:=r.length;simp only[cR] at e;lk
theorem Inv.oX (I:Inv X pins σ H s)(h:SqL X.K H a xs)(h':SqL X.K H a ys):xs=ys:=by
 obtain⟨its,r,⟨o,n,e,_,_,d⟩,_⟩:=I.list h;obtain⟨its',r',⟨o',n',e',_,_,d'⟩,_⟩:=I.list h';rw[e] at e';cases e';rw[d] at d';injection d' with d1 _
 have:its=its':=by simpa using congrArg Array.toList d1
 subst this;exact r.inj r'
theorem Inv.sN (I:Inv X pins σ H s)(h:SqT X.K H a xs)(h':SqT X.K H a ys):xs=ys:=by
 obtain⟨its,r,⟨o,e,_,n,d⟩,_⟩:=I.tuple h;obtain⟨its',r',⟨o',e',_,n',d'⟩,_⟩:=I.tuple h';rw[e] at e';cases e';rw[d] at d';injection d' with d1 _
 have:its=its':=by simpa using congrArg Array.toList d1
 subst this;exact r.inj r'
end
noncomputable abbrev Cx.wish (X:Cx)(E:Value->Shared->Prop):Cx:={ X with xe:=E }
noncomputable abbrev Cx.nox (X:Cx):Cx:=X.wish λ_ _=>False
theorem Cx.Ok.wish {X:Cx}(ok:X.Ok)(E:Value->Shared->Prop):(X.wish E).Ok :=
 #[ok.mod,ok.kind,ok.glob,ok.blt,ok.above,ok.inj,ok.has,ok.cab,ok.hd,ok.frames,ok.stk,ok.exf,ok.bs,ok.bsz,ok.noex,ok.exfs,ok.funs,ok.frf]
theorem Cx.Ok.kZ {X:Cx}{E:Value->Shared->Prop}(ok:(X.wish E).Ok):X.Ok :=
 #[ok.mod,ok.kind,ok.glob,ok.blt,ok.above,ok.inj,ok.has,ok.cab,ok.hd,ok.frames,ok.stk,ok.exf,ok.bs,ok.bsz,ok.noex,ok.exfs,ok.funs,ok.frf]
section
variable {X:Cx}{pins:List (Addr×Obj)}{σ:St}{H:Hp}{s:Shared}{E:Value->Shared->Prop}
theorem Inv.wish (I:Inv X pins σ H s)(E:Value->Shared->Prop):Inv (X.wish E) pins σ H s:=#[I.ok.wish E,I.os,I.bare,I.base,I.loc,I.cell,I.free,I.freeC,I.pin,I.hok,I.len]
theorem Inv.kZ (I:Inv (X.wish E) pins σ H s):Inv X pins σ H s:=#[I.ok.kZ,I.os,I.bare,I.base,I.loc,I.cell,I.free,I.freeC,I.pin,I.hok,I.len]
theorem SP.kZ {D:Ends}{f:Flow}{s':Shared}(h:SP (X.wish E) pins D f s'):SP X pins D f s':=by
 cases f with
 | next=>obtain⟨σ',H',I,q⟩:=h;exact#[σ',H',I.kZ,q]
 | brk=>obtain⟨σ',H',I,q⟩:=h;exact#[σ',H',I.kZ,q]
 | cont=>obtain⟨σ',H',I,q⟩:=h;exact#[σ',H',I.kZ,q]
 | ret u=>obtain⟨v,σ',H',I,r,q⟩:=h;exact#[v,σ',H',I.kZ,r,q]
theorem PSs.nox {st:List Stmt}{t:TS}(h:PSs X.nox st t):PSs X st t:=λpins s σ H D I hw =>
 dE (h pins s σ H D (I.wish _) hw) (λ_ _ q=>q.kZ) λ_ _ z=>gH z
end
section
variable {X:Cx}{st:Stmt}{rest:List Stmt}{t u:TS}{e:Expr}{te:TE}{pos:Pos}
noncomputable def pD:TS:=λD σ H=>D.nx σ H
noncomputable def tSeq (t u:TS):TS:=λD σ H=>t { D with nx:=u D } σ H
theorem aO:PSs X [] pD:=λ_ _ σ H _ I h=>Ae #[σ,H,I,h]
theorem ae (h1:PS X st t)(h2:PSs X rest u):PSs X (st::rest) (tSeq t u):=by
 intro pins s σ H D I h;refine wpAny_execs_cons (thn (h1 pins s σ H { D with nx:=u D } I h) λf s1 q=>?_);cases f with
 | next =>
  obtain⟨σ',H',I',q⟩:=q;exact h2 pins s1 σ' H' D I' q
 | ret v=>exact q
 | brk=>exact q
 | cont=>exact q
theorem ag (h1:PS X st t):PSs X [st] t:=by
 intro pins s σ H D I h;refine wpAny_execs_cons (thn (h1 pins s σ H D I h) λf s1 q=>?_);cases f with
 | next=>exact Ae q
 | ret v=>exact q
 | brk=>exact q
 | cont=>exact q
theorem Inv.quiet {pins:List (Addr×Obj)}{σ:St}{H:Hp}{s:Shared}(I:Inv X pins σ H s):interactive X.env=false:=by simp[interactive,I.ok.kind]
noncomputable def J4 (te:TE):TS:=λD σ H=>te σ H λ_ H1=>D.nx σ H1
theorem cz (he:PE X e te)(hs:autoParam (sW e none pos.line X.env=pure false) aUB._auto_1):PS X (.Expr e pos) (J4 te):=by
 intro pins s σ H D I h;exact wpAny_Expr_any (thn (he pins s σ H _ I h) λv s1 #[x,H1,I1,r1,q1]=>#[σ,H1,I1,q1]) I.quiet hs
noncomputable def tRet (te:TE):TS:=λD σ H=>te σ H D.rt
theorem aD (he:PE X e te):PS X (.Return (some e) pos) (tRet te):=by
 intro pins s σ H D I h;exact wpAny_Return_some (thn (he pins s σ H _ I h) λv s1 #[x,H1,I1,r1,q1]=>#[x,σ,H1,I1,r1,q1])
noncomputable def tIfS (c:TT)(t u:TS):TS:=λD σ H=>c σ H λb H1=>if b=true then t D σ H1 else u D σ H1
theorem aJ {c:Expr}{a b:List Stmt}{tc:TT}(hc:PT X c tc)(ha:PSs X a t)(hb:PSs X b u):PS X (.If c a b pos) (tIfS tc t u):=by
 intro pins s σ H D I h;refine wpAny_If (thn (hc pins s σ H _ I h) λd s1 #[H1,I1,q1]=>?_);cases d with
 | true=>exact ha pins s1 σ H1 D I1 q1
 | false=>exact hb pins s1 σ H1 D I1 q1
noncomputable def Nq:TS:=λ_ _ _=>False
theorem iI:PS X st Nq:=λ_ _ _ _ _ _ h=>h.elim
end
noncomputable abbrev TG:=V->St->Hp->(St->Hp->Prop)->Prop
noncomputable abbrev TGs:=List V->St->Hp->(St->Hp->Prop)->Prop
noncomputable def PG (X:Cx)(target:Expr)(t:TG):Prop :=
 ∀(pins:List (Addr×Obj)) (s:Shared) (σ:St) (H:Hp) (v:V) (u:Value) (Q:St->Hp->Prop),Inv X pins σ H s->RelV v u->t v σ H Q →
  wpAny (model X.prog X.w) X.A (assign target X.env u) (λ_ s'=>∃ σ' H',Inv X pins σ' H' s'/\Q σ' H') X.xe s
noncomputable def PGs (X:Cx)(ts:List Expr)(t:TGs):Prop :=
 ∀(pins:List (Addr×Obj)) (s:Shared) (σ:St) (H:Hp) (vs:List V) (us:List Value) (Q:St->Hp->Prop),Inv X pins σ H s->Vals vs us->t vs σ H Q →
  wpAny (model X.prog X.w) X.A (assignInOrder ((lM ts X.env).map (·.2)) us) (λ_ s'=>∃ σ' H',Inv X pins σ' H' s'/\Q σ' H') X.xe s
noncomputable abbrev TSet:=V->V->V->Hp->(Hp->Prop)->Prop
noncomputable def PSet (X:Cx)(t:TSet):Prop :=
 ∀(pins:List (Addr×Obj)) (s:Shared) (σ:St) (H:Hp) (o i v:V) (ov iv u:Value) (Q:Hp->Prop),Inv X pins σ H s->RelV o ov->RelV i iv->RelV v u->t o i v H Q →
  wpAny (model X.prog X.w) X.A (setItem ov iv u) (λ_ s'=>∃H',Inv X pins σ H' s'/\Q H') X.xe s
noncomputable abbrev TIp:=V->V->Hp->VK->Prop
noncomputable def PIp (X:Cx)(op:wM)(t:TIp):Prop :=
 ∀(pins:List (Addr×Obj)) (s:Shared) (σ:St) (H:Hp) (x y:V) (v u:Value) (Q:VK),Inv X pins σ H s->RelV x v->RelV y u->t x y H Q →
  wpAny (model X.prog X.w) X.A (inplaceOp op v u) (EP X pins σ Q) X.xe s
section
variable {X:Cx}{pos:Pos}
noncomputable def cL (i:Nat):TG:=λv σ H Q=>Q (σ.set i (some v)) H
theorem aZ {i:Nat}{x:Str}(hN:X.N.Nodup)(hi:X.N[i]?=some x)(hx:Loc X.env.scope x)(hf:autoParam (X.fn x=true∨X.env.scope.names.lookup x=some .local) aUC._auto_1):PG X (.Name x pos) (cL i):=by
 intro pins s σ H v u Q I r h;exact wpAny_assign_Name (oq I hN hi hx r (λs' I'=>#[_,H,I',h]) hf)
noncomputable def gNil:TGs:=λvs σ H Q=>vs=[]/\Q σ H
noncomputable def Kz (t:TG)(u:TGs):TGs:=λvs σ H Q=>Ex2 λv r=>vs=v::r/\t v σ H fun σ' H'=>u r σ' H' Q
theorem mR:PGs X [] gNil:=by
 intro pins s σ H vs us Q I r h;obtain⟨e,h⟩:=h;subst e;cases r;exact assignInOrder_nil #[σ,H,I,h]
theorem dC {e:Expr}{es:List Expr}{t:TG}{u:TGs}(h1:PG X e t)(h2:PGs X es u)
  (hs:(lM (e::es) X.env).map (·.2)=assign e X.env::(lM es X.env).map (·.2):=by rfl):PGs X (e::es) (Kz t u):=by
 intro pins s σ H vs us Q I r h;obtain⟨v,vr,e1,h⟩:=h;subst e1;cases r with
 | cons r rr =>
  rw[hs];refine assignInOrder_cons (thn (h1 pins s σ H _ _ _ I r h) λ_ s1 #[σ1,H1,I1,q1]=>?_);exact h2 pins s1 σ1 H1 _ _ Q I1 rr q1
noncomputable def gTup (K:ah)(n:Nat)(t:TGs):TG:=λv σ H Q=>Ex2 λa xs=>v = .ref a/\SqT K H a xs/\xs.length=n/\t xs σ H Q
theorem iN {es:List Expr}{k:Nat}{t:TGs}{n:Nat}(hc:X.calm=true)(h:PGs X es t)
  (hn:(lM es X.env).length=n:=by rfl) (hst:(lM es X.env).findIdx? (·.1)=none:=by rfl):PG X (.Tuple es k pos) (gTup X.K n t):=by
 intro pins s σ H v u Q I r hw;obtain⟨a,xs,e1,hq,hl,hw⟩:=hw;subst e1;cases r;obtain⟨its,rv,ht,hz⟩:=I.tuple hq;refine assign_Tuple_tuple (I.ok.hd hc) ht (by simp[hn,<- hl,rv.length]) hst λh' hx=>?_;have I1:Inv X pins σ H { s with heap:=h' }:=I.kept (t':=s.toks) λb o e=>hx b o (bB (aY e)) e;exact h pins _ σ H xs _ Q I1 (by simpa using rv) hw
noncomputable def gSub (to ti:TE)(t:TSet):TG:=λv σ H Q=>to σ H λo H1=>ti σ H1 λi H2=>t o i v H2 λH3=>Q σ H3
theorem nu {o i:Expr}{to ti:TE}{t:TSet}(ho:PE X o to)(hi:PE X i ti)(hs:PSet X t)
  (ha:∀v,assign (.Subscript o i pos) X.env v=(do
   let ov <- jq [v] (eval o X.env)
   let iv <- jq [v,ov] (eval i X.env)
   rF pos
   jq [v,ov,iv] (setItem ov iv v)
   release [v,ov,iv] []):=by intro _;rfl):PG X (.Subscript o i pos) (gSub to ti t):=by
 intro pins s σ H v u Q I r h;rw[ha];refine ac (dG (thn (ho pins s σ H _ I h) λov s1 #[x,H1,I1,r1,q1]=>?_));refine ac (dG (thn (hi pins s1 σ H1 _ I1 q1) λiv s2 #[y,H2,I2,r2,q2]=>?_));refine ac (Jo (ac (dG (thn (hs pins s2 σ H2 x y v ov iv u _ I2 r1 r2 r q2) λ_ s3 #[H3,I3,q3]=>?_))));exact wpAny_release #[σ,H3,I3,q3]
noncomputable def tAsg (te:TE)(g:TG):TS:=λD σ H=>te σ H λx H1=>g x σ H1 D.nx
theorem nZ {tg e:Expr}{te:TE}{g:TG}(he:PE X e te)(hg:PG X tg g)(hs:autoParam (swapsWithSole [tg] e pos.line X.env=pure false) aUB._auto_1)(hw:autoParam (swappedStores [tg] e X.env=pure none) aUB._auto_1)
  (h1:(lM [tg] X.env).map (·.2)=[assign tg X.env]:=by rfl):PS X (.Assign [tg] e pos) (tAsg te g):=by
 intro pins s σ H D I h;refine wpAny_Assign_stores (thn (he pins s σ H _ I h) λv s1 #[x,H1,I1,r1,q1]=>?_) hs hw;rw[h1];exact thn (hg pins s1 σ H1 x v _ I1 r1 q1) λ_ s2 q=>q
theorem aA {i:Nat}{x:Str}{e:Expr}{te:TE}{pos':Pos}(hN:X.N.Nodup)(hi:X.N[i]?=some x)(hx:Loc X.env.scope x)(he:PE X e te)(hs:autoParam (sW e (some (.Name x pos')) pos.line X.env=pure false) aUB._auto_1)(hf:autoParam (X.fn x=true∨X.env.scope.names.lookup x=some .local) aUC._auto_1) :
  PS X (.Assign [.Name x pos'] e pos) (tAsg te (cL i)):=by
 intro pins s σ H D I h;refine wpAny_Assign_Name (thn (he pins s σ H _ I h) λv s1 #[y,H1,I1,r1,q1]=>?_) hs;exact oq I1 hN hi hx r1 (λs2 I2=>#[_,H1,I2,q1]) hf
noncomputable def tAug (i:Nat)(te:TE)(ti:TIp):TS:=λD σ H=>∃x,σ[i]?=some (some x)/\te σ H λy H1=>ti x y H1 λz H2=>D.nx (σ.set i (some z)) H2
theorem Ft {i:Nat}{x:Str}{e:Expr}{te:TE}{op:wM}{ti:TIp}{pos':Pos}(hN:X.N.Nodup)(hi:X.N[i]?=some x)(hx:Loc X.env.scope x)(he:PE X e te)(ho:PIp X op ti)(hf:autoParam (X.fn x=true∨X.env.scope.names.lookup x=some .local) aUC._auto_1) :
  PS X (.AugAssign (.Name x pos') op e pos) (tAug i te ti):=by
 intro pins s σ H D I h;obtain⟨v,e1,h⟩:=h;obtain⟨m,hn,hl⟩:=I.loc;have vis:Vis X.env.scope x:=by rcases hx with k|k;exact .inl k;exact .inr (.inl k)
 obtain⟨u,r,l⟩:=hl i x v hi e1 vis;refine wpAny_AugAssign_Name ?_;have go:wpAny (model X.prog X.w) X.A (eval e X.env) (λw s₂=>wpAny (model X.prog X.w) X.A (inplaceOp op u w) (λr s₃=>wpAny (model X.prog X.w) X.A (storeName X.env x r) (λ_=>SP X pins D .next) X.xe s₃) X.xe s₂) X.xe s:=by
  refine thn (he pins s σ H _ I h) λw s1 #[y,H1,I1,r1,q1]=>?_;refine thn (ho pins s1 σ H1 v y u w _ I1 r r1 q1) λz s2 #[zv,H2,I2,r2,q2]=>?_;exact oq I2 hN hi hx r2 (λs3 I3=>#[_,H2,I3,q2]) hf
 rcases l with⟨hk,hm⟩|⟨hk,c,hc,hcell⟩
 .exact wpAny_loadName_local I.ok.kind hk hn hm go
 .rcases hk with hk|hk
  .exact wpAny_loadName_cell I.ok.kind hk hc hcell go
  .rcases hx with k|k
   .have:X.env.scope.names.lookup x=some .free:=hk;rw[k] at this;cases this
   .have:X.env.scope.names.lookup x=some .free:=hk;rw[k] at this;cases this
noncomputable def ipI (f:Int->Int->Int):TIp:=λx y H Q=>Ex2 λi j=>x = .int i/\y = .int j/\Q (.int (f i j)) H
theorem Lq:PIp X .Add (ipI λi j=>i+j):=by
 intro pins s σ H x y v u Q I r1 r2 h;obtain⟨i,j,e1,e2,q⟩:=h;subst e1;subst e2;obtain⟨t,rfl⟩:=r1;obtain⟨t',rfl⟩:=r2;exact iadd_int #[.int _,H,I.tok _,#[1],q]
end
section
variable {X:Cx}{pos:Pos}
noncomputable def OP (c:TT)(tb:TS):TS:=λD σ H=>∃W:Nat->St->Hp->Prop,(∃m,W m σ H)/\∀m σ H,W m σ H →
 c σ H λb H1=>if b=true then ∃N:St->Hp->Prop,(∀ σ' H',N σ' H'->∃m',m'<m/\W m' σ' H')/\tb { D with nx:=N,ct:=N,bk:=D.nx } σ H1 else D.nx σ H1
theorem nI {c:Expr}{body:List Stmt}{tc:TT}{tb:TS}(hp:PassesOwn (model X.prog X.w) X.A X.env X.xe)(hc:PT X c tc)(hb:PSs X body tb):PS X (.While c body [] pos) (OP tc tb):=by
 intro pins s σ H D I h;obtain⟨W,⟨m0,w0⟩,turn⟩:=h;refine wpAny_While (codeAny_whileLoop (λn s'=>∃ σ' H',Inv X pins σ' H' s'/\W n σ' H') ?_ m0 #[σ,H,I,w0]);rintro n s1 ⟨σ1,H1,I1,w1⟩;refine mU hp (thn (hc pins s1 σ1 H1 _ I1 (turn n σ1 H1 w1)) λb s2 #[H2,I2,q2]=>?_);cases b with
 | true =>
  obtain⟨N,hN,q2⟩:=q2;rw[if_pos rfl];refine mU hp (thn (hb pins s2 σ1 H2 _ I2 q2) λf s3 q3=>?_);cases f with
  | next =>
   obtain⟨σ3,H3,I3,n3⟩:=q3;obtain⟨m',hm,w3⟩:=hN σ3 H3 n3;exact#[m',hm,σ3,H3,I3,w3]
  | cont =>
   obtain⟨σ3,H3,I3,n3⟩:=q3;obtain⟨m',hm,w3⟩:=hN σ3 H3 n3;exact#[m',hm,σ3,H3,I3,w3]
  | brk=>exact q3
  | ret v=>exact q3
 | false =>
  rw[if_neg cf];exact Ae #[σ1,H2,I2,q2]
end
structure It where
 go:Nat->Hp->Prop
 iF:Nat->Hp->V->Hp->Prop
 stop:Nat->Hp->Prop
noncomputable def FpOk (X:Cx)(pins:List (Addr×Obj))(H:Hp)(b:Addr):Prop :=
 H b=none/\b≠X.env.locals/\b∉X.fs/\(b∈X.ex∨X.s₀.heap.objs.size<=b)/\(∀x c,X.env.cells.lookup x=some c->c≠b)/\∀p∈X.pn++pins,p.1≠b
theorem Inv.fpOk {X:Cx}{pins:List (Addr×Obj)}{σ:St}{H H':Hp}{s:Shared}{b:Addr}(I:Inv X pins σ H s)(hb:s.heap.objs.size<=b)(hn:H' b=none):FpOk X pins H' b:=by
 refine#[hn,ja (b8 I.lt hb),I.nofs hb,.inr (aV I.sz hb),λx c e z=>?_,λp hp z=>?_]
 .obtain⟨v,q⟩:=I.cell x c e;exact absurd (b8 q.lt (by rw[z];exact hb)) (gw _)
 .exact absurd (b8 (aY (I.pin p hp).1) (by rw[z];exact hb)) (gw _)
structure Turn (P:aR)(w:World)(K:ah)(tg:Expr)(J:It)(fp:List Addr)(it:Addr)(tn:Nat->Heap->Prop):Prop where
 mem:it∈fp
 obj:∀i h,tn i h->∀b∈fp,∃o,h.get? b=some o/\∀v,o.data ≠ .cell v
 keep:∀i h h',tn i h->(∀b∈fp,∀o,h.get? b=some o->h'.get? b=some o)->tn i h'
 item:∀(X:Cx),X.prog=P->X.w=w->X.K=K->X.calm=true->∀(i:Nat) (pins:List (Addr×Obj)) (s:Shared) (σ:St) (H:Hp) (E:Value->Shared->Prop),Inv X pins σ H s->(∀b∈fp,FpOk X pins H b)->tn i s.heap->J.go i H →
  wpAny (model P w) X.A (pyNext (.ref it)) (λr s1=>∃u,r=some u /\
   wpAny (model P w) X.A (Az tg (.ref it) u) (λ_ s2=>Ex2 λx H'=>Inv X pins σ H' s2/\RelV x u/\J.iF i H x H'/\tn (i+1) s2.heap/\∀b∈fp,H' b=none) E s1) E s
 done:∀(X:Cx),X.prog=P->X.w=w->X.K=K->X.calm=true->∀(i:Nat) (pins:List (Addr×Obj)) (s:Shared) (σ:St) (H:Hp) (E:Value->Shared->Prop),Inv X pins σ H s->(∀b∈fp,FpOk X pins H b)->tn i s.heap->J.stop i H →
  wpAny (model P w) X.A (pyNext (.ref it)) (λr s1=>r=none/\Inv X pins σ H s1) E s
 self:∀(A:Around) (i:Nat) (s:Shared) (Q:Value->Shared->Prop) (E:Value->Shared->Prop),tn i s.heap->Q (.ref it) s->wpAny (model P w) A (pyIter (.ref it)) Q E s
noncomputable abbrev TI:=St->Hp->(It->Hp->Prop)->Prop
noncomputable def PIE (X:Cx)(pins:List (Addr×Obj))(σ:St)(tg:Expr)(R:It->Hp->Prop)(itv:Value)(s2:Shared):Prop :=
 Ex5 λ(it:Addr) (fp:List Addr) (tn:Nat->Heap->Prop) (J:It) (H':Hp)=>itv = .ref it/\Inv X pins σ H' s2/\Turn X.prog X.w X.K tg J fp it tn/\tn 0 s2.heap/\(∀b∈fp,FpOk X pins H' b)/\R J H'
noncomputable def PI (X:Cx)(tg iter:Expr)(wi:TI):Prop :=
 ∀(pins:List (Addr×Obj)) (s:Shared) (σ:St) (H:Hp) (R:It->Hp->Prop),Inv X pins σ H s->wi σ H R →
  wpAny (model X.prog X.w) X.A (eval iter X.env) (λv s1=>wpAny (model X.prog X.w) X.A (pyIter v) (PIE X pins σ tg R) X.xe s1) X.xe s
theorem gS {M:Model}{A:Around}{E:Value->Shared->Prop}{s:Shared}{tg:Expr}{it:Addr}{u:Value}{o:Obj}{n:String}{vs:Array Value}{Q:Unit->Shared->Prop}(ho:s.heap.get? it=some o)(hc:o.cls = .type n)(hd:o.data = .fields vs)
  (hn:["enumerate","zip","dict_itemiterator","dict_reverseitemiterator","odict_iterator","itertools.zip_longest","itertools.pairwise"].contains n=false) (hQ:Q () s):wpAny M A (Az tg (.ref it) u) Q E s:=by
 unfold Az;cases tg<;>first
  | exact aq hQ
  | (cases u<;>first
    | exact aq hQ
    | (refine ac (A4 ho ?_)
       rw[hc,hd];show wpAny M A (if (["enumerate","zip","dict_itemiterator","dict_reverseitemiterator","odict_iterator","itertools.zip_longest","itertools.pairwise"].contains n&&vs[0]?==some (rawInt _))=true then _ else _) Q E s
       rw[if_neg (by intro h;rw[hn,kK] at h;cases h)];exact aq hQ))
noncomputable def Itl (K:ah)(a:Addr):It :=
 #[λi H=>Ex2 λxs x=>SqL K H a xs/\xs[i]?=some x,λi H x H'=>H'=H/\∀xs,SqL K H a xs->xs[i]?=some x,λi H=>∃xs,SqL K H a xs/\xs.length<=i]
noncomputable def Itt (K:ah)(a:Addr):It :=
 #[λi H=>Ex2 λxs x=>SqT K H a xs/\xs[i]?=some x,λi H x H'=>H'=H/\∀xs,SqT K H a xs->xs[i]?=some x,λi H=>∃xs,SqT K H a xs/\xs.length<=i]
noncomputable def Itr (lo:Int)(n:Nat):It:=#[λi _=>i<n,λi H x H'=>H'=H/\x = .int (lo+i),λi _=>n<=i]
theorem IA {P:aR}{w:World}{K:ah}{tg:Expr}(a it:Addr):Turn P w K tg (Itl K a) [it] it (λi h=>h.IsListIter it a i) where
 mem:=by simp
 obj:=λi h st b hb=>by
  have e:b=it:=by simpa using hb
  subst e;obtain⟨o,e,c,d⟩:=st;exact#[o,e,λv z=>by rw[d] at z;cases z]
 keep:=λi h h' st k=>st.at λo e=>k it (by simp) o e
 item:=by
  intro X hP hw hK hc i pins s σ H E I hf st hg;subst hP hw hK;obtain⟨xs,x,hq,hx⟩:=hg;obtain⟨its,rv,p,hz⟩:=I.list hq;obtain⟨u,hu,ru⟩:=rv.get hx;obtain⟨f0,f1,f2,f3,f4,f5⟩:=hf it (by simp);refine wpAny_pyNext_list_item st p.isList (x:=u) (by simpa using hu) λh' st' sb=>?_;have I1:Inv X pins σ H { s with heap:=h' }:=I.turned (t':=s.toks) (λb o hb e=>(sb.2 b hb).trans e) f0 f1 f3 f4 f5;obtain⟨o,e,c,d⟩:=id st';exact#[u,0,gS (s:={ s with heap:=h' }) e c d (by decide) #[x,H,I1,ru,#[0,λys hy=>by rw[I.oX hy hq];exact hx],st',λb hb=>(hf b hb).1]]
 done:=by
  intro X hP hw hK hc i pins s σ H E I hf st hg;subst hP hw hK;obtain⟨xs,hq,hx⟩:=hg;obtain⟨its,rv,p,hz⟩:=I.list hq;obtain⟨f0,f1,f2,f3,f4,f5⟩:=hf it (by simp);have hl:=rv.length;exact wpAny_pyNext_list_end (I.ok.hd hc) st p.isList (by simp;lk) λh' eb=>#[0,I.turned (t':=s.toks) (λb o hb e=>eb b o hb e) f0 f1 f3 f4 f5]
 self:=λ_ _ _ _ _ st h=>wpAny_pyIter_listiter st h
theorem Cl {P:aR}{w:World}{K:ah}{tg:Expr}(a it:Addr):Turn P w K tg (Itt K a) [it] it (λi h=>h.IsTupleIter it a i) where
 mem:=by simp
 obj:=λi h st b hb=>by
  have e:b=it:=by simpa using hb
  subst e;obtain⟨o,e,c,d⟩:=st;exact#[o,e,λv z=>by rw[d] at z;cases z]
 keep:=λi h h' st k=>st.at λo e=>k it (by simp) o e
 item:=by
  intro X hP hw hK hc i pins s σ H E I hf st hg;subst hP hw hK;obtain⟨xs,x,hq,hx⟩:=hg;obtain⟨its,rv,p,hz⟩:=I.tuple hq;obtain⟨u,hu,ru⟩:=rv.get hx;obtain⟨f0,f1,f2,f3,f4,f5⟩:=hf it (by simp);refine wpAny_pyNext_tuple_item st (show s.heap.IsTuple a its.toArray from p) (x:=u) (by simpa using hu) λh' st' sb=>?_;have I1:Inv X pins σ H { s with heap:=h' }:=I.turned (t':=s.toks) (λb o hb e=>(sb.2 b hb).trans e) f0 f1 f3 f4 f5;obtain⟨o,e,c,d⟩:=id st';exact#[u,0,gS (s:={ s with heap:=h' }) e c d (by decide) #[x,H,I1,ru,#[0,λys hy=>by rw[I.sN hy hq];exact hx],st',λb hb=>(hf b hb).1]]
 done:=by
  intro X hP hw hK hc i pins s σ H E I hf st hg;subst hP hw hK;obtain⟨xs,hq,hx⟩:=hg;obtain⟨its,rv,p,hz⟩:=I.tuple hq;obtain⟨f0,f1,f2,f3,f4,f5⟩:=hf it (by simp);have hl:=rv.length;exact wpAny_pyNext_tuple_end (I.ok.hd hc) st (show s.heap.IsTuple a its.toArray from p) (by simp;lk) λh' eb=>#[0,I.turned (t':=s.toks) (λb o hb e=>eb b o hb e) f0 f1 f3 f4 f5]
 self:=λ_ _ _ _ _ st h=>wpAny_pyIter_tupleiter st h
theorem CN {P:aR}{w:World}{K:ah}{tg:Expr}(it:Addr)(lo:Int)(n:Nat):Turn P w K tg (Itr lo n) [it] it (λi h=>IsRangeIter h it (lo+(i:Nat)*1) ((n:Int)-(i:Nat)) 1) where
 mem:=by simp
 obj:=λi h st b hb=>by
  have e:b=it:=by simpa using hb
  subst e;exact#[_,st,λv z=>by
   have z':Data.fields _=Data.cell v:=z;cases z']
 keep:=λi h h' st k=>k it (by simp) _ st
 item:=by
  intro X hP hw hK hc i pins s σ H E I hf st hg;subst hP hw hK;obtain⟨f0,f1,f2,f3,f4,f5⟩:=hf it (by simp);have W:=Walks.range (prog:=X.prog) (w:=X.w) (I.ok.hd hc) it lo 1 n;refine W.item i s _ _ hg st λv h' tk hv st' kk=>?_;obtain⟨t,rfl⟩:=hv;have I1:Inv X pins σ H { s with heap:=h',toks:=tk }:=I.turned (λb o hb e=>kk b o (by simpa using hb) e) f0 f1 f3 f4 f5;refine#[1,gS (s:={ s with heap:=h',toks:=tk }) (n:="range_iterator") st' rfl rfl (by decide) #[.int (lo+i),H,I1,#[t,5],#[00],st',λb hb=>(hf b hb).1]];rw[Int.mul_one]
 done:=by
  intro X hP hw hK hc i pins s σ H E I hf st hg;subst hP hw hK;obtain⟨f0,f1,f2,f3,f4,f5⟩:=hf it (by simp);exact wpAny_pyNext_range_end (I.ok.hd hc) st (by have:n<=i:=hg;lk) λh' eb=>#[0,I.turned (t':=s.toks) (λb o hb e=>eb b o hb e) f0 f1 f3 f4 f5]
 self:=λ_ _ _ _ _ st h=>wpAny_pyIter_rangeiter st h
end L2
namespace L2
open PySem PySem.Spec PyProof.Rows
section
variable {X:Cx}{tg:Expr}
noncomputable def vK (K:ah)(tl:TE):TI:=fun σ H R=>tl σ H λx H1=>∃a,x = .ref a/\(∃xs,SqL K H1 a xs)/\R (Itl K a) H1
noncomputable def iTup (K:ah)(tl:TE):TI:=fun σ H R=>tl σ H λx H1=>∃a,x = .ref a/\(∃xs,SqT K H1 a xs)/\R (Itt K a) H1
theorem cI {l:Expr}{tl:TE}(hl:PE X l tl):PI X tg l (vK X.K tl):=by
 intro pins s σ H R I h;refine thn (hl pins s σ H _ I h) λv s1 #[x,H1,I1,r1,q1]=>?_;obtain⟨a,e,⟨xs,hq⟩,q⟩:=q1;subst e;cases r1;obtain⟨its,rv,p,hz⟩:=I1.list hq;refine wJ p.isList ?_;refine#[s1.heap.objs.size,[s1.heap.objs.size],_,_,H1,0,I1.kept (t':=s1.toks) λb o e=>aW _ e,IA a _,#[_,bD _ rfl,00],λb hb=>?_,q];have e:b=s1.heap.objs.size:=by simpa using hb
 subst e;exact I1.fpOk (az _) (I1.hok.fresh (az _))
theorem kC {l:Expr}{tl:TE}(hl:PE X l tl):PI X tg l (iTup X.K tl):=by
 intro pins s σ H R I h;refine thn (hl pins s σ H _ I h) λv s1 #[x,H1,I1,r1,q1]=>?_;obtain⟨a,e,⟨xs,hq⟩,q⟩:=q1;subst e;cases r1;obtain⟨its,rv,p,hz⟩:=I1.tuple hq;refine xj (show s1.heap.IsTuple a its.toArray from p) ?_;refine#[s1.heap.objs.size,[s1.heap.objs.size],_,_,H1,0,I1.kept (t':=s1.toks) λb o e=>aW _ e,Cl a _,#[_,bD _ rfl,00],λb hb=>?_,q];have e:b=s1.heap.objs.size:=by simpa using hb
 subst e;exact I1.fpOk (az _) (I1.hok.fresh (az _))
theorem Bm {pins:List (Addr×Obj)}{σ:St}{H:Hp}{s:Shared}{R:It->Hp->Prop}{E:Value->Shared->Prop}{lo hi:Int}{t u v:Tok}{tk:Nat}(I:Inv X pins σ H s)(h1:-(2 ^ 62)<=lo)(h2:lo<2 ^ 62)(h3:-(2 ^ 62)<=hi)(h4:hi<2 ^ 62)
  (q:R (Itr lo (hi-lo).toNat) H):wpAny (model X.prog X.w) X.A (pyIter (.ref s.heap.objs.size)) (PIE X pins σ tg R) E { s with heap:=s.heap.push { cls:=.type "range",data:=.fields (yA [.int lo t,.int hi u,.int 1 v]) },toks:=tk }:=by
 refine wpAny_pyIter_range (IsRange.new ..) (small_one h1 h2 h3 h4) ?_;have I1:Inv X pins σ H { s with heap:=s.heap.push { cls:=.type "range",data:=.fields (yA [.int lo t,.int hi u,.int 1 v]) },toks:=tk }:=I.kept λb o e=>aW _ e;refine#[(s.heap.push { cls:=.type "range",data:=.fields (yA [.int lo t,.int hi u,.int 1 v]) }).objs.size,[(s.heap.push { cls:=.type "range",data:=.fields (yA [.int lo t,.int hi u,.int 1 v]) }).objs.size],_,_,H,0,I1.kept (t':=tk) λb o e=>aW _ e,CN _ lo (hi-lo).toNat,5,λb hb=>?_,q]
 .have e1:lo+((0:Nat):Int)*1=lo:=by simp
  have e2:(((hi-lo).toNat:Nat):Int)-((0:Nat):Int)=bY.Range.rangeSize lo hi 1:=by rw[rangeSize_one];split<;>lk
  show IsRangeIter _ _ (lo+((0:Nat):Int)*1) ((((hi-lo).toNat:Nat):Int)-((0:Nat):Int)) 1
  rw[e1,e2];exact bD _ rfl
 .have e:b=(s.heap.push { cls:=.type "range",data:=.fields (yA [.int lo t,.int hi u,.int 1 v]) }).objs.size:=by simpa using hb
  subst e;exact I1.fpOk (az _) (I1.hok.fresh (az _))
noncomputable def MF (ta:TA):TI:=fun σ H R=>ta σ H λvs H1=>∃j:Int,vs=[.int j] /\ -(2 ^ 62)<=j/\j<2 ^ 62/\R (Itr 0 j.toNat) H1
theorem gj {a:Expr}{ta:TA}{p pos:Pos}(hg:Gl X "range")(hm:X.mg "range" = none)(ha:PA X [a] ta)(hs:autoParam (bO [a] X.env=[(false,eval a X.env)]) aUB._auto_1):PI X tg (.Call (.Name "range" p) [a] [] pos) (MF ta):=by
 intro pins s σ H R I h;refine Call_ (me I hg hm boot_range (tI (thn (ha pos pins s σ H _ I h) λus s1 #[vs,H1,I1,r1,q1]=>?_) hs rfl));obtain⟨j,e,q1,q2,q⟩:=q1;subst e;cases r1 with
 | cons r rr =>
  cases rr;obtain⟨t,rfl⟩:=r;exact call_range_1 (Bm I1 (by lk) (by lk) q1 q2 (by simpa using q))
noncomputable def tFor (wi:TI)(g:TG)(tb:TS):TS:=λD σ H=>wi σ H λJ H1=>∃W:Nat->Nat->St->Hp->Prop,(∃m,W 0 m σ H1)/\∀i m σ H,W i m σ H →
 (J.stop i H/\D.nx σ H)∨(J.go i H/\∃N:St->Hp->Prop,(∀ σ' H',N σ' H'->∃m',m'<m/\W (i+1) m' σ' H')/\∀x H',J.iF i H x H'->g x σ H' fun σ2 H2=>tb { D with nx:=N,ct:=N,bk:=D.nx } σ2 H2)
noncomputable def rk (fp:List Addr)(h:Heap):List (Addr×Obj):=fp.filterMap λb=>(h.get? b).map λo=>(b,o)
theorem Fb {fp:List Addr}{h:Heap}{b:Addr}{o:Obj}(hb:b∈fp)(e:h.get? b=some o):(b,o)∈rk fp h:=P8.mpr #[b,hb,by rw[e];rfl]
theorem J3 {fp:List Addr}{h:Heap}{p:Addr×Obj}(hp:p∈rk fp h):p.1∈fp/\h.get? p.1=some p.2:=by
 obtain⟨b,hb,e⟩:=P8.mp hp;cases q:h.get? b with
 | none=>rw[q] at e;cases e
 | some o =>
  rw[q] at e;have e':(b,o)=p:=eQ e;subst e';exact#[hb,q]
theorem Inv.pinned {pins:List (Addr×Obj)}{σ:St}{H:Hp}{s:Shared}{fp:List Addr}(I:Inv X pins σ H s)(hf:∀b∈fp,FpOk X pins H b)(ho:∀b∈fp,∃o,s.heap.get? b=some o/\∀v,o.data ≠ .cell v):Inv X (pins++rk fp s.heap) σ H s :=
 I.uE λp hp=>(bM.mp hp).elim (λz=>I.pin p (fG _ z)) λz=>by
  obtain⟨hb,e⟩:=J3 z;obtain⟨f0,f1,f2,_⟩:=hf p.1 hb;obtain⟨o,e',d⟩:=ho p.1 hb;rw[e] at e';cases e';exact#[e,f0,f1,f2,d]
theorem Inv.mT {pins pl:List (Addr×Obj)}{σ:St}{H:Hp}{s:Shared}(I:Inv X (pins++pl) σ H s):Inv X pins σ H s:=I.uE λp hp=>I.pin p (fG _ (fL _ hp))
theorem gG {iter:Expr}{body:List Stmt}{wi:TI}{g:TG}{tb:TS}{pos:Pos}(hp:PassesOwn (model X.prog X.w) X.A X.env X.xe)(hc:X.calm=true)(hi:PI X tg iter wi)(hg:PG X tg g)(hb:PSs X body tb)
  (hs:∀x,Lw iter X.env x=pure x:=by intro _;rfl):PS X (.For tg iter body [] pos) (tFor wi g tb):=by
 intro pins s σ H D I h;refine wpAny_For (thn (hi pins s σ H _ I h) λv s1 h1=>thn h1 λitv s2 h2=>?_) hs;obtain⟨it,fp,tn,J,H2,e,I2,T,st2,f2,W,⟨m0,w0⟩,turn⟩:=h2;subst e;have stat:∀{H':Hp},(∀b∈fp,H' b=none)->∀b∈fp,FpOk X pins H' b:=λhn b hb=>#[hn b hb,(f2 b hb).2];refine codeAny_forLoop_any (λn s'=>∃i σ' H',Inv X pins σ' H' s'/\tn i s'.heap/\(∀b∈fp,H' b=none)/\W i n σ' H') ?_ m0 #[(0),σ,H2,I2,st2,λb hb=>(f2 b hb).1,w0];rintro n s3 ⟨i,σ3,H3,I3,st3,fr3,w3⟩
 rcases turn i n σ3 H3 w3 with⟨stop,qn⟩|⟨go,N,hN,step⟩
 .refine mU hp (thn (T.done X rfl rfl rfl hc i pins s3 σ3 H3 X.xe I3 (stat fr3) st3 stop) λr s4 #[hr,I4]=>?_);subst hr;exact Ae #[σ3,H3,I4,qn]
 .refine mU hp (thn (T.item X rfl rfl rfl hc i pins s3 σ3 H3 X.xe I3 (stat fr3) st3 go) λr s4 #[u,hr,h4]=>?_);subst hr;refine mU hp (thn h4 λ_ s5 #[x,H5,I5,r5,y5,st5,fr5]=>?_);have I5':=I5.pinned (stat fr5) (T.obj _ _ st5);refine mU hp (thn (hg _ s5 σ3 H5 x u _ I5' r5 (step x H5 y5)) λ_ s6 #[σ6,H6,I6,q6]=>?_);refine mU hp (thn (hb _ s6 σ6 H6 _ I6 q6) λf s7 q7=>?_);have again:∀{σ7:St} {H7:Hp},Inv X (pins++rk fp s5.heap) σ7 H7 s7->N σ7 H7->∃m,m<n/\∃i σ' H',Inv X pins σ' H' s7/\tn i s7.heap/\(∀b∈fp,H' b=none)/\W i m σ' H':=λ{σ7 H7} I7 n7=>by
   obtain⟨m',hm,w7⟩:=hN σ7 H7 n7;refine#[m',hm,i+1,σ7,H7,I7.mT,T.keep _ _ _ st5 λb hb o e=>(I7.pin (b,o) (fG _ (fG _ (Fb hb e)))).1,λb hb=>?_,w7];obtain⟨o,e,d⟩:=T.obj _ _ st5 b hb;exact (I7.pin (b,o) (fG _ (fG _ (Fb hb e)))).2.1
  cases f with
  | next=>obtain⟨σ7,H7,I7,n7⟩:=q7;exact again I7 n7
  | cont=>obtain⟨σ7,H7,I7,n7⟩:=q7;exact again I7 n7
  | brk=>obtain⟨σ7,H7,I7,q7⟩:=q7;exact#[σ7,H7,I7.mT,q7]
  | ret v=>obtain⟨x7,σ7,H7,I7,r7,q7⟩:=q7;exact#[x7,σ7,H7,I7.mT,r7,q7]
end
theorem oW {K:ah}{a:Addr}{xs:List V}{g:TG}{tb:TS}{D:Ends}{σ:St}{H:Hp}(Pv:Nat->St->Hp->Prop)(h0:Pv 0 σ H)(hl:∀i σ H,i<=xs.length->Pv i σ H->SqL K H a xs)
  (hs:∀i x σ H,xs[i]?=some x->Pv i σ H->g x σ H fun σ2 H2=>tb { D with nx:=Pv (i+1),ct:=Pv (i+1),bk:=D.nx } σ2 H2) (hd:∀ σ H,Pv xs.length σ H->D.nx σ H) :
  ∃W:Nat->Nat->St->Hp->Prop,(∃m,W 0 m σ H)/\∀i m σ H,W i m σ H →
   ((Itl K a).stop i H/\D.nx σ H)∨((Itl K a).go i H/\∃N:St->Hp->Prop,(∀ σ' H',N σ' H'->∃m',m'<m/\W (i+1) m' σ' H')/\∀x H',(Itl K a).iF i H x H'->g x σ H' fun σ2 H2=>tb { D with nx:=N,ct:=N,bk:=D.nx } σ2 H2):=by
 refine#[λi m σ H=>m=xs.length-i/\i<=xs.length/\Pv i σ H,#[xs.length,by simp,ba _,h0],5];rintro i m σ H ⟨rfl,hi,p⟩;have q:=hl i σ H hi p
 by_cases hlt:i<xs.length
 .refine .inr #[#[xs,xs[i],q,by simp[hlt]],Pv (i+1),fun σ' H' p'=>#[xs.length-(i+1),30,hlt,p'],λx H' y=>?_];obtain⟨e,y⟩:=y;subst e;exact hs i x σ _ (y xs q) p
 .have e:i=xs.length:=by lk
  subst e;exact .inl #[#[xs,q,az _],hd σ H p]
theorem K5 {K:ah}{a:Addr}{xs:List V}{g:TG}{tb:TS}{D:Ends}{σ:St}{H:Hp}(Pv:Nat->St->Hp->Prop)(h0:Pv 0 σ H)(hl:∀i σ H,i<=xs.length->Pv i σ H->SqT K H a xs)
  (hs:∀i x σ H,xs[i]?=some x->Pv i σ H->g x σ H fun σ2 H2=>tb { D with nx:=Pv (i+1),ct:=Pv (i+1),bk:=D.nx } σ2 H2) (hd:∀ σ H,Pv xs.length σ H->D.nx σ H) :
  ∃W:Nat->Nat->St->Hp->Prop,(∃m,W 0 m σ H)/\∀i m σ H,W i m σ H →
   ((Itt K a).stop i H/\D.nx σ H)∨((Itt K a).go i H/\∃N:St->Hp->Prop,(∀ σ' H',N σ' H'->∃m',m'<m/\W (i+1) m' σ' H')/\∀x H',(Itt K a).iF i H x H'->g x σ H' fun σ2 H2=>tb { D with nx:=N,ct:=N,bk:=D.nx } σ2 H2):=by
 refine#[λi m σ H=>m=xs.length-i/\i<=xs.length/\Pv i σ H,#[xs.length,by simp,ba _,h0],5];rintro i m σ H ⟨rfl,hi,p⟩;have q:=hl i σ H hi p
 by_cases hlt:i<xs.length
 .refine .inr #[#[xs,xs[i],q,by simp[hlt]],Pv (i+1),fun σ' H' p'=>#[xs.length-(i+1),30,hlt,p'],λx H' y=>?_];obtain⟨e,y⟩:=y;subst e;exact hs i x σ _ (y xs q) p
 .have e:i=xs.length:=by lk
  subst e;exact .inl #[#[xs,q,az _],hd σ H p]
theorem qI {lo:Int}{n:Nat}{g:TG}{tb:TS}{D:Ends}{σ:St}{H:Hp}(Pv:Nat->St->Hp->Prop)(h0:Pv 0 σ H)
  (hs:∀i σ H,i<n->Pv i σ H->g (.int (lo+i)) σ H fun σ2 H2=>tb { D with nx:=Pv (i+1),ct:=Pv (i+1),bk:=D.nx } σ2 H2) (hd:∀ σ H,Pv n σ H->D.nx σ H) :
  ∃W:Nat->Nat->St->Hp->Prop,(∃m,W 0 m σ H)/\∀i m σ H,W i m σ H →
   ((Itr lo n).stop i H/\D.nx σ H)∨((Itr lo n).go i H/\∃N:St->Hp->Prop,(∀ σ' H',N σ' H'->∃m',m'<m/\W (i+1) m' σ' H')/\∀x H',(Itr lo n).iF i H x H'->g x σ H' fun σ2 H2=>tb { D with nx:=N,ct:=N,bk:=D.nx } σ2 H2):=by
 refine#[λi m σ H=>m=n-i/\i<=n/\Pv i σ H,#[n,by simp,ba _,h0],5];rintro i m σ H ⟨rfl,hi,p⟩
 by_cases hlt:i<n
 .refine .inr #[hlt,Pv (i+1),fun σ' H' p'=>#[n-(i+1),30,hlt,p'],λx H' y=>?_];obtain⟨e,y⟩:=y;subst e y;exact hs i σ _ hlt p
 .have e:i=n:=by lk
  subst e;exact .inl #[az _,hd σ H p]
end L2
namespace L2
open PySem PySem.Spec PyProof.Rows
noncomputable abbrev R2:=V->V->Hp->VK->Prop
noncomputable def OpR (X:Cx)(f:Value->Value->Sem Value)(r:R2):Prop :=
 ∀(pins:List (Addr×Obj)) (s:Shared) (σ:St) (H:Hp) (x y:V) (v u:Value) (Q:VK),Inv X pins σ H s->RelV x v->RelV y u->r x y H Q →
  wpAny (model X.prog X.w) X.A (f v u) (EP X pins σ Q) X.xe s
noncomputable def UnR (X:Cx)(f:Value->Sem Value)(r:V->Hp->VK->Prop):Prop :=
 ∀(pins:List (Addr×Obj)) (s:Shared) (σ:St) (H:Hp) (x:V) (v:Value) (Q:VK),Inv X pins σ H s->RelV x v->r x H Q →
  wpAny (model X.prog X.w) X.A (f v) (EP X pins σ Q) X.xe s
noncomputable def di (X:Cx)(f:Value)(r:List V->Hp->VK->Prop):Prop :=
 ∀(pins:List (Addr×Obj)) (s:Shared) (σ:St) (H:Hp) (xs:List V) (us:List Value) (Q:VK),Inv X pins σ H s->Vals xs us->r xs H Q →
  wpAny (model X.prog X.w) X.A (call f us) (EP X pins σ Q) X.xe s
noncomputable def TruR (X:Cx)(r:V->Hp->(Bool->Hp->Prop)->Prop):Prop :=
 ∀(pins:List (Addr×Obj)) (s:Shared) (σ:St) (H:Hp) (x:V) (v:Value) (Q:Bool->Hp->Prop),Inv X pins σ H s->RelV x v->r x H Q →
  wpAny (model X.prog X.w) X.A (truthy v) (TP X pins σ Q) X.xe s
noncomputable def tOp (r:R2)(ta tb:TE):TE:=fun σ H Q=>ta σ H λx H1=>tb σ H1 λy H2=>r x y H2 Q
noncomputable def tUn (r:V->Hp->VK->Prop)(ta:TE):TE:=fun σ H Q=>ta σ H λx H1=>r x H1 Q
noncomputable def rI (C:Int->Int->Prop)(g:Int->Int->V):R2:=λx y H Q=>Ex2 λi j=>x = .int i/\y = .int j/\C i j/\Q (g i j) H
noncomputable def rI0 (g:Int->Int->V):R2:=λx y H Q=>Ex2 λi j=>x = .int i/\y = .int j/\Q (g i j) H
noncomputable def rU (g:Int->V):V->Hp->VK->Prop:=λx H Q=>∃i,x = .int i/\Q (g i) H
section
variable {X:Cx}{a b c:Expr}{ta tb tc:TE}{pos:Pos}
theorem binT (ha:PE X a ta)(hb:PE X b tb){pins:List (Addr×Obj)}{s:Shared}{σ:St}{H:Hp}{R:V->V->Hp->Prop}(I:Inv X pins σ H s)
  (h:ta σ H λx H1=>tb σ H1 λy H2=>R x y H2) {Q:Value->Shared->Prop} {f:Value->Value->Sem Value}
  (hf:∀v u s2 x y H2,Inv X pins σ H2 s2->RelV x v->RelV y u->R x y H2->wpAny (model X.prog X.w) X.A (f v u) Q X.xe s2) :
  wpAny (model X.prog X.w) X.A (eval a X.env) (λv s₁=>wpAny (model X.prog X.w) X.A (eval b X.env) (λu s₂=>wpAny (model X.prog X.w) X.A (f v u) Q X.xe s₂) X.xe s₁) X.xe s:=by
 refine thn (ha pins s σ H _ I h) λv s1 #[x,H1,I1,r1,q1]=>?_;refine thn (hb pins s1 σ H1 _ I1 q1) λu s2 #[y,H2,I2,r2,q2]=>?_;exact hf v u s2 x y H2 I2 r1 r2 q2
theorem aN {op:wM}{r:R2}(ho:OpR X (gW op) r)(ha:PE X a ta)(hb:PE X b tb):PE X (.BinOp a op b pos) (tOp r ta tb):=by
 intro pins s σ H Q I h;exact wpAny_BinOp (binT ha hb I h λv u s2 x y H2 I2 rx ry q=>ho pins s2 σ H2 x y v u Q I2 rx ry q)
theorem xr {op:UnaryOp}{r:V->Hp->VK->Prop}(ho:UnR X (unaryOp op) r)(ha:PE X a ta):PE X (.UnaryOp op a pos) (tUn r ta):=by
 intro pins s σ H Q I h;exact UnaryOp_ (thn (ha pins s σ H _ I h) λv s1 #[x,H1,I1,r1,q1]=>ho pins s1 σ H1 x v Q I1 r1 q1)
theorem opI {f:Value->Value->Sem Value}{C:Int->Int->Prop}{g:Int->Int->Int}
  (rule:∀(i j:Int) (t u:Tok) (s:Shared) (Q:Value->Shared->Prop) (E:Value->Shared->Prop),C i j->Q (.int (g i j) s.toks) { s with toks:=s.toks+1 }->wpAny (model X.prog X.w) X.A (f (.int i t) (.int j u)) Q E s) :
  OpR X f (rI C λi j=>.int (g i j)):=by
 intro pins s σ H x y v u Q I rx ry h;obtain⟨i,j,rfl,rfl,hc,q⟩:=h;obtain⟨t,rfl⟩:=rx;obtain⟨t',rfl⟩:=ry;exact rule i j t t' s _ _ hc #[.int (g i j),H,I.tok _,#[1],q]
theorem opI0 {f:Value->Value->Sem Value}{g:Int->Int->Int}
  (rule:∀(i j:Int) (t u:Tok) (s:Shared) (Q:Value->Shared->Prop) (E:Value->Shared->Prop),Q (.int (g i j) s.toks) { s with toks:=s.toks+1 }->wpAny (model X.prog X.w) X.A (f (.int i t) (.int j u)) Q E s) :
  OpR X f (rI0 λi j=>.int (g i j)):=by
 intro pins s σ H x y v u Q I rx ry h;obtain⟨i,j,rfl,rfl,q⟩:=h;obtain⟨t,rfl⟩:=rx;obtain⟨t',rfl⟩:=ry;exact rule i j t t' s _ _ #[.int (g i j),H,I.tok _,#[1],q]
theorem opB0 {f:Value->Value->Sem Value}{g:Int->Int->Bool}
  (rule:∀(i j:Int) (t u:Tok) (s:Shared) (Q:Value->Shared->Prop) (E:Value->Shared->Prop),Q (.bool (g i j)) s->wpAny (model X.prog X.w) X.A (f (.int i t) (.int j u)) Q E s) :
  OpR X f (rI0 λi j=>.bl (g i j)):=by
 intro pins s σ H x y v u Q I rx ry h;obtain⟨i,j,rfl,rfl,q⟩:=h;obtain⟨t,rfl⟩:=rx;obtain⟨t',rfl⟩:=ry;exact rule i j t t' s _ _ #[.bl (g i j),H,I,0,q]
noncomputable def CDiv (i j:Int):Prop:=0<j/\j<1073741824
noncomputable def CMul (i j:Int):Prop:=(-(2 ^ 64)<i/\i<2 ^ 64)∨(-(2 ^ 64)<j/\j<2 ^ 64)
theorem CMul.ok {i j:Int}(h:CMul i j):IntMulOk i j:=by
 rcases h with⟨h1,h2⟩|⟨h1,h2⟩
 .exact .of_left (intBits_le_64 h1 h2)
 .exact .of_right (intBits_le_64 h1 h2)
theorem dM:OpR X (gW .Add) (rI0 λi j=>.int (i+j)):=opI0 λ_ _ _ _ _ _ _ q=>add_int q
theorem jF:OpR X (gW .Sub) (rI0 λi j=>.int (i-j)):=opI0 λ_ _ _ _ _ _ _ q=>sub_int q
theorem iD:OpR X (gW .Mult) (rI CMul λi j=>.int (i*j)):=opI λ_ _ _ _ _ _ _ hc q=>mul_int q hc.ok
theorem J9:OpR X (gW .FloorDiv) (rI CDiv λi j=>.int (i / j)):=opI λi j _ _ _ _ _ hc q=>by
 have h1:(0:Int)<j:=hc.1;have h2:j<1073741824:=hc.2;exact floordiv_int (by lk) (by rw[Int.fdiv_eq_ediv_of_nonneg i (by lk)];exact q) (.inl (PyProof.noPylong_small (by lk)))
theorem jy:OpR X (gW .Mod) (rI (λ_ j=>0<j) λi j=>.int (i % j)):=opI λi j _ _ _ _ _ hc q=>by
 have h1:(0:Int)<j:=hc;exact mod_int' (by lk) (by rw[Int.fmod_eq_emod_of_nonneg i (by lk)];exact q)
theorem unI {f:Value->Sem Value}{g:Int->Int}
  (rule:∀(i:Int) (t:Tok) (s:Shared) (Q:Value->Shared->Prop) (E:Value->Shared->Prop),Q (.int (g i) s.toks) { s with toks:=s.toks+1 }->wpAny (model X.prog X.w) X.A (f (.int i t)) Q E s) :
  UnR X f (rU λi=>.int (g i)):=by
 intro pins s σ H x v Q I rx h;obtain⟨i,rfl,q⟩:=h;obtain⟨t,rfl⟩:=rx;exact rule i t s _ _ #[.int (g i),H,I.tok _,#[1],q]
theorem uk:UnR X (unaryOp .USub) (rU λi=>.int (-i)):=unI λ_ _ _ _ _ q=>neg_int q
end
noncomputable def scal:V->V->Bool
 | .non,.non=>true|.non,.int _=>true|.int _,.non=>true|.non,.bl _=>true|.bl _,.non=>true|.non,.str _=>true|.str _,.non=>true
 | .int _,.int _=>true|.bl _,.bl _=>true|.str _,.str _=>true|.byt _,.byt _=>true
 | .int _,.str _=>true|.str _,.int _=>true|.bl _,.str _=>true|.str _,.bl _=>true
 | _,_=>false
noncomputable def rEq:R2:=λx y H Q=>scal x y=true/\Q (.bl (decide (x=y))) H
noncomputable def rNe:R2:=λx y H Q=>scal x y=true/\Q (.bl (!decide (x=y))) H
theorem xg {i j:Int}:decide (V.int i=V.int j)=(i==j):=by
 rw[uq];simp
theorem wx {i j:Bool}:decide (V.bl i=V.bl j)=(i==j):=by
 rw[uq];simp
theorem vC {i j:Str}:decide (V.str i=V.str j)=(i==j):=by
 rw[uq];simp
theorem x5 {i j:Array UInt8}:decide (V.byt i=V.byt j)=(i.toList==j.toList):=by
 rw[uq];cases i;cases j;simp
section
variable {X:Cx}{a b c:Expr}{ta tb tc:TE}{pos:Pos}
theorem bZ {pins:List (Addr×Obj)}{σ:St}{H:Hp}{s:Shared}{Q:VK}{k k':Bool}(I:Inv X pins σ H s)(q:Q (.bl k) H)(e:k=k'):EP X pins σ Q (.bool k') s:=by
 subst e;exact#[.bl k,H,I,0,q]
theorem a6:OpR X (cy .Eq) rEq:=by
 intro pins s σ H x y v u Q I rx ry h;obtain⟨hs,q⟩:=h;cases x with
 | non =>
  cases rx;cases y with
  | non=>cases ry;exact PySem.EqNone.eq_none_none (bZ I q (by simp))
  | bl j=>cases ry;exact PySem.EqNone.eq_none_bool (bZ I q (by simp))
  | int j=>obtain⟨t',rfl⟩:=ry;exact PySem.EqNone.eq_none_int (bZ I q (by simp))
  | str j=>obtain⟨t',rfl⟩:=ry;exact PySem.EqNone.eq_none_str (bZ I q (by simp))
  | _=>exact absurd (show false=true from hs) cf
 | bl i =>
  cases rx;cases y with
  | non=>cases ry;exact PySem.EqNone.eq_bool_none (bZ I q (by simp))
  | bl j=>cases ry;exact eq_bool (bZ I q wx)
  | str j=>obtain⟨t',rfl⟩:=ry;exact PySem.EqMixed.eq_bool_str (bZ I q (by simp))
  | _=>exact absurd (show false=true from hs) cf
 | int i =>
  obtain⟨t,rfl⟩:=rx;cases y with
  | non=>cases ry;exact PySem.EqNone.eq_int_none (bZ I q (by simp))
  | int j=>obtain⟨t',rfl⟩:=ry;exact eq_int (bZ I q xg)
  | str j=>obtain⟨t',rfl⟩:=ry;exact PySem.EqMixed.eq_int_str (bZ I q (by simp))
  | _=>exact absurd (show false=true from hs) cf
 | str i =>
  obtain⟨t,rfl⟩:=rx;cases y with
  | non=>cases ry;exact PySem.EqNone.eq_str_none (bZ I q (by simp))
  | bl j=>cases ry;exact PySem.EqMixed.eq_str_bool (bZ I q (by simp))
  | int j=>obtain⟨t',rfl⟩:=ry;exact PySem.EqMixed.eq_str_int (bZ I q (by simp))
  | str j=>obtain⟨t',rfl⟩:=ry;exact eq_str (bZ I q vC)
  | _=>exact absurd (show false=true from hs) cf
 | byt i =>
  obtain⟨t,rfl⟩:=rx;cases y with
  | byt j=>obtain⟨t',rfl⟩:=ry;exact PySem.W.eq_bytes (bZ I q x5)
  | _=>exact absurd (show false=true from hs) cf
 | _=>cases y<;>exact absurd (show false=true from hs) cf
theorem fO:OpR X (cy .NotEq) rNe:=by
 intro pins s σ H x y v u Q I rx ry h;obtain⟨hs,q⟩:=h;cases x with
 | non =>
  cases rx;cases y with
  | non=>cases ry;exact PySem.EqNone.ne_none_none (bZ I q (by simp))
  | bl j=>cases ry;exact PySem.EqNone.ne_none_bool (bZ I q (by simp))
  | int j=>obtain⟨t',rfl⟩:=ry;exact PySem.EqNone.ne_none_int (bZ I q (by simp))
  | str j=>obtain⟨t',rfl⟩:=ry;exact PySem.EqNone.ne_none_str (bZ I q (by simp))
  | _=>exact absurd (show false=true from hs) cf
 | bl i =>
  cases rx;cases y with
  | non=>cases ry;exact PySem.EqNone.ne_bool_none (bZ I q (by simp))
  | bl j=>cases ry;exact ne_bool (bZ I q (congrArg not wx))
  | str j=>obtain⟨t',rfl⟩:=ry;exact PySem.EqMixed.ne_bool_str (bZ I q (by simp))
  | _=>exact absurd (show false=true from hs) cf
 | int i =>
  obtain⟨t,rfl⟩:=rx;cases y with
  | non=>cases ry;exact PySem.EqNone.ne_int_none (bZ I q (by simp))
  | int j=>obtain⟨t',rfl⟩:=ry;exact ne_int (bZ I q (congrArg not xg))
  | str j=>obtain⟨t',rfl⟩:=ry;exact PySem.EqMixed.ne_int_str (bZ I q (by simp))
  | _=>exact absurd (show false=true from hs) cf
 | str i =>
  obtain⟨t,rfl⟩:=rx;cases y with
  | non=>cases ry;exact PySem.EqNone.ne_str_none (bZ I q (by simp))
  | bl j=>cases ry;exact PySem.EqMixed.ne_str_bool (bZ I q (by simp))
  | int j=>obtain⟨t',rfl⟩:=ry;exact PySem.EqMixed.ne_str_int (bZ I q (by simp))
  | str j=>obtain⟨t',rfl⟩:=ry;exact ne_str (bZ I q (congrArg not vC))
  | _=>exact absurd (show false=true from hs) cf
 | byt i =>
  obtain⟨t,rfl⟩:=rx;cases y with
  | byt j=>obtain⟨t',rfl⟩:=ry;exact PySem.W.ne_bytes (bZ I q (congrArg not x5))
  | _=>exact absurd (show false=true from hs) cf
 | _=>cases y<;>exact absurd (show false=true from hs) cf
theorem fP:OpR X (cy .Lt) (rI0 λi j=>.bl (decide (i<j))):=opB0 λ_ _ _ _ _ _ _ q=>lt_int q
theorem jH:OpR X (cy .LtE) (rI0 λi j=>.bl (decide (i<=j))):=opB0 λ_ _ _ _ _ _ _ q=>le_int q
theorem gR:OpR X (cy .Gt) (rI0 λi j=>.bl (decide (j<i))):=opB0 λ_ _ _ _ _ _ _ q=>gt_int q
theorem JI:OpR X (cy .GtE) (rI0 λi j=>.bl (decide (j<=i))):=opB0 λ_ _ _ _ _ _ _ q=>ge_int q
theorem yq:OpR X (cy .In) (λx y H Q=>Ex2 λi j=>x = .str i/\y = .str j/\Q (.bl (!(lz j i 0 j.length 1).isEmpty)) H):=by
 intro pins s σ H x y v u Q I rx ry h;obtain⟨i,j,rfl,rfl,q⟩:=h;obtain⟨t,rfl⟩:=rx;obtain⟨t',rfl⟩:=ry;exact in_str (bZ I q rfl)
theorem kU:OpR X (cy .Is) (λx y H Q=>y = .non/\Q (.bl (decide (x = .non))) H):=by
 intro pins s σ H x y v u Q I rx ry h;obtain⟨rfl,q⟩:=h;cases ry;refine is_none_gen (bZ I q ?_);cases x<;>first
  | (cases rx;rfl)
  | (obtain⟨t,rfl⟩:=rx;rfl)
theorem wR:OpR X (cy .IsNot) (λx y H Q=>y = .non/\Q (.bl (!decide (x = .non))) H):=by
 intro pins s σ H x y v u Q I rx ry h;obtain⟨rfl,q⟩:=h;cases ry;refine isnot_none_gen (bZ I q ?_);cases x<;>first
  | (cases rx;rfl)
  | (obtain⟨t,rfl⟩:=rx;rfl)
theorem aH (b:Expr){op:CmpOp}(h:autoParam (op ≠ .In) aUA._auto_1)(h2:autoParam (op ≠ .NotIn) aUA._auto_1):xN op b=false:=by
 have e1:(op==CmpOp.In)=false:=by cases op<;>first|rfl|exact absurd rfl h
 have e2:(op==CmpOp.NotIn)=false:=by cases op<;>first|rfl|exact absurd rfl h2
 cases b<;>simp[xN,e1,e2]
theorem eY {op:CmpOp}{r:R2}(ho:OpR X (cy op) r)(ha:PE X a ta)(hb:PE X b tb)(hm:xN op b=false):PE X (.Compare a [op] [b] pos) (tOp r ta tb):=by
 intro pins s σ H Q I h;exact wpAny_Compare1 (binT ha hb I h λv u s2 x y H2 I2 rx ry q=>ho pins s2 σ H2 x y v u Q I2 rx ry q) hm
noncomputable def sR (t:TE):TT:=fun σ H Q=>t σ H λx H'=>∃k,x = .bl k/\Q k H'
theorem aL {op:CmpOp}{r:R2}(ho:OpR X (cy op) r)(ha:PE X a ta)(hb:PE X b tb)(hm:xN op b=false):PT X (.Compare a [op] [b] pos) (sR (tOp r ta tb)):=by
 intro pins s σ H Q I h;refine Ry (thn (ha pins s σ H _ I h) λv s1 #[x,H1,I1,r1,q1]=>thn (hb pins s1 σ H1 _ I1 q1) λu s2 #[y,H2,I2,r2,q2] =>
  thn (ho pins s2 σ H2 x y v u _ I2 r1 r2 q2) λc s3 #[z,H3,I3,r3,k,e,q3]=>?_) hm
 subst e;cases r3;exact ie #[H3,I3,q3]
noncomputable def sK (r r':R2)(ta tb tc:TE):TE:=fun σ H Q=>ta σ H λx H1=>tb σ H1 λy H2=>r x y H2 λz H3=>∃k,z = .bl k /\
 (if k=true then tc σ H3 λw' H4=>r' y w' H4 Q else Q (.bl false) H3)
theorem Mn {op op':CmpOp}{r r':R2}(ho:OpR X (cy op) r)(ho':OpR X (cy op') r')(ha:PE X a ta)(hb:PE X b tb)(hc:PE X c tc)
  (hm:lastMarks [op,op'] [b,c]=false:=by with_unfolding_all rfl):PE X (.Compare a [op,op'] [b,c] pos) (sK r r' ta tb tc):=by
 intro pins s σ H Q I h;refine Compare_chain (thn (ha pins s σ H _ I h) λv s1 #[x,H1,I1,r1,q1]=>chain_link (thn (hb pins s1 σ H1 _ I1 q1) λu s2 #[y,H2,I2,r2,q2] =>
  thn (ho pins s2 σ H2 x y v u _ I2 r1 r2 q2) λd s3 #[z,H3,I3,r3,k,e,q3]=>?_)) hm
 subst e;cases r3;refine ie ?_;cases k with
 | false=>exact ite_ff #[.bl false,H3,I3,0,q3]
 | true=>exact ite_tt (chain_last (thn (hc pins s3 σ H3 _ I3 q3) λw' s4 #[z',H4,I4,r4,q4]=>ho' pins s4 σ H4 y z' u w' Q I4 r2 r4 q4))
theorem Ky {op op':CmpOp}{r r':R2}(ho:OpR X (cy op) r)(ho':OpR X (cy op') r')(ha:PE X a ta)(hb:PE X b tb)(hc:PE X c tc)
  (hm:lastMarks [op,op'] [b,c]=false:=by with_unfolding_all rfl):PT X (.Compare a [op,op'] [b,c] pos) (sR (sK r r' ta tb tc)):=by
 intro pins s σ H Q I h;refine isTrue_chain (thn (ha pins s σ H _ I h) λv s1 #[x,H1,I1,r1,q1]=>test_link (thn (hb pins s1 σ H1 _ I1 q1) λu s2 #[y,H2,I2,r2,q2] =>
  thn (ho pins s2 σ H2 x y v u _ I2 r1 r2 q2) λd s3 #[z,H3,I3,r3,k,e,q3]=>?_)) hm
 subst e;cases r3;refine ie ?_;cases k with
 | false =>
  obtain⟨k',e',q'⟩:=q3;cases e';exact ite_ff #[H3,I3,q']
 | true =>
  refine ite_tt (test_last (thn (hc pins s3 σ H3 _ I3 q3) λw' s4 #[z',H4,I4,r4,q4]=>thn (ho' pins s4 σ H4 y z' u w' _ I4 r2 r4 q4) λd' s5 #[z2,H5,I5,r5,k2,e2,q5]=>?_));subst e2;cases r5;exact ie #[H5,I5,q5]
noncomputable def TruV (K:ah)(x:V)(H:Hp)(k:Bool):Prop :=
 match x with
 | .non=>k=false
 | .bl b=>k=b
 | .int i=>k=(i != 0)
 | .str y=>y.length<=aE/\k=((y.length:Int) != 0)
 | .byt y=>y.size<=aE/\k=((y.size:Int) != 0)
 | .ref p=>(∃xs,SqL K H p xs/\k = !xs.isEmpty)∨(∃xs,SqT K H p xs/\k = !xs.isEmpty)∨∃kvs,H p=some (.dK kvs)/\k = !kvs.isEmpty
 | _=>False
theorem Lc {κ:Type}{kvs:List (κ×V)}{vs:List (κ×Value)}(r:KV kvs vs):(!vs.isEmpty) = !kvs.isEmpty:=by
 cases r<;>rfl
theorem vQ {xs:List V}{its:List Value}(r:Vals xs its):(!its.toArray.isEmpty) = !xs.isEmpty:=by
 cases r<;>simp
theorem nU:(aE:Nat)<2 ^ 63:=by rw[sizeLine_eq];decide
theorem JP:TruR X (λx H Q=>∃k,TruV X.K x H k/\Q k H):=by
 intro pins s σ H x v Q I rx h;obtain⟨k,e,q⟩:=h;have hl:=nU;have hs:aE=16777216:=sizeLine_eq;cases x with
 | non =>
  cases rx;have e':k=false:=e;subst e';exact truthy_none #[H,I,q]
 | bl b =>
  cases rx;have e':k=b:=e;subst e';exact ie #[H,I,q]
 | int i =>
  obtain⟨t,rfl⟩:=rx;have e':k=(i != 0):=e;subst e';exact PySem.P.truthy_int #[H,I,q]
 | str y =>
  obtain⟨t,rfl⟩:=rx;obtain⟨hy,e'⟩:y.length<=aE/\k=((y.length:Int) != 0):=e;subst e';exact PySem.P.truthy_str (by lk) #[H,I.tok _,q]
 | byt y =>
  obtain⟨t,rfl⟩:=rx;obtain⟨hy,e'⟩:y.size<=aE/\k=((y.size:Int) != 0):=e;subst e';exact PySem.W.truthy_bytes (by lk) #[H,I.tok _,q]
 | ref p =>
  cases rx;have e':(∃xs,SqL X.K H p xs/\k = !xs.isEmpty)∨(∃xs,SqT X.K H p xs/\k = !xs.isEmpty)∨∃kvs,H p=some (.dK kvs)/\k = !kvs.isEmpty:=e
  rcases e' with⟨xs,hx,e'⟩|⟨xs,hx,e'⟩|⟨kvs,hx,e'⟩
  .subst e';obtain⟨its,r,pl,hz⟩:=I.list hx;have hlen:=r.length;exact wpAny_truthy_list pl.isList (by simp only[a7];lk) #[H,I.tok _,by rw[vQ r];exact q]
  .subst e';obtain⟨its,r,pl,hz⟩:=I.tuple hx;have hlen:=r.length;exact truthy_tuple pl (by simp only[a7];lk) #[H,I.tok _,by rw[vQ r];exact q]
  .subst e';obtain⟨hz,hS,vs,r,m⟩:kvs.length<=aE/\(p==iw)=false/\∃vs,KV kvs vs/\s.heap.DictOf (fw X.prog X.w) p vs:=I.hok p _ hx;have hlen:kvs.length=vs.length:=zg r;exact wpAny_truthy_dict hS m (by lk) #[H,I.tok _,by rw[Lc r];exact q]
 | _=>exact (show False from e).elim
theorem rh (ha:PE X a ta)(he:∀whole,isTrue a X.env whole=(do let v <- whole;rF a.pos;jq [v] (truthy v))) :
  PT X a (fun σ H Q=>ta σ H λx H'=>∃k,TruV X.K x H' k/\Q k H'):=by
 intro pins s σ H Q I h;exact isTrue_plain (thn (ha pins s σ H _ I h) λv s1 #[x,H1,I1,r1,q1]=>JP pins s1 σ H1 x v Q I1 r1 q1) (he _)
theorem oB:OpR X (gW .Add) (λx y H Q=>Ex2 λi j=>x = .str i/\y = .str j/\i.length+j.length<=aE/\Q (.str (i++j)) H):=by
 intro pins s σ H x y v u Q I rx ry h;obtain⟨i,j,rfl,rfl,hz,q⟩:=h;obtain⟨t,rfl⟩:=rx;obtain⟨t',rfl⟩:=ry;exact add_str (λt' tk=>#[.str (i++j),H,I.tok _,#[1],q]) hz
theorem vals1 {x:V}{us:List Value}(r:Vals [x] us):∃u,us=[u]/\RelV x u:=by
 cases r with
 | cons r1 r2=>cases r2;exact#[1,r1]
theorem vals2 {x y:V}{us:List Value}(r:Vals [x,y] us):Ex2 λu w'=>us=[u,w']/\RelV x u/\RelV y w':=by
 cases r with
 | cons r1 r2 =>
  cases r2 with
  | cons r3 r4=>cases r4;exact#[_,1,r1,r3]
theorem uI:di X (.type "str") (λxs H Q=>∃i,xs=[.int i]/\i.natAbs.log2<1920/\Q (.str (toString i)) H):=by
 intro pins s σ H xs us Q I r h;obtain⟨i,rfl,hz,q⟩:=h;obtain⟨u,rfl,t,rfl⟩:=vals1 r;exact PySem.P.str_of_int hz #[.str _,H,I.tok _,#[1],q]
end
end L2
namespace L2
open PySem PySem.Spec PyProof.Rows
structure ObjM (h:Heap)(x dx C:Addr)(mA:Str->Option Value):Prop where
 obj:h.get? x=some (lX C dx)
 ns:h.Ns1 dx mA
 ne:dx≠x
theorem DX {h:Heap}{dx:Addr}{mA:Str->Option Value}(n:h.Ns1 dx mA):∃od,h.get? dx=some od/\∀name,AN name od=some (mA name):=by
 obtain⟨o,es,ep,ho,hd,hk,_,hm⟩:=n;refine#[o,ho,λname=>?_];have e:=hm name;unfold nsFind findBy at e;rw[<- Array.find?_toList] at e;unfold AN;rw[hd];dsimp only
 split
 .rename_i y q;rw[q] at e;exact congrArg some e
 .rename_i q;rw[q] at e;have a:es.toList.any (·.refKey)=false:=by
   rw[List.any_eq_false];intro y hy;obtain⟨z,t,hkey⟩:=hk y (Array.mem_toList_iff.mp hy);simp[g9.refKey,hkey]
  have a':¬ es.toList.any (·.refKey)=true:=by rw[a];exact cf
  rw[if_neg a'];exact congrArg some e
theorem ObjM.look {h:Heap}{x dx C:Addr}{mA:Str->Option Value}(I:ObjM h x dx C mA):∃od,PySem.W.InstAt h x (lX C dx) C (some od)/\∀name,AN name od=some (mA name) :=
 let ⟨od,ho,hl⟩:=DX I.ns
 #[od,#[I.obj,00,ho],hl]
section
variable {prog:aR}{w:World}{A:Around}{E:Value->Shared->Prop}{s:Shared}{K:ah}{x dx C f:Addr}{mA:Str->Option Value}{name:Str}{v:Value}
theorem get_map {expr:Bool}{Q:Value->Shared->Prop}(X:K.In s.heap)(I:ObjM s.heap x dx C mA)(hg:pW K C name=true)(hh:qU K C=true)
  (ha:cm K (.ref C) name=some none) (hv:mA name=some v) (hv':TF v=true) (h:Q v { s with toks:=s.toks+1 }) :
  wpAny (model prog w) A (getAttr (.ref x) name expr) Q E s:=by
 obtain⟨od,J,hl⟩:=I.look;exact PySem.W.get_value X J (MP hg).1 (PySem.W.findObj_own hh ha rfl (by rw[hl,hv])) hv' h
theorem OZ {pl:Sem Bool}{Q:Value×List Value->Shared->Prop}(X:K.In s.heap)(I:ObjM s.heap x dx C mA)(hg:pW K C name=true)
  (hf:cm K (.ref C) name=some (some (.ref f))) (ht:uu K (.ref f)=true) (hv:mA name=none) (h:Q (.ref f,[.ref x]) s) :
  wpAny (model prog w) A (yQ (.ref x) name pl) Q E s:=by
 obtain⟨od,J,hl⟩:=I.look;exact PySem.W.method_fn X J (MP hg).1 (MP hg).2 hf (beq_iff_eq.mp ht) (by show (AN name od).map (·.isSome)=some false;rw[hl,hv];rfl) h
theorem FC {ns:List Str}{Q:Unit->Shared->Prop}(X:K.In s.heap)(I:ObjM s.heap x dx C mA)
  (hs:cm K (.ref C) "__setattr__" = some (some (.builtin "object.__setattr__"))) (hp:vU K C=true) (ht:Ob K C name=some none) (hh:qU K C=true)
  (hw:z7 mA ns) (hsz:ns.length<=aE)
  (h:∀h',ObjM h' x dx C (λy=>if y=name then some v else mA y)->eN dx s.heap h'->Q () { s with heap:=h',toks:=s.toks+2 }) :
  wpAny (model prog w) A (setAttr (.ref x) name v) Q E s:=by
 obtain⟨od,J,hl⟩:=I.look;refine PySem.W.set_plain X J hs (PySem.W.osa_open (s:={ s with toks:=s.toks+1 }) (r:=none) X J hp ht λb=>?_);obtain⟨cd,hc,hd'⟩:=PySem.W.any_some hh;have hx:s.heap.get? x=some #[.ref C,some dx,.plain,(yA [])]:=I.obj;refine ac (aq (ac (ac (wpAny_loadPart hx (ac (PySem.W.Looks.here (s:={ s with toks:=s.toks+1 }) (PySem.W.looks_clsIn X hc) ?_))))));rw[hd'];refine aq (a:=some dx) (ac (aq (ac ?_)));refine wpAny_nsSet1 (s:={ s with toks:=s.toks+1 }) I.ns λh' hn2 hs2=>?_;obtain⟨oD,esD,epD,hoD,hdD,hcD⟩:=hn2.count (z7.cons name v hw);refine ac (wpAny_lookBehind hoD (by rw[hdD];exact pastItsLine_dict (aV hcD (by rw[aK];lk))) ?_);exact aq (h _ #[(hs2.2 _ (a8 I.ne)).trans I.obj,hn2,I.ne] hs2)
theorem CW {R:Result->Shared->Prop}{vs:List Value}{kw:List (Str×Value)}(X:K.In s.heap)(hm:IZ K C=true)
  (hi:cm K (.ref C) "__init__" = some (some (.ref f))) (hf:PySem.W.typeIn K (.ref f)=some (.type "function"))
  (h:gi (model prog w) (A.under (.builtin "type.__call__" #[.ref C::vs,kw])) (.call (.ref f) #[.ref (s.heap.objs.size+1)::vs,kw]) (PySem.W.InitBack (s.heap.objs.size+1) R)
   { s with heap:=(s.heap.push jV).push (lX C s.heap.objs.size) }) :
  gi (model prog w) A (.call (.ref C) #[vs,kw]) R s:=by
 obtain⟨hh,g,d,t,os⟩:=s;exact PySem.W.make_core (PySem.W.makes_of X hm) (PySem.W.looks_findIn X hi) (λself=>PySem.W.bind_fn X self hf) (.inl rfl) h
end
noncomputable def putF (f:Str)(v:V):List (Str×V)->List (Str×V)
 | []=>[(f,v)]
 | (g,x)::r=>if g=f then (g,v)::r else (g,x)::putF f v r
theorem QD (f g:Str)(v:V):∀fs:List (Str×V),(putF f v fs).lookup g=if g=f then some v else fs.lookup g
 | []=>by
  show fT g [(f,v)]=_
  by_cases h:g=f
  .have hb:(g==f)=true:=beq_iff_eq.mpr h;simp only[fT,hb,if_pos h]
  .have hb:(g==f)=false:=beq_eq_false_iff_ne.mpr h;simp only[fT,hb,if_neg h]
 | (k,x)::r=>by
  have ih:=QD f g v r;rw[show putF f v ((k,x)::r)=(if k=f then (k,v)::r else (k,x)::putF f v r) from rfl]
  by_cases hk:k=f
  .rw[if_pos hk]
   by_cases h:g=k
   .have hb:(g==k)=true:=beq_iff_eq.mpr h;simp only[fT,hb,if_pos (h.trans hk)]
   .have hb:(g==k)=false:=beq_eq_false_iff_ne.mpr h;simp only[fT,hb,if_neg (λe:g=f=>h (e.trans hk.symm))]
  .rw[if_neg hk]
   by_cases h:g=k
   .have hb:(g==k)=true:=beq_iff_eq.mpr h;simp only[fT,hb,if_neg (λe:g=f=>hk (h.symm.trans e))]
   .have hb:(g==k)=false:=beq_eq_false_iff_ne.mpr h;simp only[fT,hb];exact ih
theorem Ew (f:Str)(v:V):∀fs:List (Str×V),f∈(putF f v fs).map (·.1)/\∀g,g∈fs.map (·.1)->g∈(putF f v fs).map (·.1)
 | []=>#[by simp[putF],λg h=>by simp at h]
 | (k,x)::r=>by
  obtain⟨i1,i2⟩:=Ew f v r;rw[show putF f v ((k,x)::r)=(if k=f then (k,v)::r else (k,x)::putF f v r) from rfl]
  by_cases hk:k=f
  .rw[if_pos hk];subst hk;exact#[by simp,λg h=>by simpa using h]
  .rw[if_neg hk];refine#[5,λg h=>?_]
   .rw[bp];exact bx _ i1
   .rw[bp] at h ⊢
    rcases aM.mp h with e|e
    .exact aM.mpr (.inl e)
    .exact bx _ (i2 g e)
theorem Tt (f:Str)(v:V):∀fs:List (Str×V),(putF f v fs).length<=fs.length+1
 | []=>by simp[putF]
 | (k,x)::r=>by
  have ih:=Tt f v r;rw[show putF f v ((k,x)::r)=(if k=f then (k,v)::r else (k,x)::putF f v r) from rfl]
  by_cases hk:k=f
  .rw[if_pos hk,aK,aK];lk
  .rw[if_neg hk,aK,aK];lk
theorem RelO.some_of {v:V}{o:Option Value}(r:RelO (some v) o):∃u,o=some u/\RelV v u:=by
 cases o with
 | none=>exact (show False from r).elim
 | some u=>exact#[u,0,r]
theorem RelO.none_of {o:Option Value}(r:RelO none o):o=none:=by
 cases o with
 | none=>rfl
 | some u=>exact (show False from r).elim
theorem JL {v:V}{u:Value}(r:RelV v u):TF u=true:=by
 cases v with
 | non=>cases (show u=Value.none from r);rfl
 | bl b=>cases (show u=Value.bool b from r);rfl
 | int i=>obtain⟨t,e⟩:=(show ∃t,u=Value.int i t from r);cases e;rfl
 | str x=>obtain⟨t,e⟩:=(show ∃t,u=Value.str x t from r);cases e;rfl
 | byt b=>obtain⟨t,e⟩:=(show ∃t,u=Value.bytes b t from r);cases e;rfl
 | flt b=>obtain⟨t,e⟩:=(show ∃t,u=Value.float b t from r);cases e;rfl
 | ref a=>cases (show u=Value.ref a from r);rfl
 | ty n=>cases (show u=Value.type n from r);rfl
section
variable {P:aR}{w:World}{H H':Hp}{h h':Heap}{a C dx:Addr}{fs fs':List (Str×V)}
theorem jR (hok:HOk P w H h)(e:H a=some (.ins C dx fs)):∃mA,ObjM h a dx C mA/\(∀f,RelO (fs.lookup f) (mA f))/\z7 mA (fs.map (·.1))/\fs.length<=1000/\H dx=some (.own a):=by
 obtain⟨d,z,ne,ob,mA,n,r,q⟩:=(show cq P w H h a (.ins C dx fs) from hok a _ e);exact#[mA,#[ob,n,ne],r,q,z,d]
end
structure Cls (K:ah)(C:Addr):Prop where
 pg:pW K C zS=true
 hd:qU K C=true
 po:vU K C=true
 sa:cm K (.ref C) "__setattr__" = some (some (.builtin "object.__setattr__"))
theorem Cls.get {K:ah}{C:Addr}(c:Cls K C)(f:Str):pW K C f=true:=c.pg
noncomputable def eD (K:ah)(C:Addr)(f:Str):Prop:=cm K (.ref C) f=some none
theorem eD.taker {K:ah}{C:Addr}{f:Str}(n:eD K C f):Ob K C f=some none:=by
 unfold Ob;rw[show cm K (.ref C) f=some none from n];rfl
structure Con (K:ah)(C:Addr)(f:Str)(v:V)(u:Value):Prop where
 at_:cm K (.ref C) f=some (some u)
 rel:RelV v u
 get:A2 K u "__get__" = some none
 cp:PySem.W.copiedNames.contains f=false
structure Meth (K:ah)(C:Addr)(m:Str)(f:Addr):Prop where
 at_:cm K (.ref C) m=some (some (.ref f))
 fn:uu K (.ref f)=true
 kp:jB K (.ref f)=true
section
variable {X:Cx}{pins:List (Addr×Obj)}{σ:St}{H:Hp}{s:Shared}{a C dx:Addr}{fs:List (Str×V)}{f:Str}{v:V}{A:Around}{E:Value->Shared->Prop}
theorem sU {b:Bool}{Q:Value->Shared->Prop}(I:Inv X pins σ H s)(e:H a=some (.ins C dx fs))(c:Cls X.K C)(n:eD X.K C f)(l:fs.lookup f=some v)
  (h:∀u s',Inv X pins σ H s'->RelV v u->Q u s'):wpAny (model X.prog X.w) A (getAttr (.ref a) f b) Q E s:=by
 obtain⟨mA,O,r,_,_,_⟩:=jR I.hok e;obtain⟨u,hu,ru⟩:=RelO.some_of (v:=v) (o:=mA f) (by rw[<- l];exact r f);exact get_map I.kIn O (c.get f) c.hd n hu (JL ru) (h u _ (I.tok _) ru)
theorem yp {m:Str}{g:Addr}{pl:Sem Bool}{Q:Value×List Value->Shared->Prop}(I:Inv X pins σ H s)(e:H a=some (.ins C dx fs))(c:Cls X.K C)(k:Meth X.K C m g)(l:fs.lookup m=none)
  (h:Q (.ref g,[.ref a]) s):wpAny (model X.prog X.w) A (yQ (.ref a) m pl) Q E s:=by
 obtain⟨mA,O,r,_,_,_⟩:=jR I.hok e;have hn:mA m=none:=RelO.none_of (by rw[<- l];exact r m);exact OZ I.kIn O (c.get m) k.at_ k.fn hn h
theorem Qe {y:V}{u:Value}{Q:Unit->Shared->Prop}(I:Inv X pins σ H s)(e:H a=some (.ins C dx fs))(c:Cls X.K C)(n:eD X.K C f)(hl:fs.length<1000)(ry:RelV y u)
  (h:∀s',Inv X pins σ (upd H a (.ins C dx (putF f y fs))) s'->Q () s'):wpAny (model X.prog X.w) A (setAttr (.ref a) f u) Q E s:=by
 obtain⟨mA,O,r,wi,_,ho⟩:=jR I.hok e;have hz:(fs.map (·.1)).length<=aE:=by rw[aw,sizeLine_eq];lk
 refine FC I.kIn O c.sa c.po n.taker c.hd wi hz λh' O' sb=>h _ ?_;have hd:∃o,h'.get? dx=some o:=let ⟨o,_,_,e',_⟩:=O'.ns;#[o,e'];refine I.write (x:=a) (e:=dx) (by rw[e];exact True.intro) (.inr ho) (λb q hb z=>(sb.2 b hb).trans z) hd ?_;refine#[by rw[aF O.ne];exact ho,5,O.ne,O'.obj,_,O'.ns,λg=>?_,λg hg=>?_]
 .have:=Tt f y fs;lk
 .show RelO ((putF f y fs).lookup g) (if g=f then some u else mA g);rw[QD]
  by_cases q:g=f
  .rw[if_pos q,if_pos q];exact ry
  .rw[if_neg q,if_neg q];exact r g
 .by_cases q:g=f
  .rw[q];exact (Ew f y fs).1
  .refine (Ew f y fs).2 g (wi g λz=>hg ?_);show (if g=f then some u else mA g)=none
   rw[if_neg q];exact z
theorem Inv.made (I:Inv X pins σ H s):Inv X pins σ (upd (upd H s.heap.objs.size (.own (s.heap.objs.size+1))) (s.heap.objs.size+1) (.ins C s.heap.objs.size []))
  { s with heap:=(s.heap.push jV).push (lX C s.heap.objs.size) }:=by
 have e1:(s.heap.push jV).get? s.heap.objs.size=some jV:=bD s.heap rfl;have e2:((s.heap.push jV).push (lX C s.heap.objs.size)).get? (s.heap.objs.size+1)=some (lX C s.heap.objs.size):=by
  have:=bD (s.heap.push jV) (o:=lX C s.heap.objs.size) rfl
  rwa [iz] at this
 have e3:(s.heap.push jV).Ns s.heap.objs.size (λ_=>none):=#[jV,(yA []),_,e1,0,(λe he=>absurd he (by simp)),λ_=>rfl];have I1:=I.laid (a:=s.heap.objs.size) (o:=.own (s.heap.objs.size+1)) (h':=s.heap.push jV) (t':=s.toks) (λb u q=>aW _ q) (az _) #[_,e1];refine I1.laid (a:=s.heap.objs.size+1) (o:=.ins C s.heap.objs.size []) (t':=s.toks) (λb u q=>aW _ q) (zZ (iz _ _)) ?_;have ne:s.heap.objs.size≠s.heap.objs.size+1:=bB (lp _);refine#[by rw[aF ne,aB],ba _,ne,e2,λ_=>none,(Heap.Ns1.of_empty e3).at λo q=>aW _ q,λ_=>True.intro,λy hy=>absurd rfl hy]
theorem M6 {prog:aR}{w:World}{env:Env}{e:Expr}{f:Str}{pos:Pos}{s:Shared}{Q:Value->Shared->Prop}(hb:oj e f env (eval e env)=eval e env)
  (h:wpAny (model prog w) A (eval e env) (λo s₁=>wpAny (model prog w) A (getAttr o f true) Q E s₁) E s):wpAny (model prog w) A (eval (.Attribute e f pos) env) Q E s :=
 Attribute_any_ h (by rw[arm_eval_Attribute,hb])
end
noncomputable def tFld (K:ah)(ta:TE)(f:Str):TE:=fun σ H Q=>ta σ H λx H1=>Ex5 λa C dx fs v=>x = .ref a/\H1 a=some (.ins C dx fs)/\Cls K C/\eD K C f/\fs.lookup f=some v/\Q v H1
noncomputable def sFld (K:ah)(ta tv:TE)(f:Str):TS:=λD σ H=>tv σ H λy H1=>ta σ H1 λx H2=>Ex4 λa C dx fs=>x = .ref a/\H2 a=some (.ins C dx fs)/\Cls K C/\eD K C f/\fs.length<1000 /\
 D.nx σ (upd H2 a (.ins C dx (putF f y fs)))
noncomputable def InOp (X:Cx)(op:wM)(rd:V->V->Hp->VK->Prop):Prop :=
 ∀(pins:List (Addr×Obj)) (s:Shared) (σ:St) (H:Hp) (x y:V) (u v:Value) (Q:VK),Inv X pins σ H s->RelV x u->RelV y v->rd x y H Q->wpAny (model X.prog X.w) X.A (inplaceOp op u v) (EP X pins σ Q) X.xe s
noncomputable def NC (K:ah)(ta tv:TE)(rd:V->V->Hp->VK->Prop)(f:Str):TS:=λD σ H=>ta σ H λx H1=>Ex5 λa C dx fs v=>x = .ref a/\H1 a=some (.ins C dx fs)/\Cls K C/\eD K C f/\fs.lookup f=some v /\
 tv σ H1 λy H2=>rd v y H2 λz H3=>Ex2 λdx' fs'=>H3 a=some (.ins C dx' fs')/\fs'.length<1000/\D.nx σ (upd H3 a (.ins C dx' (putF f z fs')))
section
variable {X:Cx}{o e value:Expr}{f:Str}{pos pos' tpos:Pos}{ta tv:TE}
theorem cc (he:PE X e ta)(hb:oj e f X.env (eval e X.env)=eval e X.env):PE X (.Attribute e f pos) (tFld X.K ta f):=by
 intro pins s σ H Q I h;refine M6 hb (thn (he pins s σ H _ I h) λu s1 #[x,H1,I1,rx,a,C,dx,fs,v,ex,ea,c,n,l,q]=>?_);subst ex;obtain rfl:u=Value.ref a:=rx;exact sU I1 ea c n l λu' s2 I2 ru=>#[v,H1,I2,ru,q]
theorem jj (ha:PE X o ta)(hv:PE X value tv)(hs:sW value (some (.Attribute o f pos')) pos.line X.env=pure false):PS X (.Assign [.Attribute o f pos'] value pos) (sFld X.K ta tv f):=by
 intro pins s σ H D I h;refine plainObj_wpAny_Assign_Attribute (thn (hv pins s σ H _ I h) λu s1 #[y,H1,I1,ry,q]=>thn (ha pins s1 σ H1 _ I1 q) λov s2 #[x,H2,I2,rx,a,C,dx,fs,ex,ea,c,n,l,q2]=>?_) hs;subst ex;obtain rfl:ov=Value.ref a:=rx;exact Qe I2 ea c n l ry λs3 I3=>#[σ,_,I3,q2]
theorem Lp {op:wM}{rd:V->V->Hp->VK->Prop}(ha:PE X o ta)(hv:PE X value tv)(hop:InOp X op rd):PS X (.AugAssign (.Attribute o f tpos) op value pos) (NC X.K ta tv rd f):=by
 intro pins s σ H D I h;refine wpAny_AugAssign_AttributeAny (thn (ha pins s σ H _ I h) λov s1 #[x,H1,I1,rx,a,C,dx,fs,v,ex,ea,c,n,l,q]=>?_);subst ex;obtain rfl:ov=Value.ref a:=rx;refine sU I1 ea c n l λu s2 I2 ru=>thn (hv pins s2 σ H1 _ I2 q) λw3 s3 #[y,H2,I3,ry,q3]=>thn (hop pins s3 σ H2 v y u w3 _ I3 ru ry q3) λw4 s4 #[z,H3,I4,rz,dx',fs',ea',l',q4]=>?_;exact Qe I4 ea' c n l' rz λs5 I5=>#[σ,_,I5,q4]
noncomputable def rAdd:V->V->Hp->VK->Prop:=λx y H Q=>Ex2 λi j=>x = .int i/\y = .int j/\Q (.int (i+j)) H
theorem Iv:InOp X .Add rAdd:=by
 rintro pins s σ H x y u v Q I rx ry ⟨i,j,rfl,rfl,q⟩;obtain⟨t,rfl⟩:=(show ∃t,u=Value.int i t from rx);obtain⟨t',rfl⟩:=(show ∃t',v=Value.int j t' from ry);exact PyProof.Rows.iadd_int #[.int (i+j),H,I.tok _,#[1],q]
end
section
variable {X:Cx}{pins:List (Addr×Obj)}{σ:St}{H:Hp}{s:Shared}{A:Around}{E:Value->Shared->Prop}{Q:Value->Shared->Prop}{c:Value}{b:Bool}
inductive TyOf (K:ah)(H:Hp):V->Value->Prop where
 | non:TyOf K H .non (.type "NoneType")
 | bl (x:Bool):TyOf K H (.bl x) (.type "bool")
 | int (i:Int):TyOf K H (.int i) (.type "int")
 | str (x:Str):TyOf K H (.str x) (.type "str")
 | flt (x:UInt64):TyOf K H (.flt x) (.type "float")
 | lst {a:Addr} {xs:List V} (e:H a=some (.lst xs)):TyOf K H (.ref a) (.type "list")
 | frz {a:Addr} {o:Obj} {xs:List V} (e:H a=some (.frz o (.lst xs))):TyOf K H (.ref a) (.type "list")
 | tup {a:Addr} {xs:List V} (e:H a=some (.tup xs)):TyOf K H (.ref a) (.type "tuple")
 | dK {a:Addr} {kvs:List (Key×V)} (e:H a=some (.dK kvs)):TyOf K H (.ref a) (.type "dict")
 | dT {a:Addr} {kvs:List (List Key×V)} (e:H a=some (.dT kvs)):TyOf K H (.ref a) (.type "dict")
 | ins {a C dx:Addr} {fs:List (Str×V)} (e:H a=some (.ins C dx fs)) (cl:Cls K C) (ha:cm K (.ref C) "__class__" = some (some (.builtin "object.__class__")))
   (hn:A2 K (.builtin "object.__class__") "__get__" = some (some (.builtin "getset_descriptor.__get__"))) (htk:Nt K (.builtin "object.__class__")=some true)
   (hm:Os K C (.type "object")=some true):TyOf K H (.ref a) (.ref C)
theorem wB {x:V}{u t:Value}(I:Inv X pins σ H s)(rx:RelV x u)(ty:TyOf X.K H x t)(e:ce X.K t c=some b)(h:∀tk,Q (.bool b) { s with toks:=tk }) :
  wpAny (model X.prog X.w) A (call (.builtin "isinstance") [u,c]) Q E s:=by
 cases ty with
 | non=>cases (show u=Value.none from rx);exact i7 QF I.kIn True.intro e (λz=>nomatch z) h
 | bl y=>cases (show u=Value.bool y from rx);exact i7 Qj I.kIn True.intro e (λz=>nomatch z) h
 | int i=>obtain⟨t,q⟩:=(show ∃t,u=Value.int i t from rx);cases q;exact i7 Pt I.kIn True.intro e (λz=>nomatch z) h
 | str y=>obtain⟨t,q⟩:=(show ∃t,u=Value.str y t from rx);cases q;exact i7 Pl I.kIn True.intro e (λz=>nomatch z) h
 | flt y=>obtain⟨t,q⟩:=(show ∃t,u=Value.float y t from rx);cases q;exact i7 PySem.W.kitx_float I.kIn True.intro e (λz=>nomatch z) h
 | @lst a xs ea =>
  cases (show u=Value.ref a from rx);obtain⟨_,_,n,_,h1⟩:=(show cq X.prog X.w H s.heap a (.lst xs) from I.hok a _ ea);exact i7 L7 I.kIn #[_,h1,0] e (λz=>nomatch z) h
 | @frz a ob xs ea =>
  cases (show u=Value.ref a from rx);obtain⟨_,_,_,n,_,h1⟩:=(show cq X.prog X.w H s.heap a (.frz ob (.lst xs)) from I.hok a _ ea);exact i7 L7 I.kIn #[_,h1,0] e (λz=>nomatch z) h
 | @tup a xs ea =>
  cases (show u=Value.ref a from rx);obtain⟨_,_,_,p⟩:=(show cq X.prog X.w H s.heap a (.tup xs) from I.hok a _ ea);obtain⟨o,h1,h2,_⟩:=p;exact i7 Qv I.kIn #[o,h1,h2] e (λz=>nomatch z) h
 | @dK a kvs ea =>
  cases (show u=Value.ref a from rx);obtain⟨_,_,vs,_,p⟩:=(show cq X.prog X.w H s.heap a (.dK kvs) from I.hok a _ ea);obtain⟨o,es,ep,h1,h2,_⟩:=p;exact i7 Pj I.kIn #[o,h1,h2.1] e (λz=>nomatch z) h
 | @dT a kvs ea =>
  cases (show u=Value.ref a from rx);obtain⟨_,_,xs,_,o,es,ep,h1,h2,_⟩:=(show cq X.prog X.w H s.heap a (.dT kvs) from I.hok a _ ea);exact i7 Pj I.kIn #[o,h1,h2.1] e (λz=>nomatch z) h
 | @ins a C dx fs ea cl ha hn htk hm =>
  cases (show u=Value.ref a from rx);obtain⟨mA,O,_⟩:=jR I.hok ea;obtain⟨od,J,_⟩:=O.look;exact i7 (PySem.W.kitx_own (cl.get _) cl.hd ha hn htk hm) I.kIn J e (λz=>nomatch z) h
end
end L2
namespace L2
open PySem PySem.Spec PyProof.Rows
structure Room (k:Nat)(A:Around):Prop where
 hd:A.handled=none
 dp:A.depth+3*k+5<recursionLimit
 un:A.units+16*k+200<cLine
theorem Room.mono {j k:Nat}{A:Around}(r:Room k A)(h:j<=k):Room j A:=#[r.hd,by have:=r.dp;lk,by have:=r.un;lk]
theorem Room.deeper {k:Nat}{A:Around}(r:Room (k+1) A)(env:Env):Room k (A.deeper env) :=
 #[r.hd,by have:=r.dp;show A.depth+1+3*k+5<_;lk,by have:=r.un;show A.units+3+16*k+200<_;lk]
theorem O6 {A:Around}{C:Addr}{us:List Value}{kw:List (Str×Value)}:(A.under (.builtin "type.__call__" #[.ref C::us,kw])).depth=A.depth+1:=by
 first|rfl|simp[Bt,Code.weight,Code.isCreation,Code.isGuard,Code.isCaller,Code.frames,E5,guardIds]
theorem Mg {A:Around}{C:Addr}{us:List Value}{kw:List (Str×Value)}:(A.under (.builtin "type.__call__" #[.ref C::us,kw])).units=A.units+1:=by
 first|rfl|simp[Bt,Code.cUnits,Code.frames,E5]
theorem Room.make {k:Nat}{A:Around}(r:Room (k+1) A)(C:Addr)(us:List Value)(kw:List (Str×Value)):Room k (A.under (.builtin "type.__call__" #[.ref C::us,kw])) :=
 #[r.hd,by have:=r.dp;rw[O6];lk,by have:=r.un;rw[Mg];lk]
theorem Room.depth {k:Nat}{A:Around}(r:Room k A):A.depth<recursionLimit:=by have:=r.dp;lk
theorem Room.units {k:Nat}{A:Around}(r:Room k A):A.units+64<cLine:=by have:=r.un;lk
noncomputable def tNil:TA:=λ_ H Q=>Q [] H
noncomputable def Cc (ta:TE)(tr:TA):TA:=fun σ H Q=>ta σ H λx H1=>tr σ H1 λxs H2=>Q (x::xs) H2
section
variable {X:Cx}{e:Expr}{es:List Expr}{te:TE}{t:TA}{pos:Pos}
theorem ab:PA X [] tNil:=λ_ _ _ _ H Q I h=>Calls.spliced_nil #[[],H,I,.nil,h]
theorem aa (ha:PE X e te)(hr:PA X es t)(hs:autoParam (bO (e::es) X.env=(false,eval e X.env)::bO es X.env) aUB._auto_1):PA X (e::es) (Cc te t):=by
 intro pos pins s σ H Q I h;rw[hs];show wpAny _ _ (spliced ((false,eval e X.env)::backTo pos (bO es X.env))) _ _ s
 refine Calls.spliced_cons (thn (ha pins s σ H _ I h) λu s1 #[x,H1,I1,r1,q1]=>?_);exact thn (hr pos pins s1 σ H1 _ I1 q1) λus s2 #[xs,H2,I2,r2,q2]=>#[x::xs,H2,I2,.cons r1 r2,q2]
noncomputable def tTup (t:TA):TE:=fun σ H Q=>t σ H λxs H1=>xs.length<=aE/\∀p,H1 p=none->Q (.ref p) (upd H1 p (.tup xs))
noncomputable def tLst (t:TA):TE:=fun σ H Q=>t σ H λxs H1=>xs.length<=aE/\∀p,H1 p=none->Q (.ref p) (upd H1 p (.lst xs))
theorem bc {x1}(h:PA X es t):PE X (.Tuple es x1 pos) (tTup t):=by
 intro pins s σ H Q I hq;refine wpAny_Tuple_spliced (thn (h pos pins s σ H _ I hq) λus s1 #[xs,H1,I1,r,z,q]=>#[by rw[<- r.length];exact z,5]);have hf:H1 s1.heap.objs.size=none:=I1.hok.fresh (az _);refine#[.ref s1.heap.objs.size,upd H1 s1.heap.objs.size (.tup xs),I1.laid (t':=s1.toks) (λb u e=>aW _ e) (az _) ?_,0,q _ hf];exact#[z,us,r,#[_,bD _ rfl,01]]
theorem bj (h:PA X es t):PE X (.List es pos) (tLst t):=by
 intro pins s σ H Q I hq;refine wpAny_List_spliced (thn (h pos pins s σ H _ I hq) λus s1 #[xs,H1,I1,r,z,q]=>#[by rw[<- r.length];exact z,5]);have hf:H1 s1.heap.objs.size=none:=I1.hok.fresh (az _);refine#[.ref s1.heap.objs.size,upd H1 s1.heap.objs.size (.lst xs),I1.laid (t':=s1.toks) (λb u e=>aW _ e) (az _) ?_,0,q _ hf];exact#[z,us,(0),r,bD _ rfl]
end
noncomputable abbrev Sp:=List V->Hp->VK->XK->Prop
noncomputable abbrev CXT:=List Env->Hp->Shared->XK->Value->Shared->Prop
structure Env0 (P:aR)(w:World)(K:ah)(mg:Str->Option Value)(base:Heap)(A:Around)(outer:List Env)(s:Shared)(H:Hp):Prop where
 frames:A.frames=some outer
 mod:Mod K mg base
 bs:∀b o,base.get? b=some o->s.heap.get? b=some o/\H b=none
 bsz:base.objs.size<=s.heap.objs.size
 funs:s.heap.FunFrames base outer
 frf:∀b∈frs outer,H b=none
 hok:HOk P w H s.heap
 bare:lB s.gens
noncomputable def CE (outer:List Env)(P:aR)(w:World)(H:Hp)(s:Shared)(Q:VK)(u:Value)(s':Shared):Prop :=
 Ex2 λv H'=>s'.os=s.os/\lB s'.gens/\Un (frs outer) [] H H' s.heap s'.heap/\HOk P w H' s'.heap/\RelV v u/\Q v H'
noncomputable def CR (CX:CXT)(outer:List Env)(P:aR)(w:World)(H:Hp)(s:Shared)(Q:VK)(E:XK)(r:Result)(s':Shared):Prop :=
 match r with
 | .ok (.ret u)=>CE outer P w H s Q u s'
 | .ok _=>False
 | .error e=>CX outer H s E e s'
structure FnOk (P:aR)(w:World)(K:ah)(mg:Str->Option Value)(base:Heap)(CX:CXT)(k:Nat)(f:Addr)(fd:cP)(ps:List Str)(sp:Sp):Prop where
 len:∀vs H Q E,sp vs H Q E->vs.length=ps.length
 run:∀(A:Around) (outer:List Env) (s:Shared) (H:Hp) (args:Args) (us:List Value) (vs:List V) (Q:VK) (E:XK),Room k A->Env0 P w K mg base A outer s H->mn s fd args (ps.zip us)->Vals vs us->sp vs H Q E →
  gi (model P w) A (.call (.ref f) args) (CR CX outer P w H s Q E) s
theorem FnOk.mono {P:aR}{w:World}{K:ah}{mg:Str->Option Value}{base:Heap}{CX:CXT}{j k:Nat}{f:Addr}{fd:cP}{ps:List Str}{sp:Sp}(F:FnOk P w K mg base CX j f fd ps sp)(h:j<=k) :
  FnOk P w K mg base CX k f fd ps sp:=#[F.len,λA outer s H args us vs Q E hr=>F.run A outer s H args us vs Q E (hr.mono h)]
theorem FnOk.imp {P:aR}{w:World}{K:ah}{mg:Str->Option Value}{base:Heap}{CX:CXT}{k:Nat}{f:Addr}{fd:cP}{ps:List Str}{sp sp':Sp}(F:FnOk P w K mg base CX k f fd ps sp)
  (h:∀vs H Q E,sp' vs H Q E->sp vs H Q E):FnOk P w K mg base CX k f fd ps sp' :=
 #[λvs H Q E q=>F.len vs H Q E (h _ _ _ _ q),λA outer s H args us vs Q E hr he hb hv hs=>F.run A outer s H args us vs Q E hr he hb hv (h _ _ _ _ hs)]
theorem Env0.make {P:aR}{w:World}{K:ah}{mg:Str->Option Value}{base:Heap}{A:Around}{outer:List Env}{s:Shared}{H:Hp}(e:Env0 P w K mg base A outer s H)(C:Addr)(us:List Value)(kw:List (Str×Value)) :
  Env0 P w K mg base (A.under (.builtin "type.__call__" #[.ref C::us,kw])) outer s H:=#[by first|exact e.frames|(simpa [Bt,Code.envs,E5,pushEnvs] using e.frames),e.mod,e.bs,e.bsz,e.funs,e.frf,e.hok,e.bare]
section
variable {X:Cx}{pins:List (Addr×Obj)}{σ:St}{H:Hp}{s s':Shared}
theorem Inv.env0 (I:Inv X pins σ H s):Env0 X.prog X.w X.K X.mg X.base X.A X.stack s H :=
 #[I.ok.frames,I.ok.mod,I.bs,aV I.ok.bsz I.sz,I.stack,I.tD,I.hok,I.bare]
theorem Inv.after {Q:VK}{u:Value}(I:Inv X pins σ H s)(h:CE X.stack X.prog X.w H s Q u s'):EP X pins σ Q u s':=by
 obtain⟨v,H',os,bare,un,hok,r,q⟩:=h;obtain⟨hh,g,d,t,os'⟩:=s';obtain rfl:os'=s.os:=os;exact#[v,H',I.call (h':=hh) (g':=g) (d':=d) (t':=t) (ch:=[]) un hok bare (λb z=>absurd z (by simp)),r,q]
end
noncomputable def tT (sp:Sp)(dvs:List V)(E:XK)(t:TA):TE:=fun σ H Q=>t σ H λvs H1=>sp (vs++dvs) H1 Q E
noncomputable def wu (C:Addr)(m:Str)(sp:Sp)(dvs:List V)(E:XK)(ta:TE)(t:TA):TE:=fun σ H Q=>ta σ H λx H1=>Ex3 λa dx fs=>x = .ref a/\H1 a=some (.ins C dx fs)/\fs.lookup m=none /\
 t σ H1 λvs H2=>sp (x::(vs++dvs)) H2 Q E
noncomputable def Dg (C:Addr)(sp:Sp)(dvs:List V)(E:XK)(t:TA):TE:=fun σ H Q=>t σ H λvs H1=>∀x dx,H1 x=none->H1 dx=none->dx≠x →
 sp (.ref x::(vs++dvs)) (upd (upd H1 dx (.own x)) x (.ins C dx [])) (λv H2=>v = .non/\Q (.ref x) H2) E
noncomputable def Binds (K:ah)(fd:cP)(ps:List Str)(ds:List Value):Prop :=
 ∀(s:Shared) (us:List Value),K.In s.heap->(us++ds).length=ps.length->mn s fd #[us,[]] (ps.zip (us++ds))
theorem Binds.all {K:ah}{fd:cP}{ps:List Str}(h:∀us:List Value,us.length=ps.length->bindArgs fd #[us,[]]=pure (ps.zip us)):Binds K fd ps []:=λs us _ hl=>by
 rw[ci] at hl ⊢;exact .of_eq (h us hl)
noncomputable def Passes (CX:CXT)(X:Cx)(E:XK):Prop:=∀(pins:List (Addr×Obj)) (σ:St) (H:Hp) (s:Shared) (e:Value) (s':Shared),Inv X pins σ H s->CX X.stack H s E e s'->X.xe e s'
section
variable {X:Cx}{CX:CXT}{k:Nat}{f C:Addr}{fd:cP}{ps:List Str}{sp:Sp}{dvs:List V}{ds:List Value}{E:XK}{x m:Str}{p pos apos:Pos}{e o:Expr}{es:List Expr}{ta:TE}{t:TA}
theorem mF {pins:List (Addr×Obj)}{σ:St}{H:Hp}{s:Shared}{Q:VK}{us:List Value}{vs:List V}(F:FnOk X.prog X.w X.K X.mg X.base CX k f fd ps sp)(hr:Room k X.A)(hb:Binds X.K fd ps ds)(hd:Vals dvs ds)(hx:Passes CX X E)
  (I:Inv X pins σ H s) (r:Vals vs us) (h:sp (vs++dvs) H Q E):wpAny (model X.prog X.w) X.A (call (.ref f) us) (EP X pins σ Q) X.xe s:=by
 have r2:Vals (vs++dvs) (us++ds):=r.append hd;have hl:(us++ds).length=ps.length:=by rw[<- r2.length];exact F.len _ _ _ _ h
 refine An (lq (F.run X.A X.stack s H #[us,[]] (us++ds) (vs++dvs) Q E hr I.env0 (hb s us I.kIn hl) r2 h) λr s' hq=>?_);cases r with
 | error e=>exact hx pins σ H s e s' I hq
 | ok fl =>
  cases fl with
  | ret u=>exact I.after hq
  | next=>exact gH hq
  | brk=>exact gH hq
  | cont=>exact gH hq
theorem Vf (F:FnOk X.prog X.w X.K X.mg X.base CX k f fd ps sp)(hr:Room k X.A)(hg:Gl X x)(hm:X.mg x=some (.ref f))(hk:jB X.K (.ref f)=true)(hb:Binds X.K fd ps ds)(hd:Vals dvs ds)(hx:Passes CX X E)
  (ha:PA X (e::es) t) (hdb:autoParam ((x==("__debug__":Str))=false) aUA._auto_1) (he:autoParam (bO (e::es) X.env=(false,eval e X.env)::bO es X.env) aUB._auto_1) (hpl:autoParam ((backTo pos (bO es X.env)).any (·.1)=false) aUB._auto_1) :
  PE X (.Call (.Name x p) (e::es) [] pos) (tT sp dvs E t):=by
 intro pins s σ H Q I h;refine zH (pS I hg hm ?_ hdb);refine O5 (h₀:=X.base) I.ok.mod.kin hk (thn (ha pos pins s σ H _ I h) λus s1 #[vs,H1,I1,r,q]=>#[I1.kIn,5]) he hpl;exact mF F hr hb hd hx I1 r q
theorem eP {pl:Sem Bool}(he:PE X o ta)(c:Cls X.K C)(hm:Meth X.K C m f)(F:FnOk X.prog X.w X.K X.mg X.base CX k f fd ps sp)(hr:Room k X.A)(hb:Binds X.K fd ps ds)(hd:Vals dvs ds)(hx:Passes CX X E)(ha:PA X (e::es) t)
  (hst:bO (e::es) X.env=(false,eval e X.env)::bO es X.env:=by rfl) (hpl:(backTo pos (bO es X.env)).any (·.1)=false:=by rfl)
  (ht:eval (.Call (.Attribute o m apos) (e::es) [] pos) X.env=(do
   let ov <- eval o X.env
   rF apos.atName
   let (f,first) <- jq [ov] (yQ ov m pl)
   callWith pos f first (backTo pos (bO (e::es) X.env)) (sX pos (vy [] X.env))):=by rfl) :
  PE X (.Call (.Attribute o m apos) (e::es) [] pos) (wu C m sp dvs E ta t):=by
 intro pins s σ H Q I h;refine PX (pl:=pl) (thn (he pins s σ H _ I h) λu s1 #[x,H1,I1,rx,a,dx,fs,ex,ea,l,q]=>?_) ht;subst ex;obtain rfl:u=Value.ref a:=rx;refine yp I1 ea c hm l ?_;refine O5 (first:=[.ref a]) (h₀:=X.base) I.ok.mod.kin hm.kp (thn (ha pos pins s1 σ H1 _ I1 q) λus s2 #[vs,H2,I2,r,q2]=>#[I2.kIn,5]) hst hpl;exact mF (us:=.ref a::us) (vs:=.ref a::vs) F hr hb hd hx I2 (.cons rfl r) q2
theorem cH {pl:Sem Bool}(he:PE X o ta)(c:Cls X.K C)(hm:Meth X.K C m f)(F:FnOk X.prog X.w X.K X.mg X.base CX k f fd ps sp)(hr:Room k X.A)(hb:Binds X.K fd ps ds)(hd:Vals dvs ds)(hx:Passes CX X E)
  (ht:eval (.Call (.Attribute o m apos) [] [] pos) X.env=(do
   let ov <- eval o X.env
   rF apos.atName
   let (f,first) <- jq [ov] (yQ ov m pl)
   callWith pos f first (backTo pos (bO [] X.env)) (sX pos (vy [] X.env))):=by rfl) :
  PE X (.Call (.Attribute o m apos) [] [] pos) (wu C m sp dvs E ta tNil):=by
 intro pins s σ H Q I h;refine PX (pl:=pl) (thn (he pins s σ H _ I h) λu s1 #[x,H1,I1,rx,a,dx,fs,ex,ea,l,q]=>?_) ht;subst ex;obtain rfl:u=Value.ref a:=rx;refine yp I1 ea c hm l ?_;exact PySem.W.callWith_K0 (first:=[.ref a]) I1.kIn hm.kp (mF (us:=[.ref a]) (vs:=[.ref a]) F hr hb hd hx I1 (.cons rfl .nil) q)
structure Mk (K:ah)(C f:Addr):Prop where
 makes:IZ K C=true
 init:cm K (.ref C) "__init__" = some (some (.ref f))
 fn:uu K (.ref f)=true
 kp:jB K (.ref C)=true
theorem LW {pins:List (Addr×Obj)}{σ:St}{H:Hp}{s:Shared}{Q:VK}{us:List Value}{vs:List V}(M:Mk X.K C f)(F:FnOk X.prog X.w X.K X.mg X.base CX k f fd ps sp)(hr:Room (k+1) X.A)(hb:Binds X.K fd ps ds)(hd:Vals dvs ds)
  (hx:Passes CX X E) (I:Inv X pins σ H s) (r:Vals vs us)
  (h:∀x dx,H x=none->H dx=none->dx≠x->sp (.ref x::(vs++dvs)) (upd (upd H dx (.own x)) x (.ins C dx [])) (λv H2=>v = .non/\Q (.ref x) H2) E) :
  wpAny (model X.prog X.w) X.A (call (.ref C) us) (EP X pins σ Q) X.xe s:=by
 have hq:=h (s.heap.objs.size+1) s.heap.objs.size (I.hok.fresh (gD _)) (I.hok.fresh (az _)) (bB (lp _));have I2:=Inv.made (C:=C) I;have r2:Vals (V.ref (s.heap.objs.size+1)::(vs++dvs)) (Value.ref (s.heap.objs.size+1)::(us++ds)):=.cons rfl (r.append hd);have hl:(Value.ref (s.heap.objs.size+1)::us++ds).length=ps.length:=by
  have e:=r2.length;rw[F.len _ _ _ _ hq] at e;exact e.symm
 refine An (CW (f:=f) I.kIn M.makes M.init (beq_iff_eq.mp M.fn) (lq (F.run _ X.stack _ _ #[Value.ref (s.heap.objs.size+1)::us,[]] (Value.ref (s.heap.objs.size+1)::(us++ds)) _ _ E (hr.make C us [])
  (I2.env0.make C us []) (hb _ (Value.ref (s.heap.objs.size+1)::us) I2.kIn hl) r2 hq) λr s' hq'=>?_))
 cases r with
 | error e=>exact hx pins σ _ _ e s' I2 hq'
 | ok fl =>
  cases fl with
  | ret u =>
   obtain⟨v,H',I3,rv,ev,q3⟩:=I2.after hq';subst ev;exact#[rv,#[V.ref (s.heap.objs.size+1),H',I3,0,q3]]
  | next=>exact gH hq'
  | brk=>exact gH hq'
  | cont=>exact gH hq'
theorem jN (M:Mk X.K C f)(F:FnOk X.prog X.w X.K X.mg X.base CX k f fd ps sp)(hr:Room (k+1) X.A)(hg:Gl X x)(hm:X.mg x=some (.ref C))(hb:Binds X.K fd ps ds)(hd:Vals dvs ds)(hx:Passes CX X E)
  (ha:PA X (e::es) t) (hdb:autoParam ((x==("__debug__":Str))=false) aUA._auto_1) (he:autoParam (bO (e::es) X.env=(false,eval e X.env)::bO es X.env) aUB._auto_1) (hpl:autoParam ((backTo pos (bO es X.env)).any (·.1)=false) aUB._auto_1) :
  PE X (.Call (.Name x p) (e::es) [] pos) (Dg C sp dvs E t):=by
 intro pins s σ H Q I h;refine zH (pS I hg hm ?_ hdb);refine O5 (h₀:=X.base) I.ok.mod.kin M.kp (thn (ha pos pins s σ H _ I h) λus s1 #[vs,H1,I1,r,q]=>#[I1.kIn,5]) he hpl;exact LW M F hr hb hd hx I1 r q
end
section
variable {X:Cx}{CX:CXT}{k:Nat}{f C:Addr}{fd:cP}{ps ks:List Str}{sp:Sp}{E:XK}{x m:Str}{p pos apos kpos:Pos}{e o:Expr}{es:List Expr}{kws:List oe}{te ta:TE}{t tk:TA}{nm:Option Str}
structure UJ (K:ah)(fd:cP)(ps ks:List Str)(g:List Value->List Value->List Value)(gV:List V->List V->List V):Prop where
 to:∀(s:Shared) (us ws:List Value),K.In s.heap->(g us ws).length=ps.length->mn s fd #[us,ks.zip ws] (ps.zip (g us ws))
 rel:∀{vs:List V} {us:List Value} {zs:List V} {ws:List Value},Vals vs us->Vals zs ws->Vals (gV vs zs) (g us ws)
variable {g:List Value->List Value->List Value}{gV:List V->List V->List V}
end
structure aQ (N P:List Str)(sc:Scope):Prop where
 kind:sc.kind = .function
 co:sc.isCoroutine=false
 gen:sc.isGenerator=false
 nd:N.Nodup
 pre:N.take P.length=P
 par:∀x∈P,sc.names.lookup x=some .local∨sc.names.lookup x=some .cell
 nofree:∀y∈sc.names,y.2 ≠ .free
theorem xY {kindOf:Str->Option b6}{x:Str}:∀{binds:List (Str×Value)} {m:Str->Option Value},(∀v,(x,v)∉binds)->bindL kindOf binds m x=m x
 | [],_,_=>rfl
 | (n,v)::r,m,h=>by
  unfold bindL;rw[xY λw hw=>h w (bx _ hw)]
  split
  .have:x≠n:=by rintro rfl;exact h v bb
   simp[this]
  .rfl
theorem vw {kindOf:Str->Option b6}{x:Str}:∀{binds:List (Str×Value)} {m:Str->Option Value},(∀v,(x,v)∉binds)->bindC kindOf binds m x=m x
 | [],_,_=>rfl
 | (n,v)::r,m,h=>by
  unfold bindC;rw[vw λw hw=>h w (bx _ hw)]
  split
  .rfl
  .have:x≠n:=by rintro rfl;exact h v bb
   simp[this]
theorem wZ {kindOf:Str->Option b6}{x:Str}{v:Value}:∀{P:List Str} {vs:List Value} {i:Nat} {m:Str->Option Value},P.Nodup->P[i]?=some x->vs[i]?=some v->kindOf x=some .local →
  bindL kindOf (P.zip vs) m x=some v
 | [],_,_,_,_,h,_,_=>by simp at h
 | _::_,[],_,_,_,_,h,_=>by simp at h
 | p::P,w::vs,0,m,nd,h1,h2,hk=>by
  simp at h1 h2;subst h1;subst h2;show bindL kindOf ((p,w)::P.zip vs) m p=_
  unfold bindL;rw[xY λv hv=>(rV.mp nd).1 (Ek hv).1,if_pos hk];simp
 | p::P,w::vs,i+1,m,nd,h1,h2,hk=>by
  show bindL kindOf ((p,w)::P.zip vs) m x=_
  unfold bindL;exact wZ (i:=i) (rV.mp nd).2 (by simpa using h1) (by simpa using h2) hk
theorem wV {kindOf:Str->Option b6}{x:Str}{v:Value}:∀{P:List Str} {vs:List Value} {i:Nat} {m:Str->Option Value},P.Nodup->P[i]?=some x->vs[i]?=some v->kindOf x≠some .local →
  bindC kindOf (P.zip vs) m x=some v
 | [],_,_,_,_,h,_,_=>by simp at h
 | _::_,[],_,_,_,_,h,_=>by simp at h
 | p::P,w::vs,0,m,nd,h1,h2,hk=>by
  simp at h1 h2;subst h1;subst h2;show bindC kindOf ((p,w)::P.zip vs) m p=_
  unfold bindC;rw[vw λv hv=>(rV.mp nd).1 (Ek hv).1,if_neg hk];simp
 | p::P,w::vs,i+1,m,nd,h1,h2,hk=>by
  show bindC kindOf ((p,w)::P.zip vs) m x=_
  unfold bindC;exact wV (i:=i) (rV.mp nd).2 (by simpa using h1) (by simpa using h2) hk
noncomputable def start (N:List Str)(vs:List V):St:=vs.map some++bS (N.length-vs.length) none
noncomputable def cxOf (CX:CXT)(P:aR)(w:World)(K:ah)(mg:Str->Option Value)(base:Heap)(N:List Str)(qual:Str)(scope:Scope)(f:Addr)(cd:Value)(A:Around)(outer:List Env)(s:Shared)(H:Hp)(E:XK):Cx where
 prog:=P
 w:=w
 K:=K
 mg:=mg
 base:=base
 A:=A.deeper (envOfC qual scope s.heap.objs.size f cd)
 N:=N
 s₀:=s
 H₀:=H
 env:=envOfC qual scope s.heap.objs.size f cd
 outer:=outer
 stack:=envOfC qual scope s.heap.objs.size f cd::outer
 ex:=[]
 calm:=true
 fn:=λ_=>true
 pn:=[]
 xe:=λe s'=>wpAny (model P w) (A.deeper (envOfC qual scope s.heap.objs.size f cd)) (leaving (envOfC qual scope s.heap.objs.size f cd) e) (λ_ s''=>CX outer H s E e s'') (λe' s''=>CX outer H s E e' s'') s'
theorem sG {sc:Scope}{n:Nat}{x:Str}(h:sc.names.lookup x=some .cell):∃c,(cellsFrom n sc.names []).lookup x=some c:=by
 have q:=Sn sc.names n [] (.inl h);exact RX.mp q
theorem Ig {CX:CXT}{P:aR}{w:World}{K:ah}{mg:Str->Option Value}{base:Heap}{N ps:List Str}{qual:Str}{scope:Scope}{f:Addr}{cd:Value}{A:Around}{outer:List Env}{s s1:Shared}{H:Hp}{E:XK}{us:List Value}{vs:List V}
  (S:aQ N ps scope) (hd:A.handled=none) (e0:Env0 P w K mg base A outer s H) (hl:vs.length=ps.length) (r:Vals vs us)
  (x:InCallC s s.heap.objs.size (bindL (envOfC qual scope s.heap.objs.size f cd).kindOf (ps.zip us) λ_=>none) (cellsFrom (s.heap.objs.size+1) scope.names []) (bindC (envOfC qual scope s.heap.objs.size f cd).kindOf (ps.zip us) λ_=>none) s1) :
  Inv (cxOf CX P w K mg base N qual scope f cd A outer s H E) [] (start N vs) H s1:=by
 have hpl:ps.length<=N.length:=by have:=congrArg jA S.pre;rw[bQ] at this;lk
 obtain⟨h1,tk,rfl,hk⟩:=x.done;have noA:∀b:Addr,b∉(cxOf CX P w K mg base N qual scope f cd A outer s H E).ex:=λb z=>absurd (show b∈([]:List Addr) from z) (by simp);refine#[#[e0.mod,S.kind,00,az _,λy z c h1 h2=>?_,λy hy=>?_,λy c _ h=>?_,λ_=>hd,Around.frames_deeper e0.frames,.inr #[00],λb z=>absurd z (noA b),e0.bs,e0.bsz,λb _ _=>noA b,λb z=>absurd z (noA b),e0.funs,e0.frf],0,e0.bare,Un.kept hk,#[_,x.toInCall.ns,λi y v h1 h2 h3=>?_],λy c h=>#[_,x.cell y c h],e0.hok.fresh (az _),λy c h=>?_,λp hp=>absurd (show p∈([]:List (Addr×Obj)) from hp) (by simp),e0.hok.kept hk,5]
 .exact name_of_addr x.apart (uP h1) (uP h2)
 .have hy:scope.names.lookup y=some .cell∨scope.names.lookup y=some .free:=hy
  rcases hy with hy|hy
  .exact sG hy
  .exact absurd rfl (S.nofree _ (uP hy))
 .exact iR (x.above y c (uP h))
 .have hi:i<vs.length:=by
   unfold start at h2
   by_cases hi:i<vs.length
   .exact hi
   .rw[eh (by simpa using hi)] at h2;rw[IV] at h2
    split at h2<;>cases h2
  have ha:vs[i]?=some v:=by
   unfold start at h2;rw[iU (by simpa using hi),bH] at h2;cases e:vs[i]? with
   | none=>rw[e] at h2;cases h2
   | some a=>rw[e] at h2;cases h2;rfl
  obtain⟨u,hu,rv⟩:=r.get ha;have hp:ps[i]?=some y:=by
   rw[<- S.pre,Pq (by lk)];exact h1
  have ndP:ps.Nodup:=by rw[<- S.pre];exact S.nd.sublist (Qi _ _)
  refine#[u,rv,5]
  rcases S.par y (bq hp) with k|k
  .exact .inl #[k,wZ ndP hp hu k]
  .obtain⟨c,e⟩:=sG (n:=s.heap.objs.size+1) k;refine .inr #[.inl k,c,e,5];have q:=x.cell y c e;rw[wV ndP hp hu (by show scope.names.lookup y≠_;rw[k];decide)] at q;exact q
 .exact e0.hok.fresh (iR (x.above y c (uP h)))
 .unfold start;show _=N.length
  rw[aS,aw,lW];lk
theorem yu {CX:CXT}{P:aR}{w:World}{K:ah}{mg:Str->Option Value}{base:Heap}{k:Nat}{f:Addr}{name qual:Str}{params:Arguments}{body:List Stmt}{scope:Scope}{dV kV doc pm cdv ct oc:Value}{an od:Option Addr}
  {osl:Array (Option Value)} {N ps:List Str} {sp:Sp} (lk:K.lookup f=some #[oc,od,.func (jD name qual params body scope dV kV doc pm an cdv ct),osl]) (hcd:m4 K cdv qual=true) (S:aQ N ps scope)
  (len:∀vs H Q E,sp vs H Q E->vs.length=ps.length)
  (hbody:∀(A:Around) (outer:List Env) (s:Shared) (H:Hp) (vs:List V) (Q:VK) (E:XK),Room k (A.deeper (envOfC qual scope s.heap.objs.size f cdv))->sp vs H Q E →
   ∃t,PSs (cxOf CX P w K mg base N qual scope f cdv A outer s H E) body t/\t { nx:=λ_ H'=>Q .non H',rt:=Q } (start N vs) H) :
  FnOk P w K mg base CX (k+1) f (jD name qual params body scope dV kV doc pm an cdv ct) ps sp:=by
 refine#[len,λA outer s H args us vs Q E hr e0 hb r hsp=>?_];have hl:=len _ _ _ _ hsp;have KX:K.In s.heap:=e0.mod.kin.keeps λb o e=>(e0.bs b o e).1;have lim:s.heap.NoLimit:=e0.mod.nolimit.keeps λb o e=>(e0.bs b o e).1;have hkind:∀y∈ps.zip us,scope.names.lookup y.1=some .local∨(scope.names.lookup y.1=some .cell/\((cellsFrom (s.heap.objs.size+1) scope.names []).lookup y.1).isSome=true):=λ#[n,v] hy=>by
  rcases S.par n (Ek hy).1 with q|q
  .exact .inl q
  .exact .inr #[q,Sn _ _ _ (.inl q)]
 refine codeAny_call_function hr.depth (KX _ _ lk) rfl S.co S.gen rfl (PySem.W.codeRec_of KX hcd) (hb _ _ _ _ ?_);refine wpAny_newFunctionEnv_cells S.kind hkind λenv he s1 x=>?_;subst he;refine#[lim.keeps x.toInCall.keep,codeAny_func ?_];obtain⟨t,ht,hq⟩:=hbody A outer s H vs Q E (hr.deeper _) hsp;have I:Inv (cxOf CX P w K mg base N qual scope f cdv A outer s H E) [] (start N vs) H s1:=Ig S hr.hd e0 hl r x;refine dE (ht [] s1 (start N vs) H _ I hq) (λfl s' hs=>?_) λe s' hs=>hs;have fin:∀{σ':St} {H':Hp} {v:V} {u:Value},Inv (cxOf CX P w K mg base N qual scope f cdv A outer s H E) [] σ' H' s'->RelV v u->Q v H'->CE outer P w H s Q u s' :=
  λ{σ' H' v u} J rv q=>#[v,H',J.os,J.bare,J.base,J.hok,rv,q]
 cases fl with
 | ret u =>
  obtain⟨v,σ',H',J,rv,q⟩:=hs;exact fin J rv q
 | next =>
  obtain⟨σ',H',J,q⟩:=hs;exact fin (v:=V.non) (u:=Value.none) J rfl q
 | brk =>
  obtain⟨_,_,_,q⟩:=hs;exact gH q
 | cont =>
  obtain⟨_,_,_,q⟩:=hs;exact gH q
end L2
namespace L2
open PySem PySem.Spec PyProof.Rows
section
variable {X:Cx}{x:Str}{p pos:Pos}{e:Expr}{es:List Expr}{t:TA}{id T:String}{r:List V->Hp->VK->Prop}
noncomputable def tCB (r:List V->Hp->VK->Prop)(t:TA):TE:=fun σ H Q=>t σ H λvs H1=>r vs H1 Q
theorem bh (hc:di X (.builtin id) r)(hg:Gl X x)(hm:X.mg x=none)(hv:kR x=some (.builtin id))(ha:PA X (e::es) t)(hn:autoParam (x ≠ "__name__") aUA._auto_1)(hdb:autoParam ((x==("__debug__":Str))=false) aUA._auto_1)
  (he:bO (e::es) X.env=(false,eval e X.env)::bO es X.env:=by rfl) (hpl:(backTo pos (bO es X.env)).any (·.1)=false:=by rfl):PE X (.Call (.Name x p) (e::es) [] pos) (tCB r t):=by
 intro pins s σ H Q I h;refine zH (me I hg hm hv ?_ hn hdb);exact PyProof.Rows.callWith_builtin1 (thn (ha pos pins s σ H _ I h) λus s1 #[vs,H1,I1,r1,q1]=>hc pins s1 σ H1 vs us Q I1 r1 q1) he hpl
theorem bV (hc:di X (.type T) r)(hg:Gl X x)(hm:X.mg x=none)(hv:kR x=some (.type T))(ha:PA X (e::es) t)(hn:autoParam (x ≠ "__name__") aUA._auto_1)(hdb:autoParam ((x==("__debug__":Str))=false) aUA._auto_1)
  (he:bO (e::es) X.env=(false,eval e X.env)::bO es X.env:=by rfl) (hpl:(backTo pos (bO es X.env)).any (·.1)=false:=by rfl):PE X (.Call (.Name x p) (e::es) [] pos) (tCB r t):=by
 intro pins s σ H Q I h;refine zH (me I hg hm hv ?_ hn hdb);exact tI (thn (ha pos pins s σ H _ I h) λus s1 #[vs,H1,I1,r1,q1]=>hc pins s1 σ H1 vs us Q I1 r1 q1) he hpl
end
end L2
namespace HT
open PySem PyProof.Rows
noncomputable def lexLt:List Int->List Int->Bool
 | [],[]=>false
 | [],_::_=>true
 | _::_,[]=>false
 | x::xs,y::ys=>if x=y then lexLt xs ys else decide (x<y)
theorem PB (x y:Int)(xs ys:List Int):lexLt (x::xs) (y::ys)=if x=y then lexLt xs ys else decide (x<y):=rfl
theorem FZ:lexLt [] []=false:=rfl
theorem UE (y:Int)(ys:List Int):lexLt [] (y::ys)=true:=rfl
theorem U4 (x:Int)(xs:List Int):lexLt (x::xs) []=false:=rfl
theorem Ll (A:Around)(s:Shared)(a:Int)(t:Tok)(c:Int)(u:Tok):∃e,dB A s (.int a t) (.int c u) e/\(e=true↔a=c) :=
 #[(a==c),Gz a t c u,by simp]
theorem JR (A:Around)(s:Shared)(a:Int)(t:Tok)(c:Int)(u:Tok)(prog:aR)(w:World)(E:Value->Shared->Prop)(Q:Value->Shared->Prop)(h:Q (.bool (decide (a<c))) s) :
  wpAny (model prog w) A (richCompare .Lt (.int a t) (.int c u)) Q E s :=
 (PyProof.Rows.lt_int h:wpAny (model prog w) A (cy .Lt (.int a t) (.int c u)) Q E s)
section
open PySem.SeqAt
open PySem.AutoSeq1 (wpAny_loadPart')
open PySem.MeetsSeq PySem.MeetsSeq2 PySem.MeetsSeq3
theorem KR (l b:Addr)(items items2:Array Value)(n n2:Nat)(dd dd2:Option Addr)(sl sl2:Array (Option Value))(ns ms:List Int)(hi:eR items.toList ns)(hj:eR items2.toList ms) :
  Meets (bY.«tuple.__lt__» #[[.ref l,.ref b],[]])
   (λ_ R s=>s.heap.get? l=some { cls:=.type "tuple",dict:=dd,data:=.seq items n,slots:=sl }/\s.heap.get? b=some { cls:=.type "tuple",dict:=dd2,data:=.seq items2 n2,slots:=sl2 } /\
    R (.ok (.ret (.bool (lexLt ns ms)))) s) :=
 .of_wp λprog w A R s h=>by
  obtain⟨hp,g,d,tk,os⟩:=s;obtain⟨hl,hb,h⟩:=h;have f2:=AutoSeq1.sub_tuple_tuple;have z1:items.size=ns.length:=by rw[<- hi.length];simp
  have z2:items2.size=ms.length:=by rw[<- hj.length];simp
  wp_walk using wpAny_loadPart' hl,wpAny_loadPart' hb,wpAny_forIn_list _ (λrest b s'=>b.1=none/\s'=#[hp,g,d,tk,os]/\Ex4 λ(vs ws:List Value) (ns' ms':List Int)=>rest=vs.zip ws /\
   eR vs ns'/\eR ws ms'/\ns'.length+items2.size=ms'.length+items.size/\R (.ok (.ret (.bool (lexLt ns' ms')))) #[hp,g,d,tk,os]) _
  case turn =>
   rintro⟨y,x⟩ rest b s' ⟨hb',rfl,vs,ws,ns',ms',hz,hvi,hwi,hlen,hR⟩;cases hvi with
   | nil=>rw[List.zip_nil_left] at hz;cases hz
   | cons a t hvi' =>
    cases hwi with
    | nil=>rw[List.zip_nil_right] at hz;cases hz
    | cons c u hwi' =>
     rw[RU] at hz;injection hz with hyx hrest
     injection hyx with hy hx
     subst hy hx;rw[PB] at hR;simp only[aK] at hlen;obtain⟨e,he,hiff⟩:=Ll A.in1 #[hp,g,d,tk,os] a t c u;refine ac (he prog w _ _ ?_);cases e with
     | true =>
      rw[if_pos (hiff.mp rfl)] at hR
      wp_walk
      exact#[00,_,_,_,_,hrest,hvi',hwi',3,hR]
     | false =>
      rw[if_neg (λq=>absurd (hiff.mpr q) cf)] at hR;have hri:=JR A.in1 #[hp,g,d,tk,os] a t c u prog w
      wp_walk using hri
      exact#[1,by simpa using hR]
  case fin =>
   rintro⟨b1,b2⟩ s' ⟨hb',rfl,vs,ws,ns',ms',hz,hvi,hwi,hlen,hR⟩;simp only at hb';subst hb';have hv:lexLt ns' ms'=decide (items.size<items2.size):=by
    cases hvi with
    | nil =>
     cases hwi with
     | nil =>
      simp only[iq] at hlen;rw[FZ];exact (decide_eq_false (by lk)).symm
     | cons c u hw =>
      simp only[iq,aK] at hlen;rw[UE];exact (decide_eq_true (by lk)).symm
    | cons a t hv =>
     cases hwi with
     | nil =>
      simp only[iq,aK] at hlen;rw[U4];exact (decide_eq_false (by lk)).symm
     | cons c u hw =>
      rw[RU] at hz;cases hz
   rw[hv] at hR
   wp_walk
   exact#[1,by simpa [bY.Tuple.tupleCompareSizes] using hR]
  case h =>
   exact#[00,items.toList,items2.toList,ns,ms,0,hi,hj,3,h]
end
section
variable {prog:aR}{w:World}{A:Around}{E:Value->Shared->Prop}{s:Shared}
theorem Ni {l b:Addr}{items items2:Array Value}{ns ms:List Int}{Q:Value->Shared->Prop}(hl:IsTup s.heap l items)(hb:IsTup s.heap b items2)(hi:eR items.toList ns)(hj:eR items2.toList ms)
  (hu:A.units<cLine) (h:Q (.bool (lexLt ns ms)) s):wpAny (model prog w) A (cy .Lt (.ref l) (.ref b)) Q E s:=by
 obtain⟨⟨cls,dd,data,sl⟩,ho,hc,n,hd⟩:=id hl;obtain⟨⟨cls2,dd2,data2,sl2⟩,ho2,hc2,n2,hd2⟩:=id hb;simp only at hc hd hc2 hd2;subst hc hd hc2 hd2;exact richCompare_meets_room (op:=.Lt) #[_,ho,0] #[_,ho2,0] PySem.F.slot_tuple_lt PySem.F.entry_tuple_lt (PySem.F.args_tuple_lt_2 _ _) (KR l b items items2 n n2 dd dd2 sl sl2 ns ms hi hj)
  #[ho,ho2,show Value.bool (lexLt ns ms)≠Value.notImplemented/\Q (.bool (lexLt ns ms)) s from#[(λx=>nomatch x),h]] hu
theorem Ej {t b:Addr}{vs ws:List Value}{Q:Value->Shared->Prop}(ht:IsTup s.heap t vs.toArray)(hb:IsTup s.heap b ws.toArray)(hv:vs≠[])
  (h1:ws=[]->Q (.ref t) s) (h2:ws≠[]->Q (.ref s.heap.objs.size) { s with heap:=s.heap.push { cls:=.type "tuple",data:=.seq (vs++ws).toArray } })
  (hsz:vs.length+ws.length<=aE):wpAny (model prog w) A (gW .Add (.ref t) (.ref b)) Q E s:=by
 obtain⟨⟨cls,dd,data,sl⟩,ho,hc,n,hd⟩:=id ht;obtain⟨⟨cls2,dd2,data2,sl2⟩,ho2,hc2,n2,hd2⟩:=id hb;simp only at hc hd hc2 hd2;subst hc hd hc2 hd2;have e:vs.toArray++ws.toArray=(vs++ws).toArray:=by simp
 by_cases hw:ws=[]
 .exact Gj #[_,ho,0] #[_,ho2,0] FY Li O0 Kq (MU _ _)
   (tuple_addW1 t b vs.toArray ws.toArray n n2 dd dd2 sl sl2 (by simpa using hv) (by simp[hw])) #[ho,ho2,h1 hw]
 .refine Gj #[_,ho,0] #[_,ho2,0] FY Li O0 Kq (MU _ _)
   (tuple_addW2 t b vs.toArray ws.toArray n n2 dd dd2 sl sl2 (by simpa using hv) (by simpa using hw) (by rw[a7,a7];exact hsz)) #[ho,ho2,5]
  rw[e];exact h2 hw
noncomputable def sIx (n d:Nat):Option Int->Nat
 | none=>d
 | some v=>if v<0 then (v+(n:Int)).toNat else min v.toNat n
theorem vh (n d:Nat):sIx n d none=d:=rfl
theorem pf (n d k:Nat):sIx n d (some (k:Int))=min k n:=by
 show (if (k:Int)<0 then ((k:Int)+(n:Int)).toNat else min (k:Int).toNat n)=min k n
 rw[if_neg (by lk),cS]
theorem Dv (n d:Nat)(hd:d<=n)(o:Option Int):sIx n d o<=n:=by
 cases o with
 | none=>exact hd
 | some v =>
  show (if v<0 then (v+(n:Int)).toNat else min v.toNat n)<=n
  by_cases hv:v<0
  .rw[if_pos hv];lk
  .rw[if_neg hv];exact Nat.min_le_right _ _
theorem yr (v:Int)(n d:Nat):(if v<0 then max (v+(n:Int)) 0 else min v (n:Int))=((sIx n d (some v):Nat):Int):=by
 show (if v<0 then max (v+(n:Int)) 0 else min v (n:Int))=(((if v<0 then (v+(n:Int)).toNat else min v.toNat n):Nat):Int)
 by_cases hv:v<0
 .simp only[if_pos hv];lk
 .simp only[if_neg hv];lk
theorem LS (lo hi:Option Int)(n:Nat):DE lo hi 1 (n:Int)=(((sIx n 0 lo:Nat):Int),((sIx n n hi:Nat):Int)):=by
 have h1:¬ ((1:Int)<0):=by lk
 unfold DE;simp only[h1,if_false];refine Prod.ext ?_ ?_
 .cases lo with
  | none=>rfl
  | some v=>exact yr v n 0
 .cases hi with
  | none=>rfl
  | some v=>exact yr v n n
theorem Dx (i j:Nat):zD (i:Int) (j:Int) 1=j-i:=by
 unfold zD;have h1:(1:Int)>0:=by lk
 simp only[h1,if_true,Int.ediv_one]
 split<;>lk
theorem TC {v:Value}{o:Option Int}{Q:Option Int->Shared->Prop}(p:IsPart v o)(h:Q o s):wpAny (model prog w) A (bY.Slice.slicePartIndex v) Q E s:=by
 cases p with
 | none=>exact slicePart_none h
 | int i t=>exact slicePart_int h
theorem U8 {sl:Addr}{vl vu:Value}{lo hi:Option Int}{n:Nat}{Q:Int×Int×Nat->Shared->Prop}(hs:s.heap.IsSliceOf sl vl vu .none)(pl:IsPart vl lo)(pu:IsPart vu hi)
  (h:Q (((sIx n 0 lo:Nat):Int),1,sIx n n hi-sIx n 0 lo) s):wpAny (model prog w) A (RM (.ref sl) (pure (n:Int))) Q E s:=by
 obtain⟨os,hos,hcs,hds⟩:=id hs;unfold RM bY.Slice.sliceFields;refine ac (ac (gu hos hds (x:=vl) rfl (ac (gu hos hds (x:=vu) rfl (ac (gu hos hds (x:=.none) rfl (aq ?_)))))));refine ac (slicePart_none ?_);show wpAny _ _ (if ((1:Int)==0)=true then _ else _) _ _ s
 rw[if_neg (by decide)];refine ac (TC pl (ac (TC pu (ac (aq ?_)))));show wpAny _ _ (match DE lo hi 1 (n:Int) with|(lo,hi)=>pure (lo,(1:Int),zD lo hi 1)) _ _ s
 rw[LS lo hi n];show wpAny _ _ (pure (((sIx n 0 lo:Nat):Int),(1:Int),zD ((sIx n 0 lo:Nat):Int) ((sIx n n hi:Nat):Int) 1)) _ _ s
 rw[Dx];exact aq h
theorem Hu (xs:Array Value)(i k:Nat):((gM k).filterMap λ(m:Nat)=>xs[((i:Int)+(m:Int)*1).toNat]?).toArray=((xs.toList.drop i).take k).toArray:=by
 have e:(λ(m:Nat)=>xs[((i:Int)+(m:Int)*1).toNat]?)=λm=>xs[i+m]?:=by
  funext m
  have:((i:Int)+(m:Int)*1).toNat=i+m:=by lk
  rw[this]
 rw[e];have:=pick_run xs i k;rw[Sr] at this;have e2:((λx=>xs[x]?)∘λx=>i+x)=λm=>xs[i+m]?:=rfl;rw[e2] at this;rw[this]
theorem U5 {t sl:Addr}{items:Array Value}{vl vu:Value}{lo hi:Option Int}{Q:Value->Shared->Prop}(ht:IsTup s.heap t items)(hs:s.heap.IsSliceOf sl vl vu .none)(pl:IsPart vl lo)(pu:IsPart vu hi)
  (hw:¬ (sIx items.size 0 lo=0/\sIx items.size items.size hi=items.size))
  (h:Q (.ref s.heap.objs.size) { s with heap:=s.heap.push { cls:=.type "tuple",data:=.seq ((items.toList.drop (sIx items.size 0 lo)).take (sIx items.size items.size hi-sIx items.size 0 lo)).toArray } })
  (hsz:items.size<=aE):wpAny (model prog w) A (jv (.ref t) (.ref sl)) Q E s:=by
 have htake:sizeOk (.seq ((items.toList.drop (sIx items.size 0 lo)).take (sIx items.size items.size hi-sIx items.size 0 lo)).toArray):=by
  show ((items.toList.drop (sIx items.size 0 lo)).take (sIx items.size items.size hi-sIx items.size 0 lo)).toArray.size<=aE
  rw[a7,bQ,jb,cR];lk
 have hj:sIx items.size items.size hi<=items.size:=Dv _ _ (az _) hi;obtain⟨os,hos,hcs,hds⟩:=id hs;have hTs:s.TypeIs (.ref sl) "slice":=#[os,hos,hcs];unfold jv
 try with_reducible refine dG ?_
 first|refine ac (aq ?_)|skip
 refine ac (F1 ht.typeIs (by decide) ?_);refine ac (jf (name:=iV "__getitem__") ht.typeIs OY
  (fN OY ht.typeIs entry_tuple_getitem ?_ (args_tuple_getitem _ _)))
 show wpAny _ _ (bY.Tuple.tupleItemsOf (.ref t) >>= _) _ _ s
 refine ac (tupleItemsOf_ ht ?_);refine ac (tK hTs ?_);rw[if_pos (by decide)];refine ac (U8 hs pl pu ?_);have hno:¬ ((((sIx items.size 0 lo:Nat):Int)==0&&(1:Int)==1&&(sIx items.size items.size hi-sIx items.size 0 lo)==items.size)=true):=by
  intro q;rw[gz,gz] at q;have q1:((sIx items.size 0 lo:Nat):Int)=0:=eq_of_beq q.1.1;have q2:sIx items.size items.size hi-sIx items.size 0 lo=items.size:=eq_of_beq q.2;exact hw #[33]
 show wpAny _ _ (if (((sIx items.size 0 lo:Nat):Int)==0&&(1:Int)==1&&(sIx items.size items.size hi-sIx items.size 0 lo)==items.size)=true then _ else _) _ _ s
 rw[if_neg hno,Hu]
 first
  | exact ac (m:=z9 _) (fA (aq #[1,aq h]) htake)
  | exact ac (m:=z9 _) (fA (ac (aq (aq #[1,aq h]))) htake)
  | exact ac (ac (m:=z9 _) (fA (aq (aq #[1,aq h])) htake))
  | exact ac (ac (m:=z9 _) (fA (aq #[1,aq h]) htake))
end
end HT
namespace L2
open PySem PySem.Spec PyProof.Rows
noncomputable abbrev TO:=St->Hp->(Option Int->Hp->Prop)->Prop
noncomputable def PO (X:Cx)(e:Option Expr)(t:TO):Prop :=
 ∀(pins:List (Addr×Obj)) (s:Shared) (σ:St) (H:Hp) (Q:Option Int->Hp->Prop),Inv X pins σ H s->t σ H Q →
  wpAny (model X.prog X.w) X.A (evalPart e X.env) (λu s'=>Ex2 λo H'=>Inv X pins σ H' s'/\IsPart u o/\Q o H') X.xe s
noncomputable def Lu:TO:=λ_ H Q=>Q none H
noncomputable def G8 (t:TE):TO:=fun σ H Q=>t σ H λx H1=>∃i,x = .int i/\Q (some i) H1
theorem intsAre_of {ns:List Int}:∀{us:List Value},Vals (ns.map V.int) us->eR us ns:=by
 induction ns with
 | nil=>intro us r;rw[gU] at r;cases r;exact .nil
 | cons n ns ih =>
  intro us r;rw[bp] at r;cases r with
  | cons r1 r2 =>
   obtain⟨t,e⟩:=r1;subst e;exact .cons n t (ih r2)
section
variable {X:Cx}{e:Expr}{te:TE}{lo hi:Option Expr}{tl th:TO}{pos p2:Pos}
theorem dq:PO X none Lu:=by
 intro pins s σ H Q I h;rw[evalPart_none];exact aq #[none,H,I,.none,h]
theorem cY (h:PE X e te):PO X (some e) (G8 te):=by
 intro pins s σ H Q I hw;rw[evalPart_some];refine thn (h pins s σ H _ I hw) λu s1 #[x,H1,I1,r1,q1]=>?_;obtain⟨i,rfl,q⟩:=q1;obtain⟨t,rfl⟩:=r1;exact#[some i,H1,I1,.int i t,q]
noncomputable def SlR (X:Cx)(r:V->Option Int->Option Int->Hp->VK->Prop):Prop :=
 ∀(pins:List (Addr×Obj)) (s:Shared) (σ:St) (H:Hp) (x:V) (v vl vu:Value) (lo hi:Option Int) (sl:Addr) (Q:VK),Inv X pins σ H s->RelV x v->s.heap.IsSliceOf sl vl vu .none->IsPart vl lo->IsPart vu hi->r x lo hi H Q →
  Ex2 λT id=>zP (.type T) "__getitem__" = pure (some (.builtin id))/\s.TypeIs v T/\wpAny (model X.prog X.w) X.A (jv v (.ref sl)) (EP X pins σ Q) X.xe s
noncomputable def tSl (r:V->Option Int->Option Int->Hp->VK->Prop)(te:TE)(tl th:TO):TE:=fun σ H Q=>te σ H λx H1=>tl σ H1 λl H2=>th σ H2 λu H3=>r x l u H3 Q
theorem de {r:V->Option Int->Option Int->Hp->VK->Prop}(hr:SlR X r)(he:PE X e te)(hl:PO X lo tl)(hu:PO X hi th):PE X (.Subscript e (.Slice lo hi none p2) pos) (tSl r te tl th):=by
 intro pins s σ H Q I h;refine Subscript_ (thn (he pins s σ H _ I h) λv s1 #[x,H1,I1,r1,q1]=>?_);refine wpAny_Slice (thn (hl pins s1 σ H1 _ I1 q1) λvl s2 #[l,H2,I2,pl,q2]=>thn (hu pins s2 σ H2 _ I2 q2) λvu s3 #[u,H3,I3,pu,q3]=>?_);rw[evalPart_none];refine aq ?_;have I4:Inv X pins σ H3 { s3 with heap:=s3.heap.push { cls:=.type "slice",data:=.fields (yA [vl,vu,.none]) } }:=I3.kept (t':=s3.toks) λb ob q=>aW _ q;obtain⟨T,id,hT,ht,hg⟩:=hr pins { s3 with heap:=s3.heap.push { cls:=.type "slice",data:=.fields (yA [vl,vu,.none]) } } σ H3 x v vl vu l u s3.heap.objs.size Q I4 r1 (Heap.IsSliceOf.new ..) pl pu q3;show wpAny (model X.prog X.w) X.A (EA e (.Slice lo hi none p2) v (.ref s3.heap.objs.size)) (EP X pins σ Q) X.xe { s3 with heap:=s3.heap.push { cls:=.type "slice",data:=.fields (yA [vl,vu,.none]) } }
 exact tail_any (ops:=[.ref s3.heap.objs.size,v]) ht hT hg (by with_unfolding_all rfl)
noncomputable def cutV (xs:List V)(lo hi:Option Int):List V:=(xs.drop (HT.sIx xs.length 0 lo)).take (HT.sIx xs.length xs.length hi-HT.sIx xs.length 0 lo)
theorem ST (xs:List V)(lo hi:Option Int):(cutV xs lo hi).length<=xs.length:=by
 unfold cutV;rw[bQ,jb];lk
noncomputable def rSlT (K:ah):V->Option Int->Option Int->Hp->VK->Prop:=λx lo hi H Q=>Ex2 λa xs=>x = .ref a/\SqT K H a xs /\
 ¬ (HT.sIx xs.length 0 lo=0/\HT.sIx xs.length xs.length hi=xs.length)/\∀p,H p=none->Q (.ref p) (upd H p (.tup (cutV xs lo hi)))
theorem fh:SlR X (rSlT X.K):=by
 intro pins s σ H x v vl vu lo hi sl Q I rx hs pl pu h;obtain⟨a,xs,rfl,hx,hw,q⟩:=h;cases rx;obtain⟨its,r,ht,hz⟩:=I.tuple hx;have hlen:its.toArray.size=xs.length:=by rw[a7];exact r.length.symm
 refine#["tuple",_,OY.lookup,ht.typeIs,5];refine HT.U5 ht hs pl pu (by rw[hlen];exact hw) ?_ (by rw[hlen];exact hz);rw[hlen];refine#[.ref s.heap.objs.size,_,I.laid (t':=s.toks) (o:=.tup (cutV xs lo hi)) (λb ob q=>aW _ q) (az _) ?_,0,q _ (I.hok.fresh (az _))];exact#[aV (ST xs lo hi) hz,_,(r.drop (HT.sIx xs.length 0 lo)).take (HT.sIx xs.length xs.length hi-HT.sIx xs.length 0 lo),A9 _ _]
noncomputable def FN (K:ah):R2:=λx y H Q=>Ex4 λa b xs ys=>x = .ref a/\y = .ref b/\SqT K H a xs/\SqT K H b ys/\xs≠[]/\xs.length+ys.length<=aE /\
 (ys=[]->Q (.ref a) H)/\(ys≠[]->∀p,H p=none->Q (.ref p) (upd H p (.tup (xs++ys))))
theorem Vals.nV {xs:List V}{us:List Value}(r:Vals xs us):us=[]↔xs=[]:=by
 cases r with
 | nil=>simp
 | cons _ _=>simp
theorem fz:OpR X (gW .Add) (FN X.K):=by
 intro pins s σ H x y v u Q I rx ry h;obtain⟨a,b,xs,ys,rfl,rfl,ha,hb,hx,hz,q1,q2⟩:=h;cases rx;cases ry;obtain⟨its,r1,p1,_⟩:=I.tuple ha;obtain⟨its2,r2,p2,_⟩:=I.tuple hb;refine HT.Ej p1 p2 (λz=>hx (r1.nV.mp z)) (λz=>#[.ref a,H,I,0,q1 (r2.nV.mp z)]) (λz=>?_) (by rw[<- r1.length,<- r2.length];exact hz);refine#[.ref s.heap.objs.size,_,I.laid (t':=s.toks) (o:=.tup (xs++ys)) (λb ob q=>aW _ q) (az _) ?_,0,q2 (λw=>z (r2.nV.mpr w)) _ (I.hok.fresh (az _))];exact#[by rw[aS];exact hz,_,r1.append r2,A9 _ _]
end
end L2
namespace L2
open PySem PySem.Spec PyProof.Rows
noncomputable def ixN (n:Nat)(i:Int):Option Nat:=if 0<=i then (if i<n then some i.toNat else none) else if -(n:Int)<=i then some (i+n).toNat else none
noncomputable def atI {α:Type}(xs:List α)(i:Int):Option α:=(ixN xs.length i).bind λj=>xs[j]?
theorem vg {n:Nat}{i:Int}{j:Nat}(h:ixN n i=some j):seqIndex? i n=some j/\j<n /\ -(n:Int)<=i/\i<n:=by
 unfold ixN at h
 by_cases h0:0<=i
 .rw[if_pos h0] at h
  by_cases h1:i<n
  .rw[if_pos h1] at h;have e:i.toNat=j:=eQ h;exact#[by rw[seqIndex_of h0 h1,e],33,h1]
  .rw[if_neg h1] at h;cases h
 .rw[if_neg h0] at h
  by_cases h1:-(n:Int)<=i
  .rw[if_pos h1] at h;have e:(i+n).toNat=j:=eQ h;exact#[by rw[seqIndex_neg (by lk) h1,e],3,h1,3]
  .rw[if_neg h1] at h;cases h
theorem nQ {α:Type}{xs:List α}{i:Int}{v:α}(h:atI xs i=some v):∃j,seqIndex? i xs.length=some j/\xs[j]?=some v/\j<xs.length /\ -(xs.length:Int)<=i/\i<xs.length:=by
 unfold atI at h;cases e:ixN xs.length i with
 | none=>rw[e] at h;cases h
 | some j =>
  rw[e] at h;obtain⟨h1,h2,h3,h4⟩:=vg e;exact#[j,h1,h,h2,h3,h4]
theorem aI {α:Type}{xs:List α}{j:Nat}{v:α}(h:xs[j]?=some v):atI xs (j:Int)=some v:=by
 have hj:j<xs.length:=(br.mp h).1;have e:ixN xs.length (j:Int)=some j:=by
  unfold ixN;rw[if_pos (by lk),if_pos (by lk)];simp
 unfold atI;rw[e];exact h
noncomputable def MA (b:Expr):Prop:=∀o i,AR b false o i=operate [o,i] (jv o i)
noncomputable def IxR (X:Cx)(r:R2):Prop :=
 ∀(value slice:Expr) (pins:List (Addr×Obj)) (s:Shared) (σ:St) (H:Hp) (x y:V) (v u:Value) (Q:VK),Inv X pins σ H s->RelV x v->RelV y u->r x y H Q →
  AR slice false v u=operate [v,u] (jv v u)->wpAny (model X.prog X.w) X.A (EA value slice v u) (EP X pins σ Q) X.xe s
noncomputable def MtR (X:Cx)(id:String)(r:V->List V->Hp->VK->Prop):Prop :=
 ∀(pins:List (Addr×Obj)) (s:Shared) (σ:St) (H:Hp) (x:V) (xs:List V) (v:Value) (us:List Value) (Q:VK),Inv X pins σ H s->RelV x v->Vals xs us->r x xs H Q →
  wpAny (model X.prog X.w) X.A (call (.builtin id) (v::us)) (EP X pins σ Q) X.xe s
section
variable {X:Cx}{a b:Expr}{ta tb:TE}{pos:Pos}
theorem IxR.or {r r':R2}(h:IxR X r)(h':IxR X r'):IxR X (λx y H Q=>r x y H Q∨r' x y H Q):=by
 intro value slice pins s σ H x y v u Q I rx ry q hs
 rcases q with q|q
 .exact h value slice pins s σ H x y v u Q I rx ry q hs
 .exact h' value slice pins s σ H x y v u Q I rx ry q hs
theorem ao {r:R2}(hr:IxR X r)(ha:PE X a ta)(hb:PE X b tb)(hs:MA b:=by intro _ _;rfl):PE X (.Subscript a b pos) (tOp r ta tb):=by
 intro pins s σ H Q I h;exact Subscript_ (binT ha hb I h λv u s2 x y H2 I2 rx ry q=>hr a b pins s2 σ H2 x y v u Q I2 rx ry q (hs _ _))
noncomputable def rIxL (K:ah):R2:=λx y H Q=>Ex4 λp xs i v=>x = .ref p/\y = .int i/\SqL K H p xs/\atI xs i=some v/\Q v H
noncomputable def rIxT (K:ah):R2:=λx y H Q=>Ex4 λp xs i v=>x = .ref p/\y = .int i/\SqT K H p xs/\atI xs i=some v/\Q v H
noncomputable def rIxS:R2:=λx y H Q=>Ex3 λz i c=>x = .str z/\y = .int i/\z.length<=aE/\atI z.cps.toList i=some c/\Q (.str #[(yA [c])]) H
theorem bC:IxR X (rIxL X.K):=by
 intro value slice pins s σ H x y v u Q I rx ry h hs;obtain⟨p,xs,i,z,rfl,rfl,hq,he,q⟩:=h;cases rx;obtain⟨t,rfl⟩:=ry;obtain⟨its,r,pl,hz⟩:=I.list hq;obtain⟨j,h1,h2,h3,h4,h5⟩:=nQ he;obtain⟨w,ew,rw'⟩:=r.get h2;have hl:=r.length;have hn:=nU;have fin:EP X pins σ Q w s:=#[z,H,I,rw',q]
 by_cases h0:0<=i
 .have hj:i.toNat=j:=by
   rw[seqIndex_of h0 h5] at h1;exact eQ h1
  exact item_listR pl.isList h0 (by lk) (by rw[hj];simpa using ew) fin hs
 .have hj:(i+(its.toArray.size:Int)).toNat=j:=by
   rw[seqIndex_neg (by lk) h4] at h1;rw[a7,<- hl];exact eQ h1
  exact EX (x:=w) pl.isList.typeIs slot_list_getitem.lookup
   (wpAny_getItem_list_neg (Q:=λr s'=>r=w/\EP X pins σ Q r s') pl.isList (by lk) (by rw[a7]<;>lk) (by lk) (by rw[hj];simpa using ew) #[0,fin]) hs
theorem aP:IxR X (rIxT X.K):=by
 intro value slice pins s σ H x y v u Q I rx ry h hs;obtain⟨p,xs,i,z,rfl,rfl,hq,he,q⟩:=h;cases rx;obtain⟨t,rfl⟩:=ry;obtain⟨its,r,pl,hz⟩:=I.tuple hq;obtain⟨j,h1,h2,h3,h4,h5⟩:=nQ he;obtain⟨w,ew,rw'⟩:=r.get h2;have hl:=r.length;have hn:=nU;have fin:EP X pins σ Q w s:=#[z,H,I,rw',q];exact EX (x:=w) pl.typeIs slot_tuple_getitem.lookup
  (getItem_tuple (j:=j) (Q:=λr s'=>r=w/\EP X pins σ Q r s') pl (by lk) (by lk) (by rw[a7,<- hl];exact h1) (by simpa using ew) #[0,fin]) hs
theorem jT:IxR X rIxS:=by
 intro value slice pins s σ H x y v u Q I rx ry h hs;obtain⟨z,i,c,rfl,rfl,hz,he,q⟩:=h;obtain⟨t,rfl⟩:=rx;obtain⟨t',rfl⟩:=ry;obtain⟨j,h1,h2,h3,h4,h5⟩:=nQ he;have hl:z.cps.toList.length=z.length:=by simp[IQ]
 rw[hl] at h1 h4 h5;have hn:=nU;exact tail_any (rX s z t) slot_str_getitem.lookup (getItem_str (c:=c) (by
  have e1:decide (i < -(2 ^ 63:Int))=false:=decide_eq_false (by lk);have e2:decide (i≥2 ^ 63)=false:=decide_eq_false (by lk);rw[e1,e2,jM]) (by rw[h1];simpa using h2) #[.str #[(yA [c])],H,I.tok _,#[1],q]) hs
noncomputable def rIx (K:ah):R2:=λx y H Q=>rIxL K x y H Q∨rIxT K x y H Q∨rIxS x y H Q
theorem GS:IxR X (rIx X.K):=bC.or (aP.or jT)
theorem Cj (its:List Value)(n j:Nat)(u:Value):fE (·.setIfInBounds j u) { cls:=.type "list",data:=.seq its.toArray n }={ cls:=.type "list",data:=.seq (its.set j u).toArray n }:=by
 simp[fE]
theorem Inv.lst {pins:List (Addr×Obj)}{σ:St}{H:Hp}{s:Shared}{p:Addr}{xs:List V}(I:Inv X pins σ H s)(h:H p=some (.lst xs)) :
  Ex2 λ(its:List Value) (n:Nat)=>Vals xs its/\s.heap.get? p=some { cls:=.type "list",data:=.seq its.toArray n }/\xs.length<=aE:=by
 obtain⟨z,its,n,r,e⟩:=I.hok p _ h;exact#[its,n,r,e,z]
theorem Inv.Lx {pins:List (Addr×Obj)}{σ:St}{H:Hp}{s:Shared}{p:Addr}{xs ys:List V}{its its':List Value}{n n':Nat}{f:Obj->Obj}(I:Inv X pins σ H s)(h:H p=some (.lst xs))
  (ho:s.heap.get? p=some { cls:=.type "list",data:=.seq its.toArray n }) (hf:f { cls:=.type "list",data:=.seq its.toArray n }={ cls:=.type "list",data:=.seq its'.toArray n' }) (r:Vals ys its') (hz:ys.length<=aE) (t:Nat) :
  Inv X pins σ (upd H p (.lst ys)) { s with heap:=s.heap.update p f,toks:=t }:=by
 have e:(s.heap.update p f).get? p=some { cls:=.type "list",data:=.seq its'.toArray n' }:=by
  rw[kH f ho (by rw[hf]<;>rfl),hf]
 refine I.write (x:=p) (e:=p) (by rw[h];trivial) (.inl rfl) (λb u hb q=>(iL _ _ (a8 hb)).trans q) #[_,e] ?_;exact#[hz,its',n',r,e]
noncomputable def EW:V->V->V->Hp->(Hp->Prop)->Prop:=λo i v H Q=>Ex4 λp xs k j=>o = .ref p/\i = .int k/\H p=some (.lst xs)/\ixN xs.length k=some j/\Q (upd H p (.lst (xs.set j v)))
theorem set_list:PSet X EW:=by
 intro pins s σ H o i v ov iv u Q I ro ri rv h;obtain⟨p,xs,k,j,rfl,rfl,hp,hj,q⟩:=h;cases ro;obtain⟨t,rfl⟩:=ri;obtain⟨its,n,r,ho,hz⟩:=I.lst hp;obtain⟨h1,h2,h3,h4⟩:=vg hj;have hl:=r.length;have hn:=nU;have I':Inv X pins σ (upd H p (.lst (xs.set j v))) { s with heap:=s.heap.update p (fE (·.setIfInBounds j u)) } :=
  I.Lx hp ho (Cj its n j u) (r.set rv j) (by rw[rT];exact hz) s.toks
 by_cases h0:0<=k
 .have hk:k.toNat=j:=by
   rw[seqIndex_of h0 h4] at h1;exact eQ h1
  exact PySem.W.ki_setAt ho h0 (by lk) (by rw[a7,<- hl];exact h4) (by rw[hk];exact#[_,I',q])
 .have hk:(k+(its.toArray.size:Int)).toNat=j:=by
   rw[seqIndex_neg (by lk) h3] at h1;rw[a7,<- hl];exact eQ h1
  exact PySem.W.ki_setBack ho (by lk) (by rw[a7,<- hl];exact h3) (by lk) (by rw[hk];exact#[_,I',q])
theorem Iq (lo hi:Option Int)(n:Nat):(ma lo hi none n).1=((HT.sIx n 0 lo:Nat):Int)/\(ma lo hi none n).2.1=((HT.sIx n n hi:Nat):Int)/\(ma lo hi none n).2.2=1:=by
 refine#[550]
 .cases lo with
  | none=>simp[ma,HT.sIx]
  | some i =>
   simp only[ma,HT.sIx,Qd,show (1:Int)>0 by decide,if_true]
   by_cases h:i<0
   .simp only[h,if_true]<;>lk
   .simp only[h,if_false]<;>lk
 .cases hi with
  | none=>simp[ma,HT.sIx]
  | some i =>
   simp only[ma,HT.sIx,Qd,show (1:Int)>0 by decide,if_true]
   by_cases h:i<0
   .simp only[h,if_true]<;>lk
   .simp only[h,if_false]<;>lk
theorem C6 (its:List Value)(lo hi:Option Int):slicePick its.toArray lo hi none=((its.drop (HT.sIx its.length 0 lo)).take (HT.sIx its.length its.length hi-HT.sIx its.length 0 lo)).toArray:=by
 obtain⟨h1,h2,h3⟩:=Iq lo hi its.toArray.size;unfold slicePick;rw[h1,h2,h3];simp only[Je,pick_run,a7]<;>rfl
noncomputable def rSlL (K:ah):V->Option Int->Option Int->Hp->VK->Prop:=λx lo hi H Q=>Ex2 λa xs=>x = .ref a/\SqL K H a xs/\∀p,H p=none->Q (.ref p) (upd H p (.lst (cutV xs lo hi)))
theorem ox:SlR X (rSlL X.K):=by
 intro pins s σ H x v vl vu lo hi sl Q I rx hs pl pu h;obtain⟨a,xs,rfl,hx,q⟩:=h;cases rx;obtain⟨its,r,ht,hz⟩:=I.list hx;have hlen:=r.length;refine#["list",_,slot_list_getitem.lookup,ht.isList.typeIs,5];refine wpAny_getItem_list_slice ht.isList hs pl pu .none (by simp) ?_ (by rw[a7]<;>lk);rw[C6,<- hlen];refine#[.ref s.heap.objs.size,_,I.laid (t':=s.toks) (o:=.lst (cutV xs lo hi)) (λb ob q=>aW _ q) (az _) ?_,0,q _ (I.hok.fresh (az _))];exact#[aV (ST xs lo hi) hz,_,(0),(r.drop (HT.sIx xs.length 0 lo)).take (HT.sIx xs.length xs.length hi-HT.sIx xs.length 0 lo),bD _ rfl]
noncomputable def jx:V->Bool
 | .non=>true
 | .bl _=>true
 | .int _=>true
 | .str _=>true
 | _=>false
noncomputable def eqV:V->V->Bool
 | .non,.non=>true
 | .bl a,.bl b=>a==b
 | .bl a,.int b=>(if a then 1 else 0)==b
 | .int a,.bl b=>a==(if b then 1 else 0)
 | .int a,.int b=>a==b
 | .str a,.str b=>a==b
 | _,_=>false
theorem LX {A:Around}{s:Shared}{y x:V}{u v:Value}(ry:RelV y u)(rx:RelV x v)(fy:jx y=true)(fx:jx x=true):dB A s u v (eqV y x):=by
 cases y with
 | non =>
  cases ry;cases x with
  | non=>cases rx;exact dB.same _
  | bl b=>cases rx;exact dB.none_bool b
  | int b=>obtain⟨t,rfl⟩:=rx;exact dB.none_int b t
  | str b=>obtain⟨t,rfl⟩:=rx;exact dB.none_str b t
  | _=>exact absurd (show false=true from fx) cf
 | bl a =>
  cases ry;cases x with
  | non=>cases rx;exact dB.bool_none a
  | bl b=>cases rx;exact dB.bool_bool a b
  | int b=>obtain⟨t,rfl⟩:=rx;exact dB.bool_int a b t
  | str b=>obtain⟨t,rfl⟩:=rx;exact dB.bool_str a b t
  | _=>exact absurd (show false=true from fx) cf
 | int a =>
  obtain⟨t',rfl⟩:=ry;cases x with
  | non=>cases rx;exact dB.int_none a t'
  | bl b=>cases rx;exact dB.int_bool a t' b
  | int b=>obtain⟨t,rfl⟩:=rx;exact Gz a t' b t
  | str b=>obtain⟨t,rfl⟩:=rx;exact Rl a t' b t
  | _=>exact absurd (show false=true from fx) cf
 | str a =>
  obtain⟨t',rfl⟩:=ry;cases x with
  | non=>cases rx;exact dB.str_none a t'
  | bl b=>cases rx;exact dB.str_bool a t' b
  | int b=>obtain⟨t,rfl⟩:=rx;exact Ph a t' b t
  | str b=>obtain⟨t,rfl⟩:=rx;exact dB.str_str a t' b t
  | _=>exact absurd (show false=true from fx) cf
 | _=>exact absurd (show false=true from fy) cf
noncomputable def eqU (x:V)(u:Value):Bool:=match u with
 | .none=>eqV .non x
 | .bool b=>eqV (.bl b) x
 | .int i _=>eqV (.int i) x
 | .str z _=>eqV (.str z) x
 | _=>false
theorem tH {x y:V}{u:Value}(r:RelV y u)(f:jx y=true):eqU x u=eqV y x:=by
 cases y with
 | non=>cases r;rfl
 | bl b=>cases r;rfl
 | int i=>obtain⟨t,rfl⟩:=r;rfl
 | str z=>obtain⟨t,rfl⟩:=r;rfl
 | _=>exact absurd (show false=true from f) cf
theorem yh {x:V}:∀{xs:List V} {us:List Value},Vals xs us->xs.all jx=true->us.any (eqU x)=xs.any λy=>eqV y x
 | _,_,.nil,_=>rfl
 | y::xs,u::us,.cons r t,f=>by
  rw[List.all_cons,gz] at f;rw[xq,xq,tH r f.1,yh t f.2]
theorem yf {A:Around}{s:Shared}{x:V}{v:Value}(rx:RelV x v)(fx:jx x=true):∀{xs:List V} {us:List Value},Vals xs us->xs.all jx=true->∀u∈us,dB A s u v (eqU x u)
 | _,_,.nil,_=>λu hu=>by cases hu
 | y::xs,u::us,.cons r t,f=>λu' hu=>by
  rw[List.all_cons,gz] at f
  rcases aM.mp hu with rfl|hu
  .rw[tH r f.1];exact LX r rx f.1 fx
  .exact yf rx fx t f.2 u' hu
noncomputable def inV (x:V)(xs:List V):Bool:=xs.any λy=>eqV y x
noncomputable def rIn (K:ah)(neg:Bool):R2:=λx y H Q=>Ex2 λp xs=>y = .ref p/\(SqL K H p xs∨SqT K H p xs)/\jx x=true/\xs.all jx=true/\Q (.bl (if neg then !inV x xs else inV x xs)) H
theorem kz:OpR X (cy .In) (rIn X.K false):=by
 intro pins s σ H x y v u Q I rx ry h;obtain⟨p,xs,rfl,hq,fx,fs,q⟩:=h;cases ry
 rcases hq with hq|hq
 .obtain⟨its,r,pl,hz⟩:=I.list hq;refine SeqAt.in_listAt (eqU x) pl.isList (λw hw=>yf rx fx r fs w (by simpa using hw)) #[.bl _,H,I,05];rw[show its.toArray.any (eqU x)=its.any (eqU x) by simp,yh r fs];exact q
 .obtain⟨its,r,pl,hz⟩:=I.tuple hq;refine SeqAt.in_tupleAt (eqU x) pl (λw hw=>yf rx fx r fs w (by simpa using hw)) #[.bl _,H,I,05];rw[show its.toArray.any (eqU x)=its.any (eqU x) by simp,yh r fs];exact q
theorem E7:OpR X (cy .NotIn) (rIn X.K true):=by
 intro pins s σ H x y v u Q I rx ry h;obtain⟨p,xs,rfl,hq,fx,fs,q⟩:=h;cases ry
 rcases hq with hq|hq
 .obtain⟨its,r,pl,hz⟩:=I.list hq;refine SeqAt.notIn_listAt (eqU x) pl.isList (λw hw=>yf rx fx r fs w (by simpa using hw)) #[.bl _,H,I,05];rw[show its.toArray.any (eqU x)=its.any (eqU x) by simp,yh r fs];exact q
 .obtain⟨its,r,pl,hz⟩:=I.tuple hq;refine SeqAt.notIn_tupleAt (eqU x) pl (λw hw=>yf rx fx r fs w (by simpa using hw)) #[.bl _,H,I,05];rw[show its.toArray.any (eqU x)=its.any (eqU x) by simp,yh r fs];exact q
theorem cT:di X (.builtin "len") (λxs H Q=>Ex2 λp ys=>xs=[.ref p]/\(SqL X.K H p ys∨SqT X.K H p ys)/\Q (.int ys.length) H):=by
 intro pins s σ H xs us Q I r h;obtain⟨p,ys,rfl,hq,q⟩:=h;obtain⟨u,rfl,rx⟩:=vals1 r;cases rx;have hn:=nU
 rcases hq with hq|hq
 .obtain⟨its,r',pl,hz⟩:=I.list hq;have hlen:=r'.length;exact Calls.call_len_list pl.isList (by simp only[a7]<;>lk) #[.int ys.length,H,I.tok _,#[s.toks+1,by rw[a7,hlen]],q]
 .obtain⟨its,r',pl,hz⟩:=I.tuple hq;have hlen:=r'.length;exact len_tuple pl (by simp only[a7]<;>lk) #[.int ys.length,H,I.tok _,#[s.toks+1,by rw[a7,hlen]],q]
theorem KI:di X (.builtin "len") (λxs H Q=>∃z,xs=[.str z]/\z.length<=aE/\Q (.int z.length) H):=by
 intro pins s σ H xs us Q I r h;obtain⟨z,rfl,hz,q⟩:=h;obtain⟨u,rfl,t,rfl⟩:=vals1 r;have hn:=nU;exact len_str (by lk) #[.int z.length,H,I.tok _,#[1],q]
theorem zO:di X (.type "list") (λxs H Q=>Ex2 λp ys=>xs=[.ref p]/\(SqL X.K H p ys∨SqT X.K H p ys)/\∀l,H l=none->Q (.ref l) (upd H l (.lst ys))):=by
 intro pins s σ H xs us Q I r h;obtain⟨p,ys,rfl,hq,q⟩:=h;obtain⟨u,rfl,rx⟩:=vals1 r;cases rx;have fin:∀(its:List Value),Vals ys its->ys.length<=aE->∀(h':Heap) (c':Nat),(∀b o',s.heap.get? b=some o'->h'.get? b=some o') →
   h'.get? s.heap.objs.size=some { cls:=.type "list",dict:=none,data:=.seq its.toArray c',slots:=(yA []) }->EP X pins σ Q (.ref s.heap.objs.size) { s with heap:=h' }:=λits r' hz h' c' kp e =>
  #[.ref s.heap.objs.size,_,I.laid (t':=s.toks) kp (az _) (show cq X.prog X.w _ h' _ (.lst ys) from#[hz,its,c',r',e]),0,q _ (I.hok.fresh (az _))]
 rcases hq with hq|hq
 .obtain⟨its,r',pl,hz⟩:=I.list hq;have hlen:=r'.length;obtain⟨o,ho,hc,n,hd⟩:=pl.isList;exact call_list_seq p (.inl rfl) ho hc hd (λh' c' kp e=>fin its r' hz h' c' kp e) (by simp only[a7]<;>lk)
 .obtain⟨its,r',pl,hz⟩:=I.tuple hq;have hlen:=r'.length;obtain⟨o,ho,hc,n,hd⟩:=pl;exact call_list_seq p (.inr rfl) ho hc hd (λh' c' kp e=>fin its r' hz h' c' kp e) (by simp only[a7]<;>lk)
theorem fF:di X (.type "tuple") (λxs H Q=>Ex2 λp ys=>xs=[.ref p]/\((SqL X.K H p ys/\∀l,H l=none->Q (.ref l) (upd H l (.tup ys)))∨(SqT X.K H p ys/\Q (.ref p) H))):=by
 intro pins s σ H xs us Q I r h;obtain⟨p,ys,rfl,h⟩:=h;obtain⟨u,rfl,rx⟩:=vals1 r;cases rx
 rcases h with⟨hq,q⟩|⟨hq,q⟩
 .obtain⟨its,r',pl,hz⟩:=I.list hq;have hlen:=r'.length;refine call_tuple_list pl.isList (λh' kp=>?_) (by simp only[a7]<;>lk);have I1:Inv X pins σ H { s with heap:=h' }:=I.kept (t':=s.toks) kp;have I2:Inv X pins σ (upd H h'.objs.size (.tup ys)) { s with heap:=h'.push { cls:=.type "tuple",data:=.seq its.toArray } } :=
   I1.laid (t':=s.toks) (λb o e=>aW _ e) (az _) (show cq X.prog X.w _ _ _ (.tup ys) from#[hz,its,r',A9 _ _])
  exact#[.ref h'.objs.size,_,I2,0,q _ (I1.hok.fresh (az _))]
 .obtain⟨its,r',pl,hz⟩:=I.tuple hq;exact call_tuple_same pl #[.ref p,H,I,0,q]
noncomputable def tyV (K:ah)(T:String)(x:V)(H:Hp):Prop:=match x with
 | .str _=>T = "str"
 | .int _=>T = "int"
 | .ref p=>(T = "list" /\ ∃xs,SqL K H p xs)∨(T = "tuple" /\ ∃o,K.lookup p=some o/\o.cls = .type "tuple" /\ o.dict=none) ∨
   (T = "dict" /\ ((∃kvs,H p=some (.dK kvs))∨∃kvs,H p=some (.dT kvs)))∨(T = "set" /\ Ex2 λS n=>H p=some (.set S n))
 | _=>False
theorem vH {pins:List (Addr×Obj)}{σ:St}{H:Hp}{s:Shared}{T:String}{x:V}{v:Value}(I:Inv X pins σ H s)(r:RelV x v)(ty:tyV X.K T x H) :
  s.TypeIs v T/\∀a,v = .ref a->∃ob,s.heap.get? a=some ob/\ob.dict=none:=by
 cases x with
 | str z =>
  obtain⟨t,rfl⟩:=r;cases (show T = "str" from ty);exact#[rX s z t,λ_ e=>nomatch e]
 | int i =>
  obtain⟨t,rfl⟩:=r;cases (show T = "int" from ty);exact#[typeIs_int s i t,λ_ e=>nomatch e]
 | ref p =>
  cases r
  rcases ty with⟨rfl,xs,hq⟩|⟨rfl,o,hk,hc,hd⟩|⟨rfl,hk⟩|⟨rfl,S,n,hk⟩
  .obtain⟨its,_,pl,_⟩:=I.list hq;refine#[pl.isList.typeIs,λa e=>?_];cases e;obtain⟨o,n,e,c,hd,_⟩:=pl;exact#[o,e,hd]
  .refine#[#[o,I.kIn p o hk,hc],λa e=>?_];cases e;exact#[o,I.kIn _ o hk,hd]
  .have z:∃o,s.heap.get? p=some o/\o.ExactDict:=by
    rcases hk with⟨kvs,hk⟩|⟨kvs,hk⟩
    .obtain⟨_,_,_,_,o,_,_,e,ex,_⟩:=I.hok p _ hk;exact#[o,e,ex]
    .obtain⟨_,_,_,_,o,_,_,e,ex,_⟩:=I.hok p _ hk;exact#[o,e,ex]
   obtain⟨o,e,ex⟩:=z;refine#[#[o,e,ex.1],λa e2=>?_];cases e2;exact#[o,e,ex.2.1]
  .obtain⟨o,_,_,_,e,ex,_⟩:=I.hok p _ hk;refine#[#[o,e,ex.1],λa e2=>?_];cases e2;exact#[o,e,ex.2.1]
 | _=>exact gH ty
noncomputable def tBM0 (K:ah)(T:String)(r:V->List V->Hp->VK->Prop)(to:TE):TE:=fun σ H Q=>to σ H λx H1=>tyV K T x H1/\r x [] H1 Q
noncomputable def tBM (K:ah)(T:String)(r:V->List V->Hp->VK->Prop)(to:TE)(t:TA):TE:=fun σ H Q=>to σ H λx H1=>tyV K T x H1/\t σ H1 λxs H2=>r x xs H2 Q
variable {o e:Expr}{es:List Expr}{to:TE}{t:TA}{name:Str}{apos cpos:Pos}{T id:String}{r:V->List V->Hp->VK->Prop}
theorem uH (pa:PlainAttrs T)(slot:Slot T name id)(hty:typeOf (.builtin id)=pure (.type "method_descriptor"))(hm:MtR X id r)(ho:PE X o to)
  (hbase:oj o name X.env (eval o X.env)=eval o X.env:=by rfl) (hline:(apos.endLine==cpos.line)=true:=by rfl):PE X (.Call (.Attribute o name apos) [] [] cpos) (tBM0 X.K T r to):=by
 intro pins s σ H Q I h;refine wpAny_Call_method0_late hbase hline (thn (ho pins s σ H _ I h) λv s1 #[x,H1,I1,r1,ty,q1]=>?_);obtain⟨h1,h2⟩:=vH I1 r1 ty;exact#[T,id,pa,slot,hty,h1,h2,Qx rfl (PySem.evalArgs_none (hm pins s1 σ H1 x [] v [] Q I1 r1 .nil q1))]
theorem bR (pa:PlainAttrs T)(slot:Slot T name id)(hty:typeOf (.builtin id)=pure (.type "method_descriptor"))(hm:MtR X id r)(ho:PE X o to)(ha:PA X (e::es) t)
  (hbase:oj o name X.env (eval o X.env)=eval o X.env:=by rfl)
  (hfew:((backTo cpos (bO (e::es) X.env)).all (λx=>!x.1)&&(sX cpos (vy [] X.env)).all (λx=>x.1.isSome)
   && decide ((e::es).length+([]:List oe).length+(if ([]:List oe).isEmpty then 0 else 1)<30))=true:=by rfl)
  (hline:autoParam ((apos.endLine==cpos.line)=true) aUB._auto_1) (hs:autoParam (bO (e::es) X.env=(false,eval e X.env)::bO es X.env) aUB._auto_1) (hplain:autoParam ((backTo cpos (bO es X.env)).any (·.1)=false) aUB._auto_1) :
  PE X (.Call (.Attribute o name apos) (e::es) [] cpos) (tBM X.K T r to t):=by
 intro pins s σ H Q I h;refine wpAny_Call_method_late hbase hfew hline rfl (thn (ho pins s σ H _ I h) λv s1 #[x,H1,I1,r1,ty,q1]=>?_);obtain⟨h1,h2⟩:=vH I1 r1 ty;refine#[T,id,pa,slot,hty,h1,h2,5];have hA:=ha cpos pins s1 σ H1 _ I1 q1;rw[hs] at hA ⊢;refine Qx (by show (false||(backTo cpos (bO es X.env)).any (·.1))=false;rw[hplain]<;>rfl) (Calls.evalArgs_plain ?_);exact thn hA λus s2 #[vs,H2,I2,r2,q2]=>hm pins s2 σ H2 x vs v us Q I2 r1 r2 q2
end
end L2
namespace L2
open PySem PySem.Spec PyProof.Rows
noncomputable def MtM (X:Cx)(id:String)(r:V->List V->Hp->VK->Prop):Prop :=
 ∀(pins:List (Addr×Obj)) (s:Shared) (σ:St) (H:Hp) (x:V) (xs:List V) (v:Value) (us:List Value) (Q:VK),Inv X pins σ H s->RelV x v->Vals xs us->r x xs H Q →
  wpAny (model X.prog X.w) X.A (call (.builtin id) (v::us)) (EP X pins σ Q) X.xe s
theorem Vals.one:∀{x:V} {us:List Value},Vals [x] us->∃u,us=[u]/\RelV x u
 | _,_,.cons r .nil=>#[1,r]
theorem Vals.zero:∀{us:List Value},Vals [] us->us=[]
 | _,.nil=>rfl
theorem Vals.dropLast {xs:List V}{us:List Value}(h:Vals xs us):Vals xs.dropLast us.dropLast:=by
 induction h with
 | nil=>exact .nil
 | cons r t ih =>
  cases t with
  | nil=>exact .nil
  | cons q t'=>exact .cons r ih
theorem Vals.eraseIdx:∀{xs:List V} {us:List Value} (i:Nat),Vals xs us->Vals (xs.eraseIdx i) (us.eraseIdx i)
 | _,_,_,.nil=>.nil
 | _,_,0,.cons _ t=>t
 | _,_,i+1,.cons r t=>.cons r (Vals.eraseIdx i t)
theorem Vals.rep {xs:List V}{us:List Value}(h:Vals xs us):∀k:Nat,Vals (bS k xs).flatten (bS k us).flatten
 | 0=>.nil
 | k+1=>by
  rw[w9,w9,jr,jr];exact Vals.append h (Vals.rep h k)
theorem Fs {α:Type}(l:List α):l.eraseIdx (l.length-1)=l.dropLast:=by
 induction l with
 | nil=>rfl
 | cons a r ih =>
  cases r with
  | nil=>rfl
  | cons b r =>
   have e:(a::b::r).length-1=((b::r).length-1)+1:=by
    have h1:(a::b::r).length=r.length+2:=rfl;have h2:(b::r).length=r.length+1:=rfl;lk
   rw[e,QV,ih]
   all_goals rfl
theorem JY {α:Type}:∀(l:List α) (i:Nat),(l.eraseIdx i).length<=l.length
 | [],_=>az _
 | _::_,0=>gD _
 | _::r,i+1=>Nat.succ_le_succ (JY r i)
theorem foldl_rep (its:List Value):∀(k:Nat) (acc:List Value),
  C7 (λx1 x2=>x1++x2) acc.toArray (bS k its.toArray)=(acc++(bS k its).flatten).toArray
 | 0,acc=>by simp
 | k+1,acc=>by
  have e:acc.toArray++its.toArray=(acc++its).toArray:=by simp
  have e2:(acc++its)++(bS k its).flatten=acc++(bS (k+1) its).flatten:=by
   rw[w9,jr,fV]
  rw[<- e2,<- foldl_rep its k (acc++its),<- e,w9,List.foldl_cons]
section
variable {X:Cx}{pins:List (Addr×Obj)}{σ:St}{H:Hp}{s:Shared}{l b:Addr}{xs ys zs:List V}
theorem Inv.lset {its its':List Value}{n:Nat}{f:Array Value->Array Value}{t':Nat}(I:Inv X pins σ H s)(hH:H l=some (.lst xs))
  (e:s.heap.get? l=some { cls:=.type "list",data:=.seq its.toArray n }) (hf:f its.toArray=its'.toArray) (hv:Vals ys its') (hz:ys.length<=aE) :
  Inv X pins σ (upd H l (.lst ys)) { s with heap:=s.heap.update l (fE f),toks:=t' }:=by
 have q:=PySem.IsL.update e f;rw[hf] at q;refine I.write (x:=l) (e:=l) (by rw[hH];exact trivial) (.inl rfl) (λb' u hb hu=>(iL s.heap (fE f) (a8 hb)).trans hu) #[_,q] ?_;exact#[hz,its',_,hv,q]
theorem Inv.lnew {its:List Value}{t':Nat}(I:Inv X pins σ H s)(hv:Vals ys its)(hz:ys.length<=aE) :
  Inv X pins σ (upd H s.heap.objs.size (.lst ys)) { s with heap:=s.heap.push { cls:=.type "list",data:=.seq its.toArray },toks:=t' } :=
 I.laid (λ_ _ q=>aW _ q) (az _) #[hz,its,(0),hv,bD _ rfl]
theorem Inv.fresh (I:Inv X pins σ H s):H s.heap.objs.size=none:=I.hok.fresh (az _)
theorem Inv.lstM (I:Inv X pins σ H s)(hH:H l=some (.lst xs)):xs.length<=aE/\Ex2 λ(its:List Value) (n:Nat)=>Vals xs its/\xs.length=its.length/\s.heap.get? l=some { cls:=.type "list",data:=.seq its.toArray n }:=by
 obtain⟨z,its,n,r,e⟩:=I.hok l _ hH;exact#[z,its,n,r,r.length,e]
theorem wC {n:Nat}(h:n<=aE):y4 n=false:=by
 unfold y4;exact decide_eq_false (by lk)
end
section
variable {X:Cx}
noncomputable def CD:V->List V->Hp->VK->Prop:=λx vs H Q=>Ex3 λl xs y=>x = .ref l/\vs=[y]/\H l=some (.lst xs)/\xs.length<aE/\Q .non (upd H l (.lst (xs++[y])))
theorem fJ:MtM X "list.append" CD:=by
 intro pins s σ H x vs v us Q I rx rv h;obtain⟨l,xs,y,rfl,rfl,hH,hz,q⟩:=h;cases rx;obtain⟨u,rfl,ru⟩:=rv.one;obtain⟨z,its,n,r,hl,e⟩:=I.lstM hH;refine gL F.slot_list_append #[_,e,0] F.entry_list_append (F.args_list_append_2 _ _) (PySem.list_append l its.toArray n u (by rw[a7];lk)) #[e,5];refine#[.non,_,I.lset (its':=its++[u]) hH e (by simp) (r.append (.cons ru .nil)) ?_,0,q];rw[aS,fH];lk
noncomputable def IX:V->List V->Hp->VK->Prop:=λx vs H Q=>Ex4 λl b xs zs=>x = .ref l/\vs=[.ref b]/\H l=some (.lst xs)/\H b=some (.lst zs)/\xs.length+zs.length<=aE/\Q .non (upd H l (.lst (xs++zs)))
theorem yo:MtM X "list.extend" IX:=by
 intro pins s σ H x vs v us Q I rx rv h;obtain⟨l,b,xs,zs,rfl,rfl,hH,hB,hz,q⟩:=h;cases rx;obtain⟨u,rfl,ru⟩:=rv.one;cases ru;obtain⟨z,its,n,r,hl,e⟩:=I.lstM hH;obtain⟨z2,its2,n2,r2,hl2,e2⟩:=I.lstM hB;have hsz:its.toArray.size+its2.toArray.size<=aE:=by rw[a7,a7];lk
 have hlong:¬ (!its.toArray.isEmpty&&y4 (its.toArray.size+its2.toArray.size))=true:=by
  rw[wC hsz,A1];exact cf
 refine gL F.slot_list_extend #[_,e,0] F.entry_list_extend (F.args_list_extend_2 _ _)
  (AutoSeq1.list_extend_list_list_0 l its.toArray n b its2.toArray n2 hlong (by rw[a7];lk) (by lk)) #[e,e2,5]
 refine#[.non,_,I.lset (its':=its++its2) hH e (by simp) (r.append r2) ?_,0,q];rw[aS];lk
noncomputable def rPop:V->List V->Hp->VK->Prop:=λx vs H Q=>Ex3 λl xs y=>x = .ref l/\vs=[]/\H l=some (.lst xs)/\xs[xs.length-1]?=some y/\Q y (upd H l (.lst xs.dropLast))
theorem M7:MtM X "list.pop" rPop:=by
 intro pins s σ H x vs v us Q I rx rv h;obtain⟨l,xs,y,rfl,rfl,hH,hy,q⟩:=h;cases rx;have hus:=rv.zero;subst hus;obtain⟨z,its,n,r,hl,e⟩:=I.lstM hH;obtain⟨u,hu,ru⟩:=r.get hy;have hy':its.toArray[its.toArray.size-1]?=some u:=by
  show its.toArray[its.length-1]?=some u
  rw[<- fB,<- hl];exact hu
 refine gL F.slot_list_pop #[_,e,0] F.entry_list_pop (F.args_list_pop_1 _) (MeetsSeq.list_pop_last l its.toArray n u hy' (by rw[a7];lk)) #[e,5];refine#[y,_,I.lset (its':=its.dropLast) hH e ?_ r.dropLast ?_,ru,q]
 .show its.toArray.eraseIdxIfInBounds (its.toArray.size-1)=its.dropLast.toArray;rw[a7,Dq,Fs]
 .rw[List.length_dropLast];lk
noncomputable def Dk:V->List V->Hp->VK->Prop:=λx vs H Q=>Ex5 λl xs i k y=>x = .ref l/\vs=[.int i]/\H l=some (.lst xs) /\ -(2 ^ 63)<=i/\i<2 ^ 63/\seqIndex? i xs.length=some k/\xs[k]?=some y/\Q y (upd H l (.lst (xs.eraseIdx k)))
theorem Mx:MtM X "list.pop" Dk:=by
 intro pins s σ H x vs v us Q I rx rv h;obtain⟨l,xs,i,k,y,rfl,rfl,hH,h1,h2,hk,hy,q⟩:=h;cases rx;obtain⟨u,rfl,ru⟩:=rv.one;obtain⟨t,rfl⟩:=ru;obtain⟨z,its,n,r,hl,e⟩:=I.lstM hH;obtain⟨w,hw,rw'⟩:=r.get hy;refine gL F.slot_list_pop #[_,e,0] F.entry_list_pop (F.args_list_pop_2 _ _)
  (MeetsSeq.list_pop_at l its.toArray n i t k w (fitsIndex_both h1 h2) (by rw[a7,<- hl];exact hk) (by rw[<- fB];exact hw) (by rw[a7];lk)) #[e,5]
 refine#[y,_,I.lset (its':=its.eraseIdx k) hH e ?_ (r.eraseIdx k) ?_,rw',q]
 .show its.toArray.eraseIdxIfInBounds k=(its.eraseIdx k).toArray;rw[Dq]
 .have:=JY xs k;lk
noncomputable def M3:V->List V->Hp->VK->Prop:=λx vs H Q=>Ex2 λl xs=>x = .ref l/\vs=[]/\H l=some (.lst xs)/\Q .non (upd H l (.lst []))
theorem IF:MtM X "list.clear" M3:=by
 intro pins s σ H x vs v us Q I rx rv h;obtain⟨l,xs,rfl,rfl,hH,q⟩:=h;cases rx;have hus:=rv.zero;subst hus;obtain⟨z,its,n,r,hl,e⟩:=I.lstM hH;refine gL F.slot_list_clear #[_,e,0] F.entry_list_clear (F.args_list_clear_1 _) (AutoSeq1.list_clear_list_0 l its.toArray n (by rw[a7];lk)) #[e,5];exact#[.non,_,I.lset (its':=[]) (ys:=[]) hH e rfl .nil (ba _),0,q]
noncomputable def rCat:R2:=λx y H Q=>Ex4 λl b xs zs=>x = .ref l/\y = .ref b/\H l=some (.lst xs)/\H b=some (.lst zs)/\xs.length+zs.length<=aE/\∀p,H p=none->Q (.ref p) (upd H p (.lst (xs++zs)))
theorem hU:OpR X (gW .Add) rCat:=by
 intro pins s σ H x y v u Q I rx ry h;obtain⟨l,b,xs,zs,rfl,rfl,hH,hB,hz,q⟩:=h;cases rx;cases ry;obtain⟨z,its,n,r,hl,e⟩:=I.lstM hH;obtain⟨z2,its2,n2,r2,hl2,e2⟩:=I.lstM hB;refine PySem.P.add_list e e2 ?_ (by rw[a7,a7];lk);have ea:its.toArray++its2.toArray=(its++its2).toArray:=by simp
 rw[ea];exact#[.ref _,_,I.lnew (t':=s.toks) (r.append r2) (by rw[aS];lk),0,q _ I.fresh]
noncomputable def rRep:R2:=λx y H Q=>Ex3 λl k xs=>x = .ref l/\y = .int k/\H l=some (.lst xs) /\ -(2 ^ 63)<=k/\k<2 ^ 63/\xs.length*k.toNat<=aE /\
 ∀p,H p=none->Q (.ref p) (upd H p (.lst (bS k.toNat xs).flatten))
theorem len_rep {α:Type}(xs:List α)(k:Nat):(bS k xs).flatten.length=k*xs.length:=by
 induction k with
 | zero=>simp
 | succ k ih=>rw[w9,jr,aS,ih,Nat.succ_mul,Nat.add_comm]
theorem BD:OpR X (gW .Mult) rRep:=by
 intro pins s σ H x y v u Q I rx ry h;obtain⟨l,k,xs,rfl,rfl,hH,h1,h2,hz,q⟩:=h;cases rx;obtain⟨t,rfl⟩:=ry;obtain⟨z,its,n,r,hl,e⟩:=I.lstM hH;have hlen:its.toArray.size*k.toNat<=aE:=by rw[a7,<- hl];exact hz
 have hcap:¬ its.toArray.size*k.toNat>(2 ^ 63-1) / 8:=by
  have:(aE:Nat)<=(2 ^ 63-1) / 8:=by decide
  lk
 have hfit:¬ (!Builtin.List.listFitsIndex k)=true:=by
  rw[fitsIndex_both h1 h2];exact cf
 have hlong:¬ y4 (its.toArray.size*k.toNat)=true:=by
  rw[wC hlen];exact cf
 have hnew:C7 (λx1 x2=>x1++x2) (yA []) (bS (if its.toArray.isEmpty=true then 0 else k.toNat) its.toArray)=(bS k.toNat its).flatten.toArray:=by
  have f0:∀m:Nat,C7 (λx1 x2=>x1++x2) (yA []) (bS m its.toArray)=(bS m its).flatten.toArray:=λm=>by
   have:=foldl_rep its m [];rw[sB] at this;exact this
  rw[f0];cases its with
  | nil=>simp
  | cons a r'=>rw[if_neg (by simp)]
 refine wpAny_binaryOp_repeat_ref (T:="list") (U:="int") (by decide) #[_,e,0] (λs'=>typeIs_int s' k t) noFill_list_mul F.fills_int_mul F.slot_int_rmul repeat_list F.slot_int_index.lookup
  (gL F.slot_int_rmul (typeIs_int s k t) F.entry_int_rmul (F.args_int_rmul_2 _ _) (int___rmul___int_list k t l its.toArray n)
   #[e,0,#[_,e,0],gL F.slot_list_mul #[_,e,0] F.entry_list_mul (F.args_list_mul_2 _ _) (AutoListH.list___mul___list_int_3 l its.toArray n k t hfit hcap hlong) #[e,5]])
 rw[hnew];exact#[.ref _,_,I.lnew (t':=s.toks) (r.rep k.toNat) (by rw[len_rep,Nat.mul_comm];exact hz),0,q _ I.fresh]
end
section
variable {prog:aR}{w:World}{A:Around}{E:Value->Shared->Prop}{s:Shared}
end
section
variable {X:Cx}
end
end L2
namespace Att
open PySem PySem.W PySem.Calls PyProof.Rows
theorem UH {P:Params}{h:Heap}:∀(ns:List Int) (vs:List Value),WellAll P h vs (ns.map WData.int)->eR vs ns:=by
 intro ns
 induction ns with
 | nil =>
  intro vs w;rw[gU] at w;cases w;exact .nil
 | cons n ns ih =>
  intro vs w;rw[bp] at w;cases w with
  | cons a b =>
   cases a;exact .cons _ _ (ih _ b)
theorem M9 {l:OpenLaw}{n:Nat}(hn:l.most=some n){P:Params}{h:Heap}{args:List WData}{vals:List Value}
  (hpre:l.row.toRowW.claim.pre args=true) (hwl:WellAll P h vals args) :
  Ex3 λa vs ns=>vals=[Value.ref a]/\args=[WData.list (ns.map WData.int)]/\h.get? a=some { cls:=.type "list",data:=.seq vs.toArray }/\eR vs ns/\ns.length<=n:=by
 have hsh:WShape.hasAll [] args [.list .int]=true:=(pre_splitW hpre).1;have hc:l.pre.holds [] { args:=args }=true:=(pre_splitW hpre).2;obtain⟨d,r,rfl,h1,h2⟩:=hasAllW_cons hsh;obtain rfl:=hasAllW_nil h2;obtain⟨xs,rfl,h3⟩:=hasW_list h1;obtain⟨ns,rfl⟩:=items_int h3;have hlen:ns.length<=n:=by
  unfold OpenLaw.pre at hc;have h4:(WTm.not (.lt (.lit (.int (n:Int))) (.len (.arg 0)))).holds [] { args:=[.list (ns.map .int)] }=true:=by
   have h4:=(holds_andW hc).1;rw[hn] at h4;exact h4
  have h5:=condW_of h4 (w_not (w_lt w_lit (w_len_list (w_arg rfl))));rw[aw] at h5;refine Nat.le_of_not_lt λq=>?_;have q':(n:Int)<((ns.length:Nat):Int):=by lk
  first
   | (rw[decide_eq_true q'] at h5;exact absurd h5 (by decide))
   | (simp at h5;lk)
 cases hwl with
 | cons w1 w2 =>
  cases w2;cases w1 with
  | list ho hall=>exact#[_,_,ns,00,ho,UH ns _ hall,hlen]
theorem MM (l:OpenLaw)(args:List WData):l.row.toRowW.claim.post args (.bool true) args=true :=
 postW_of (r:=l.row.toRowW) (X:=(true==true))
  (show WShape.has [] (.bool true) .bool=true by first|rfl|decide|simp[WShape.has,WShape.arms,WShape.armsAll])
  (show (WTm.eq .res (.lit (.bool true))).value [] { args:=args,res:=some (.bool true),after:=args }=some (.bool (true==true)) from w_eq_bool (w_res rfl) w_lit) rfl
theorem EC {l:OpenLaw}{n:Nat}{q:aR}{loose:List Str}{XP:(Str->Option Value)->Heap->Prop}{YP:World->Heap->Prop}{d:DefRec}
  (hn:l.most=some n) (hdf:d.params.defaults=[])
  (call:∀(w:World) (s₀ s₁:Shared) (mg mb:Str->Option Value) (fa:Addr) (o:Obj) (pm cd doc:Value) (a:Addr) (vs:List Value) (ns:List Int),
   Ground q loose [] XP w s₀ mg mb s₁.heap->YP w s₁.heap →
   s₁.heap.get? fa=some o->o.data = .func (docDef d.name d.params d.body d.scope pm cd doc)->s₁.heap.CodeRec cd d.name->mg d.name=some (.ref fa) →
   s₁.heap.get? a=some { cls:=.type "list",data:=.seq vs.toArray }->eR vs ns->ns.length<=n->s₁.gens=(yA []) →
   gi (model l.prog w) oh (.call (.ref fa) #[[.ref a],[]]) (λr s'=>r = .ok (.ret (.bool true))/\OldK s₁.heap s'.heap/\s'.os=s₁.os/\lB s'.gens) s₁) :
  WalkO q loose XP YP l.row.toRowW d [] (λf vs=>KH f vs):=by
 intro w s₀ s₁ mg mb G Y fa o pm cd doc dV kV ho hd hcd hD hmg hg args vals as hpre hlay hrd hwl hlo;obtain rfl:dV = .none:=Dflts.none hD hdf;obtain rfl:kV = .none:=Dflts.noKw hD;obtain⟨a,vs,ns,rfl,rfl,hobj,hints,hlen⟩:=M9 hn hpre hwl;refine enter_call (lq (call w s₀ s₁ mg mb fa o pm cd doc a vs ns G Y ho (fd_plain hd) hcd hmg hobj hints hlen hg) λr s' hq=>?_);obtain⟨rfl,h2,h3,h4⟩:=hq;exact#[.inl #[.bool true,.bool true,[],0,λ_=>rfl,.bool true,MM l _,λ_=>#[List.Pairwise.nil,λ_ hm=>(nomatch hm)]],h2,h3,h4]
section
variable {prog:aR}{w:World}{A:Around}{E:Value->Shared->Prop}{s:Shared}{K:Frag}
end
end Att
namespace L2
open PySem PySem.Spec PyProof.Rows
theorem vd:∀{vs:List Value} {ns:List Int},eR vs ns->Vals (ns.map V.int) vs
 | _,_,.nil=>.nil
 | _,_,.cons n t h=>.cons #[t,0] (vd h)
noncomputable def Only (H:Hp):Prop:=∀b,H b=none∨Ex2 λo xs=>H b=some (.frz o (.lst xs))
theorem Kw {P:aR}{w:World}{K:ah}{mg mb:Str->Option Value}{CX:CXT}{k:Nat}{fa a:Addr}{fd:cP}{x:Str}{sp:Sp}{s₁:Shared}{vs:List Value}{ns:List Int}
  (KX:K.In s₁.heap) (hns:s₁.heap.Ns bv mg) (hb:s₁.heap.Ns builtinsNs mb) (hbb:∀x:Str,x ≠ "__name__"->mb x=kR x) (hlim:s₁.heap.NoLimit) (hg:s₁.gens=(yA []))
  (ha:s₁.heap.get? a=some { cls:=.type "list",data:=.seq vs.toArray }) (hi:eR vs ns) (hl:ns.length<=aE) (hr:Room k oh)
  (F:∀base:Heap,K.In base->base.Ns bv mg->FnOk P w K mg base CX k fa fd [x] sp) (hbind:∀(s:Shared) (u:Value),mn s fd #[[u],[]] [(x,u)])
  (hsp:∀H:Hp,Only H->SqL K H a (ns.map V.int)->sp [.ref a] H (λv _=>v = .bl true) λ_ _ _=>False)
  (hCX:∀H e s',CX [] H s₁ (λ_ _ _=>False) e s'->False) :
  gi (model P w) oh (.call (.ref fa) #[[.ref a],[]]) (λr s'=>r = .ok (.ret (.bool true))/\OldK s₁.heap s'.heap/\s'.os=s₁.os/\lB s'.gens) s₁:=by
 have rv:=vd hi;have lenV:=hi.length;have core:∀H:Hp,Only H->SqL K H a (ns.map V.int)->HOk P w H s₁.heap->(∀b,H b≠none->b=a)->(H a≠none->K.lookup a=none) →
   gi (model P w) oh (.call (.ref fa) #[[.ref a],[]]) (λr s'=>r = .ok (.ret (.bool true))/\OldK s₁.heap s'.heap/\s'.os=s₁.os/\lB s'.gens) s₁:=by
  intro H hO hS hok hA hK;have base_of:∀{b:Addr} {o:Obj},s₁.heap.get? b=some o->H b=none->(hidT s₁.heap H).get? b=some o:=λe n=>Bj e n;have noA:∀{b:Addr} {o:Obj} {es:Array g9} {ep:Nat},s₁.heap.get? b=some o->o.data = .dict es ep->H b=none:=λ{b o es ep} e d=>by
   cases q:H b with
   | none=>rfl
   | some u =>
    have e':b=a:=hA b (by rw[q];simp);subst e';rw[ha] at e;cases e;have d':Data.seq vs.toArray _=Data.dict es ep:=d;cases d'
  have nsK:∀{b:Addr} {m:Str->Option Value},s₁.heap.Ns b m->(hidT s₁.heap H).Ns b m:=λ{b m} #[o,es,ep,e,d,r]=>#[o,es,ep,base_of e (noA e d),d,r];have hKb:K.In (hidT s₁.heap H):=λb o e=>base_of (KX b o e) (by
   cases q:H b with
   | none=>rfl
   | some u =>
    have e':b=a:=hA b (by rw[q];simp);subst e';rw[hK (by rw[q];simp)] at e;cases e)
  have hM:Mod K mg (hidT s₁.heap H):=#[hKb,nsK hns,#[mb,nsK hb,hbb],let ⟨mc,h1,h2⟩:=hlim;#[mc,nsK h1,h2]];have e0:Env0 P w K mg (hidT s₁.heap H) oh [] s₁ H:=#[0,hM,λb o e=>BJ e,zZ (CI _ _),trivial,λb hb=>absurd (show b∈([]:List Addr) from hb) (by simp),hok,.of_eq hg];refine lq ((F _ hKb (nsK hns)).run oh [] s₁ H #[[.ref a],[]] [.ref a] [.ref a] _ _ hr e0 (hbind s₁ (.ref a)) (.cons rfl .nil) (hsp H hO hS)) λr s' h=>?_;cases r with
  | error e=>exact (hCX H e s' h).elim
  | ok fl =>
   cases fl with
   | next=>exact gH h
   | brk=>exact gH h
   | cont=>exact gH h
   | ret u =>
    obtain⟨v,H',os,bare,un,hok',r',q⟩:=h;have q':v = .bl true:=q;subst q';obtain rfl:u=Value.bool true:=r';refine#[0,OldK.of_keep λb o e=>?_,os,bare];cases q:H b with
    | none=>exact un.keep b o e q (by intro z;exact absurd (show b∈([]:List Addr) from z) (by simp)) (by simp)
    | some u =>
     rcases hO b with z|⟨ob,xs,z⟩
     .rw[q] at z;cases z
     .have z2:=un.frzs b ob _ z;obtain⟨e1,_⟩:=hok b _ z;obtain⟨e2,_⟩:=hok' b _ z2;rw[e] at e1;cases e1;exact e2
 cases hk:K.lookup a with
 | some o =>
  have e:=KX a o hk;rw[ha] at e;cases e;refine core (λ_=>none) (λ_=>.inl rfl) (.inr #[_,vs.toArray,_,hk,000,by rw[a7,lenV];exact hl,by simpa using rv]) (λb u z=>by have z':(none:Option HO)=some u:=z;cases z') (λb z=>absurd rfl z) λz=>absurd rfl z
 | none =>
  refine core (λb=>if b=a then some (.frz { cls:=.type "list",data:=.seq vs.toArray } (.lst (ns.map V.int))) else none) (λb=>?_) (.inl (.inr #[{ cls:=.type "list",data:=.seq vs.toArray },if_pos rfl])) (λb u z=>?_) (λb z=>?_) λ_=>hk
  .by_cases hb:b=a
   .exact .inr #[_,_,if_pos hb]
   .exact .inl (if_neg hb)
  .by_cases hb:b=a
   .have z':=(if_pos hb).symm.trans z;cases z';subst hb;exact#[ha,by rw[aw];exact hl,vs,_,rv,ha]
   .have z':=(if_neg hb).symm.trans z;cases z'
  .by_cases hb:b=a
   .exact hb
   .exact absurd (if_neg hb) z
end L2
namespace L2
open PySem PySem.Spec PyProof.Rows
theorem CF {l:OR}{n k:Nat}{q:aR}{loose:List Str}{XP:(Str->Option Value)->Heap->Prop}{YP:World->Heap->Prop}{d:DefRec}{K:Params->ah}{CX:World->CXT}{sp:World->Sp}{x:Str}
  (hn:l.most=some n) (hn2:n<=aE) (hdf:d.params.defaults=[]) (hr:Room k oh)
  (hY:∀(w:World) (h:Heap),YP w h->(K w.params).In h)
  (F:∀(w:World) (mg:Str->Option Value) (fa:Addr) (h:Heap),(K w.params).In h->h.Ns bv mg->mg d.name=some (.ref fa) →
   ∃fd:cP,(∀(s:Shared) (u:Value),mn s fd #[[u],[]] [(x,u)]) /\
    ∀base:Heap,(K w.params).In base->base.Ns bv mg->FnOk l.prog w (K w.params) mg base (CX w) k fa fd [x] (sp w))
  (hsp:∀(w:World) (H:Hp) (a:Addr) (ns:List Int),ns.length<=n->Only H->SqL (K w.params) H a (ns.map V.int)->sp w [.ref a] H (λv _=>v = .bl true) λ_ _ _=>False)
  (hCX:∀(w:World) (H:Hp) (s:Shared) (e:Value) (s':Shared),CX w [] H s (λ_ _ _=>False) e s'->False) :
  RF q loose XP YP l.row.toRowW d [] (λf vs=>KH f vs):=by
 refine Att.EC hn hdf λw s₀ s₁ mg mb fa o pm cd doc a vs ns G Y ho hd hcd hmg hobj hints hlen hg=>?_;have KX:=hY w _ Y;obtain⟨fd,hb,hF⟩:=F w mg fa _ KX G.T.g hmg;exact Kw KX G.T.g G.T.b G.T.builtins G.T.nolimit hg hobj hints (aV hlen hn2) hr hF hb (λH hO hS=>hsp w H a ns hlen hO hS) λH e s'=>hCX w H s₁ e s'
end L2
namespace L2
open PySem PySem.Spec PyProof.Rows
noncomputable def inClass (s:Stmt)(j:Nat):Stmt:=match s with
 | .ClassDef _ _ _ body _ _ _ _ _ _ _=>body.getD j (.Pass #[(0),(0),(0),(0)])
 | _=>.Pass #[(0),(0),(0),(0)]
noncomputable def lG (s:Stmt):Arguments:=match s with
 | .FunctionDef _ a _ _ _ _ _ _ _ _=>a
 | _=>{ posonlyargs:=[],args:=[],vararg:=none,kwonlyargs:=[],kw_defaults:=[],kwarg:=none,defaults:=[] }
noncomputable def gA (s:Stmt):List Stmt:=match s with
 | .FunctionDef _ _ b _ _ _ _ _ _ _=>b
 | _=>[]
noncomputable def aG (s:Stmt):Scope:=match s with
 | .FunctionDef _ _ _ _ _ _ sc _ _ _=>sc
 | _=>{ kind:=.function,names:=[],isGenerator:=false,isCoroutine:=false }
noncomputable abbrev CX0:CXT:=λ_ _ _ _ _ _=>False
noncomputable abbrev E0:XK:=λ_ _ _=>False
theorem bA {X:Cx}:Passes CX0 X E0:=λ_ _ _ _ _ _ _ h=>h.elim
structure Fun (K:ah)(x qual:Str)(st:Stmt)(f:Addr)(fd:cP):Prop where
 ex:Ex9 λ(oc:Value) (od:Option Addr) (kV doc pm:Value) (an:Option Addr) (cdv ct:Value) (osl:Array (Option Value)) =>
  fd=jD x qual (lG st) (gA st) (aG st) .none kV doc pm an cdv ct/\K.lookup f=some #[oc,od,.func fd,osl]/\m4 K cdv qual=true
 kp:jB K (.ref f)=true
section
variable {P:aR}{w:World}{K:ah}{mg:Str->Option Value}{base:Heap}
theorem Fun.ok {x qual:Str}{st:Stmt}{f:Addr}{fd:cP}{N ps:List Str}{k:Nat}{sp:Sp}(F:Fun K x qual st f fd)(S:aQ N ps (aG st))(len:∀vs H Q E,sp vs H Q E->vs.length=ps.length)
  (hbody:∀(cdv:Value) (A:Around) (outer:List Env) (s:Shared) (H:Hp) (vs:List V) (Q:VK) (E:XK),Room k (A.deeper (envOfC qual (aG st) s.heap.objs.size f cdv))->sp vs H Q E →
   ∃t,PSs (cxOf CX0 P w K mg base N qual (aG st) f cdv A outer s H E).nox (gA st) t/\t { nx:=λ_ H'=>Q .non H',rt:=Q } (start N vs) H):FnOk P w K mg base CX0 (k+1) f fd ps sp:=by
 obtain⟨oc,od,kV,doc,pm,an,cdv,ct,osl,rfl,lk,hcd⟩:=F.ex;refine yu lk hcd S len λA outer s H vs Q E hr hsp=>?_;obtain⟨t,h,q⟩:=hbody cdv A outer s H vs Q E hr hsp;exact#[t,h.nox,q]
theorem Fun.binds {x qual:Str}{st:Stmt}{f:Addr}{fd:cP}{ps:List Str}(F:Fun K x qual st f fd)
  (h:∀(kV doc pm:Value) (an:Option Addr) (cdv ct:Value) (us:List Value),us.length=ps.length->bindArgs (jD x qual (lG st) (gA st) (aG st) .none kV doc pm an cdv ct) #[us,[]]=pure (ps.zip us)):Binds K fd ps []:=by
 obtain⟨oc,od,kV,doc,pm,an,cdv,ct,osl,rfl,lk,hcd⟩:=F.ex;exact .all (h kV doc pm an cdv ct)
theorem nG {x qual:Str}{st:Stmt}{f:Addr}{oc:Value}{od an:Option Addr}{osl:Array (Option Value)}{kV doc pm cdv ct:Value}(l:K.lookup f=some #[oc,od,.func (jD x qual (lG st) (gA st) (aG st) .none kV doc pm an cdv ct),osl])
  (c:m4 K cdv qual=true) (k:jB K (.ref f)=true):Fun K x qual st f (jD x qual (lG st) (gA st) (aG st) .none kV doc pm an cdv ct):=#[#[oc,od,kV,doc,pm,an,cdv,ct,osl,0,l,c],k]
end
theorem df {n:Nat}(h:n<=1000):n<aE:=OA h (by decide)
section
variable {X:Cx}
theorem pv (i:Nat){x:Str}{pos:Pos}(hN:autoParam (X.N[i]?=some x) aUB._auto_1)(hv:Vis X.env.scope x:=by first|exact Or.inl rfl|exact Or.inr (Or.inl rfl)|exact Or.inr (Or.inr rfl))(hd:autoParam ((x==("__debug__":Str))=false) aUA._auto_1)
  (hcd:(x==("__classdict__":Str))=false:=by decide):PE X (.Name x pos) (tVar i):=Iu hN hv hd hcd
end
theorem iteF {A B:Prop}(h:B):if false=true then A else B:=by
 rw[if_neg cf];exact h
theorem iteT {A B:Prop}(h:A):if true=true then A else B:=by
 rw[if_pos rfl];exact h
theorem ite2 {c A B:Prop}[Decidable c](h1:c->A)(h2:¬ c->B):if c then A else B:=by
 by_cases h:c
 .rw[if_pos h];exact h1 h
 .rw[if_neg h];exact h2 h
noncomputable def Same (H H':Hp):Prop:=∀b o,H b=some o->H' b=some o
theorem Same.refl (H:Hp):Same H H:=λ_ _ h=>h
theorem Same.trans {H H1 H2:Hp}(a:Same H H1)(b:Same H1 H2):Same H H2:=λc o h=>b c o (a c o h)
end L2
namespace L2
open PySem PySem.Spec PyProof.Rows
noncomputable def clGo (cells:List (Str×Addr)):List (Str×b6)->List (Str×Addr)->List (Str×Addr)
 | [],cs=>cs
 | (n,k)::r,cs=>clGo cells r (if k == .free then (match cells.lookup n with|some c=>(n,c)::cs|none=>cs) else cs)
noncomputable def clOf (sc:Scope)(cells:List (Str×Addr)):List (Str×Addr):=clGo cells sc.names []
theorem vn {sc:Scope}{env:Env}(h:∀y∈sc.names,y.2 = .free->∃c,env.cells.lookup y.1=some c):closureFor sc env=pure (clOf sc env.cells):=by
 have go:∀(l:List (Str×b6)) (cs:List (Str×Addr)),(∀y∈l,y.2 = .free->∃c,env.cells.lookup y.1=some c) →
   (forIn l cs (λ(x:Str×b6) (r:List (Str×Addr))=>(match x with|(name,kind)=>if kind==b6.free then (do let c <- cellOf env name;pure (ForInStep.yield ((name,c)::r))) else pure (ForInStep.yield r):Sem (ForInStep (List (Str×Addr))))))=pure (clGo env.cells l cs):=by
  intro l
  induction l with
  | nil=>intro cs _;rfl
  | cons y r ih =>
   intro cs h;obtain⟨n,k⟩:=y;have hr:∀y∈r,y.2 = .free->∃c,env.cells.lookup y.1=some c:=λy hy=>h y (bx _ hy);rw[List.forIn_cons]
   by_cases hk:k = .free
   .subst hk;obtain⟨c,e⟩:=h (n,.free) bb rfl;have e':env.cells.lookup n=some c:=e;simp only[beq_self_eq_true,if_true,cellOf,e',pure_bind,clGo];exact ih _ hr
   .have hb:(k==b6.free)=false:=by simpa using hk
    simp only[hb,kr,if_false,pure_bind,clGo];exact ih _ hr
 unfold closureFor clOf;refine Eq.trans (bind_pure _) ?_;exact go sc.names [] h
theorem yS {cells:List (Str×Addr)}:∀(l:List (Str×b6)) (cs:List (Str×Addr)),(∀x c,cs.lookup x=some c->cells.lookup x=some c)->∀x c,(clGo cells l cs).lookup x=some c->cells.lookup x=some c
 | [],_,h,x,c,e=>h x c e
 | (n,k)::r,cs,h,x,c,e=>by
  refine yS r _ (λy d z=>?_) x c e
  by_cases hk:(k==b6.free)=true
  .rw[if_pos hk] at z;cases q:cells.lookup n with
   | none=>rw[q] at z;exact h y d z
   | some a =>
    rw[q] at z;have z':fT y ((n,a)::cs)=some d:=z;rw[l8] at z';cases hy:y==n with
    | true =>
     rw[hy] at z';have ey:y=n:=(by simpa using hy);rw[ey,q];exact z'
    | false =>
     rw[hy] at z';exact h y d z'
  .rw[if_neg hk] at z;exact h y d z
theorem tw {cells:List (Str×Addr)}:∀(l:List (Str×b6)) (cs:List (Str×Addr)) (x:Str),((x,b6.free)∈l/\(∃c,cells.lookup x=some c))∨(∃c,cs.lookup x=some c)->∃c,(clGo cells l cs).lookup x=some c
 | [],cs,x,h=>by
  rcases h with⟨h,_⟩|h
  .cases h
  .exact h
 | (n,k)::r,cs,x,h=>by
  refine tw r _ x ?_;have put:(∃c,cs.lookup x=some c)->∃c,(if (k==b6.free)=true then (match cells.lookup n with|some c=>(n,c)::cs|none=>cs) else cs).lookup x=some c:=λ#[c,e]=>by
   by_cases hk:(k==b6.free)=true
   .rw[if_pos hk];cases q:cells.lookup n with
    | none=>exact#[c,e]
    | some a =>
     show ∃c,fT x ((n,a)::cs)=some c
     rw[l8];cases hy:x==n with
     | true=>exact#[a,0]
     | false=>exact#[c,e]
   .rw[if_neg hk];exact#[c,e]
  rcases h with⟨h,c,e⟩|h
  .rcases aM.mp h with z|z
   .injection z with z1 z2
    subst z1;subst z2;refine .inr #[c,5];show fT x (match cells.lookup x with|some c=>(x,c)::cs|none=>cs)=some c
    rw[e];show fT x ((x,c)::cs)=some c
    rw[l8,beq_self_eq_true]
   .exact .inl #[z,c,e]
  .exact .inr (put h)
theorem Re {env:Env}:∀{l:List (Str×b6)} {x:Str},(∀y∈l,y.2≠b6.cell) →
  ((l.map λ(n,k)=>if (k==b6.free&&env.scope.kind == .function&&env.kindOf n==some .cell) then (n,b6.cell) else (n,k)).lookup x=some .cell ∨
   (l.map λ(n,k)=>if (k==b6.free&&env.scope.kind == .function&&env.kindOf n==some .cell) then (n,b6.cell) else (n,k)).lookup x=some .free)->(x,b6.free)∈l
 | [],x,_,h=>by rcases h with h|h<;>simp at h
 | (n,k)::r,x,hc,h=>by
  rw[bp] at h;have nk:k≠b6.cell:=hc (n,k) bb
  by_cases hx:x=n
  .subst hx;have kf:k = .free:=by
    by_cases q:(k==b6.free&&env.scope.kind == .function&&env.kindOf x==some .cell)=true
    .rw[gz,gz] at q
     simpa using q.1.1
    .have e:(match (x,k) with|(n,k)=>if (k==b6.free&&env.scope.kind == .function&&env.kindOf n==some .cell)=true then (n,b6.cell) else (n,k))=(x,k):=if_neg q;rw[e,l8,beq_self_eq_true] at h
     rcases h with h|h
     .exact absurd (eQ h) nk
     .exact eQ h
   subst kf;exact bb
  .refine bx _ (Re (env:=env) (λy hy=>hc y (bx _ hy)) ?_);have hb:(x==n)=false:=by simpa using hx
   by_cases q:(k==b6.free&&env.scope.kind == .function&&env.kindOf n==some .cell)=true
   .have e:(match (n,k) with|(n,k)=>if (k==b6.free&&env.scope.kind == .function&&env.kindOf n==some .cell)=true then (n,b6.cell) else (n,k))=(n,b6.cell):=if_pos q;rw[e,l8,hb] at h;exact h
   .have e:(match (n,k) with|(n,k)=>if (k==b6.free&&env.scope.kind == .function&&env.kindOf n==some .cell)=true then (n,b6.cell) else (n,k))=(n,k):=if_neg q;rw[e,l8,hb] at h;exact h
noncomputable def blk (X:Cx)(N':List Str)(sc:Scope)(fp:List Addr)(s:Shared)(H:Hp)(C:Addr):Cx where
 prog:=X.prog
 w:=X.w
 K:=X.K
 mg:=X.mg
 base:=X.base
 A:=X.A
 N:=N'
 s₀:=s
 H₀:=H
 env:=compEnvC sc (clOf sc X.env.cells) C X.env
 outer:=X.stack
 stack:=X.stack
 ex:=fp
 fn:=λ_=>false
 calm:=X.calm
 pn:=[]
 xe:=λ_ _=>False
inductive Caps (X:Cx)(sc:Scope):List Str->List Nat->Prop where
 | nil:Caps X sc [] []
 | cons {x:Str} {j:Nat} {cap:List Str} {js:List Nat} (hj:X.N[j]?=some x) (hk:X.env.kindOf x=some .cell∨X.env.kindOf x=some .free)
   (hr:(pN sc X.env).names.lookup x=some .cell∨(pN sc X.env).names.lookup x=some .free):Caps X sc cap js->Caps X sc (x::cap) (j::js)
structure bI (X:Cx)(sc:Scope):Prop where
 kind:sc.kind = .function
 cell:∀y∈sc.names,y.2 ≠ .cell
 names:∀y∈sc.names,y.2 = .local->sc.names.lookup y.1=some .local
 free:∀y∈sc.names,y.2 = .free->X.env.kindOf y.1=some .cell∨X.env.kindOf y.1=some .free
noncomputable def DO (sc:Scope)(nm:List (Str×b6)):Bool:=sc.names.all λy=>y.2 != .cell&&(y.2 != .local||sc.names.lookup y.1==some .local)&&(y.2 != .free||(nm.lookup y.1==some .cell||nm.lookup y.1==some .free))
theorem bI.chk {X:Cx}{sc:Scope}(hk:sc.kind = .function)(h:DO sc X.env.scope.names=true):bI X sc:=by
 have a:=pM.mp h;refine#[hk,λy hy e=>?_,λy hy e=>?_,λy hy e=>?_]
 .have q:=a y hy;rw[e] at q;simp at q
 .have q:=a y hy;rw[e] at q
  simpa using q
 .have q:=a y hy;rw[e] at q;have q':X.env.scope.names.lookup y.1=some .cell∨X.env.scope.names.lookup y.1=some .free:=by simpa using q
  exact q'
noncomputable def cb (n:Nat)(js:List Nat)(σ:St):St:=bS n none++js.map λj=>(σ[j]?).join
theorem Caps.len {X:Cx}{sc:Scope}:∀{cap:List Str} {js:List Nat},Caps X sc cap js->cap.length=js.length
 | _,_,.nil=>rfl
 | _,_,.cons _ _ _ c=>by rw[aK,aK,c.len]
theorem Caps.get {X:Cx}{sc:Scope}:∀{cap:List Str} {js:List Nat},Caps X sc cap js->∀{i:Nat} {x:Str},cap[i]?=some x →
  ∃j,js[i]?=some j/\X.N[j]?=some x/\(X.env.kindOf x=some .cell∨X.env.kindOf x=some .free)/\((pN sc X.env).names.lookup x=some .cell∨(pN sc X.env).names.lookup x=some .free)
 | _,_,.nil,i,x,e=>by simp at e
 | _,_,.cons hj hk hr c,0,x,e=>by
  rw[lC] at e;cases e;exact#[1,hj,hk,hr]
 | _,_,.cons hj hk hr c,i+1,x,e=>by
  rw[dX] at e;obtain⟨j,h1,h2⟩:=c.get e;exact#[j,by rw[dX];exact h1,h2]
theorem FO {X:Cx}{sc:Scope}{own cap:List Str}{js:List Nat}{σ:St}(C:Caps X sc cap js):(cb own.length js σ).length=(own++cap).length:=by
 unfold cb;rw[aS,lW,aw,aS,C.len]
theorem tV {n:Nat}{js:List Nat}{σ:St}{i:Nat}{v:V}(e:(cb n js σ)[i]?=some (some v)):n<=i/\∃j,js[i-n]?=some j/\σ[j]?=some (some v):=by
 unfold cb at e
 by_cases h:i<n
 .rw[iU (by simpa using h),IV,if_pos h] at e;cases e
 .refine#[35];rw[eh (by rw[lW];lk),lW,bH] at e;cases q:js[i-n]? with
  | none=>rw[q] at e;cases e
  | some j =>
   rw[q] at e;have e':(σ[j]?).join=some v:=eQ e;refine#[j,05];cases z:σ[j]? with
   | none=>rw[z] at e';cases e'
   | some o =>
    rw[z] at e';have e2:o=some v:=e';rw[e2]
theorem xw {n:Nat}{js:List Nat}{σ σ2:St}(hd:σ2.drop n=(cb n js σ).drop n){i:Nat}{v:V}(e:(cb n js σ)[i]?=some (some v)):σ2[i]?=some (some v):=by
 have h:=(tV e).1;have q:(σ2.drop n)[i-n]?=((cb n js σ).drop n)[i-n]?:=by rw[hd]
 rw[qG,qG,show n+(i-n)=i by lk] at q;rw[q];exact e
noncomputable def PTs (X:Cx)(ifs:List Expr)(t:TT):Prop :=
 ∀(pins:List (Addr×Obj)) (s:Shared) (σ:St) (H:Hp) (Q:Bool->Hp->Prop),Inv X pins σ H s->t σ H Q →
  wpAny (model X.prog X.w) X.A (forIn ifs true λc r=>if r=true then do let ok <- isTrue c X.env (eval c X.env);pure (ForInStep.yield ok) else pure (ForInStep.yield r)) (TP X pins σ Q) X.xe s
noncomputable def vT:TT:=λ_ H Q=>Q true H
theorem cF {X:Cx}:PTs X [] vT:=λ_ _ _ H _ I h=>wpAny_tests_nil #[H,I,h]
theorem iK {X:Cx}{c:Expr}{t:TT}(hc:PT X c t):PTs X [c] t:=λpins s σ H Q I h=>wpAny_tests_one (hc pins s σ H Q I h)
theorem K6 {prog:aR}{w:World}{A:Around}{R:Result->Shared->Prop}{s:Shared}{elt tg iter:Expr}{ifs:List Expr}{scope:Scope}{pos:Pos}{it acc:Value}{env:Env}(I:Nat->Shared->Prop)
  (turn:∀n s,I n s->wpAny (model prog w) A (pyNext it) (λr s₁=>match r with
   | none=>R (.ok .next) s₁
   | some v=>wpAny (model prog w) A (Az tg it v) (λ_ s₀=>wpAny (model prog w) A (assign tg env v) (λ_ s₂ =>
     wpAny (model prog w) A (forIn ifs true λc r=>if r=true then do let ok <- isTrue c env (eval c env);pure (ForInStep.yield ok) else pure (ForInStep.yield r)) (λok s₃ =>
      if ok=true then wpAny (model prog w) A (eval elt env) (λx s₄ =>
       wpAny (model prog w) A (call (.builtin "list.append") [acc,x]) (λ_ s₅=>∃m,m<n/\I m s₅) (qQ (model prog w) A env λe s'=>R (.error e) s') s₄) (qQ (model prog w) A env λe s'=>R (.error e) s') s₃
      else ∃m,m<n/\I m s₃) (qQ (model prog w) A env λe s'=>R (.error e) s') s₂) (qQ (model prog w) A env λe s'=>R (.error e) s') s₀) (qQ (model prog w) A env λe s'=>R (.error e) s') s₁)
    (qQ (model prog w) A env λe s'=>R (.error e) s') s)
  (n:Nat) (h:I n s) :
  gi (model prog w) A (.compLoop (.ListComp elt [#[tg,iter,ifs,(0)]] scope pos) 0 it acc env) R s:=by
 refine codeAny_loop rfl I (λn s hI=>?_) n h;show wpAny _ A ((compTurn (.ListComp elt [#[tg,iter,ifs,(0)]] scope pos) 0 it acc env).onRaise (λx=>do noteFrame x env;theTreesLotGoes x)) _ _ s
 refine wpAny_noted ?_;rw[compTurn_list];refine ac (Jo (ac (dE (turn n s hI) (λr s₁ h₁=>?_) λ_ _ h'=>h')));cases r with
 | none=>exact aq h₁
 | some v =>
  refine ac (dE h₁ (λ_ s₀ h₀=>?_) λ_ _ h'=>h');refine ac (dE h₀ (λ_ s₂ h₂=>ac (dE h₂ (λok s₃ h₃=>?_) λ_ _ h'=>h')) λ_ _ h'=>h');cases ok with
  | false=>exact aq #[0,h₃]
  | true =>
   exact ac (ac (dE h₃ (λx s₄ h₄=>ac (dE h₄ (λ_ s₅ h₅=>aq (aq #[0,h₅])) λ_ _ h'=>h')) λ_ _ h'=>h'))
noncomputable def dP (J:It)(H1:Hp)(g:TG)(tt:TT)(te:TE)(n:Nat)(js:List Nat)(σ:St)(Q:VK):Prop:=∃W:Nat->Nat->List V->Hp->Prop,(∃m,W 0 m [] H1)/\∀i m ys H,W i m ys H →
 (J.stop i H/\ys.length<=aE/\∀p,H p=none->Q (.ref p) (upd H p (.lst ys))) ∨
 (J.go i H/\ys.length<=aE/\∃N:List V->Hp->Prop,(∀ys' H',N ys' H'->∃m',m'<m/\W (i+1) m' ys' H')/\∀x H',J.iF i H x H'->g x (cb n js σ) H' fun σ2 H2=>σ2.drop n=(cb n js σ).drop n/\tt σ2 H2 λb H3 =>
  if b=true then te σ2 H3 λy H4=>N (ys++[y]) H4 else N ys H3)
noncomputable def wH (wi:TI)(g:TG)(tt:TT)(te:TE)(n:Nat)(js:List Nat):TE:=fun σ H Q=>wi σ H λJ H1=>dP J H1 g tt te n js σ Q
section
variable {X:Cx}
theorem Vals.snoc {xs:List V}{us:List Value}{x:V}{u:Value}(r:Vals xs us)(q:RelV x u):Vals (xs++[x]) (us++[u]):=r.append (.cons q .nil)
theorem CJ {pins:List (Addr×Obj)}{σ:St}{H:Hp}{s s3:Shared}{sc:Scope}{own cap:List Str}{js:List Nat}{fp:List Addr}{C:Addr}{tn:Nat->Heap->Prop}{h₁:Heap}{tk:Nat}{m:Str->Option Value}(I:Inv X pins σ H s)(S:bI X sc)(cp:Caps X sc cap js)
  (hob:∀b∈fp,∃o,s.heap.get? b=some o/\∀v,o.data ≠ .cell v) (hf:∀b∈fp,FpOk X pins H b) (hC:s.heap.objs.size<=C) (hn:h₁.Ns C m) (old:∀b o,s.heap.get? b=some o->h₁.get? b=some o) :
  Inv (blk X (own++cap) sc fp s H C) [] (cb own.length js σ) H { s with heap:=h₁,toks:=tk }:=by
 have sub:∀x c,(clOf sc X.env.cells).lookup x=some c->X.env.cells.lookup x=some c:=yS sc.names [] (λx c e=>by simp at e);have has:∀x,((pN sc X.env).names.lookup x=some .cell∨(pN sc X.env).names.lookup x=some .free)->∃c,(clOf sc X.env.cells).lookup x=some c:=λx hx=>by
  have hm:=Re (env:=X.env) (l:=sc.names) (x:=x) S.cell hx;exact tw sc.names [] x (.inl #[hm,I.ok.has x (S.free _ hm rfl)])
 refine#[#[I.ok.mod,S.kind,I.ok.glob,I.ok.blt,hC,λx y c e1 e2=>I.ok.inj x y c (sub x c e1) (sub y c e2),has,(λx c e=>by cases e),I.ok.hd,I.ok.frames,.inl rfl,λb hb=>?_,I.bs,aV I.ok.bsz I.sz,λb o e hb=>?_,λb hb z=>?_,I.stack,I.tD],0,I.bare,Un.kept old,#[m,hn,λi x v h1 h2 h3=>?_],λx c e=>?_,I.hok.fresh hC,λx c e=>I.freeC x c (sub x c e),λp hp=>absurd (show p∈([]:List (Addr×Obj)) from hp) (by simp),I.hok.kept old,FO cp]
 .obtain⟨o,e,_⟩:=hob b hb;refine#[bB (b8 (aY e) hC),λx c e=>?_];exact (hf b hb).2.2.2.2.1 x c (sub x c e)
 .obtain⟨_,_,_,h4,_,_⟩:=hf b hb
  rcases h4 with z|z
  .exact I.ok.noex b o e z
  .exact absurd (b8 (aY e) (aV I.ok.bsz z)) (gw _)
 .obtain⟨_,h2,h3,_⟩:=hf b hb
  rcases aM.mp (I.j9 b z) with q|q
  .exact h2 q
  .exact h3 q
 .obtain⟨hni,j,hj,hv⟩:=tV h2;have h1':(own++cap)[i]?=some x:=h1;rw[eh hni] at h1';obtain⟨j',e1,e2,e3,e4⟩:=cp.get h1';rw[hj] at e1;cases e1;obtain⟨m0,hn0,hl0⟩:=I.loc;have vis:Vis X.env.scope x:=.inr e3;obtain⟨u,ru,lk⟩:=hl0 j x v e2 hv vis;refine#[u,ru,5]
  rcases lk with⟨k,_⟩|⟨k,c,ec,hc⟩
  .exfalso
   rcases e3 with q|q
   .rw[q] at k;cases k
   .rw[q] at k;cases k
  .obtain⟨c',ec'⟩:=has x e4;have q:=sub x c' ec';rw[ec] at q;cases q;exact .inr #[e4,c,ec',hc.keeps old]
 .obtain⟨v,z⟩:=I.cell x c (sub x c e);exact#[v,z.keeps old]
theorem x9 {pins pn:List (Addr×Obj)}{σ σ':St}{H H':Hp}{s s':Shared}{sc:Scope}{N':List Str}{fp:List Addr}{C D:Addr}{h':Heap}{ys:List V}{its:List Value}{nn:Nat}(I:Inv X pins σ H s)(J:Inv (blk X N' sc fp s H C) pn σ' H' s')
  (hf:∀b∈fp,FpOk X pins H b) (hC:s.heap.objs.size<=C) (hD:s.heap.objs.size<=D) (hDC:D≠C) (hn:H' D=none) (ho:s'.heap.get? D=some { cls:=.type "list",data:=.seq its.toArray nn }) (hz:ys.length<=aE) (rv:Vals ys its)
  (hs:eN C s'.heap h'):Inv X pins σ (upd H' D (.lst ys)) { s' with heap:=h' }:=by
 have u:Un (frs X.stack) fp H H' s.heap s'.heap:=J.base;have low:∀b o,s.heap.get? b=some o->b≠C/\b≠D:=λb o e=>#[bB (b8 (aY e) hC),bB (b8 (aY e) hD)];have kp:∀b o,b≠C->s'.heap.get? b=some o->h'.get? b=some o:=λb o hb e=>(hs.2 b hb).trans e;have u2:Un (frs X.stack) fp H (upd H' D (.lst ys)) s.heap h':=by
  refine#[λb o e n hb hx=>kp b o (low b o e).1 (u.keep b o e n hb hx),λb o e n hb hx=>?_,λb o e n hx=>?_,λb o e hx=>?_,λb xs e=>?_,λb o xs e=>?_,λb ps e=>?_]
  .obtain⟨sl,q⟩:=u.slot b o e n hb hx;exact#[sl,kp b _ (low b o e).1 q]
  .rw[aF (low b o e).2];exact u.free b o e n hx
  .obtain⟨o',q⟩:=u.there b o e hx;exact#[o',kp b _ (low b o e).1 q]
  .have q:=u.tups b xs e;rw[aF (a9 q hn)];exact q
  .have q:=u.frzs b o xs e;rw[aF (a9 q hn)];exact q
  .obtain⟨more,q⟩:=u.tbls b ps e;exact#[more,by rw[aF (a9 q hn)];exact q]
 have nC:H' C=none:=J.free;have hok:HOk X.prog X.w (upd H' D (.lst ys)) h':=λb o e=>by
  by_cases hb:b=D
  .subst hb;rw[aB] at e;cases e;exact#[hz,its,nn,rv,kp b _ hDC ho]
  .rw[aF hb] at e;refine (J.hok b o e).stay (λc v hc q=>kp c v ?_ q) (λc q=>?_) λc xs q=>?_
   .rintro rfl
    rcases hc with z|z
    .rw[<- z,nC] at e;cases e
    .rw[nC] at z;cases z
   .rw[aF (a9 q hn)];exact q
   .rw[aF (a9 q hn)];exact q
 have os:=J.os;have bare:=J.bare;obtain⟨hh,g,d,t,os'⟩:=s';obtain rfl:os'=s.os:=os;have z:=I.call (h':=h') (g':=g) (d':=d) (t':=t) (ch:=fp) u2 hok bare λb hb=>#[(hf b hb).2.2.2.1,(hf b hb).2.1,(hf b hb).2.2.2.2.1,(hf b hb).2.2.2.2.2];exact z
theorem vS {elt iter tg:Expr}{ifs:List Expr}{sc:Scope}{pos:Pos}{own cap:List Str}{js:List Nat}{g:TG}{tt:TT}{te:TE}{Qf:List V->Hp->Prop}{RR:Value->Addr->Result->Shared->Prop}{E:Value->Shared->Prop}
  {pins:List (Addr×Obj)} {σ:St} {H2:Hp} {s2:Shared} {it:Addr} {fp:List Addr} {tn:Nat->Heap->Prop} {J:It} {W:Nat->Nat->List V->Hp->Prop} {m0:Nat}
  (hc:X.calm=true) (S:bI X sc) (cp:Caps X sc cap js)
  (hg:∀fp s H C,PG (blk X (own++cap) sc fp s H C) tg g) (ht:∀fp s H C,PTs (blk X (own++cap) sc fp s H C) ifs tt) (he:∀fp s H C,PE (blk X (own++cap) sc fp s H C) elt te)
  (I2:Inv X pins σ H2 s2) (T:Turn X.prog X.w X.K tg J fp it tn) (st2:tn 0 s2.heap) (f2:∀b∈fp,FpOk X pins H2 b) (w0:W 0 m0 [] H2)
  (turn:∀i m ys H,W i m ys H->(J.stop i H/\ys.length<=aE/\Qf ys H) ∨
   (J.go i H/\ys.length<=aE/\∃N:List V->Hp->Prop,(∀ys' H',N ys' H'->∃m',m'<m/\W (i+1) m' ys' H')/\∀x H',J.iF i H x H'->g x (cb own.length js σ) H' fun σ2 H2=>σ2.drop own.length=(cb own.length js σ).drop own.length/\tt σ2 H2 λb H3 =>
    if b=true then te σ2 H3 λy H4=>N (ys++[y]) H4 else N ys H3))
  (hRR:∀D C H4 s4 pn ys its nn,s2.heap.objs.size<=D->s2.heap.objs.size<=C->D≠C->Inv (blk X (own++cap) sc fp s2 H2 C) pn (cb own.length js σ) H4 s4->H4 D=none->s4.heap.get? D=some { cls:=.type "list",data:=.seq its.toArray nn } →
   ys.length<=aE->Vals ys its->Qf ys H4->RR (.ref D) C (.ok .next) s4) :
  wpAny (model X.prog X.w) X.A (newList []) (λacc s₃=>wpAny (model X.prog X.w) X.A (newFunctionEnv sc X.env.globals (clOf sc X.env.cells) [] X.env.qual none .none (some X.env)) (λcenv s₄ =>
   gi (model X.prog X.w) X.A (.compStart (.ListComp elt [#[tg,iter,ifs,(0)]] sc pos) 0 (.ref it) acc { cenv with scope:=pN sc X.env }) (RR acc cenv.locals) s₄) E s₃) E s2:=by
 refine fA (wpAny_newFunctionEnv S.cell (by intro y hy;simp at hy) (λh₁ hns₁ hsb₁=>?_) S.kind);dsimp only at hns₁ hsb₁ ⊢;generalize hH2:s2.heap.push { cls:=.type "list",dict:=none,data:=.seq ([]:List Value).toArray }=HH at hns₁ hsb₁ ⊢;generalize hDd:s2.heap.objs.size=D at hns₁ hsb₁ ⊢;generalize hCc:HH.objs.size=C at hns₁ hsb₁ ⊢;have hC:C=D+1:=by rw[<- hCc,<- hH2,iz,hDd]
 have hDC:D≠C:=by rw[hC];exact bB (lp _)
 have hCle:s2.heap.objs.size<=C:=by rw[hDd,hC];exact gD _
 have hDle:s2.heap.objs.size<=D:=zZ hDd;have below:∀b,b<s2.heap.objs.size->b≠C/\b≠D:=λb hb=>#[bB (b8 hb hCle),bB (b8 hb hDle)];have old:∀b o,s2.heap.get? b=some o->h₁.get? b=some o:=λb o e=>hsb₁.extBut b o (below b (aY e)).1 (aW _ (hH2▸aW _ e));have q0:HH.get? D=some { cls:=.type "list",data:=.seq ([]:List Value).toArray 0 }:=by
  rw[<- hH2,<- hDd];exact bD _ rfl
 have hacc:h₁.get? D=some { cls:=.type "list",data:=.seq ([]:List Value).toArray 0 }:=hsb₁.extBut _ _ hDC (aW _ q0);have fpo:=T.obj 0 _ st2;have fplt:∀b∈fp,b<s2.heap.objs.size:=λb hb=>by obtain⟨o,e,_⟩:=fpo b hb;exact aY e
 have st3:tn 0 h₁:=T.keep 0 _ _ st2 λb hb o e=>old b o e;have I3:∀tk,Inv (blk X (own++cap) sc fp s2 H2 C) [] (cb own.length js σ) H2 { s2 with heap:=h₁,toks:=tk }:=λtk=>CJ (s3:=s2) (tn:=tn) I2 S cp fpo f2 hCle hns₁ old;have stkD:∀b,s2.heap.objs.size<=b->b∉frs X.stack:=λb hb hm=>by
  obtain⟨_,o,e,_⟩:=I2.stack.mem hm;exact absurd (b8 (aY e) hb) (gw _)
 have nD:H2 D=none:=I2.hok.fresh hDle;have stat:∀{pn:List (Addr×Obj)} {H':Hp},(∀p∈pn,p.1=D)->(∀b∈fp,H' b=none)->∀b∈fp,FpOk (blk X (own++cap) sc fp s2 H2 C) pn H' b:=λ{pn H'} hp hn b hb=>by
  refine#[hn b hb,(below b (fplt b hb)).1,λz=>?_,.inl hb,λx c e=>?_,λp hp' z=>?_]
  .obtain⟨_,h2,h3,_⟩:=f2 b hb
   rcases aM.mp (I2.j9 b z) with q|q
   .exact h2 q
   .exact h3 q
  .exact (f2 b hb).2.2.2.2.1 x c (yS sc.names [] (λx c e=>by simp at e) x c e)
  .have e:=hp p (by simpa [blk] using hp');rw[e] at z;exact (below b (fplt b hb)).2 z.symm
 have pinD:∀{H':Hp} {s':Shared} {o:Obj},Inv (blk X (own++cap) sc fp s2 H2 C) [] (cb own.length js σ) H' s'->H' D=none->s'.heap.get? D=some o->(∀v,o.data ≠ .cell v)->Inv (blk X (own++cap) sc fp s2 H2 C) [(D,o)] (cb own.length js σ) H' s':=λ{H' s' o} I' n e d =>
  I'.uE λp hp=>by
   have q:p=(D,o):=(by simpa using hp);subst q;exact#[e,n,hDC,stkD D hDle,d]
 have loop:∀s₃:Shared,s₃={ s2 with heap:=h₁,toks:=s2.toks+([]:List (Str×Value)).length } →
   gi (model X.prog X.w) X.A (.compLoop (.ListComp elt [#[tg,iter,ifs,(0)]] sc pos) 0 (.ref it) (.ref D) (compEnvC sc (clOf sc X.env.cells) C X.env)) (RR (.ref D) C) s₃:=by
  rintro s₃ rfl;refine K6 (λk s'=>Ex5 λi ys its nn H'=>Inv (blk X (own++cap) sc fp s2 H2 C) [] (cb own.length js σ) H' s'/\tn i s'.heap/\(∀b∈fp,H' b=none)/\H' D=none /\
   s'.heap.get? D=some { cls:=.type "list",data:=.seq its.toArray nn }/\Vals ys its/\W i k ys H') ?_ m0 #[(0),[],[],(0),H2,I3 _,st3,λb hb=>(f2 b hb).1,nD,hacc,.nil,w0]
  rintro k s3 ⟨i,ys,its,nn,H3,I3,st3,fr3,d3,o3,rv3,w3⟩;have I3':=pinD I3 d3 o3 (λv z=>by cases z);have only:∀p∈[(D,({ cls:=.type "list",data:=.seq its.toArray nn }:Obj))],p.1=D:=λp hp=>by
   rw[aX.mp hp]
  rcases turn i k ys H3 w3 with⟨stop,hz,qn⟩|⟨go,hz,N,hN,step⟩
  .refine dE (T.done (blk X (own++cap) sc fp s2 H2 C) rfl rfl rfl hc i _ s3 _ H3 (λ_ _=>False) I3' (stat only fr3) st3 stop) (λr s4 #[hr,I4]=>?_) λ_ _ z=>z.elim;subst hr;have o4:=(I4.pin (D,_) (fG _ (aX.mpr rfl))).1;exact hRR D C H3 s4 _ ys its nn hDle hCle hDC I4 d3 o4 hz rv3 qn
  .refine dE (T.item (blk X (own++cap) sc fp s2 H2 C) rfl rfl rfl hc i _ s3 _ H3 (λ_ _=>False) I3' (stat only fr3) st3 go) (λr s4 #[u,hr,h4]=>?_) λ_ _ z=>z.elim;subst hr;refine dE h4 (λ_ s5 #[x,H5,I5,r5,y5,st5,fr5]=>?_) λ_ _ z=>z.elim;have I5':=I5.pinned (stat only fr5) (T.obj _ _ st5);refine dE (hg fp s2 H2 C _ s5 _ H5 x u _ I5' r5 (step x H5 y5)) (λ_ s6 #[σ6,H6,I6,d6,q6]=>?_) λ_ _ z=>z.elim;refine dE (ht fp s2 H2 C _ s6 σ6 H6 _ I6 q6) (λok s7 #[H7,I7,q7]=>?_) λ_ _ z=>z.elim;have memD:∀{o:Obj},(D,o)∈(blk X (own++cap) sc fp s2 H2 C).pn++([(D,o)]++rk fp s5.heap):=fG _ (fL _ (aX.mpr rfl));have memF:∀{b:Addr} {o o':Obj},b∈fp->s5.heap.get? b=some o->(b,o)∈(blk X (own++cap) sc fp s2 H2 C).pn++([(D,o')]++rk fp s5.heap):=λhb e=>fG _ (fG _ (Fb hb e));have σlen:(cb own.length js σ).length=σ6.length:=by
    have a:=I6.len;have b:=I5.len;exact b.trans a.symm
   cases ok with
   | false =>
    have q7':N ys H7:=q7;obtain⟨m',hm,w7⟩:=hN _ _ q7';refine#[m',hm,i+1,ys,its,nn,H7,(I7.uE λp hp=>absurd hp (by simp)).weak σlen (λj v e=>xw d6 e),T.keep _ _ _ st5 λb hb o e=>(I7.pin (b,o) (memF hb e)).1,λb hb=>?_,(I7.pin (D,_) memD).2.1,(I7.pin (D,_) memD).1,rv3,w7];obtain⟨o,e,_⟩:=T.obj _ _ st5 b hb;exact (I7.pin (b,o) (memF hb e)).2.1
   | true =>
    have q7':te σ6 H7 λy H4=>N (ys++[y]) H4:=q7;refine dE (he fp s2 H2 C _ s7 σ6 H7 _ I7 q7') (λyv s8 #[y,H8,I8,r8,n8']=>?_) λ_ _ z=>z.elim;obtain⟨m',hm,w8⟩:=hN _ _ n8';have o8:=(I8.pin (D,_) memD).1;have n8:=(I8.pin (D,_) memD).2.1;refine append_at (hsz:=by rw[a7,<- rv3.length];exact hz) o8 λh9 hs9 hD9=>?_;have I8':=(I8.uE (pins':=[]) λp hp=>absurd hp (by simp)).weak σlen (λj v e=>xw d6 e);have I9:=I8'.turned (h':=h9) (t':=s8.toks) (it:=D) (λb o hb e=>(hs9.2 b hb).trans e) n8 hDC (.inr hDle) (λx c e z=>by
     obtain⟨v,q⟩:=I2.cell x c (yS sc.names [] (λx c e=>by simp at e) x c e);exact absurd (b8 q.lt (by rw[z];exact hDle)) (gw _)) (λp hp=>absurd (show p∈([]:List (Addr×Obj)) from hp) (by simp))
    refine#[m',hm,i+1,ys++[y],its++[yv],nn+1,H8,I9,T.keep _ _ _ st5 λb hb o e=>(hs9.2 b (below b (fplt b hb)).2).trans (I8.pin (b,o) (memF hb e)).1,λb hb=>?_,n8,5,rv3.snoc r8,w8]
    .obtain⟨o,e,_⟩:=T.obj _ _ st5 b hb;exact (I8.pin (b,o) (memF hb e)).2.1
    .rw[hD9,List.push_toArray]
 exact codeAny_compStart_list (loop _ rfl) (T.self X.A 0 _ _ _ st3 (loop _ rfl))
theorem cB {elt iter tg:Expr}{ifs:List Expr}{sc:Scope}{pos:Pos}{own cap:List Str}{js:List Nat}{wi:TI}{g:TG}{tt:TT}{te:TE}(hc:X.calm=true)(S:bI X sc)(cp:Caps X sc cap js)(hi:PI X tg iter wi)
  (hg:∀fp s H C,PG (blk X (own++cap) sc fp s H C) tg g) (ht:∀fp s H C,PTs (blk X (own++cap) sc fp s H C) ifs tt) (he:∀fp s H C,PE (blk X (own++cap) sc fp s H C) elt te)
  (hs:∀x,Lw iter X.env x=pure x:=by intro _;rfl):PE X (.ListComp elt [#[tg,iter,ifs,(0)]] sc pos) (wH wi g tt te own.length js):=by
 intro pins s σ H Q I h;rw[eval_ListComp];refine Ui (use:=none) rfl hs (vn λy hy hf=>I.ok.has y.1 (S.free y hy hf)) S.kind S.names (thn (hi pins s σ H _ I h) λv s1 h1=>thn h1 λitv s2 h2=>?_);obtain⟨it,fp,tn,J,H2,e,I2,T,st2,f2,W,⟨m0,w0⟩,turn⟩:=h2;subst e;refine vS (RR:=λacc C=>compPost (model X.prog X.w) X.A X.xe none (EP X pins σ Q) acc C) (Qf:=λys H=>∀p,H p=none->Q (.ref p) (upd H p (.lst ys))) hc S cp hg ht he I2 T st2 f2 w0 turn ?_;intro D C H4 s4 pn ys its nn hD hC hDC I4 n4 o4 hz rv q;obtain⟨m,hn,_⟩:=I4.loc;exact#[m,hn,λh' hs'=>#[.ref D,upd H4 D (.lst ys),x9 I2 I4 f2 hC hD hDC n4 o4 hz rv hs',0,q D n4]]
end
noncomputable def Its (x:Str):It:=#[λi _=>i<x.cps.size,λi H v H'=>H'=H/\∃c,x.cps[i]?=some c/\v = .str #[(yA [c])],λi _=>i=x.cps.size]
section
variable {X:Cx}{tg:Expr}
noncomputable def iStr (tl:TE):TI:=fun σ H R=>tl σ H λv H1=>∃x,v = .str x/\R (Its x) H1
theorem So {P:aR}{w:World}{K:ah}{tg:Expr}{ty:String}(x:Str)(t:Tok)(it:Addr)(hty:["enumerate","zip","dict_itemiterator","dict_reverseitemiterator","odict_iterator","itertools.zip_longest","itertools.pairwise"].contains ty=false)
  (W:∀A:Around,A.handled=none->Walks P w A it [it] [it] x.cps.size (SignAt x) (λi h=>h.IsStrIter it ty x t i))
  (hself:∀(A:Around) (i:Nat) (s:Shared) (Q:Value->Shared->Prop) (E:Value->Shared->Prop),s.heap.IsStrIter it ty x t i->Q (.ref it) s->wpAny (model P w) A (pyIter (.ref it)) Q E s) :
  Turn P w K tg (Its x) [it] it (λi h=>h.IsStrIter it ty x t i) where
 mem:=by simp
 obj:=λi h st b hb=>by
  have e:b=it:=by simpa using hb
  subst e;obtain⟨o,e,c,d⟩:=st;exact#[o,e,λv z=>by rw[d] at z;cases z]
 keep:=λi h h' st k=>by
  obtain⟨o,e,r⟩:=st;exact#[o,k it (by simp) o e,r]
 item:=by
  intro X hP hw hK hc i pins s σ H E I hf st hg;subst hP hw hK;obtain⟨f0,f1,f2,f3,f4,f5⟩:=hf it (by simp);refine (W X.A (I.ok.hd hc)).item i s _ _ hg st λv h' tk hv st' kk=>?_;obtain⟨c,u,hcx,rfl⟩:=hv;have I1:Inv X pins σ H { s with heap:=h',toks:=tk }:=I.turned (λb o hb e=>kk b o (by simpa using hb) e) f0 f1 f3 f4 f5;obtain⟨o,e,c',d⟩:=id st';exact#[1,gS (s:={ s with heap:=h',toks:=tk }) e c' d hty #[.str #[(yA [c])],H,I1,#[u,0],#[0,c,hcx,0],st',λb hb=>(hf b hb).1]]
 done:=by
  intro X hP hw hK hc i pins s σ H E I hf st hg;subst hP hw hK;obtain⟨f0,f1,f2,f3,f4,f5⟩:=hf it (by simp);have le:i=x.cps.size:=hg;subst le;exact (W X.A (I.ok.hd hc)).done s _ _ st λh' tk kk=>#[0,I.turned (λb o hb e=>kk b o (by simpa using hb) e) f0 f1 f3 f4 f5]
 self:=hself
theorem xK {l:Expr}{tl:TE}(hl:PE X l tl):PI X tg l (iStr tl):=by
 intro pins s σ H R I h;refine thn (hl pins s σ H _ I h) λv s1 #[y,H1,I1,r1,q1]=>?_;obtain⟨x,e,q⟩:=q1;subst e;obtain⟨t,rfl⟩:=r1;have fp:∀b∈[s1.heap.objs.size],FpOk X pins H1 b:=λb hb=>by
  have e:b=s1.heap.objs.size:=by simpa using hb
  subst e;exact I1.fpOk (az _) (I1.hok.fresh (az _))
 cases ha:x.cps.all (· < 128)
 .refine wpAny_pyIter_wide ha ?_;exact#[s1.heap.objs.size,[s1.heap.objs.size],_,Its x,H1,0,I1.kept (t':=s1.toks) λb o e=>aW _ e,So x t _ (by decide) (λA hA=>Walks.strWide hA _ x t) (λA i s Q E st h=>wpAny_pyIter_striter_wide st h),#[_,bD _ rfl,00],fp,q]
 .refine wpAny_pyIter_ascii ha ?_;exact#[s1.heap.objs.size,[s1.heap.objs.size],_,Its x,H1,0,I1.kept (t':=s1.toks) λb o e=>aW _ e,So x t _ (by decide) (λA hA=>Walks.strAscii hA _ x t) (λA i s Q E st h=>wpAny_pyIter_striter_ascii st h),#[_,bD _ rfl,00],fp,q]
end
theorem uA {J:It}{len:Nat}{x:Nat->V}{H1:Hp}{g:TG}{tt:TT}{te:TE}{n:Nat}{js:List Nat}{σ:St}{Q:VK}(Pv:Nat->List V->Hp->Prop)(hgo:∀i ys H,Pv i ys H->i<len->J.go i H)(hst:∀ys H,Pv len ys H->J.stop len H)
  (hy:∀i ys H v H',Pv i ys H->i<len->J.iF i H v H'->H'=H/\v=x i) (h0:Pv 0 [] H1) (hz:∀i ys H,Pv i ys H->ys.length<=aE)
  (hs:∀i ys H,i<len->Pv i ys H->g (x i) (cb n js σ) H fun σ2 H2=>σ2.drop n=(cb n js σ).drop n/\tt σ2 H2 λb H3=>if b=true then te σ2 H3 λy H4=>Pv (i+1) (ys++[y]) H4 else Pv (i+1) ys H3)
  (hd:∀ys H,Pv len ys H->∀p,H p=none->Q (.ref p) (upd H p (.lst ys))):dP J H1 g tt te n js σ Q:=by
 refine#[λi m ys H=>m=len-i/\i<=len/\Pv i ys H,#[len,by simp,ba _,h0],5];rintro i m ys H ⟨rfl,hi,p⟩
 by_cases hlt:i<len
 .refine .inr #[hgo i ys H p hlt,hz i ys H p,Pv (i+1),λys' H' p'=>#[len-(i+1),30,hlt,p'],λv H' y=>?_];obtain⟨e,ev⟩:=hy i ys H v H' p hlt y;subst e ev;exact hs i ys _ hlt p
 .have e:i=len:=by lk
  subst e;exact .inl #[hst ys H p,hz _ ys H p,hd ys H p]
theorem E1 {t:Str}{H1:Hp}{g:TG}{tt:TT}{te:TE}{n:Nat}{js:List Nat}{σ:St}{Q:VK}(Pv:Nat->List V->Hp->Prop)(h0:Pv 0 [] H1)(hz:∀i ys H,Pv i ys H->ys.length<=aE)
  (hs:∀i c ys H,t.cps[i]?=some c->Pv i ys H->g (.str #[(yA [c])]) (cb n js σ) H fun σ2 H2=>σ2.drop n=(cb n js σ).drop n/\tt σ2 H2 λb H3=>if b=true then te σ2 H3 λy H4=>Pv (i+1) (ys++[y]) H4 else Pv (i+1) ys H3)
  (hd:∀ys H,Pv t.cps.size ys H->∀p,H p=none->Q (.ref p) (upd H p (.lst ys))):dP (Its t) H1 g tt te n js σ Q:=by
 refine uA (len:=t.cps.size) (x:=λi=>.str #[(yA [t.cps.getD i 0])]) Pv (λi ys H _ h=>h) (λys H _=>rfl) (λi ys H v H' _ hlt y=>?_) h0 hz (λi ys H hlt p=>?_) hd
 .obtain⟨e,c,hc,ev⟩:=y;refine#[e,5];rw[ev,O7,hc];rfl
 .have hc:t.cps[i]?=some (t.cps.getD i 0):=by
   rw[O7,gO hlt];rfl
  exact hs i _ ys H hc p
theorem cZ {K:ah}{a:Addr}{xs:List V}{H1:Hp}{g:TG}{tt:TT}{te:TE}{n:Nat}{js:List Nat}{σ:St}{Q:VK}(Pv:Nat->List V->Hp->Prop)(hl:∀i ys H,Pv i ys H->SqL K H a xs)(h0:Pv 0 [] H1)(hz:∀i ys H,Pv i ys H->ys.length<=aE)
  (hs:∀i x ys H,xs[i]?=some x->Pv i ys H->g x (cb n js σ) H fun σ2 H2=>σ2.drop n=(cb n js σ).drop n/\tt σ2 H2 λb H3=>if b=true then te σ2 H3 λy H4=>Pv (i+1) (ys++[y]) H4 else Pv (i+1) ys H3)
  (hd:∀ys H,Pv xs.length ys H->∀p,H p=none->Q (.ref p) (upd H p (.lst ys))):dP (Itl K a) H1 g tt te n js σ Q:=by
 refine uA (len:=xs.length) (x:=λi=>xs.getD i .non) Pv (λi ys H p hlt=>#[xs,xs[i],hl i ys H p,by simp[hlt]]) (λys H p=>#[xs,hl _ ys H p,az _]) (λi ys H v H' p hlt y=>?_) h0 hz (λi ys H hlt p=>?_) hd
 .obtain⟨e,y⟩:=y;refine#[e,5];rw[cJ,y xs (hl i ys H p)];rfl
 .refine hs i _ ys H ?_ p;rw[cJ,cA hlt];rfl
theorem mL {K:ah}{a:Addr}{xs:List V}{H1:Hp}{g:TG}{tt:TT}{te:TE}{n:Nat}{js:List Nat}{σ:St}{Q:VK}(Pv:Nat->List V->Hp->Prop)(hl:∀i ys H,Pv i ys H->SqT K H a xs)(h0:Pv 0 [] H1)(hz:∀i ys H,Pv i ys H->ys.length<=aE)
  (hs:∀i x ys H,xs[i]?=some x->Pv i ys H->g x (cb n js σ) H fun σ2 H2=>σ2.drop n=(cb n js σ).drop n/\tt σ2 H2 λb H3=>if b=true then te σ2 H3 λy H4=>Pv (i+1) (ys++[y]) H4 else Pv (i+1) ys H3)
  (hd:∀ys H,Pv xs.length ys H->∀p,H p=none->Q (.ref p) (upd H p (.lst ys))):dP (Itt K a) H1 g tt te n js σ Q:=by
 refine uA (len:=xs.length) (x:=λi=>xs.getD i .non) Pv (λi ys H p hlt=>#[xs,xs[i],hl i ys H p,by simp[hlt]]) (λys H p=>#[xs,hl _ ys H p,az _]) (λi ys H v H' p hlt y=>?_) h0 hz (λi ys H hlt p=>?_) hd
 .obtain⟨e,y⟩:=y;refine#[e,5];rw[cJ,y xs (hl i ys H p)];rfl
 .refine hs i _ ys H ?_ p;rw[cJ,cA hlt];rfl
theorem jZ {lo:Int}{len:Nat}{H1:Hp}{g:TG}{tt:TT}{te:TE}{n:Nat}{js:List Nat}{σ:St}{Q:VK}(Pv:Nat->List V->Hp->Prop)(h0:Pv 0 [] H1)(hz:∀i ys H,Pv i ys H->ys.length<=aE)
  (hs:∀i ys H,i<len->Pv i ys H->g (.int (lo+i)) (cb n js σ) H fun σ2 H2=>σ2.drop n=(cb n js σ).drop n/\tt σ2 H2 λb H3=>if b=true then te σ2 H3 λy H4=>Pv (i+1) (ys++[y]) H4 else Pv (i+1) ys H3)
  (hd:∀ys H,Pv len ys H->∀p,H p=none->Q (.ref p) (upd H p (.lst ys))):dP (Itr lo len) H1 g tt te n js σ Q :=
 uA (len:=len) (x:=λi=>.int (lo+i)) Pv (λi ys H _ h=>h) (λys H _=>az _) (λi ys H v H' _ hlt y=>y) h0 hz (λi ys H hlt p=>hs i ys H hlt p) hd
section
variable {X:Cx}
noncomputable def rSlS:V->Option Int->Option Int->Hp->VK->Prop:=λx lo hi H Q=>∃t,x = .str t/\t.length<=aE/\∀t',t'=rQ t lo hi->t'.length<=t.length->Q (.str t') H
theorem uT:SlR X rSlS:=by
 intro pins s σ H x v vl vu lo hi sl Q I rx hs pl pu h;obtain⟨t,rfl,hz,q⟩:=h;obtain⟨tk,rfl⟩:=rx;have fin:∀{l u:Option (Int×Tok)},l.map (·.1)=lo->u.map (·.1)=hi->(∀k t',EP X pins σ Q (.str (rQ t (l.map (·.1)) (u.map (·.1))) t') { s with toks:=k }):=λ{l u} e1 e2 k t' =>
  #[.str _,H,I.tok k,#[t',0],by rw[e1,e2];exact q _ rfl (PyProof.Txt.length_slice_le t _ _)]
 refine#["str",_,F.slot_str_getitem.lookup,rX _ _ _,5];cases pl with
 | none =>
  cases pu with
  | none=>exact zt (l:=none) (u:=none) (st:=none) hs rfl (yW #[aV (zU t _ _) hz,λt' k=>fin (l:=none) (u:=none) rfl rfl k t'])
  | int j tj=>exact zt (l:=none) (u:=some (j,tj)) (st:=none) hs rfl (yW #[aV (zU t _ _) hz,λt' k=>fin (l:=none) (u:=some (j,tj)) rfl rfl k t'])
 | int i ti =>
  cases pu with
  | none=>exact zt (l:=some (i,ti)) (u:=none) (st:=none) hs rfl (yW #[aV (zU t _ _) hz,λt' k=>fin (l:=some (i,ti)) (u:=none) rfl rfl k t'])
  | int j tj=>exact zt (l:=some (i,ti)) (u:=some (j,tj)) (st:=none) hs rfl (yW #[aV (zU t _ _) hz,λt' k=>fin (l:=some (i,ti)) (u:=some (j,tj)) rfl rfl k t'])
theorem yN:∀{bs:List Bool} {us:List Value},Vals (bs.map V.bl) us->us=bs.map Value.bool
 | [],us,r=>by rw[gU] at r;cases r;rfl
 | b::bs,us,r=>by
  rw[bp] at r;cases r with
  | cons r1 r2=>rw[bp,yN r2,show _=Value.bool b from r1]
theorem oO (hc:X.calm=true):di X (.builtin "all") (λxs H Q=>Ex2 λ(a:Addr) (bs:List Bool)=>xs=[.ref a]/\SqL X.K H a (bs.map V.bl)/\Q (.bl (bs.all id)) H):=by
 intro pins s σ H xs us Q I r h;obtain⟨a,bs,rfl,hq,q⟩:=h;obtain⟨u,rfl,ru⟩:=vals1 r;cases ru;obtain⟨its,rv,p,hz⟩:=I.list hq;have e:=yN rv;have hlt:a<s.heap.objs.size:=by obtain⟨o,n,e,_⟩:=p;exact aY e
 refine call_all_walk (wJ p.isList ?_);refine#[s.heap.objs.size,_,_,_,_,_,λi=>bs.getD i true,0,AY (show X.A.in1.handled=none from I.ok.hd hc) s.heap.objs.size a (bB hlt) its.toArray,#[#[_,bD _ rfl,00],p.isList.push _],55]
 .intro i v s' Q' E' hP hQ;have hP':its[i]?=some v:=by simpa using hP
  rw[e,bH] at hP';cases z:bs[i]? with
  | none=>rw[z] at hP';cases hP'
  | some b =>
   rw[z] at hP';have ev:Value.bool b=v:=eQ hP';subst ev;have hQ':Q' (bs.getD i true) s':=hQ;rw[cJ,z] at hQ';exact ie hQ'
 .intro h' tk kk;refine#[.bl _,H,I.kept (t':=tk) λb o e=>kk b o (λz=>?_) (aW _ e),5,q]
  .have z':b=s.heap.objs.size:=by simpa using z
   exact absurd (aY e) (by rw[z'];exact gw _)
  .show Value.bool _=Value.bool _
   congr 1
   rw[a7,e,aw];have go:∀l:List Bool,(gM l.length).all (λi=>l.getD i true)=l.all id:=λl=>by
    have q:=range_getD l true;have e2:((gM l.length).map λj=>l.getD j true).all id=(gM l.length).all λi=>l.getD i true:=by
     rw[List.all_map];rfl
    rw[<- e2,q]
   exact go bs
theorem fu:di X (.builtin "isinstance") (λxs H Q=>Ex4 λx c t b=>xs=[x,c]/\TyOf X.K H x t/\((∃n,c = .ty n/\ce X.K t (.type n)=some b)∨(∃a,c = .ref a/\ce X.K t (.ref a)=some b))/\Q (.bl b) H):=by
 intro pins s σ H xs us Q I r h;obtain⟨x,c,t,b,rfl,ty,hc,q⟩:=h;obtain⟨u,u',rfl,r1,r2⟩:=vals2 r
 rcases hc with⟨n,rfl,e⟩|⟨a,rfl,e⟩
 .cases (show u'=Value.type n from r2);exact wB I r1 ty e λtk=>#[.bl b,H,I.tok tk,0,q]
 .cases (show u'=Value.ref a from r2);exact wB I r1 ty e λtk=>#[.bl b,H,I.tok tk,0,q]
mutual
inductive DV (K:ah)(H:Hp):V->PyData->Prop where
 | non:DV K H .non .none
 | bl (b:Bool):DV K H (.bl b) (.bool b)
 | int (i:Int):DV K H (.int i) (.int i)
 | str (x:Str):DV K H (.str x) (.str x)
 | lst {a:Addr} {xs:List V} {ds:List PyData}:SqL K H a xs->DVs K H xs ds->DV K H (.ref a) (.list ds)
 | tup {a:Addr} {xs:List V} {ds:List PyData}:SqT K H a xs->DVs K H xs ds->DV K H (.ref a) (.tuple ds)
inductive DVs (K:ah)(H:Hp):List V->List PyData->Prop where
 | nil:DVs K H [] []
 | cons {x:V} {d:PyData} {xs:List V} {ds:List PyData}:DV K H x d->DVs K H xs ds->DVs K H (x::xs) (d::ds)
end
mutual
theorem DV.reads {pins:List (Addr×Obj)}{σ:St}{H:Hp}{s:Shared}(I:Inv X pins σ H s):∀{x:V} {d:PyData} {u:Value},DV X.K H x d->RelV x u->∃as,Reads s.heap u d as
 | _,_,_,.non,r=>by cases r;exact#[_,.none]
 | _,_,_,.bl b,r=>by cases r;exact#[_,.bool b]
 | _,_,_,.int i,r=>by obtain⟨t,rfl⟩:=r;exact#[_,.int i t]
 | _,_,_,.str x,r=>by obtain⟨t,rfl⟩:=r;exact#[_,.str x t]
 | _,_,_,.lst hq hs,r=>by
  cases r;obtain⟨its,rv,⟨o,n,e,c,_,d⟩,_⟩:=I.list hq;obtain⟨as,q⟩:=hs.reads I rv;exact#[_,.list e c d (by simpa using q)]
 | _,_,_,.tup hq hs,r=>by
  cases r;obtain⟨its,rv,⟨o,e,c,n,d⟩,_⟩:=I.tuple hq;obtain⟨as,q⟩:=hs.reads I rv;exact#[_,.tuple e c d (by simpa using q)]
theorem DVs.reads {pins:List (Addr×Obj)}{σ:St}{H:Hp}{s:Shared}(I:Inv X pins σ H s):∀{xs:List V} {ds:List PyData} {us:List Value},DVs X.K H xs ds->Vals xs us->∃as,ReadsAll s.heap us ds as
 | _,_,_,.nil,.nil=>#[_,.nil]
 | _,_,_,.cons h hs,.cons r rs=>by
  obtain⟨as,q⟩:=h.reads I r;obtain⟨bs,p⟩:=hs.reads I rs;exact#[_,.cons q p]
end
theorem Dh (hu:X.A.units+64<cLine):OpR X (cy .Eq) (λx y H Q=>Ex2 λd e=>DV X.K H x d/\DV X.K H y e/\dO d=true/\dO e=true/\Q (.bl (fX d e)) H):=by
 intro pins s σ H x y v u Q I rx ry h;obtain⟨d,e,hd,he,s1,s2,q⟩:=h;obtain⟨as,r1⟩:=hd.reads I rx;obtain⟨bs,r2⟩:=he.reads I ry;exact eq_dataH r1 r2 s1 s2 hu #[.bl _,H,I,0,q]
theorem sZ (hu:X.A.units+64<cLine):OpR X (cy .NotEq) (λx y H Q=>Ex2 λd e=>DV X.K H x d/\DV X.K H y e/\dO d=true/\dO e=true/\Q (.bl (!PyData.eqv d e)) H):=by
 intro pins s σ H x y v u Q I rx ry h;obtain⟨d,e,hd,he,s1,s2,q⟩:=h;obtain⟨as,r1⟩:=hd.reads I rx;obtain⟨bs,r2⟩:=he.reads I ry;exact ne_dataH r1 r2 s1 s2 hu #[.bl _,H,I,0,q]
end
end L2
namespace L2
open PySem PyProof.Rows
set_option genInjectivity false in
structure Gf (K:ah)(mg:Str->Option Value)(x q:Str)(st:Stmt) where
 f:Addr
 d:cP
 F:Fun K x q st f d
 m:mg x=some (.ref f)
set_option genInjectivity false in
structure Mf (K:ah)(C:Addr)(x q:Str)(st:Stmt) where
 f:Addr
 d:cP
 F:Fun K x q st f d
 M:Meth K C x f
set_option genInjectivity false in
structure If (K:ah)(C:Addr)(x q:Str)(st:Stmt) where
 f:Addr
 d:cP
 F:Fun K x q st f d
 M:Mk K C f
section
variable {K:ah}{mg:Str->Option Value}{h:Heap}{C f:Addr}{x q:Str}{st:Stmt}{oc:Value}{od an:Option Addr}{sl:Array (Option Value)}{kV dc pm cd ct:Value}
noncomputable def gf_of (X:K.In h)(G:h.Ns bv mg)(a:bW K bv x=some (some (.ref f)))
  (l:K.lookup f=some #[oc,od,.func (jD x q (lG st) (gA st) (aG st) .none kV dc pm an cd ct),sl]) (c:m4 K cd q=true) (k:jB K (.ref f)=true):Gf K mg x q st :=
 #[f,_,nG l c k,dJ X G a]
noncomputable def mf_of (a:cm K (.ref C) x=some (some (.ref f)))(i:uu K (.ref f)=true)
  (l:K.lookup f=some #[oc,od,.func (jD x q (lG st) (gA st) (aG st) .none kV dc pm an cd ct),sl]) (c:m4 K cd q=true) (k:jB K (.ref f)=true):Mf K C x q st :=
 #[f,_,nG l c k,#[a,i,k]]
noncomputable def if_of (a:cm K (.ref C) "__init__" = some (some (.ref f)))(i:uu K (.ref f)=true)
  (l:K.lookup f=some #[oc,od,.func (jD x q (lG st) (gA st) (aG st) .none kV dc pm an cd ct),sl]) (c:m4 K cd q=true) (k:jB K (.ref f)=true)
  (mk:IZ K C=true) (kc:jB K (.ref C)=true):If K C x q st :=
 #[f,_,nG l c k,#[mk,a,i,kc]]
theorem JV {fa:Addr}(g:Gf K mg x q st)(e:mg x=some (.ref fa)):g.f=fa:=by
 have z:=g.m.symm.trans e;injection z with z
 injection z
end
section
variable {P:aR}{w:World}{K:ah}{mg:Str->Option Value}{base:Heap}{C:Addr}{x q:Str}{st:Stmt}{N ps:List Str}{k:Nat}{sp:Sp}
theorem Gf.ok (g:Gf K mg x q st)(S:aQ N ps (aG st))
  (hb:∀(f:Addr) (cdv:Value) (A:Around) (outer:List Env) (s:Shared) (H:Hp) (vs:List V) (Q:VK) (E:XK),Room k (A.deeper (envOfC q (aG st) s.heap.objs.size f cdv))->sp vs H Q E->let X:=(cxOf CX0 P w K mg base N q (aG st) f cdv A outer s H E).nox;∃t,PSs X (gA st) t/\t { nx:=λ_ H'=>Q .non H',rt:=Q } (start N vs) H)
  (len:∀vs H Q E,sp vs H Q E->vs.length=ps.length:=by intro _ _ _ _ h;cases h;rename_i h;rw[h.1];rfl):FnOk P w K mg base CX0 (k+1) g.f g.d ps sp:=g.F.ok S len (hb g.f)
theorem Mf.ok (g:Mf K C x q st)(S:aQ N ps (aG st))
  (hb:∀(f:Addr) (cdv:Value) (A:Around) (outer:List Env) (s:Shared) (H:Hp) (vs:List V) (Q:VK) (E:XK),Room k (A.deeper (envOfC q (aG st) s.heap.objs.size f cdv))->sp vs H Q E->let X:=(cxOf CX0 P w K mg base N q (aG st) f cdv A outer s H E).nox;∃t,PSs X (gA st) t/\t { nx:=λ_ H'=>Q .non H',rt:=Q } (start N vs) H)
  (len:∀vs H Q E,sp vs H Q E->vs.length=ps.length:=by intro _ _ _ _ h;cases h;rename_i h;rw[h.1];rfl):FnOk P w K mg base CX0 (k+1) g.f g.d ps sp:=g.F.ok S len (hb g.f)
theorem If.ok (g:If K C x q st)(S:aQ N ps (aG st))
  (hb:∀(f:Addr) (cdv:Value) (A:Around) (outer:List Env) (s:Shared) (H:Hp) (vs:List V) (Q:VK) (E:XK),Room k (A.deeper (envOfC q (aG st) s.heap.objs.size f cdv))->sp vs H Q E->let X:=(cxOf CX0 P w K mg base N q (aG st) f cdv A outer s H E).nox;∃t,PSs X (gA st) t/\t { nx:=λ_ H'=>Q .non H',rt:=Q } (start N vs) H)
  (len:∀vs H Q E,sp vs H Q E->vs.length=ps.length:=by intro _ _ _ _ h;cases h;rename_i h;rw[h.1];rfl):FnOk P w K mg base CX0 (k+1) g.f g.d ps sp:=g.F.ok S len (hb g.f)
theorem FnOk.up {CX:CXT}{f:Addr}{d:cP}{m:Nat}(h:FnOk P w K mg base CX k f d ps sp)(le:k<=m:=by first|decide|lk):FnOk P w K mg base CX m f d ps sp:=h.mono le
end
theorem sz0:0<=aE:=by decide
theorem sz1:1<=aE:=by decide
theorem sz2:2<=aE:=by decide
theorem sz3:3<=aE:=by decide
theorem sz4:4<=aE:=by decide
theorem sz5:5<=aE:=by decide
theorem sz7:7<=aE:=by decide
theorem sz8:8<=aE:=by decide
noncomputable def scB (N P:List Str)(sc:Scope):Bool :=
 decide (sc.kind = .function)&&(!sc.isCoroutine&&(!sc.isGenerator&&(decide N.Nodup&&(decide (N.take P.length=P) &&
  (P.all (λx=>decide (sc.names.lookup x=some .local∨sc.names.lookup x=some .cell))&&sc.names.all λy=>decide (y.2 ≠ .free))))))
theorem scOf {N P:List Str}{sc:Scope}(h:scB N P sc=true):aQ N P sc:=by
 unfold scB at h;simp only[gz,Bool.not_eq_true',decide_eq_true_eq,pM] at h;obtain⟨a,b,c,d,e,f,g⟩:=h;exact#[a,b,c,d,e,f,g]
end L2
namespace L2
open PySem PySem.Spec PyProof.Rows
section
variable {X:Cx}
theorem qL:∀{ys:List Str} {us:List Value},Vals (ys.map V.str) us->iP us ys
 | [],us,r=>by rw[gU] at r;cases r;exact .nil
 | y::ys,us,r=>by
  rw[bp] at r;cases r with
  | cons r1 r2 =>
   obtain⟨t,e⟩:=r1;subst e;exact .cons y t (qL r2)
theorem uY:∀l:List (Str×Tok),Vals ((l.map (·.1)).map V.str) (strValues l)
 | []=>.nil
 | (x,t)::r=>.cons #[t,0] (uY r)
theorem im:MtR X "str.join" (λx xs H Q=>Ex3 λsep a ys=>x = .str sep/\xs=[.ref a]/\SqL X.K H a (ys.map V.str)/\(ys.map (·.length)).sum+ys.length*sep.length<=16777216/\Q (.str (aj sep ys)) H):=by
 intro pins s σ H x xs v us Q I rx rs h;obtain⟨sep,a,ys,rfl,rfl,hq,hz,q⟩:=h;obtain⟨t,rfl⟩:=rx;obtain⟨u,rfl,ru⟩:=vals1 rs;cases ru;obtain⟨its,rv,p,_⟩:=I.list hq;refine join_list (items:=its.toArray) (ys:=ys) p.isList (by simpa using qL rv) hz λt' k=>#[.str _,H,I.tok k,#[t',0],5];have e:Txt.join sep ys=aj sep ys:=by first|rfl|exact SE sep ys
 rw[e];exact q
theorem oM:MtR X "str.split" (λx xs H Q=>Ex2 λt y=>x = .str t/\xs=[.str y]/\(y.length==0)=false/\t.length+2<=aE/\∀l,H l=none->Q (.ref l) (upd H l (.lst ((eW t y).map V.str)))):=by
 intro pins s σ H x xs v us Q I rx rs h;obtain⟨x,y,rfl,rfl,hy,hsz,q⟩:=h;obtain⟨t,rfl⟩:=rx;obtain⟨u,rfl,ru⟩:=vals1 rs;obtain⟨tu,rfl⟩:=ru;have hn:(Av x (lz x y 0 x.length (x.length+1)) y.length).length<=aE:=by
  have e1:=StrLaws.occ_length_le x y 0 x.length (x.length+1);rw[length_partsBetween];lk
 have fin:∀(l:List (Str×Tok)) (k:Nat),l.map (·.1)=eW x y->l.length<=aE->EP X pins σ Q (.ref s.heap.objs.size) { s with heap:=s.heap.push { cls:=.type "list",data:=.seq (strValues l).toArray },toks:=k }:=λl k e hl=>by
  refine#[.ref s.heap.objs.size,upd H s.heap.objs.size (.lst ((eW x y).map V.str)),I.laid (t':=k) (λb o e=>aW _ e) (az _) #[5,strValues l,_,5,bD _ rfl],0,q _ (I.hok.fresh (az _))]
  .rw[<- e,aw,aw];exact hl
  .rw[<- e];exact uY l
 cases h1:(decide (x.length<y.length)||decide (zG x<zG y))
 .cases hf:(lz x y 0 x.length (x.length+1)).isEmpty
  .refine gL J2 (rX _ _ _) OX (GK _ _) (meets_str_split_sep x y t tu h1 hy hf (by lk) hn) ?_;show wants _ _ _ { s with toks:=_,heap:=s.heap.push { cls:=.type "list",data:=.seq (strsFrom s.toks (Av x (lz x y 0 x.length (x.length+1)) y.length)).toArray } }
   rw[strsFrom_eq];refine fin (numbered s.toks _) _ ((numbered_texts _ _).trans ((if_neg (ne_true_of_eq_false h1)).trans (if_neg (ne_true_of_eq_false hf))).symm) ?_;have e:=congrArg jA (numbered_texts s.toks (Av x (lz x y 0 x.length (x.length+1)) y.length));rw[aw] at e;lk
  .exact gL J2 (rX _ _ _) OX (GK _ _) (meets_str_split_not_found x y t tu h1 hy hf)
    (fin [(x,t)] s.toks ((if_neg (ne_true_of_eq_false h1)).trans (if_pos hf)).symm (by show 1<=aE;decide))
 .exact gL J2 (rX _ _ _) OX (GK _ _) (meets_str_split_cannot_occur x y t tu h1)
   (fin [(x,t)] s.toks (if_pos h1).symm (by show 1<=aE;decide))
theorem DA:di X (.type "str") (λxs H Q=>∃x,xs=[.str x]/\Q (.str x) H):=by
 intro pins s σ H xs us Q I r h;obtain⟨x,rfl,q⟩:=h;obtain⟨u,rfl,t,rfl⟩:=vals1 r;exact PySem.P.str_of_str #[.str x,H,I,#[t,0],q]
theorem Mi:di X (.type "int") (λxs H Q=>Ex2 λx n=>xs=[.str x]/\PySem.intText? x=some n/\x.length<=640/\Q (.int n) H):=by
 intro pins s σ H xs us Q I r h;obtain⟨x,n,rfl,hn,hl,q⟩:=h;obtain⟨u,rfl,t,rfl⟩:=vals1 r;exact PySem.W.KIN.call_text hn hl #[.int n,H,I.tok _,#[1],q]
theorem i5 {i:Nat}{x:Str}{elt iter tg:Expr}{ifs:List Expr}{sc:Scope}{pos spos pos':Pos}{own cap:List Str}{js:List Nat}{wi:TI}{g:TG}{tt:TT}{te:TE}(hN:X.N.Nodup)(hix:X.N[i]?=some x)(hx:Loc X.env.scope x)
  (hc:X.calm=true) (S:bI X sc) (cp:Caps X sc cap js) (hi:PI X tg iter wi)
  (hg:∀fp s H C,PG (blk X (own++cap) sc fp s H C) tg g) (ht:∀fp s H C,PTs (blk X (own++cap) sc fp s H C) ifs tt) (he:∀fp s H C,PE (blk X (own++cap) sc fp s H C) elt te)
  (hsw:sW (.ListComp elt [#[tg,iter,ifs,(0)]] sc pos) (some (.Name x pos')) spos.line X.env=pure true:=by rfl) (hs:∀x,Lw iter X.env x=pure x:=by intro _;rfl)
  (hf:autoParam (X.fn x=true∨X.env.scope.names.lookup x=some .local) aUC._auto_1) :
  PS X (.Assign [.Name x pos'] (.ListComp elt [#[tg,iter,ifs,(0)]] sc pos) spos) (tAsg (wH wi g tt te own.length js) (cL i)):=by
 intro pins s σ H D I h;rw[exec_Assign_Name_used _ _ _ _ hsw];refine ac (Jo (ac ?_));show wpAny _ X.A (do let _ <- comprehension (.ListComp elt [#[tg,iter,ifs,(0)]] sc pos) sc X.env _ (newList []) false (eval iter X.env) (some (assign (.Name x pos') X.env))) _ _ s
 refine ac (dE (Ui (use:=some (assign (.Name x pos') X.env)) (Q:=λ_ s'=>SP X pins D .next s') rfl hs (vn λy hy hf=>I.ok.has y.1 (S.free y hy hf)) S.kind S.names
  (thn (hi pins s σ H _ I h) λv s1 h1=>thn h1 λitv s2 h2=>?_)) (λ_ s' hq=>aq (aq hq)) λ_ _ e=>e)
 obtain⟨it,fp,tn,J,H2,e,I2,T,st2,f2,W,⟨m0,w0⟩,turn⟩:=h2;subst e;refine vS (RR:=λacc C=>compPost (model X.prog X.w) X.A X.xe (some (assign (.Name x pos') X.env)) (λ_ s'=>SP X pins D .next s') acc C) (Qf:=λys H=>∀p,H p=none->D.nx (σ.set i (some (.ref p))) (upd H p (.lst ys))) hc S cp hg ht he I2 T st2 f2 w0 turn ?_;intro DD C H4 s4 pn ys its nn hD hC hDC I4 n4 o4 hz rv q;have I5:Inv X pins σ (upd H4 DD (.lst ys)) s4:=x9 (h':=s4.heap) I2 I4 f2 hC hD hDC n4 o4 hz rv (Q0 ..);obtain⟨m,hn,_⟩:=I4.loc;have hn':s4.heap.Ns C m:=hn;show wpAny _ X.A (assign (.Name x pos') X.env (.ref DD)) _ _ s4
 refine wpAny_assign_Name (yF I5 hN hix hx (v:=.ref DD) (u:=.ref DD) rfl (λs6 I6 #[a,hsb,ha]=>?_) hf);have lt2:X.env.locals<s2.heap.objs.size:=I2.lt;have cellC:∀y c,X.env.cells.lookup y=some c->c≠C:=λy c e=>by
  obtain⟨v,z⟩:=I2.cell y c e;exact bB (b8 z.lt hC)
 have aC:C≠a:=by
  rcases ha with rfl|ha
  .exact ja (b8 lt2 hC)
  .exact a8 (cellC _ _ ha)
 refine#[m,hn'.sameBut hsb aC,λh' hs'=>?_];have nC:(upd H4 DD (.lst ys)) C=none:=by rw[aF (a8 hDC)];exact I4.free
 have I7:=I6.turned (h':=h') (t':=s6.toks) (it:=C) (λb o hb e=>(hs'.2 b hb).trans e) nC (ja (b8 lt2 hC)) (.inr (aV I2.sz hC)) cellC (λp hp=>by
  exact bB (b8 (aY (I2.pin p hp).1) hC))
 exact#[_,_,I7,q DD n4]
noncomputable def Itv (K:ah)(a:Addr)(xs:List V):It :=
 #[λi H=>SqL K H a xs/\i<xs.length,λi H x H'=>H'=H/\xs[xs.length-1-i]?=some x,λi H=>SqL K H a xs/\i=xs.length]
noncomputable def iRev (K:ah)(ta:TA):TI:=fun σ H R=>ta σ H λvs H1=>Ex2 λa xs=>vs=[.ref a]/\SqL K H1 a xs/\R (Itv K a xs) H1
theorem BW {P:aR}{w:World}{K:ah}{tg:Expr}(a it:Addr)(xs:List V):Turn P w K tg (Itv K a xs) [it] it (λi h=>i<=xs.length/\h.IsRevIter it a ((xs.length:Int)-1-(i:Int))) where
 mem:=by simp
 obj:=λi h st b hb=>by
  have e:b=it:=by simpa using hb
  subst e;obtain⟨_,o,e,c,d⟩:=st;exact#[o,e,λv z=>by rw[d] at z;cases z]
 keep:=λi h h' st k=>#[st.1,st.2.at λo e=>k it (by simp) o e]
 item:=by
  intro X hP hw hK hc i pins s σ H E I hf st hg;subst hP hw hK;obtain⟨hq,hlt⟩:=hg;obtain⟨f0,f1,f2,f3,f4,f5⟩:=hf it (by simp);obtain⟨its,rv,p,hz⟩:=I.list hq;have hl:=rv.length;have hx:xs[xs.length-1-i]?=some (xs[xs.length-1-i]'(by lk)):=cA (by lk);obtain⟨u,hu,ru⟩:=rv.get hx;have hit:=st.2;rw[show (xs.length:Int)-1-(i:Int)=((xs.length-1-i:Nat):Int) by lk] at hit;refine wpAny_pyNext_rev_item hit p.isList (x:=u) (by simpa using hu) λh' hit' hs'=>?_;rw[show ((xs.length-1-i:Nat):Int)-1=(xs.length:Int)-1-((i+1:Nat):Int) by lk] at hit';have I1:Inv X pins σ H { s with heap:=h' }:=I.turned (t':=s.toks) (λb o hb e=>(hs'.2 b hb).trans e) f0 f1 f3 f4 f5;obtain⟨o,e,c',d⟩:=id hit';exact#[u,0,gS (s:={ s with heap:=h' }) e c' d (by decide) #[_,H,I1,ru,#[0,hx],#[hlt,hit'],λb hb=>(hf b hb).1]]
 done:=by
  intro X hP hw hK hc i pins s σ H E I hf st hg;subst hP hw hK;obtain⟨hq,e⟩:=hg;obtain⟨f0,f1,f2,f3,f4,f5⟩:=hf it (by simp);have hit:=st.2;rw[show (xs.length:Int)-1-(i:Int) = -1 by lk] at hit;exact wpAny_pyNext_rev_end (I.ok.hd hc) hit λh' he'=>#[0,I.turned (t':=s.toks) (λb o hb e=>he' b o hb e) f0 f1 f3 f4 f5]
 self:=λ_ _ _ _ _ st h=>wpAny_pyIter_revIter st.2 h
theorem boot_reversed:kR "reversed" = some (.type "reversed"):=by lia
theorem Mu {tg a:Expr}{ta:TA}{p pos:Pos}(hg:Gl X "reversed")(hm:X.mg "reversed" = none)(ha:PA X [a] ta)(hs:autoParam (bO [a] X.env=[(false,eval a X.env)]) aUB._auto_1):PI X tg (.Call (.Name "reversed" p) [a] [] pos) (iRev X.K ta):=by
 intro pins s σ H R I h;refine Call_ (me I hg hm boot_reversed (tI (thn (ha pos pins s σ H _ I h) λus s1 #[vs,H1,I1,r1,q1]=>?_) hs rfl));obtain⟨b,xs,e,hq,q⟩:=q1;subst e;obtain⟨u,rfl,ru⟩:=vals1 r1;cases ru;obtain⟨its,rv,pl,hz⟩:=I1.list hq;have hl:=rv.length;refine call_reversed_list pl.isList ?_;have hit:(s1.heap.push (revObj b ((its.toArray.size:Int)-1))).IsRevIter s1.heap.objs.size b ((xs.length:Int)-1-((0:Nat):Int)):=by
  refine#[_,bD _ rfl,05];show Data.fields (yA [.ref b,rawInt _])=Data.fields (yA [.ref b,rawInt _])
  rw[a7,<- hl,show (xs.length:Int)-1-((0:Nat):Int)=(xs.length:Int)-1 by lk]
 refine wpAny_pyIter_revIter (s:={ s1 with heap:=s1.heap.push (revObj b ((its.toArray.size:Int)-1)) }) hit ?_;refine#[s1.heap.objs.size,[s1.heap.objs.size],_,_,H1,0,I1.kept (t':=s1.toks) λb o e=>aW _ e,BW b _ xs,#[ba _,hit],λc hc=>?_,q];have e:c=s1.heap.objs.size:=by simpa using hc
 subst e;exact I1.fpOk (az _) (I1.hok.fresh (az _))
end
theorem F7 {K:ah}{a:Addr}{xs:List V}{g:TG}{tb:TS}{D:Ends}{σ:St}{H:Hp}(Pv:Nat->St->Hp->Prop)(h0:Pv 0 σ H)(hl:∀i σ H,i<=xs.length->Pv i σ H->SqL K H a xs)
  (hs:∀i x σ H,i<xs.length->xs[xs.length-1-i]?=some x->Pv i σ H->g x σ H fun σ2 H2=>tb { D with nx:=Pv (i+1),ct:=Pv (i+1),bk:=D.nx } σ2 H2) (hd:∀ σ H,Pv xs.length σ H->D.nx σ H) :
  ∃W:Nat->Nat->St->Hp->Prop,(∃m,W 0 m σ H)/\∀i m σ H,W i m σ H →
   ((Itv K a xs).stop i H/\D.nx σ H)∨((Itv K a xs).go i H/\∃N:St->Hp->Prop,(∀ σ' H',N σ' H'->∃m',m'<m/\W (i+1) m' σ' H')/\∀x H',(Itv K a xs).iF i H x H'->g x σ H' fun σ2 H2=>tb { D with nx:=N,ct:=N,bk:=D.nx } σ2 H2):=by
 refine#[λi m σ H=>m=xs.length-i/\i<=xs.length/\Pv i σ H,#[xs.length,by simp,ba _,h0],5];rintro i m σ H ⟨rfl,hi,p⟩;have q:=hl i σ H hi p
 by_cases hlt:i<xs.length
 .refine .inr #[#[q,hlt],Pv (i+1),fun σ' H' p'=>#[xs.length-(i+1),30,hlt,p'],λx H' y=>?_];obtain⟨e,y⟩:=y;subst e;exact hs i x σ _ hlt y p
 .have e:i=xs.length:=by lk
  subst e;exact .inl #[#[q,0],hd σ H p]
end L2
namespace L2
open PySem PySem.Spec PyProof.Rows
section
variable {X:Cx}{a:Addr}{D:List (Str×qJ)}
theorem KS (T:yU X.base a D):OpR X (cy .NotIn) (λx y H Q=>∃k,x = .str k/\y = .ref a/\Q (.bl (!KTD.inKeys k D)) H):=by
 intro pins s σ H x y v u Q I rx ry h;obtain⟨k,rfl,rfl,q⟩:=h;obtain⟨t,rfl⟩:=rx;cases ry;exact KTD.notin_text #[T,I.bk] #[.bl _,H,I.tok _,0,q]
theorem nF (T:yU X.base a D):IxR X (λx y H Q=>Ex2 λk i=>x = .ref a/\y = .str k/\qj k D=some (.flat (.int i))/\Q (.int i) H):=by
 intro value slice pins s σ H x y v u Q I rx ry h hs;obtain⟨k,i,rfl,rfl,hd,q⟩:=h;cases rx;obtain⟨tk,rfl⟩:=ry;have T':KTD.Here X.base s.heap a D:=#[T,I.bk];refine subscriptTail_builtin_flat T'.typeIs qY.lookup ?_ hs;unfold jv
 try with_reducible refine dG ?_
 refine ac (F1 T'.typeIs (by decide) ?_);refine ac (jf (name:=iV "__getitem__") T'.typeIs qY
  (fN qY T'.typeIs entry_dict_getitem ?_ (args_dict_getitem _ _)))
 show wpAny _ _ (dictGet a (.str k tk) >>= _) _ _ s
 refine ac (KTD.dictGet_text T' (λd v ha hv=>?_) λhn=>?_)
 .rw[hd] at ha;cases ha;have hv':Reads s.heap v (.int i) []:=hv s.heap;obtain⟨t,rfl⟩:∃t,v=Value.int i t:=by
   cases hv' with
   | int _ t=>exact#[t,0]
  have fin:EP X pins σ Q (.int i t) { s with toks:=s.toks+1 }:=#[.int i,H,I.tok _,#[t,0],q];exact aq #[Value.int i t,0,aq #[λb z=>(nomatch z),fin]]
 .rw[hd] at hn;cases hn
end
end L2
namespace L2
open PySem PySem.Spec PyProof.Rows
section
variable {X:Cx}
@[irreducible] noncomputable def rStrAny:List V->Hp->VK->Prop:=λxs H Q=>(∃x,xs=[.str x]/\Q (.str x) H)∨∃i:Int,xs=[.int i]/\i.natAbs.log2<1920/\Q (.str (toString i)) H
theorem mo:di X (.type "str") rStrAny:=by
 intro pins s σ H xs us Q I r h;unfold rStrAny at h
 rcases h with h|h
 .exact DA pins s σ H xs us Q I r h
 .exact uI pins s σ H xs us Q I r h
end
end L2
namespace L2
open PySem PySem.Spec PyProof.Rows
section
variable (K:ah){X:Cx}{a b o e:Expr}{es:List Expr}{ta tb to te:TE}{t:TA}{name f:Str}{apos cpos pos:Pos}{T id:String}{r:V->List V->Hp->VK->Prop}
theorem Ak (hK:autoParam (X.K=K) aUB._auto_1):IxR X (rIxL K):=hK▸bC
theorem fS (hK:autoParam (X.K=K) aUB._auto_1):IxR X (rIxT K):=hK▸aP
theorem F2 (hK:autoParam (X.K=K) aUB._auto_1):di X (.type "tuple") (λxs H Q=>Ex2 λp ys=>xs=[.ref p]/\((SqL K H p ys/\∀l,H l=none->Q (.ref l) (upd H l (.tup ys)))∨(SqT K H p ys/\Q (.ref p) H))):=hK▸fF
theorem vc (he:PE X e ta)(hb:oj e f X.env (eval e X.env)=eval e X.env)(hK:autoParam (X.K=K) aUB._auto_1):PE X (.Attribute e f pos) (tFld K ta f):=hK▸cc he hb
theorem xb (hu:X.A.units+64<cLine)(hK:autoParam (X.K=K) aUB._auto_1):OpR X (cy .NotEq) (λx y H Q=>Ex2 λd e=>DV K H x d/\DV K H y e/\dO d=true/\dO e=true/\Q (.bl (!PyData.eqv d e)) H):=hK▸sZ hu
end
end L2
namespace SSet
open PySem PySem.Spec PyProof.Rows
theorem JD (t:dU)(n:Nat):(t.orStandIn n).led=t.led/\(t.plain=false->(t.orStandIn n).plain=false):=by
 unfold dU.orStandIn
 split
 .exact#[0,id]
 .exact#[0,λ_=>rfl]
theorem Jx (t:dU)(es:Array (Int×Value))(h:Int)(x:Value):(layNew t es h x).2.1.led=t.led:=by
 unfold layNew
 split
 .exact (JD _ _).1
 .rfl
theorem Cy (t:dU)(es:Array (Int×Value))(k:Nat):(nK t es k).2.1.led=t.led/\(t.plain=false->(nK t es k).2.1.plain=false):=by
 unfold nK
 split
 .rename_i u order e;have q:u.led=t.led/\u.plain=t.plain:=by
   unfold dU.relaid dU.laid at e;simp only[bind,Option.bind,pure] at e
   split at e
   .cases e
   .injection e with e
    injection e with e _
    rw[<- e];exact#[00]
  dsimp only
  split
  .exact#[q.1,λz=>q.2.trans z]
  .exact#[0,λ_=>rfl]
 .exact#[0,λ_=>rfl]
noncomputable def SS (prog:aR)(w:World)(h:Heap)(a:Addr)(D:List Str)(b:Bool):Prop :=
 ∃o es ep t,h.get? a=some o/\o.ExactSet/\o.data = .set es ep t/\mq (fm prog w) es.toList/\(es.toList.map λe=>strOf e.2).Perm D/\es.size<kq/\t.fits es.size=true/\t.led=b/\(es.size=0∨t.plain=false)
section
variable {prog:aR}{w:World}{A:Around}{E:Value->Shared->Prop}{s:Shared}
theorem SS.keep {h h':Heap}{a:Addr}{D:List Str}{b:Bool}(x:SS prog w h a D b)(k:∀o,h.get? a=some o->h'.get? a=some o):SS prog w h' a D b:=by
 obtain⟨o,es,ep,t,ho,r⟩:=x;exact#[o,es,ep,t,k _ ho,r]
theorem tq {es:List (Int×Value)}(h:mq (fm prog w) es){e:Int×Value}(he:e∈es):∃x t,e.2 = .str x t/\e.1=(fm prog w).hash x:=by
 obtain⟨⟨k,hk,hh⟩,_⟩:=h e he;obtain⟨t,et⟩:=IB (x:=k) (v:=e.2) hk;exact#[k,t,et,hh]
theorem G2 {es:List (Int×Value)}{D:List Str}{x:Str}(hel:mq (fm prog w) es)(hp:(es.map λe=>strOf e.2).Perm D) :
  x∈D↔∃e∈es,(fm prog w).is x e.2=true:=by
 rw[<- hp.mem_iff,bT]
 constructor
 .rintro⟨e,he,rfl⟩;obtain⟨y,t,e1,_⟩:=tq hel he;refine#[e,he,5];rw[e1];show lY y (.str y t)=true
  simp[lY]
 .rintro⟨e,he,hi⟩;obtain⟨t,e1⟩:=IB (x:=x) (v:=e.2) hi;exact#[e,he,by rw[e1];rfl]
theorem xH {g:Bool->Sem Unit}(hg:∀(b:Bool) (s₁:Shared) (Q':Unit->Shared->Prop),Q' () s₁->wpAny (model prog w) A (g b) Q' E s₁)
  {a:Addr} {o:Obj} {es:Array (Int×Value)} {ep:Nat} {t:dU} (ho:s.heap.get? a=some o) (hex:o.ExactSet) (hd:o.data = .set es ep t)
  {fs:Array (Int×Value)} {u:dU} {D:List Str} {b:Bool} (hel:mq (fm prog w) fs.toList) (hp:(fs.toList.map λe=>strOf e.2).Perm D) (hb:fs.size<kq) (hf:u.fits fs.size=true) (hl:u.led=b) (hpl:u.plain=false)
  {dm:Bool} {R:Option Bool->Shared->Prop} (h:∀h',eN a s.heap h'->SS prog w h' a D b->R (some true) { s with heap:=h' }) :
  wpAny (model prog w) A (do
    storeSet a fs u
    if (!dm&&u.tooFull)=true then do
        g (nK u fs (md fs.size)).2.2
        storeSet a (nK u fs (md fs.size)).1 (nK u fs (md fs.size)).2.1
        pure (some true)
     else pure (some true)) R E s:=by
 have lim:∀{n:Nat},n<kq->n<=aE:=λz=>FD z;refine ac (wpAny_storeSet_of ho hd ?_ (lim hb));have k1:(s.heap.update a (qz fs u)).get? a=some { o with data:=.set fs (ep+1) u }:=by
  have z:=kH (qz fs u) ho (by rw[AB fs u hd];rfl);rw[AB fs u hd] at z;exact z
 have b1:=kY s.heap a (qz fs u)
 split
 .have p2:=relayAll_perm u fs (md fs.size);have f2:=relayAll_fits u fs (md fs.size);obtain⟨l2,q2⟩:=Cy u fs (md fs.size);generalize nK u fs (md fs.size)=R2 at p2 f2 l2 q2 ⊢;obtain⟨fs2,u2,gv⟩:=R2;dsimp only at p2 f2 l2 q2 ⊢;have z2:fs2.size=fs.size:=by rw[<- cR,p2.length_eq,cR]
  refine ac (hg _ _ _ ?_);refine ac (wpAny_storeSet_of k1 rfl ?_ (lim (by rw[z2];exact hb)));have k2:((s.heap.update a (qz fs u)).update a (qz fs2 u2)).get? a=some { o with data:=.set fs2 (ep+1+1) u2 }:=by
   have z:=kH (qz fs2 u2) k1 (by rw[AB fs2 u2 rfl];rfl);rw[AB fs2 u2 rfl] at z;exact z
  exact aq (h _ (b1.trans (kY _ a _)) #[_,fs2,_,u2,k2,hex,0,mq.perm hel p2,(p2.map _).trans hp,by rw[z2];exact hb,f2,l2.trans hl,.inr (q2 hpl)])
 .exact aq (h _ b1 #[_,fs,_,u,k1,hex,0,hel,hp,hb,hf,hl,.inr hpl])
theorem add_str {a:Addr}{D:List Str}{b:Bool}{x:Str}{tk:Tok}{Q:Bool->Shared->Prop}(hS:SS prog w s.heap a D b)(hroom:D.length+1<kq)
  (h:∀h' r,eN a s.heap h'->SS prog w h' a (if x∈D then D else D++[x]) b->Q r { s with heap:=h' }) :
  wpAny (model prog w) A (setAddHashed a (.str x tk) ((fm prog w).hash x)) Q E s:=by
 obtain⟨o,es,ep,t,ho,hex,hd,hel,hp,hb,hf,hl,hpl⟩:=hS;have key:(fm prog w).is x (.str x tk)=true:=by
  show lY x (.str x tk)=true
  simp[lY]
 have hz:es.size=D.length:=by rw[<- hp.length_eq,aw,cR]
 unfold setAddHashed setAddHashedIn;refine dG (ac (pU ho hd hf ?_));dsimp only;rw[byScan_of (x:=.str x tk) rfl hb hel];simp only[↓reduceIte];unfold setAddByScan;refine ac (ac (kX (ac (wpAny_setScan_of key ho hd hf hel ?_))));have mi:=G2 (x:=x) hel hp;cases hr:List.findIdx? (λe=>(fm prog w).is x e.2) es.toList with
 | some j =>
  obtain⟨hj,hpj,_⟩:=List.findIdx?_eq_some_iff_getElem.mp hr;have hin:x∈D:=mi.mpr #[_,To hj,hpj];dsimp only;refine aq (aq ?_);have z:=h s.heap false (Q0 a s.heap);rw[if_pos hin] at z;exact z #[o,es,ep,t,ho,hex,hd,hel,hp,hb,hf,hl,hpl]
 | none =>
  have hno:¬ x∈D:=λhin=>by
   obtain⟨e,he,hi⟩:=mi.mp hin;have z:=List.findIdx?_eq_none_iff.mp hr e he;rw[hi] at z;cases z
  simp only[if_neg hno] at h;dsimp only;have p1:=layNew_perm t es ((fm prog w).hash x) (.str x tk);have f1:=layNew_fits t es ((fm prog w).hash x) (.str x tk);have l1:=Jx t es ((fm prog w).hash x) (.str x tk);generalize layNew t es ((fm prog w).hash x) (.str x tk)=L at p1 f1 l1 ⊢;obtain⟨fs,u,dm,gave⟩:=L;dsimp only at p1 f1 l1 ⊢;rw[Sv] at p1;have el1:mq (fm prog w) fs.toList:=(hel.push key rfl).perm p1;have pp:(fs.toList.map λe=>strOf e.2).Perm (D++[x]):=by
   refine (p1.map _).trans ?_;rw[bE];exact qp.append hp (AU _)
  have z1:fs.size=D.length+1:=by rw[<- cR,p1.length_eq,aS,cR,hz];rfl
  have give:∀(c:Bool) (s₁:Shared) (Q':Unit->Shared->Prop),Q' () s₁->wpAny (model prog w) A (match c with|true=>rule "set.scan.the-table-gave-way"|false=>pure ()) Q' E s₁:=λc s₁ Q' q=>by
   cases c
   .exact aq q
   .exact kX q
  refine ac (give _ _ _ ?_)
  split
  .refine ac ?_;rw[hashByValue_scannable 8 (x:=.str x tk) rfl];refine aq ?_;refine xH (b:=b) (D:=D++[x]) give ho hex hd el1 pp (by lk) (dU.fits_plain_off f1) (l1.trans hl) rfl ?_;intro h' sb S';exact aq (h h' _ sb S')
  .rename_i np;refine ac (aq ?_);simp only[↓reduceIte];refine xH (b:=b) (D:=D++[x]) give ho hex hd el1 pp (by lk) f1 (l1.trans hl) (by simpa using np) ?_;intro h' sb S';exact aq (h h' _ sb S')
noncomputable def dd (xs:List Str):List Str:=xs.foldl (λD x=>if x∈D then D else D++[x]) []
theorem yK (xs:List Str)(x:Str):dd (xs++[x])=if x∈dd xs then dd xs else dd xs++[x]:=by
 unfold dd;rw[List.foldl_append];rfl
theorem wI:∀n (xs:List Str),(dd (xs.take n)).length<=n
 | 0,xs=>az 0
 | n+1,xs=>by
  have ih:=wI n xs;rw[bU];cases e:xs[n]? with
  | none =>
   rw[Option.toList_none,ci];lk
  | some x =>
   rw[dF,yK]
   split
   .omega
   .rw[aS,fH];lk
theorem yw {R:Result->Shared->Prop}{I S:Addr}{fp wr:List Addr}{n:Nat}{P:Nat->Value->Prop}{St:Nat->Heap->Prop}{b:Bool}(W:Walks prog w A.in1 I fp wr n P St)(hSf:S∉fp)(xs:List Str)
  (hval:∀i v,P i v->∃x t,xs[i]?=some x/\v = .str x t) (hn:n+1<kq) :
  ∀(k i:Nat) (s:Shared),n-i=k->i<=n->St i s.heap->SS prog w s.heap S (dd (xs.take i)) b →
   (∀h' tk,SS prog w h' S (dd (xs.take n)) b->(∀c o,c∉S::wr->s.heap.get? c=some o->h'.get? c=some o)->R (.ok (.ret .none)) { s with heap:=h',toks:=tk }) →
   gi (model prog w) A (.builtin "set.update.loop" #[[.ref S,.ref I],[]]) R s:=by
 have nw:S∉wr:=λz=>hSf (W.sub _ z);intro k
 induction k with
 | zero =>
  intro i s hk hi st hS hR;obtain rfl:i=n:=by lk
  refine gp Qt ?_;rw[ik Lj _];show wpAny _ A.in1 (pyNext (.ref I) >>= _) _ _ s
  refine ac (W.done s _ _ st λh' tk keep=>?_);show wpAny _ A.in1 (ret Value.none) _ _ _
  exact aq (hR h' tk (hS.keep λo e=>keep S o nw e) λc o hc e=>keep c o (λz=>hc (bx _ z)) e)
 | succ k ih =>
  intro i s hk hi st hS hR;have hlt:i<n:=by lk
  refine gp Qt ?_;rw[ik Lj _];show wpAny _ A.in1 (pyNext (.ref I) >>= _) _ _ s
  refine ac (W.item i s _ _ hlt st λv h1 tk hP st1 keep=>?_);obtain⟨x,t,hx,rfl⟩:=hval i v hP;have hS1:SS prog w h1 S (dd (xs.take i)) b:=hS.keep λo e=>keep S o nw e;show wpAny _ A.in1 (jq [Value.str x t] (setAdd S (.str x t)) >>= _) _ _ _
  refine ac (dG ?_);unfold setAdd;refine dG (ac ((fm prog w).pyHash (k:=x) (by show lY x (.str x t)=true;simp[lY]) ?_));have hle:=wI i xs;refine add_str (b:=b) (D:=dd (xs.take i)) (s:={ s with heap:=h1,toks:=tk+1 }) hS1 (by lk) λh2 r sb S2=>?_;have e2:(if x∈dd (xs.take i) then dd (xs.take i) else dd (xs.take i)++[x])=dd (xs.take (i+1)):=by
   rw[bU,hx,dF,yK]
  rw[e2] at S2;refine aq #[gE Lj _,ih (i+1) _ (by lk) hlt (W.frame _ h1 _ st1 λc hc o e=>?_) S2 λh3 tk3 S3 keep3=>?_]
  .rw[sb.2 c (λz:c=S=>hSf (by rw[<- z];exact hc))];exact e
  .refine hR h3 tk3 S3 λc o hc e=>keep3 c o hc ?_;show h2.get? c=some o
   rw[sb.2 c (λz:c=S=>hc (by rw[z];exact bb))];exact keep c o (λz=>hc (bx _ z)) e
noncomputable abbrev empt (w:World):Obj:={ cls:=.type "set",dict:=none,data:=.set (yA []) 0 (.fresh 0 0 (!w.params.followText "set-order")) }
theorem xC (v:Value){Q1:Value->Shared->Prop}(h:Q1 (.ref s.heap.objs.size) { s with heap:=s.heap.push (empt w) }) :
  gi (model prog w) A (.call (.builtin "set.__new__") #[[.type "set",v],[]]) (wants Q1 E) s:=by
 refine Br ?_;have sb:=sub_set_self;show wpAny _ A.in1 (checkBuiltinCall "set.__new__" #[[.type "set",v],[]] >>= λ_=>again (.builtin "set.__new__" #[[.type "set",v],[]])) _ _ s
 refine ac (uj (PySem.F.newCall_set_1 v) (aq #[gE PH _,gp PySem.F.entry_set_new ?_]));rw[ik PH _];obtain⟨hp,gn,dr,tk,os⟩:=s;unfold bY.«set.__new__»;unfold bY.Frozenset.newClass;dsimp only
 wp_walk
 refine xO (aq ?_);dsimp only[newObj];refine ac (wpAny_alloc (aq (aq ?_)));exact h
theorem mz:∀{us:List Value} {xs:List Str},iP us xs->∀(i:Nat) (v:Value),us[i]?=some v->∃x t,xs[i]?=some x/\v = .str x t
 | _,_,.nil,i,v,e=>by simp at e
 | _,_,.cons x t r,0,v,e=>by
  rw[lC] at e;cases e;exact#[x,t,00]
 | _,_,.cons x t r,i+1,v,e=>by
  rw[dX] at e;obtain⟨y,u,h1,h2⟩:=mz r i v e;exact#[y,u,by rw[dX];exact h1,h2]
theorem xB (h:Heap):SS prog w (h.push (empt w)) h.objs.size [] (!w.params.followText "set-order") :=
 #[_,(yA []),(0),_,bD _ rfl,#[000],0,λe he=>by simp at he,.nil,7,by rfl,0,.inl rfl]
theorem set_list {l:Addr}{its:Array Value}{xs:List Str}{Q:Value->Shared->Prop}(hh:A.handled=none)(hl:s.heap.IsList l its)(hi:iP its.toList xs)(hb:its.size+1<kq)
  (h:∀(h':Heap) (tk:Nat),SS prog w h' s.heap.objs.size (dd xs) (!w.params.followText "set-order")->(∀c o,s.heap.get? c=some o->h'.get? c=some o)->Q (.ref s.heap.objs.size) { s with heap:=h',toks:=tk }) :
  wpAny (model prog w) A (call (.type "set") [.ref l]) Q E s:=by
 obtain⟨cM,tM,mro⟩:=eV.mro;have made:=eV.made;have subs:=eV.sub;have notT:=eV.notType;have canC:=eV.canCreate;have chk:=Uu (.ref l);refine An (Br ?_);show wpAny _ _ (callAny (.type "set") #[[.ref l],[]]) _ _ _
 refine aq #[RL _ (by lia),gp Su ?_];rw[Q3 (SZ "set" [Value.ref l] []) rfl]
 repeat (any_goals (first|assumption|wp_step))
 refine lq (xC (.ref l) (E:=E) (Q1:=λob s1=>ob = .ref s.heap.objs.size/\s1={ s with heap:=s.heap.push (empt w) }) #[00]) λr s1 hr=>?_;cases r with
 | error e=>exact hr
 | ok fl =>
  cases fl with
  | ret ob =>
   obtain⟨rfl,rfl⟩:=hr;have g0:(s.heap.push (empt w)).get? s.heap.objs.size=some (empt w):=bD _ rfl;have ty0:AC { s with heap:=s.heap.push (empt w) } (.ref s.heap.objs.size) "set":=#[_,g0,0];have lk:=eV.init.lookup;have bd:=eV.init.bind (.ref s.heap.objs.size)
   repeat (any_goals (first|assumption|wp_step))
   refine lq (codeAny_call_builtin (R:=wants (λr s2=>r = .none/\∃h' tk,s2={ s with heap:=h',toks:=tk }/\SS prog w h' s.heap.objs.size (dd xs) (!w.params.followText "set-order") /\
     (∀c o,s.heap.get? c=some o->h'.get? c=some o)) E) eV.init.plain Ub (check_set_init_1 ty0 ?_)) λr2 s2 hr2=>?_
   .obtain⟨ol,e1,e2,nl,e3⟩:=hl;obtain⟨oc,od,oD,osl⟩:=ol;dsimp only at e2 e3;subst e2 e3;have e1':(s.heap.push (empt w)).get? l=some { cls:=.type "list",dict:=od,data:=.seq its nl,slots:=osl }:=aW _ e1;have q1:=PySem.F.sub_list_set;have q2:=PySem.F.sub_list_frozenset;have q3:(Value.type "list" == Value.type "dict")=false:=by decide
    have L1:(s.heap.push (empt w)).IsList l its:=#[_,e1',0,nl,0];have lt:l<s.heap.objs.size:=aY e1;unfold bY.«set.__init__» noKeywords SR;generalize hPI:pyIter=PI
    wp_walk
    subst hPI;refine wJ L1 (ac (HQ ?_));have ne:l≠(s.heap.push (empt w)).objs.size:=by
     rw[iz];exact bB (nW lt)
    have nf:s.heap.objs.size∉[(s.heap.push (empt w)).objs.size,l]:=by
     rw[iz];intro z
     rcases aM.mp z with z|z
     .exact absurd z (bB (lp _))
     .exact absurd (aX.mp z) (ja lt)
    have hv:∀(i:Nat) (v:Value),its[i]?=some v->∃x t,xs[i]?=some x/\v = .str x t:=λi v e=>mz hi i v (by rw[fB];exact e);have hx:xs.take its.size=xs:=bX (by rw[<- cR,hi.length];exact az _);refine yw (b:=!w.params.followText "set-order") (AY (by simp[hh]) _ l ne its) nf xs hv hb (its.size-0) 0 _ (by lk) (ba _) #[#[_,bD _ rfl,00],L1.push _] ?S0 ?R0
    case S0=>exact (xB s.heap).keep λo e=>aW _ e
    case R0 =>
     intro h' tk S' keep;rw[hx] at S';show wpAny _ _ _ _ _ _
     refine aq ?_;show wpAny _ _ (ret Value.none) _ _ _
     refine aq #[0,h',tk,0,S',λc o e=>?_];have clt:=aY e;refine keep c o ?_ (aW _ (aW _ e));rw[iz];intro z
     rcases aM.mp z with z|z
     .exact absurd z (bB clt)
     .exact absurd (aX.mp z) (bB (nW clt))
   .cases r2 with
    | error e=>exact hr2
    | ok fl2 =>
     cases fl2 with
     | ret r =>
      obtain⟨rfl,h',tk,rfl,S',keep⟩:=hr2
      repeat (any_goals (first|assumption|wp_step))
      exact h _ _ S' keep
     | next=>exact hr2.elim
     | brk=>exact hr2.elim
     | cont=>exact hr2.elim
  | next=>exact hr.elim
  | brk=>exact hr.elim
  | cont=>exact hr.elim
end
end SSet
namespace SSet
open PySem PySem.Spec PyProof.Rows
theorem ke:Slot "set_iterator" "__next__" "set_iterator.__next__":=.of (owner:="set_iterator") (n:="__next__") (by rw[CS,Ke];kernel_rfl) (by lia) (by lia) (by lia) (by first|exact .inl (by lia)|exact .inr (by lia)) (by rw[BQ];kernel_rfl)
theorem FE:entryFor table "set_iterator.__next__" = some bY.«set_iterator.__next__»:=entryFor_of_fast (by kernel_rfl)
theorem E2 (v:Value):argsOk "set_iterator.__next__" #[[v],[]]:=by unfold argsOk;kernel_rfl
theorem MY:entryFor table "set.__iter__" = some bY.«frozenset.__iter__»:=entryFor_alias (id':="frozenset.__iter__") (by kernel_rfl) rfl (by lia) (by kernel_rfl)
theorem ui:Slot "set_iterator" "__iter__" "set_iterator.__iter__":=.of (owner:="set_iterator") (n:="__iter__") (by rw[CS,Ke];kernel_rfl) (by lia) (by lia) (by lia) (by first|exact .inl (by lia)|exact .inr (by lia)) (by rw[BQ];kernel_rfl)
theorem IJ:entryFor table "set_iterator.__iter__" = some bY.«dict_keyiterator.__iter__»:=entryFor_alias (id':="dict_keyiterator.__iter__") (by kernel_rfl) rfl (by lia) (by kernel_rfl)
theorem LO (v:Value):argsOk "set_iterator.__iter__" #[[v],[]]:=by unfold argsOk;kernel_rfl
noncomputable def dQ (h:Heap)(it a:Addr)(first:Value)(i n ep:Nat):Prop:=h.get? it=some { cls:=.type "set_iterator",dict:=none,data:=.fields (yA [first,rawInt i,.ref a,rawInt n,rawInt ep]),slots:=(yA []) }
noncomputable def SObj (h:Heap)(a:Addr)(es:Array (Int×Value))(ep:Nat)(t:dU):Prop:=∃o,h.get? a=some o/\o.cls = .type "set" /\ o.data = .set es ep t/\t.fits es.size=true
theorem SObj.keep {h h':Heap}{a:Addr}{es:Array (Int×Value)}{ep:Nat}{t:dU}(x:SObj h a es ep t)(k:∀o,h.get? a=some o->h'.get? a=some o):SObj h' a es ep t:=by
 obtain⟨o,ho,r⟩:=x;exact#[o,k _ ho,r]
section
variable {prog:aR}{w:World}{A:Around}{E:Value->Shared->Prop}{s:Shared}
theorem dQ.typeIs {it a:Addr}{f:Value}{i n ep:Nat}(h:dQ s.heap it a f i n ep):s.TypeIs (.ref it) "set_iterator":=#[_,h,0]
theorem uO {Q:Option Value->Shared->Prop}{F:Fin->Shared->Prop}(hh:A.handled=none)(hQ:∀h',(∀b o,s.heap.get? b=some o->h'.get? b=some o)->Q none { s with heap:=h' }) :
  wpAny (model prog w) A.in1 (newExc (.type "StopIteration") [] >>= λx=>rE x) F (λe s'=>wpAny (model prog w) A (do
     let b <- Au e (Value.type "StopIteration")
     if b=true then pure none else throw e) Q E s') s:=by
 refine ac ?_;simp only[newExc,newTuple];refine ac (fA ?_ (by size_fits));refine ac (m:=sf _ _) (uj (a:=Value.none) (by first|rfl|(simp only[sf];rfl)) (fA ?_ (by size_fits)));simp only[rE];refine ac (Bx ?_);rw[show A.in1.handled=none from hh];refine ac (aq (wpAny_throw ?_));refine ac (zV (b:=true) (T:="StopIteration") #[_,bD _ rfl,0] KK ?_);exact aq (hQ _ λb o e=>aW _ (aW _ e))
theorem pX {it a:Addr}{f:Value}{i n ep:Nat}{es:Array (Int×Value)}{t:dU}{Q:Option Value->Shared->Prop}(hit:dQ s.heap it a f i n ep)(hs:SObj s.heap a es ep t)(hn:es.size=n)
  (h:wpAny (model prog w) A.in1 (match f with
      | Value.int slot tok=>do
       let r <- kO a slot.toNat i ep
       match r with
        | some (x,nx)=>do
         ju (Value.ref it) 0 (rawInt nx)
         ju (Value.ref it) 1 (rawInt ((i:Int)+1))
         ret x
        | none=>do
         ju (Value.ref it) 2 Value.none
         let y <- newExc (Value.type "StopIteration") []
         rE y
      | x=>do
       let r <- mD f
       match r with
        | some places =>
         match places[i]? with
         | some (Value.int place tok)=>do
          let x <- setNextDrawn a place.toNat ep
          ju (Value.ref it) 1 (rawInt ((i:Int)+1))
          ret x
         | some val=>unsupported "internal:set_iterator"
         | none=>do
          ju (Value.ref it) 0 (rawInt 0)
          ju (Value.ref it) 2 Value.none
          let y <- newExc (Value.type "StopIteration") []
          rE y
        | x=>unsupported "internal:set_iterator")
   (λfin s'=>∃v,fin=Fin.done (Flow.ret v)/\wpAny (model prog w) A (pure (some v)) Q E s')
   (λe s'=>wpAny (model prog w) A (do
     let b <- Au e (Value.type "StopIteration")
     if b=true then pure none else throw e) Q E s') s):wpAny (model prog w) A (pyNext (.ref it)) Q E s:=by
 obtain⟨oS,hoS,hcS,hdS,hf⟩:=id hs;unfold pyNext;refine ac (ow (jf (name:=iV "__next__") hit.typeIs ke (fN ke hit.typeIs FE ?_ (E2 _))));unfold bY.«set_iterator.__next__»;refine ac (aq ?_);refine ac (Hk hit rfl ?_);show wpAny _ _ (setEntries a >>= _) _ _ _
 refine ac (wpAny_setEntries_of hoS hdS hf ?_);rw[if_neg (by rw[hn];simp[rawInt])];exact h
theorem BE {it a tp:Addr}{i n ep:Nat}{es:Array (Int×Value)}{t:dU}{pl:Array Value}{j:Nat}{tk:Tok}{e:Int×Value}{Q:Option Value->Shared->Prop}
  (hit:dQ s.heap it a (.ref tp) i n ep) (hs:SObj s.heap a es ep t) (hn:es.size=n) (htp:IsTup s.heap tp pl) (hpl:pl[i]?=some (.int j tk)) (he:es[j]?=some e)
  (hQ:∀h',dQ h' it a (.ref tp) (i+1) n ep->eN it s.heap h'->Q (some e.2) { s with heap:=h' }):wpAny (model prog w) A (pyNext (.ref it)) Q E s:=by
 obtain⟨oS,hoS,hcS,hdS,hf⟩:=id hs;refine pX hit hs hn ?_;dsimp only;obtain⟨oT,hoT,hcT,nT,hdT⟩:=htp;have sq:∀{Q':Option (Array Value)->Shared->Prop},Q' (some pl) s->wpAny (model prog w) A.in1 (mD (.ref tp)) Q' (λe s'=>wpAny (model prog w) A (do
     let b <- Au e (Value.type "StopIteration")
     if b=true then pure none else throw e) Q E s') s:=λq=>by
  unfold mD;refine ac (A4 hoT ?_);rw[hdT];exact aq q
 refine ac (sq ?_);dsimp only;rw[hpl];dsimp only;rw[cS];unfold setNextDrawn;refine ac (ac (pU hoS hdS hf ?_));dsimp only;rw[if_neg (by simp),he];refine aq ?_;refine ac (iW hit (by simp) λh' g sb=>?_);refine aq #[1,aq (hQ h' ?_ sb)];exact g
theorem EO {it a tp:Addr}{i n ep:Nat}{es:Array (Int×Value)}{t:dU}{pl:Array Value}{Q:Option Value->Shared->Prop}(hh:A.handled=none)
  (hit:dQ s.heap it a (.ref tp) i n ep) (hs:SObj s.heap a es ep t) (hn:es.size=n) (htp:IsTup s.heap tp pl) (hpl:pl[i]?=none)
  (hQ:∀h',(∀b o,b≠it->s.heap.get? b=some o->h'.get? b=some o)->Q none { s with heap:=h' }):wpAny (model prog w) A (pyNext (.ref it)) Q E s:=by
 refine pX hit hs hn ?_;dsimp only;obtain⟨oT,hoT,hcT,nT,hdT⟩:=htp;have sq:∀{Q':Option (Array Value)->Shared->Prop},Q' (some pl) s->wpAny (model prog w) A.in1 (mD (.ref tp)) Q' (λe s'=>wpAny (model prog w) A (do
     let b <- Au e (Value.type "StopIteration")
     if b=true then pure none else throw e) Q E s') s:=λq=>by
  unfold mD;refine ac (A4 hoT ?_);rw[hdT];exact aq q
 refine ac (sq ?_);dsimp only;rw[hpl];dsimp only;refine ac (iW hit (by simp) λh1 g1 sb1=>?_);refine ac (iW g1 (by simp) λh2 g2 sb2=>?_);refine uO hh λh' k=>hQ h' λb o nb e=>k b o ?_;show h2.get? b=some o
 rw[sb2.2 b nb,sb1.2 b nb];exact e
end
end SSet
namespace SSet
open PySem PySem.Spec PyProof.Rows
theorem pull {α:Type}:∀{l:List α} {i:Nat} (h:i<l.length),(l[i]::l.eraseIdx i).Perm l
 | [],i,h=>by simp at h
 | x::r,0,h=>AU _
 | x::r,i+1,h=>by
  have ih:=pull (l:=r) (i:=i) (by simpa using h);exact (qp.swap x _ _).trans (qp.cons x ih)
theorem t9 {α:Type}(nx:Nat->Nat):∀(k j:Nat) (left:List α) (out:Array α),left.length=k->(Qb nx k j left out).toList.Perm (out.toList++left)
 | 0,j,left,out,h=>by
  have e:left=[]:=OM.mp h;subst e;rw[ci];exact AU _
 | k+1,j,left,out,h=>by
  have hlt:nx j % left.length<left.length:=Nat.mod_lt _ (by lk);unfold Qb;rw[cA hlt];dsimp only;refine (t9 nx k (j+1) _ _ (by rw[Tj hlt];lk)).trans ?_;rw[Sv,fV];exact qp.append_left _ (pull hlt)
theorem Mc {α:Type}(nx:Nat->Nat)(xs:Array α):(lx nx xs).toList.Perm xs.toList:=by
 have q:=t9 nx xs.size 0 xs.toList (yA []) (by simp);unfold lx
 simpa using q
section
variable {prog:aR}{w:World}{A:Around}{E:Value->Shared->Prop}{s:Shared}
theorem Kl {src:Source}{n:Nat}{Q:Nat->Shared->Prop}(hn:n≠0)(h:∀i d,i<n->Q i { s with drawn:=d }):wpAny (model prog w) A (choose src n) Q E s:=fun Γ p hΓ=>by
 unfold choose;show Sem.wp _ _ (.choose src n .pure) _ _ _ _
 rw[Sem.wp_choose];exact#[hn,h _ _ (Nat.mod_lt _ (by lk))]
theorem xR {α:Type}:∀(n:Nat) (xs:List α) (s:Shared) (Q:List α->Shared->Prop),xs.length=n->(∀ys d,ys.Perm xs->Q ys { s with drawn:=d })->wpAny (model prog w) A (drawOrder n xs) Q E s
 | 0,xs,s,Q,hl,h=>by
  have e:xs=[]:=OM.mp hl;subst e;exact aq (h [] s.drawn (AU _))
 | n+1,[],s,Q,hl,h=>by cases hl
 | n+1,x::r,s,Q,hl,h=>by
  unfold drawOrder;refine ac (Kl (by simp) λi d hi=>?_);rw[cA hi];dsimp only;refine ac (xR n _ _ _ (by rw[Tj hi];lk) λys d2 hp=>?_);exact aq (h _ d2 ((qp.cons _ hp).trans (pull hi)))
theorem yt {it a:Addr}{f:Value}{i n ep:Nat}{Q:Value->Shared->Prop}(hit:dQ s.heap it a f i n ep)(h:Q (.ref it) s):wpAny (model prog w) A (pyIter (.ref it)) Q E s:=by
 refine Bf hit.typeIs ui (fN ui hit.typeIs IJ ?_ (LO _));show wpAny _ _ (ret (Value.ref it)) _ _ s
 exact aq #[1,"set_iterator",_,hit.typeIs,ke.lookup,h]
theorem K4 (hh:A.handled=none){it a tp:Addr}(h1:a≠it)(h2:tp≠it)(es:Array (Int×Value))(ep:Nat)(t:dU)(js:List Nat)(hl:js.length=es.size)(hj:∀j∈js,j<es.size) :
  Walks prog w A it [it,a,tp] [it] es.size (λi v=>∃j e,js[i]?=some j/\es[j]?=some e/\v=e.2) (λi h=>dQ h it a (.ref tp) i es.size ep/\SObj h a es ep t/\IsTup h tp (js.map λ(j:Nat)=>rawInt j).toArray) where
 sub:=λb hb=>by
  have e:b=it:=by simpa using hb
  rw[e];exact bb
 frame:=λi h h' st k=>#[k it (by simp) _ st.1,st.2.1.keep λo e=>k a (by simp) o e,let ⟨o,e,r⟩:=st.2.2;#[o,k tp (by simp) o e,r]]
 item:=λi s Q E hi st hQ=>by
  have hi':i<js.length:=by lk
  have ej:js[i]?=some js[i]:=cA hi';have hlt:js[i]<es.size:=hj _ (To hi');have ee:es[js[i]]?=some es[js[i]]:=gO hlt;refine BE (j:=js[i]) (tk:=0) (e:=es[js[i]]) st.1 st.2.1 rfl st.2.2 ?_ ee λh' g sb=>?_
  .rw[Kg,bH,ej];rfl
  .exact hQ _ h' s.toks #[_,_,ej,ee,0] #[g,st.2.1.keep λo e=>(sb.2 a h1).trans e,let ⟨o,e,r⟩:=st.2.2;#[o,(sb.2 tp h2).trans e,r]] λb o hb e=>(sb.2 b λz=>hb (by rw[z];exact bb)).trans e
 done:=λs Q E st hQ=>by
  refine EO hh st.1 st.2.1 rfl st.2.2 ?_ λh' k=>hQ h' s.toks λb o hb e=>k b o (λz=>hb (by rw[z];exact bb)) e;rw[Kg,bH,vf (by lk)];rfl
 self:=λi s Q E st h=>yt st.1 h
theorem sL (hh:A.handled=none){it a:Addr}(h1:a≠it)(es:Array (Int×Value))(ep:Nat)(t:dU)(ord:List Value)(R:Nat->Nat->Prop)
  (hs:∀(A:Around) (E:Value->Shared->Prop) (i slot:Nat) (s:Shared) (Q:Option (Value×Nat)->Shared->Prop),i<es.size->R slot i->SObj s.heap a es ep t->(∀x nx,ord[i]?=some x->R nx (i+1)->Q (some (x,nx)) s)->wpAny (model prog w) A (kO a slot i ep) Q E s)
  (he:∀(A:Around) (E:Value->Shared->Prop) (slot:Nat) (s:Shared) (Q:Option (Value×Nat)->Shared->Prop),R slot es.size->SObj s.heap a es ep t->Q none s->wpAny (model prog w) A (kO a slot es.size ep) Q E s) :
  Walks prog w A it [it,a] [it] es.size (λi v=>ord[i]?=some v) (λi h=>(∃slot:Nat,dQ h it a (rawInt slot) i es.size ep/\R slot i)/\SObj h a es ep t) where
 sub:=λb hb=>by
  have e:b=it:=by simpa using hb
  rw[e];exact bb
 frame:=λi h h' #[#[slot,g,r],so] k=>#[#[slot,k it (by simp) _ g,r],so.keep λo e=>k a (by simp) o e]
 item:=λi s Q E hi st hQ=>by
  obtain⟨⟨slot,g,r⟩,so⟩:=st;refine pX g so rfl ?_;show wpAny _ _ (kO a ((slot:Int).toNat) i ep >>= _) _ _ _
  rw[cS];refine ac (hs _ _ i slot s _ hi r so λx nx hx r'=>?_);dsimp only;refine ac (iW g (by simp) λh2 g2 sb2=>?_);refine ac (iW g2 (by simp) λh3 g3 sb3=>?_);have sb:∀b,b≠it->h3.get? b=s.heap.get? b:=λb nb=>(sb3.2 b nb).trans (sb2.2 b nb);refine aq #[1,aq (hQ _ h3 s.toks hx #[#[nx,g3,r'],so.keep λo e=>(sb a h1).trans e] λb o hb e=>(sb b λz=>hb (by rw[z];exact bb)).trans e)]
 done:=λs Q E st hQ=>by
  obtain⟨⟨slot,g,r⟩,so⟩:=st;refine pX g so rfl ?_;show wpAny _ _ (kO a ((slot:Int).toNat) es.size ep >>= _) _ _ _
  rw[cS];refine ac (he _ _ slot s _ r so ?_);dsimp only;refine ac (iW g (by simp) λh2 g2 sb2=>?_);refine uO hh λh' k=>hQ h' s.toks λb o hb e=>k b o ?_;exact (sb2.2 b λz=>hb (by rw[z];exact bb)).trans e
 self:=λi s Q E #[#[slot,g,_],_] h=>yt g h
end
end SSet
namespace SSet
open PySem PySem.Spec PyProof.Rows
theorem z8 {α:Type}{vs ord:List α}(hl:vs.length=ord.length)(h:∀(i:Nat) v,vs[i]?=some v->ord[i]?=some v):vs=ord:=by
 refine QI λi=>?_
 by_cases hi:i<vs.length
 .rw[cA hi];exact (h i _ (cA hi)).symm
 .rw[vf (by lk),vf (by lk)]
section
variable {prog:aR}{w:World}{A:Around}{E:Value->Shared->Prop}{s:Shared}
theorem nO {es:List (Int×Value)}{D:List Str}{vs:List Value}(hel:mq (fm prog w) es)(hp:(es.map λe=>strOf e.2).Perm D)(hv:vs.Perm (es.map (·.2))):∃ys,iP vs ys/\ys.Perm D:=by
 refine#[vs.map strOf,strsAre_map vs λv hm=>?_,5]
 .obtain⟨e,he,rfl⟩:=bT.mp (hv.mem_iff.mp hm);obtain⟨x,t,e1,_⟩:=tq hel he;exact#[x,t,e1]
 .refine (hv.map strOf).trans ?_;rw[cW];exact hp
theorem GY {es:Array (Int×Value)}{js:List Nat}(hj:js.Perm (gM es.size)){vs:List Value}(hl:vs.length=es.size)(h:∀(i:Nat) v,vs[i]?=some v->∃j e,js[i]?=some j/\es[j]?=some e/\v=e.2):vs.Perm (es.toList.map (·.2)):=by
 have ev:vs=js.map λj=>(es.toList.getD j (0,.none)).2:=by
  refine z8 (by rw[aw,hj.length_eq,yy,hl]) λi v hv=>?_;obtain⟨j,e,h1,h2,rfl⟩:=h i v hv;rw[bH,h1];show some (es.toList.getD j (0,.none)).2=some e.2
  rw[cJ,fB,h2];rfl
 rw[ev];refine (hj.map _).trans (qp.of_eq ?_);refine z8 (by simp) λi v hv=>?_;rw[bH] at hv
 by_cases hi:i<es.size
 .rw[List.getElem?_range hi] at hv;have hv':(es.toList.getD i (0,.none)).2=v:=eQ hv;rw[bH,<- hv',cJ,cA (by simpa using hi)];rfl
 .rw[vf (by simp;lk)] at hv;cases hv
theorem JZ {a:Addr}{D:List Str}{Q:Value->Shared->Prop}(hh:A.handled=none)(hS:SS prog w s.heap a D (!w.params.followText "set-order"))
  (h:∀(h':Heap) (d':Drawn) (I:Addr) (n:Nat) (fp:List Addr) (P:Nat->Value->Prop) (St:Nat->Heap->Prop),(∀b o,s.heap.get? b=some o->h'.get? b=some o)->s.heap.objs.size<=I->(∀b∈fp,b=a∨s.heap.objs.size<=b) →
   Walks prog w A I fp [I] n P St->St 0 h'->n=D.length->(∀vs:List Value,vs.length=n->(∀(i:Nat) v,vs[i]?=some v->P i v)->∃ys,iP vs ys/\ys.Perm D)->Q (.ref I) { s with heap:=h',drawn:=d' }) :
  wpAny (model prog w) A (pyIter (.ref a)) Q E s:=by
 obtain⟨o,es,ep,t,ho,hex,hd,hel,hp,hb,hf,hl,hpl⟩:=hS;have hT:s.TypeIs (.ref a) "set":=#[o,ho,hex.1];have so:SObj s.heap a es ep t:=#[o,ho,hex.1,hd,hf];have hz:es.size=D.length:=by rw[<- hp.length_eq,aw,cR]
 have alt:a<s.heap.objs.size:=aY ho;refine Bf hT Ul (fN Ul hT MY ?_ (PySem.F.args_set_iter_1 _));unfold bY.«frozenset.__iter__»;refine ac (m:=bY.Frozenset.slot0 "__iter__" _) (aq ?_);refine ac (m:=bY.Frozenset.sizeOf a) (ac (wpAny_setEntries_of ho hd hf (aq ?_)));refine ac (m:=setDrawn a) (ac (pU ho hd hf (ac (m:=tS) (ac (xO (aq (aq ?_)))))));dsimp only;have jp:∀{first:Value} {h1:Heap} {d1:Drawn},SObj h1 a es ep t->Q (.ref h1.objs.size) { s with heap:=h1.push { cls:=.type "set_iterator",dict:=none,data:=.fields (yA [first,rawInt (0:Nat),.ref a,rawInt es.size,rawInt ep]),slots:=(yA []) },drawn:=d1 } →
   wpAny (model prog w) A.in1 (do
    let e <- setEpoch a
    let v <- newFields "set_iterator" [first,rawInt 0,Value.ref a,rawInt es.size,rawInt e]
    ret v) (λfin s'=>∃v,fin=Fin.done (Flow.ret v)/\∃T' r,s'.TypeIs v T'/\zP (Value.type T') (iV "__next__")=pure (some r)/\Q v s') E { s with heap:=h1,drawn:=d1 }:=by
  intro first h1 d1 ⟨o1,e1,e2,e3,e4⟩ q
  refine ac (m:=setEpoch a) (ac (pU e1 e3 e4 (aq ?_)));refine ac (m:=newFields _ _) (fA (aq #[1,"set_iterator",_,#[_,bD _ rfl,0],ke.lookup,5]));exact q
 split
 .rename_i hc;have hc':(!w.params.followText "set-order" && (!t.plain&&decide (es.size>1)))=true:=hc;refine ac (xR es.size (gM es.size) s _ (by simp) λjs d1 pj=>?_);refine ac (LE ?_ (by rw[aw,pj.length_eq,yy];exact FD hb));have jl:js.length=es.size:=by rw[pj.length_eq,yy]
  have jm:∀j∈js,j<es.size:=λj hj=>OG.mp (pj.mem_iff.mp hj);refine jp (so.keep λo e=>aW _ e) ?_;have sz:(s.heap.push { cls:=.type "tuple",data:=.seq (js.map λ(j:Nat)=>rawInt j).toArray }).objs.size=s.heap.objs.size+1:=iz _ _;refine h _ d1 _ es.size _ _ _ (λb o e=>aW _ (aW _ e)) (by rw[sz];exact gD _) ?_ (K4 (a:=a) (tp:=s.heap.objs.size) hh ?_ ?_ es ep t js jl jm) #[555] hz λvs hv hP=>nO hel hp (GY pj hv hP)
  .intro b hb';rw[sz] at hb'
   rcases aM.mp hb' with z|z
   .exact .inr (by rw[z];exact gD _)
   .rcases aM.mp z with z|z
    .exact .inl z
    .exact .inr (by rw[aX.mp z];exact az _)
  .rw[sz];exact bB (nW alt)
  .rw[sz];exact bB (lp _)
  .exact bD _ rfl
  .exact so.keep λo e=>aW _ (aW _ e)
  .exact#[_,aW _ (bD _ rfl),01]
 .rename_i hc;have hc':¬ (!w.params.followText "set-order" && (!t.plain&&decide (es.size>1)))=true:=hc;refine ac (aq (jp (h1:=s.heap) (d1:=s.drawn) so ?_));have fpk:∀b∈[s.heap.objs.size,a],b=a∨s.heap.objs.size<=b:=λb hb'=>by
   rcases aM.mp hb' with z|z
   .exact .inr (by rw[z];exact az _)
   .exact .inl (aX.mp z)
  have ne:a≠s.heap.objs.size:=bB alt;cases ft:w.params.followText "set-order" with
  | true =>
   have bt:∀{A':Around} {E':Value->Shared->Prop} {s':Shared} {Q':Bool->Shared->Prop},Q' true s'->wpAny (model prog w) A' tS Q' E' s':=λ{A' E' s' Q'} q=>by
    unfold tS;refine ac (xO (aq ?_));show Q' (w.params.followText "set-order") s'
    rw[ft];exact q
   have stp:∀(A:Around) (E:Value->Shared->Prop) (i slot:Nat) (s:Shared) (Q:Option (Value×Nat)->Shared->Prop),SObj s.heap a es ep t->Q (((lx (w.params.setOrder a ep) es)[i]?).map λe=>(e.2,slot)) s->wpAny (model prog w) A (kO a slot i ep) Q E s:=by
    intro A E i slot s Q ⟨o1,e1,e2,e3,e4⟩ q;unfold kO;refine ac (pU e1 e3 e4 ?_);dsimp only;refine ac (bt ?_);rw[if_pos rfl,if_neg (by simp)];unfold setWalk;refine ac (ac (pU e1 e3 e4 (ac (bt ?_))));rw[if_pos rfl];exact ac (xO (aq (aq q)))
   have po:=Mc (w.params.setOrder a ep) es;have pz:(lx (w.params.setOrder a ep) es).size=es.size:=(by rw[<- cR,po.length_eq,cR]);refine h _ s.drawn _ es.size _ _ _ (λb o e=>aW _ e) (az _) fpk (sL (a:=a) hh ne es ep t ((lx (w.params.setOrder a ep) es).toList.map (·.2)) (λslot _=>slot=0) ?_ ?_) #[#[(0),bD _ rfl,0],so.keep λo e=>aW _ e] hz λvs hv hP=>?_
   .intro A E i slot s Q hi r so' q;have e1:(lx (w.params.setOrder a ep) es)[i]?=some (lx (w.params.setOrder a ep) es)[i]:=gO (by lk);refine stp A E i slot s Q so' ?_;rw[e1];exact q _ _ (by rw[bH,fB,e1];rfl) r
   .intro A E slot s Q r so' q;refine stp A E _ slot s Q so' ?_;rw[A6 (by lk)];exact q
   .refine nO hel hp ?_;have e1:vs=(lx (w.params.setOrder a ep) es).toList.map (·.2):=z8 (by rw[hv,aw,cR,pz]) hP;rw[e1];exact po.map _
  | false =>
   rw[ft] at hc' hl;have sm:es.size<=1:=by
    rcases hpl with z|z
    .omega
    .rw[z] at hc';simp at hc';exact hc'
   have bt:∀{A':Around} {E':Value->Shared->Prop} {s':Shared} {Q':Bool->Shared->Prop},Q' false s'->wpAny (model prog w) A' tS Q' E' s':=λ{A' E' s' Q'} q=>by
    unfold tS;refine ac (xO (aq ?_));show Q' (w.params.followText "set-order") s'
    rw[ft];exact q
   have stp:∀(A:Around) (E:Value->Shared->Prop) (i slot:Nat) (s:Shared) (Q:Option (Value×Nat)->Shared->Prop),SObj s.heap a es ep t->Q (match es[nY t.place slot]?,t.place[nY t.place slot]? with|some (_,x),some j=>some (x,j+1)|_,_=>none) s->wpAny (model prog w) A (kO a slot i ep) Q E s:=by
    intro A E i slot s Q ⟨o1,e1,e2,e3,e4⟩ q;unfold kO;refine ac (pU e1 e3 e4 ?_);dsimp only;refine ac (bt ?_);rw[if_neg (by simp)];have nd:¬ (!t.plain&&decide (es.size>1))=true:=by
     rw[decide_eq_false (by lk),A1];exact cf
    refine tN (λz=>absurd z nd) (λ_=>?_);have nl:¬ (!t.led && !es.isEmpty)=true:=by
     rw[hl];simp
    refine ac (tN (λz=>absurd z nl) (λ_=>aq ?_));exact aq q
   have ps:t.place.size=es.size:=by
    have z:=hf;unfold dU.fits at z;simp at z;exact z.1
   refine h _ s.drawn _ es.size _ _ _ (λb o e=>aW _ e) (az _) fpk (sL (a:=a) hh ne es ep t (es.toList.map (·.2)) (λslot i=>(i=0/\slot=0)∨(i=1/\∃j,t.place=(yA [j])/\slot=j+1)) ?_ ?_) #[#[(0),bD _ rfl,.inl #[00]],so.keep λo e=>aW _ e] hz λvs hv hP=>?_
   .intro A E i slot s Q hi r so' q;have i0:i=0:=(by lk);subst i0;have s0:slot=0:=by
     rcases r with⟨_,z⟩|⟨z,_⟩
     .exact z
     .cases z
    subst s0;obtain⟨j,ej⟩:∃j,t.place=(yA [j]):=by
     rcases Array.size_eq_one_iff.mp (show t.place.size=1 by lk) with⟨j,z⟩
     exact#[j,z]
    have e1:es[0]?=some es[0]:=gO hi;refine stp A E 0 0 s Q so' ?_;have bl:nY t.place 0=0:=by
     rw[ej];simp[nY,TK]
    rw[bl,e1,ej];exact q _ _ (by rw[bH,fB,e1];rfl) (.inr #[0,j,ej,0])
   .intro A E slot s Q r so' q;refine stp A E _ slot s Q so' ?_;have en:es[nY t.place slot]?=none:=by
     rcases r with⟨z,y⟩|⟨z,j,ej,y⟩
     .exact A6 (by lk)
     .have bl:nY t.place slot=1:=by
       rw[ej,y];simp[nY,TK]
      rw[bl];exact A6 (by lk)
    rw[en];exact q
   .refine nO hel hp ?_;have e1:vs=es.toList.map (·.2):=z8 (by rw[hv,aw,cR]) hP;rw[e1]
end
end SSet
namespace SSet
open PySem PySem.Spec PyProof.Rows PySem.W
section
variable {prog:aR}{w:World}{A:Around}{E:Value->Shared->Prop}{s:Shared}
theorem C9 {r:Addr}{Q:Bool->Shared->Prop}(ty:s.TypeIs (.ref r) "set")(q:Q false s):wpAny (model prog w) A (Pg (.ref r)) Q E s:=by
 unfold Pg;refine ac (wpAny_specialOf ty PySem.F.slot_set_len.lookup ?_);generalize hx:("set.__len__":String)=nm
 wp_delta
 rw[show splitId nm=some ("set","__len__") from by subst hx;lia];subst hx;refine ac (zV (b:=true) (T:="set") ty (by rw[BQ];kernel_rfl) ?_);refine tN (λz=>absurd z (by decide)) (λ_=>?_);refine tN (λ_=>?_) (λz=>absurd (by lia) z);exact ac (tK ty (aq q))
theorem Dl {a:Addr}{D:List Str}{R:List Value->Shared->Prop}(hh:A.handled=none)(hS:SS prog w s.heap a D (!w.params.followText "set-order"))
  (h:∀(h':Heap) (d':Drawn) (tk:Nat) (vs:List Value) (ys:List Str),(∀b o,s.heap.get? b=some o->h'.get? b=some o)->s.heap.objs.size<h'.objs.size->iP vs ys->ys.Perm D->R vs { s with heap:=h',drawn:=d',toks:=tk }) :
  wpAny (model prog w) A (collect (.ref a)) R E s:=by
 obtain⟨oA,hoA⟩:∃o,s.heap.get? a=some o:=let ⟨o,_,_,_,e,_⟩:=hS;#[o,e];have alt:a<s.heap.objs.size:=aY hoA;have dz:D.length<=aE:=by
  obtain⟨o,es,ep,t,_,_,_,_,hp,hb,_⟩:=hS;rw[<- hp.length_eq,aw,cR];exact FD hb
 have nSa:s.heap.objs.size≠a:=ja alt;unfold collect;refine ac (HQ (gp entry_proto_collect' ?_));rw[ik PySem.F.plain_proto_collect _];show wpAny _ A.in1 (newList [] >>= λl=>again (.builtin "list.__iadd__" #[[l,.ref a],[]])) _ _ s
 refine ac (fA (aq #[gE Uf _,gp entry_list_iadd' ?_]));rw[ik Uf _];show wpAny _ A.in1 (P3 (.ref s.heap.objs.size) (.ref a) (.ref s.heap.objs.size)) _ _ _
 unfold P3;have S1:SS prog w (s.heap.push { cls:=.type "list",data:=.seq ([]:List Value).toArray }) a D (!w.params.followText "set-order"):=hS.keep λo e=>aW _ e;have g1:(s.heap.push { cls:=.type "list",data:=.seq ([]:List Value).toArray }).get? s.heap.objs.size=some { cls:=.type "list",dict:=none,data:=.seq (yA []) 0,slots:=(yA []) }:=bD _ rfl;have k1:∀b o,s.heap.get? b=some o->(s.heap.push { cls:=.type "list",data:=.seq ([]:List Value).toArray }).get? b=some o:=λb o e=>aW _ e;generalize s.heap.push { cls:=.type "list",data:=.seq ([]:List Value).toArray }=h1 at S1 g1 k1 ⊢;have ty1:AC { s with heap:=h1 } (.ref a) "set":=by
  obtain⟨o,es,ep,t,ho,hex,_⟩:=S1;exact#[o,ho,hex.1]
 refine ac (tK (T:="set") ty1 ?_);have ns:Pf (.ref s.heap.objs.size) (.ref a)=false:=by simp[Pf,nSa]
 simp only[ns,show (Value.type "set" == Value.type "list")=false by decide,show (Value.type "set" == Value.type "tuple")=false by decide,jM,kr,if_false];refine ac (JZ (s:={ s with heap:=h1 }) (A:=A.in1) hh S1 λh2 d2 I n fp P St k2 hI hfp W st hn hv=>?_);have ty2:AC { s with heap:=h2,drawn:=d2 } (.ref a) "set":=by
  obtain⟨o,e,c⟩:=ty1;exact#[o,k2 _ _ e,c]
 have slt:s.heap.objs.size<h1.objs.size:=aY g1;have nf:s.heap.objs.size∉fp:=λz=>by
  rcases hfp _ z with z|z
  .exact nSa z
  .exact absurd (b8 slt z) (gw _)
 have key:∀(R':Result->Shared->Prop) (h3:Heap) (c:Nat),St 0 h3->(∀b o,b≠s.heap.objs.size->h2.get? b=some o->h3.get? b=some o)->h3.get? s.heap.objs.size=some { cls:=.type "list",dict:=none,data:=.seq (yA []) c,slots:=(yA []) } →
   (∀(h4:Heap) (tk:Nat) (vs:List Value) (ys:List Str) (c':Nat),(∀b o,s.heap.get? b=some o->h4.get? b=some o)->iP vs ys->ys.Perm D->h4.get? s.heap.objs.size=some { cls:=.type "list",dict:=none,data:=.seq vs.toArray c',slots:=(yA []) }->R' (.ok (.ret (.ref s.heap.objs.size))) { s with heap:=h4,drawn:=d2,toks:=tk }) →
   gi (model prog w) A (.builtin "list.extend.loop" #[[.ref s.heap.objs.size,.ref I,.ref s.heap.objs.size],[]]) R' { s with heap:=h3,drawn:=d2 }:=by
  intro R' h3 c st3 k3 g3 hR;refine codeAny_extend_loopS W.toS (by lk) s.heap.objs.size nf _ n 0 _ (yA []) c rfl (ba _) st3 g3 (ItemsOf.nil _) λs' acc c' mv g' ia=>?_;rw[Moved.eq_with mv];obtain⟨ys,sy,py⟩:=hv acc.toList (by rw[cR];exact ia.1) λi v e=>ia.2 i v (by rw[<- fB];exact e);refine hR s'.heap s'.toks acc.toList ys c' (λb o e=>?_) sy py (by rw[qo];exact g');have nb:b≠s.heap.objs.size:=bB (aY e);refine mv.heap b o (λz=>?_) (k3 b o nb (k2 b o (k1 b o e)))
  rcases aM.mp z with z|z
  .exact nb z
  .have bi:b=I:=aX.mp z;have:=aY (k1 b o e);rw[bi] at this;exact absurd (b8 this hI) (gw _)
 have g2:=k2 _ _ g1;have fin:∀(h4:Heap) (tk:Nat) (vs:List Value) (ys:List Str) (c':Nat),(∀b o,s.heap.get? b=some o->h4.get? b=some o)->iP vs ys->ys.Perm D->h4.get? s.heap.objs.size=some { cls:=.type "list",dict:=none,data:=.seq vs.toArray c',slots:=(yA []) } →
   wpAny (model prog w) A (load s.heap.objs.size >>= λo=>match o.data with
    | .seq xs _=>pure xs.toList
    | _=>unsupported "internal:collect") R E { s with heap:=h4,drawn:=d2,toks:=tk }:=λh4 tk vs ys c' k4 sy py g4=>by
  refine ac (A4 g4 ?_);show wpAny _ _ (pure vs.toArray.toList) _ _ _
  exact aq (h h4 d2 tk vs ys k4 (aY g4) sy py)
 refine ac (dG (C9 ty2 ?_));refine tN (λ_=>?_) (λ_=>aq #[gE Qp _,key _ h2 0 st (λb o _ e=>e) g2 fin]);refine ac (kX (ac ?_));show wpAny _ _ (updateSeq s.heap.objs.size (·.push .none) >>= λ_=>updateSeq s.heap.objs.size (·.pop)) _ _ _
 refine ac (qe g2 rfl ?_);have g3:=kH (fE (·.push Value.none)) g2 rfl;refine qe (hz:=by seq_fits) g3 rfl ?_;have g4:=kH (fE (·.pop)) g3 rfl;refine aq #[gE Qp _,key _ _ _ ?_ (λb o nb e=>?_) g4 fin]
 .refine W.frame 0 _ _ st λb hb o e=>?_;have nb:s.heap.objs.size≠b:=λz=>nf (z▸hb);exact (iL _ _ nb).trans ((iL _ _ nb).trans e)
 .exact (iL _ _ (a8 nb)).trans ((iL _ _ (a8 nb)).trans e)
theorem Ce {a:Addr}{D:List Str}{Q:Value->Shared->Prop}(hh:A.handled=none)(hS:SS prog w s.heap a D (!w.params.followText "set-order"))(h64:D.length<64)
  (h:∀(h':Heap) (d':Drawn) (tk:Nat) (p:Addr) (vs:List Value) (ys:List Str) (n:Nat),(∀b o,s.heap.get? b=some o->h'.get? b=some o)->s.heap.objs.size<=p->h'.get? p=some { cls:=.type "list",data:=.seq vs.toArray n }->iP vs ys->ys.Perm D->cX ys=true →
   Q (.ref p) { s with heap:=h',drawn:=d',toks:=tk }):wpAny (model prog w) A (call (.builtin "sorted") [.ref a]) Q E s:=by
 refine TW kind_sorted plain_sorted entry_sorted (args_sorted1 _) ?_;unfold bY.«sorted»;refine ac (m:=checkCount "sorted" 1 1 _) (aq (ac (Dl (A:=A.in1) hh hS λh1 d1 tk vs ys k1 lt1 sy py=>?_)));have vl:vs.length<64:=by rw[sy.length,py.length_eq];exact h64
 refine ac (Io ?_ (aV (iR vl) (by decide)));have g1:(h1.push (seqObj "list" vs.toArray 0)).get? h1.objs.size=some (seqObj "list" vs.toArray 0):=bD _ rfl;refine ac (dG (fN slot_list_sort #[_,g1,0] entry_list_sort (list_sort_treeK strKind_oneLt g1 sy.keysOf (λv1 v2 rest e=>keyKind_strs (by rw[<- e];exact sy)) vl λst' a1 a2=>#[15]) (args_list_sort _)));obtain⟨zs,z1,z2,z3⟩:=sorted_out_str sy a1 a2;obtain⟨e,he⟩:=sortedHeap_at (vs:=vs) (out:=(arrOf st').map (·.2)) g1;refine aq #[1,h _ d1 tk h1.objs.size ((arrOf st').map (·.2)).toList zs e (λb o q=>?_) (iR lt1) ?_ z1 (z2.trans py) z3]
 .have q1:=k1 b o q;have bl:=aY q1;rw[sortedHeap_old (bB bl) (by rw[size_push'];exact nW bl)];exact aW _ q1
 .rw[qo];exact he
end
end SSet
namespace L2
open PySem PySem.Spec PyProof.Rows
theorem strs_vals':∀{vs:List Value} {ys:List Str},iP vs ys->Vals (ys.map V.str) vs
 | _,_,.nil=>.nil
 | _,_,.cons x t r=>.cons #[t,0] (strs_vals' r)
noncomputable def setO (X:Cx)(l:Addr)(D:List Str):HO:=.ext λh=>SSet.SS X.prog X.w h l D (!X.w.params.followText "set-order")
section
variable {X:Cx}
theorem Inv.Mq {pins:List (Addr×Obj)}{σ:St}{H:Hp}{s:Shared}(I:Inv X pins σ H s)(d:Drawn):Inv X pins σ H { s with drawn:=d } :=
 I.call (h':=s.heap) (g':=s.gens) (d':=d) (t':=s.toks) (ch:=[]) (Un.kept λb o e=>e) I.hok I.bare (λb z=>absurd z (by simp))
theorem Ds (hc:X.calm=true):di X (.type "set") (λxs H Q=>Ex2 λp ys=>xs=[.ref p]/\SqL X.K H p (ys.map V.str)/\ys.length<=1000/\∀l,H l=none->Q (.ref l) (upd H l (setO X l (SSet.dd ys)))):=by
 intro pins s σ H xs us Q I r h;obtain⟨p,ys,rfl,hq,hy,q⟩:=h;obtain⟨u,rfl,ru⟩:=vals1 r;cases ru;obtain⟨its,rv,pl,hz⟩:=I.list hq;have sy:=qL rv;have il:its.length=ys.length:=sy.length;refine SSet.set_list (xs:=ys) (I.ok.hd hc) pl.isList (by simpa using sy) (by rw[a7,il];have:kq=4096:=rfl;lk) λh' tk S k=>?_;have I1:Inv X pins σ (upd H s.heap.objs.size (setO X s.heap.objs.size (SSet.dd ys))) { s with heap:=h',toks:=tk }:=I.laid (t':=tk) (λb o e=>k b o e) (az _) #[S,let ⟨o,_,_,_,e,_⟩:=S;#[o,e],λh1 h2 x y=>x.keep y];exact#[.ref s.heap.objs.size,_,I1,0,q _ (I.hok.fresh (az _))]
theorem Us (hc:X.calm=true):di X (.builtin "sorted") (λxs H Q=>Ex2 λl D=>xs=[.ref l]/\H l=some (setO X l D)/\D.length<64/\∀p ys,H p=none->ys.Perm D->cX ys=true->Q (.ref p) (upd H p (.lst (ys.map V.str)))):=by
 intro pins s σ H xs us Q I r h;obtain⟨l,D,rfl,hl,h64,q⟩:=h;obtain⟨u,rfl,ru⟩:=vals1 r;cases ru;obtain⟨S,_,_⟩:=I.hok l _ hl;refine SSet.Ce (I.ok.hd hc) S h64 λh' d' tk p vs ys n k hp g sy py so=>?_;have I0:=I.Mq d';have vl:vs.length<=aE:=by
  rw[sy.length,py.length_eq];exact aV (iR h64) (by decide)
 have I1:Inv X pins σ (upd H p (.lst (ys.map V.str))) { s with heap:=h',drawn:=d',toks:=tk }:=I0.laid (t':=tk) (λb o e=>k b o e) hp #[by rw[aw,<- sy.length];exact vl,vs,n,strs_vals' sy,g];exact#[.ref p,_,I1,0,q p ys (I.hok.fresh hp) py so]
end
end L2
namespace L2
open PySem PySem.Spec PyProof.Rows
theorem G1 {x:Str}:∀{v:Value},KTD.flatLooks (.str x) v=true->RelV (.str x) v
 | .str y t,h=>#[t,by rw[show x=y from beq_iff_eq.mp h]]
theorem xv:∀{ss:List Str} {vs:List Value},KTD.flatsLook (ss.map PyData.str) vs=true->Vals (ss.map V.str) vs
 | [],[],_=>.nil
 | x::ss,v::vs,h=>by
  rw[bp] at h;have h':(KTD.flatLooks (.str x) v&&KTD.flatsLook (ss.map PyData.str) vs)=true:=h;rw[gz] at h';exact .cons (G1 h'.1) (xv h'.2)
noncomputable def TupK (K:ah)(a:Addr)(ss:List Str):Prop:=jP (λb=>K.lookup b) (.tup (ss.map PyData.str)) (.ref a)=true
theorem TupK.sq {K:ah}{a:Addr}{ss:List Str}(h:TupK K a ss)(hz:ss.length<=1000)(H:Hp):SqT K H a (ss.map V.str):=by
 unfold TupK jP at h;simp only at h
 split at h
 .rename_i o ho;rw[gz] at h;obtain⟨e1,e2⟩:=h
  split at e2
  .rename_i vs n hd;have V:=xv e2;have hl:=V.length;refine .inr #[o,vs,n,ho,beq_iff_eq.mp e1,hd,5,V];rw[aw] at hl;have:vs.size=ss.length:=by simpa using hl.symm
   rw[this];exact aV hz (by decide)
  .cases e2
 .cases h
theorem GV {K:ah}{ss:List Str}:∀{v:Value},jP (λb=>K.lookup b) (.tup (ss.map PyData.str)) v=true->∃b,v = .ref b/\TupK K b ss
 | .ref b,h=>#[b,0,h]
section
variable {X:Cx}{a:Addr}{D:List (Str×qJ)}
noncomputable abbrev TabK (K:ah)(a:Addr)(D:List (Str×qJ)):Prop:=wq (jP λb=>K.lookup b) (λb=>K.lookup b) a D=true
theorem MS {K:ah}(hK:X.K=K)(l:TabK K a D):IxR X (λx y H Q=>Ex2 λk ss=>x = .ref a/\y = .str k/\qj k D=some (.tup (ss.map PyData.str))/\∀b,TupK K b ss->Q (.ref b) H):=by
 subst hK;intro value slice pins s σ H x y v u Q I rx ry h hs;obtain⟨k,ss,rfl,rfl,hat,q⟩:=h;cases rx;obtain⟨tk,rfl⟩:=ry;obtain⟨_,o,es,ep,ho,hc,hd,hr⟩:=KTD.tab_of_look (R:=λd v=>jP (λb=>X.K.lookup b) d v=true) (λ_ _ z=>z) (h:=s.heap) (λb o z=>I.kIn b o z) l;obtain⟨z,hz,hl⟩:=hr.find_some hat
 obtain⟨b,rfl,hb⟩:=GV hl;have ty:s.TypeIs (.ref a) "dict":=#[o,ho,hc.1];refine EX (x:=.ref b) ty qY.lookup ?_ hs;unfold jv
 try with_reducible refine dG ?_
 refine ac (F1 ty (by decide) ?_);refine ac (jf (name:=iV "__getitem__") ty qY
  (fN qY ty entry_dict_getitem ?_ (args_dict_getitem _ _)))
 have fin:∀k',EP X pins σ Q (.ref b) { s with toks:=k' }:=λk'=>#[.ref b,H,I.tok _,0,q b hb];have fnd:findBy (λk v=>v.isStr k) es k=some (.ref b):=by
  rw[<- hz];obtain⟨l⟩:=es;simp[findBy]
 show wpAny _ _ (dictGet a (.str k tk) >>= _) _ _ s
 refine ac ?_;unfold dictGet
 try with_reducible refine dG ?_
 refine ac (wpAny_pyHash_str (ac (KTD.kt_dictFind_strs (s:={ s with toks:=s.toks+1 }) ho hd (by obtain⟨l⟩:=es;simpa using hr.exact) ?_)));rw[findBy_of_findIdx?] at fnd;cases hi:es.findIdx? λe=>e.key.isStr k with
 | none=>rw[hi] at fnd;cases fnd
 | some i =>
  rw[hi] at fnd;refine ac (y6 (s:={ s with toks:=s.toks+1 }) ho hd (aq ?_));rw[show es[i]?.map (·.val)=some (.ref b) from fnd];exact aq #[1,aq #[0,fin _]]
end
structure Isi (K:ah)(C:Addr):Prop where
 ha:cm K (.ref C) "__class__" = some (some (.builtin "object.__class__"))
 hn:A2 K (.builtin "object.__class__") "__get__" = some (some (.builtin "getset_descriptor.__get__"))
 ht:Nt K (.builtin "object.__class__")=some true
 hm:Os K C (.type "object")=some true
 oStr:ce K (.ref C) (.type "str")=some false
 oInt:ce K (.ref C) (.type "int")=some false
 oTup:ce K (.ref C) (.type "tuple")=some false
 oLst:ce K (.ref C) (.type "list")=some false
 sO:ce K (.type "str") (.ref C)=some false
 iO:ce K (.type "int") (.ref C)=some false
theorem Isi.self {K:ah}{C:Addr}(h:Isi K C):ce K (.ref C) (.ref C)=some true:=by
 unfold ce;rw[if_pos (by simp)]
theorem Isi.ty {K:ah}{C a dx:Addr}{fs:List (Str×V)}{H:Hp}(h:Isi K C)(cl:Cls K C)(e:H a=some (.ins C dx fs)):TyOf K H (.ref a) (.ref C):=.ins e cl h.ha h.hn h.ht h.hm
end L2
namespace L2
open PySem PySem.Spec PyProof.Rows
section
variable {X:Cx}
theorem uM:MtR X "str.join" (λx xs H Q=>Ex3 λsep a ys=>x = .str sep/\xs=[.ref a]/\SqT X.K H a (ys.map V.str)/\(ys.map (·.length)).sum+ys.length*sep.length<=16777216/\Q (.str (aj sep ys)) H):=by
 intro pins s σ H x xs v us Q I rx rs h;obtain⟨sep,a,ys,rfl,rfl,hq,hz,q⟩:=h;obtain⟨t,rfl⟩:=rx;obtain⟨u,rfl,ru⟩:=vals1 rs;cases ru;obtain⟨its,rv,p,_⟩:=I.tuple hq;refine join_tuple (items:=its.toArray) (ys:=ys) p (by simpa using qL rv) hz λt' k=>#[.str _,H,I.tok k,#[t',0],5];have e:Txt.join sep ys=aj sep ys:=by first|rfl|exact SE sep ys
 rw[e];exact q
theorem QK:di X (.builtin "sorted") (λxs H Q=>Ex2 λl zs=>xs=[.ref l]/\SqL X.K H l (zs.map V.str)/\zs.length<64/\∀p ys,H p=none->ys.Perm zs->cX ys=true->Q (.ref p) (upd H p (.lst (ys.map V.str)))):=by
 intro pins s σ H xs us Q I r h;obtain⟨l,zs,rfl,hl,h64,q⟩:=h;obtain⟨u,rfl,ru⟩:=vals1 r;cases ru;obtain⟨its,rv,pl,_⟩:=I.list hl;have sy:=qL rv;refine sorted_strs (vs:=its) (ss:=zs) pl.isList sy (by rw[sy.length];exact h64) λout ys a1 a2 a3=>?_;obtain⟨e,he⟩:=sortedAll_at s.heap its out;have vl:out.toList.length<=aE:=by
  rw[a1.length,a2.length_eq];exact aV (iR h64) (by decide)
 have I1:Inv X pins σ (upd H (s.heap.objs.size+1) (.lst (ys.map V.str))) { s with heap:=Ah s.heap its out }:=I.laid (t':=s.toks) (λb o e=>sortedAll_old e) (gD _) #[by rw[aw,<- a1.length];exact vl,out.toList,e,strs_vals' a1,by rw[qo];exact he];exact#[.ref (s.heap.objs.size+1),_,I1,0,q _ ys (I.hok.fresh (gD _)) a2 a3]
end
end L2
namespace TSort
open PySem PyProof.Rows
noncomputable abbrev IL:=List Int
section keys
variable (k:Value->IL)
noncomputable def ka (xs:Array Keyed)(i:Nat):IL:=((xs[i]?).map λp=>k p.1).getD []
noncomputable def Up (xs:Array Keyed)(n:Nat):Prop:=∀i j,i<j->j<n->ka k xs i<ka k xs j
noncomputable def Dn (xs:Array Keyed)(n:Nat):Prop:=∀i j,i<j->j<n->ka k xs j<ka k xs i
variable {k}
theorem jI {xs ys:Array Keyed}{i j:Nat}(e:xs[i]?=ys[j]?):ka k xs i=ka k ys j:=by
 unfold ka;rw[e]
theorem Up.more {xs:Array Keyed}{n:Nat}(h:Up k xs n)(h1:1<=n)(e:ka k xs (n-1)<ka k xs n):Up k xs (n+1):=by
 intro i j a b
 rcases jw j n with c|c
 .exact h i j a c
 .obtain rfl:j=n:=by lk
  rcases jw i (j-1) with d|d
  .exact mJ (h i (j-1) d (by lk)) e
  .obtain rfl:i=j-1:=by lk
   exact e
theorem Dn.more {xs:Array Keyed}{n:Nat}(h:Dn k xs n)(h1:1<=n)(e:ka k xs n<ka k xs (n-1)):Dn k xs (n+1):=by
 intro i j a b
 rcases jw j n with c|c
 .exact h i j a c
 .obtain rfl:j=n:=by lk
  rcases jw i (j-1) with d|d
  .exact mJ e (h i (j-1) d (by lk))
  .obtain rfl:i=j-1:=by lk
   exact e
theorem Dn.turn {xs:Array Keyed}{n:Nat}(h:Dn k xs n)(hn:n<=xs.size):Up k (mirror xs 0 n ((n-0) / 2)) n:=by
 intro i j a b;have e:∀m,m<n->ka k (mirror xs 0 n ((n-0) / 2)) m=ka k xs (0+n-1-m):=λm hm=>by
  have z:=getElem?_mirror_all (i:=0) hn m;rw[if_pos #[ba _,hm]] at z;exact jI z
 rw[e i (by lk),e j b];exact h _ _ (by lk) (by lk)
end keys
structure Ok (a0:Array Keyed)(kd:oN)(st:SortSt):Prop where
 perm:(arrOf st).Perm a0
 kind:kindOf st=kd
 none:failedOf st=none
 pend:qd st=(yA [])
theorem Ok.size {a0:Array Keyed}{kd:oN}{st:SortSt}(h:Ok a0 kd st):(arrOf st).size=a0.size:=h.perm.size_eq
theorem Ok.put {a0:Array Keyed}{kd:oN}{st:SortSt}(h:Ok a0 kd st){xs:Array Keyed}(p:xs.Perm (arrOf st)):Ok a0 kd (setArr st xs):=#[p.trans h.perm,h.kind,h.none,h.pend]
section
variable {pr:aR}{wo:World}{Ar:Around}{Ex:Value->Shared->Prop}{sh:Shared}{k:Value->IL}{a0:Array Keyed}{kd:oN}
structure Cmp (pr:aR)(wo:World)(Ar:Around)(Ex:Value->Shared->Prop)(sh:Shared)(k:Value->IL)(a0:Array Keyed)(kd:oN):Prop where
 lt:∀(x y:Keyed) (st:SortSt) (R:Option Bool->SortSt->Prop),kindOf st=kd->x∈a0.toList->y∈a0.toList->k x.1≠k y.1->R (some (decide (k x.1<k y.1))) st->wpS (model pr wo) Ar Ex sh (lt' x y) R st
 un:(a0.toList.map λp=>k p.1).Nodup
theorem Cmp.apart (C:Cmp pr wo Ar Ex sh k a0 kd){st:SortSt}(G:Ok a0 kd st){i j:Nat}(hi:i<a0.size)(hj:j<a0.size)(n:i≠j):ka k (arrOf st) i≠ka k (arrOf st) j:=by
 have p:=(MC.mp G.perm).map λq:Keyed=>k q.1;have u:((arrOf st).toList.map λq:Keyed=>k q.1).Nodup:=p.symm.nodup C.un;have zi:i<(arrOf st).size:=by rw[G.size];exact hi
 have zj:j<(arrOf st).size:=by rw[G.size];exact hj
 have g:=yP.mp u;have ei:ka k (arrOf st) i=k (arrOf st)[i].1:=by unfold ka;rw[gO zi];rfl
 have ej:ka k (arrOf st) j=k (arrOf st)[j].1:=by unfold ka;rw[gO zj];rfl
 rw[ei,ej]
 rcases Nat.lt_or_gt_of_ne n with c|c
 .have z:=g i j (by simpa using zi) (by simpa using zj) c;rw[rP,rP] at z;exact z
 .have z:=g j i (by simpa using zj) (by simpa using zi) c;rw[rP,rP] at z;exact λe=>z e.symm
theorem Cmp.at (C:Cmp pr wo Ar Ex sh k a0 kd){st:SortSt}(G:Ok a0 kd st){i j:Nat}(hi:i<a0.size)(hj:j<a0.size)(n:i≠j){R:Option Bool->SortSt->Prop}
  (h:R (some (decide (ka k (arrOf st) i<ka k (arrOf st) j))) st):wpS (model pr wo) Ar Ex sh (ltAt' i j) R st:=by
 have ap:=C.apart G hi hj n;have zi:i<(arrOf st).size:=by rw[G.size];exact hi
 have zj:j<(arrOf st).size:=by rw[G.size];exact hj
 have ei:(arrOf st)[i]?=some (arrOf st)[i]:=gO zi;have ej:(arrOf st)[j]?=some (arrOf st)[j]:=gO zj;have m:∀q:Keyed,q∈(arrOf st).toList->q∈a0.toList:=λq hq=>(MC.mp G.perm).mem_iff.mp hq;rw[ltAt'_eq];refine cg (rS ?_);show wpS (model pr wo) Ar Ex sh (elem' (arrOf st) i >>= λx=>elem' (arrOf st) j >>= λy=>lt' x y) R st
 rw[elem'_eq,elem'_eq,ei,ej];refine cg (dD (cg (dD ?_)));have ki:ka k (arrOf st) i=k (arrOf st)[i].1:=by unfold ka;rw[ei];rfl
 have kj:ka k (arrOf st) j=k (arrOf st)[j].1:=by unfold ka;rw[ej];rfl
 rw[ki,kj] at h ap;exact C.lt _ _ st R G.kind (m _ (by simp)) (m _ (by simp)) ap h
theorem not_lt {a b:IL}(n:a≠b)(h:¬ a<b):b<a:=by
 rcases Decidable.em (b<a) with c|c
 .exact c
 .exact absurd (Rz (zm.mp c) (zm.mp h)) n
theorem Cmp.asc (C:Cmp pr wo Ar Ex sh k a0 kd){st:SortSt}(G:Ok a0 kd st){a m:Nat}(hm:m<=a0.size)(h1:1<=a)(h2:a<=m)(u:Up k (arrOf st) a){R:AscSt->SortSt->Prop}
  (q:∀n,a<=n->n<=m->Up k (arrOf st) n->(n=m∨ka k (arrOf st) n<ka k (arrOf st) (n-1))->R (none,n) st):wpS (model pr wo) Ar Ex sh (ascLoop a m) R st:=by
 unfold ascLoop;refine qW (I:=λx c z=>z=st/\c=(none,x)/\Up k (arrOf st) x) (λx c z ax xm I=>?_) (λc z I=>?_) #[00,u]
 .obtain⟨rfl,rfl,v⟩:=I;dsimp only;refine cg (C.at G (by lk) (by lk) (by lk) ?_);have ap:=C.apart G (i:=x) (j:=x-1) (by lk) (by lk) (by lk)
  by_cases c:ka k (arrOf z) x<ka k (arrOf z) (x-1)
  .rw[decide_eq_true c];exact dD (q x ax (by lk) v (.inr c))
  .rw[decide_eq_false c];exact dD #[00,v.more (by lk) (not_lt ap c)]
 .obtain⟨rfl,rfl,v⟩:=I;rw[show max a m=m by lk] at v ⊢;exact q m h2 (az _) v (.inl rfl)
theorem Cmp.last (C:Cmp pr wo Ar Ex sh k a0 kd){st:SortSt}(G:Ok a0 kd st){n m:Nat}(hm:m<=a0.size)(h1:1<=n)(h2:n<=m)(d:Dn k (arrOf st) n){R:Option Nat->SortSt->Prop}
  (q:∀l z,Ok a0 kd z->1<=l->l<=m->Up k (arrOf z) l->R (some l) z):wpS (model pr wo) Ar Ex sh (tail3 n m) R st:=by
 unfold tail3;refine cg (wpS_reverse ?_);have G':Ok a0 kd (setArr st (mirror (arrOf st) 0 n ((n-0) / 2))):=G.put (mirror_perm _ _ _ _);exact cg (C.asc G' hm h1 h2 (d.turn (by rw[G.size];lk)) λl a b c _=>dD (q l _ G' (by lk) b c))
theorem Cmp.desc (C:Cmp pr wo Ar Ex sh k a0 kd){st:SortSt}(G:Ok a0 kd st){n m:Nat}(hm:m<=a0.size)(h1:1<=n)(h2:n<=m)(d:Dn k (arrOf st) n){R:DescSt->SortSt->Prop}
  (q:∀l,n<=l->l<=m->Dn k (arrOf st) l->R (none,l,0) st):wpS (model pr wo) Ar Ex sh (descLoop n m) R st:=by
 unfold descLoop;refine qW (I:=λx c z=>z=st/\c=(none,x,0)/\Dn k (arrOf st) x) (λx c z ax xm I=>?_) (λc z I=>?_) #[00,d]
 .obtain⟨rfl,rfl,v⟩:=I;dsimp only;refine cg (C.at G (by lk) (by lk) (by lk) ?_);have ap:=C.apart G (i:=x) (j:=x-1) (by lk) (by lk) (by lk)
  by_cases c:ka k (arrOf z) x<ka k (arrOf z) (x-1)
  .rw[decide_eq_true c];exact dD #[00,v.more (by lk) c]
  .rw[decide_eq_false c];refine cg (C.at G (by lk) (by lk) (by lk) ?_);rw[decide_eq_true (not_lt ap c)];exact dD (q x ax (by lk) v)
 .obtain⟨rfl,rfl,v⟩:=I;rw[show max n m=m by lk] at v ⊢;exact q m h2 (az _) v
theorem Cmp.part (C:Cmp pr wo Ar Ex sh k a0 kd){st:SortSt}(G:Ok a0 kd st){n m:Nat}(hm:m<=a0.size)(h2:n+1<=m)(d:Dn k (arrOf st) (n+1)){R:Option Nat->SortSt->Prop}
  (q:∀l z,Ok a0 kd z->1<=l->l<=m->Up k (arrOf z) l->R (some l) z):wpS (model pr wo) Ar Ex sh (descPart n m) R st:=by
 unfold descPart;refine cg (wpS_lift (kX #[05]));refine cg (C.desc G hm (by lk) h2 d λl a b c=>?_);exact C.last G hm (by lk) b c q
theorem Cmp.run (C:Cmp pr wo Ar Ex sh k a0 kd){st:SortSt}(G:Ok a0 kd st){m:Nat}(hm:m<=a0.size)(h1:1<=m){R:Option Nat->SortSt->Prop}
  (q:∀l z,Ok a0 kd z->1<=l->l<=m->Up k (arrOf z) l->R (some l) z):wpS (model pr wo) Ar Ex sh (countRun' 0 m) R st:=by
 rw[countRun0_eq];refine cg (C.asc G hm (az 1) h1 (λi j a b=>by lk) λn a b c d=>?_);dsimp only
 by_cases e:n=m
 .rw[if_pos (by simpa using e)];exact dD (q n st G a b c)
 .rw[if_neg (by simpa using e)];have lt:=d.resolve_left e
  by_cases g:n>1
  .rw[if_pos g];refine cg (C.at G (by lk) (by lk) (by lk) ?_);rw[decide_eq_true (c 0 (n-1) (by lk) (by lk))];exact dD (q n st G a b c)
  .rw[if_neg g];obtain rfl:n=1:=by lk
   refine C.part G hm (by lk) (λi j x y=>?_) q;obtain rfl:i=0:=by lk
   obtain rfl:j=1:=by lk
   exact lt
end
end TSort
namespace TSort
open PySem PyProof.Rows
theorem vk {k:Value->IL}{xs:Array Keyed}{c l:Nat}(hc:c<xs.size)(hl:l<=c)(m:Nat) :
  ka k (bubble xs c (c-l)) m=if m=l then ka k xs c else if l<m/\m<=c then ka k xs (m-1) else ka k xs m:=by
 have z:=getElem?_bubble hc (c-l) (by lk) m;rw[show c-(c-l)=l by lk] at z
 by_cases a:m=l
 .rw[if_pos a] at z ⊢;exact jI z
 .rw[if_neg a] at z ⊢
  by_cases b:l<m/\m<=c
  .rw[if_pos b] at z ⊢;exact jI z
  .rw[if_neg b] at z ⊢;exact jI z
theorem Up.put {k:Value->IL}{xs:Array Keyed}{c l:Nat}(h:Up k xs c)(hc:c<xs.size)(hl:l<=c)(lo:∀i,i<l->ka k xs i<ka k xs c)(hi:∀i,l<=i->i<c->ka k xs c<ka k xs i):Up k (bubble xs c (c-l)) (c+1):=by
 intro i j a b;rw[vk hc hl,vk hc hl]
 by_cases i1:i=l
 .rw[if_pos i1,if_neg (by lk),if_pos (by lk)];exact hi _ (by lk) (by lk)
 .rw[if_neg i1]
  by_cases j1:j=l
  .rw[if_pos j1,if_neg (by lk)];exact lo i (by lk)
  .rw[if_neg j1]
   by_cases i2:l<i/\i<=c
   .rw[if_pos i2,if_pos (by lk)];exact h _ _ (by lk) (by lk)
   .rw[if_neg i2]
    by_cases j2:l<j/\j<=c
    .rw[if_pos j2];exact h _ _ (by lk) (by lk)
    .rw[if_neg j2];exact h _ _ a (by lk)
section
variable {pr:aR}{wo:World}{Ar:Around}{Ex:Value->Shared->Prop}{sh:Shared}{k:Value->IL}{a0:Array Keyed}{kd:oN}
theorem Cmp.ins (C:Cmp pr wo Ar Ex sh k a0 kd){st:SortSt}(G:Ok a0 kd st){n m:Nat}(hn:n<=a0.size)(hm:m<=n)(u:Up k (arrOf st) m){R:Bool->SortSt->Prop}
  (q:∀z,Ok a0 kd z->Up k (arrOf z) n->R true z):wpS (model pr wo) Ar Ex sh (binarySort' 0 n m) R st:=by
 rw[binarySort'_eq];simp only[xL];refine cg (wpS_mono (qW (I:=λc o z=>o=(none,())/\Ok a0 kd z/\Up k (arrOf z) (min c n)) (Q:=λo z=>o=(none,())/\Ok a0 kd z/\Up k (arrOf z) n) (λc o z mc cn I=>?_) (λo z I=>?_) #[0,G,λi j a b=>?_]) λo z I=>?_)
 .obtain⟨rfl,G',v⟩:=I;rw[show min c n=c by lk] at v;have sz:c<(arrOf z).size:=by rw[G'.size];lk
  refine cg (wpS_mono (qW (I:=λx o y=>y=z/\Ex2 λl r=>o=(none,l,r)/\l<=r/\r<=c/\r-l<=c-x/\(∀i,i<l->ka k (arrOf z) i<ka k (arrOf z) c)/\∀i,r<=i->i<c->ka k (arrOf z) c<ka k (arrOf z) i)
   (Q:=λo y=>y=z/\Ex2 λl r=>o=(none,l,r)/\l<=c/\(∀i,i<l->ka k (arrOf z) i<ka k (arrOf z) c)/\∀i,l<=i->i<c->ka k (arrOf z) c<ka k (arrOf z) i) (λx o y _ xc J=>?_) (λo y J=>?_) #[0,(0),c,0333,λi h=>by lk,λi h1 h2=>by lk]) λo y J=>?_)
  .obtain⟨rfl,l,r,rfl,lr,rc,w,lo,hi⟩:=J;dsimp only
   by_cases g:l≥r
   .rw[if_pos g];obtain rfl:l=r:=by lk
    exact dD #[0,l,l,0,rc,lo,hi]
   .rw[if_neg g];refine cg (C.at G' (by lk) (by lk) (by lk) ?_);have ap:=C.apart G' (i:=c) (j:=(l+r) / 2) (by lk) (by lk) (by lk)
    by_cases d:ka k (arrOf y) c<ka k (arrOf y) ((l+r) / 2)
    .rw[decide_eq_true d];refine dD #[0,l,(l+r) / 2,0333,lo,λi h1 h2=>?_]
     rcases jw ((l+r) / 2) i with e|e
     .exact mJ d (v _ _ e h2)
     .obtain rfl:i=(l+r) / 2:=by lk
      exact d
    .rw[decide_eq_false d];have d':=not_lt ap d;refine dD #[0,(l+r) / 2+1,r,0333,λi h1=>?_,hi]
     rcases jw i ((l+r) / 2) with e|e
     .exact mJ (v _ _ e (by lk)) d'
     .obtain rfl:i=(l+r) / 2:=by lk
      exact d'
  .obtain⟨rfl,l,r,rfl,lr,rc,w,lo,hi⟩:=J;obtain rfl:l=r:=by lk
   exact#[0,l,l,0,rc,lo,hi]
  .obtain⟨rfl,l,r,rfl,lc,lo,hi⟩:=J;refine cg (m:=moveDown' c l) ?_;rw[moveDown'_eq];refine wpS_modify (dD #[0,G'.put (bubble_perm _ _ _),5]);rw[show min (c+1) n=c+1 by lk];exact v.put sz lc lo hi
 .obtain⟨rfl,G',v⟩:=I;rw[show min (max (max m 1) n) n=n by lk] at v;exact#[0,G',v]
 .exact u i j a (by lk)
 .obtain⟨rfl,G',v⟩:=I;exact dD (q z G' v)
structure Fin (k:Value->IL)(a0:Array Keyed)(st:SortSt):Prop where
 perm:(arrOf st).Perm a0
 none:failedOf st=none
 pend:qd st=(yA [(0,a0.size,0)])
 up:Up k (arrOf st) a0.size
theorem Ok.fin {st:SortSt}(G:Ok a0 kd st)(u:Up k (arrOf st) a0.size):Fin k a0 (setPending st ((qd st).push (0,a0.size,0))) :=
 #[G.perm,G.none,by show (qd st).push (0,a0.size,0)=(yA [(0,a0.size,0)]);rw[G.pend];rfl,u]
theorem Cmp.all (C:Cmp pr wo Ar Ex sh k a0 kd){st:SortSt}(G:Ok a0 kd st)(h2:2<=a0.size)(h64:a0.size<64){R:Unit->SortSt->Prop}
  (q:∀z,(arrOf z).Perm a0->failedOf z=none->Up k (arrOf z) a0.size->R () z):wpS (model pr wo) Ar Ex sh sortRuns' R st:=by
 rw[sortRuns'_eq];refine cg (rS ?_);dsimp only;have mr:minRun' a0.size a0.size 0=a0.size:=by
  obtain⟨f,hf⟩:∃f,a0.size=f+1:=#[a0.size-1,3];have z:minRun' (f+1) a0.size 0=a0.size:=by
   rw[minRun'_succ,if_pos h64,Nat.add_zero]
  rw[<- hf] at z;exact z
 simp only[G.size,mr];refine cg (wpS_mono (qW (I:=λx o z=>(x=0/\o=(none,0)/\Ok a0 kd z)∨(1<=x/\o=(none,a0.size)/\Fin k a0 z)) (Q:=λo z=>o=(none,a0.size)/\Fin k a0 z) (λx o z _ hx I=>?_) (λo z I=>?_) (.inl #[00,G])) λo z I=>?_)
 .rcases I with⟨rfl,rfl,G'⟩|⟨x1,rfl,D⟩
  .dsimp only;rw[if_neg (by lk)];simp only[yX,Nat.min_self,xL];refine cg (C.run G' (az _) (by lk) λl y Gy l1 l2 uy=>?_);dsimp only
   by_cases lt:l<a0.size
   .rw[if_pos lt];refine cg (wpS_lift (kX #[05]));refine cg (C.ins Gy (az _) l2 uy λv Gv uv=>?_);simp only[Bool.not_true,kr,if_false];refine cg (rS ?_);rw[show (qd v).back?=none by rw[Gv.pend];rfl];exact cg (wpS_modify (dD (.inr #[30,Gv.fin uv])))
   .rw[if_neg lt];obtain rfl:l=a0.size:=by lk
    refine cg (rS ?_);rw[show (qd y).back?=none by rw[Gy.pend];rfl];exact cg (wpS_modify (dD (.inr #[30,Gy.fin uy])))
  .dsimp only;rw[if_pos (az _)];exact dD #[0,D]
 .rcases I with⟨hx,_,_⟩|⟨_,ho,D⟩
  .omega
  .exact#[ho,D]
 .obtain⟨rfl,D⟩:=I;dsimp only;refine cg (wpS_mono (qW (I:=λ_ o y=>y=z/\o=(none,())) (Q:=λo y=>y=z/\o=(none,())) (λx o y _ _ J=>?_) (λ_ _ J=>J) #[00]) λo y J=>?_)
  .obtain⟨rfl,rfl⟩:=J;refine cg (rS ?_);rw[if_pos (by rw[D.pend];exact az 1)];exact dD #[00]
  .obtain⟨rfl,rfl⟩:=J;exact dD (q _ D.perm D.none D.up)
end
end TSort
namespace TSort
open PySem PyProof.Rows
noncomputable def TupI (h:Heap)(a:Addr)(ks:IL):Prop:=Ex5 λ(o:Obj) (its:Array Value) (n:Nat) (us rest:List Value)=>h.get? a=some o/\o.cls = .type "tuple" /\ o.data = .seq its n/\its.toList=us++rest/\eR us ks
theorem TupI.keep {h h':Heap}{a:Addr}{ks:IL}(t:TupI h a ks)(e:∀o,h.get? a=some o->h'.get? a=some o):TupI h' a ks:=by
 obtain⟨o,its,n,us,rest,h1,h2⟩:=t;exact#[o,its,n,us,rest,e _ h1,h2]
noncomputable def kf (f:Addr->IL):Value->IL
 | .ref a=>f a
 | _=>[]
section
variable {pr:aR}{wo:World}{Ar:Around}{Ex:Value->Shared->Prop}{sh:Shared}
theorem lex {b fin:Bool}{R:Bool->Shared->Prop}:∀{us vs:List Value} {xs ys:IL} {r1 r2:List Value} {i:Nat},eR us xs->eR vs ys->xs.length=ys.length->xs≠ys->R (decide (xs<ys)) sh->W.KatLex pr wo Ar b fin R ((us++r1).zip (vs++r2)) i sh
 | _,_,_,_,_,_,_,.nil,.nil,_,n,_=>absurd rfl n
 | _,_,_,_,_,_,_,.nil,.cons _ _ _,l,_,_=>by simp at l
 | _,_,_,_,_,_,_,.cons _ _ _,.nil,l,_,_=>by simp at l
 | _,_,_,_,r1,r2,i,.cons x t hx (vs:=us) (ns:=xs),.cons y u hy (vs:=vs) (ns:=ys),l,n,q=>by
  refine W.kat_cons (wpAny_eqBool_int ?_)
  by_cases e:x=y
  .subst e;rw[show (x==x)=true by simp];refine W.kat_yes (lex hx hy (by simpa using l) (λz=>n (by rw[z])) ?_);have z:decide (x::xs<x::ys)=decide (xs<ys):=by
    apply decide_eq_decide.mpr;rw[x6]
    constructor
    .rintro (c|⟨_,c⟩)
     .exact absurd c (BP x)
     .exact c
    .exact λc=>.inr #[0,c]
   rw[z] at q;exact q
  .rw[show (x==y)=false by simpa using e];have z:decide (x::xs<y::ys)=decide (x<y):=by
    apply decide_eq_decide.mpr;rw[x6]
    constructor
    .rintro (c|⟨c,_⟩)
     .exact c
     .exact absurd c e
    .exact λc=>.inl c
   rw[z] at q;refine W.kat_no ?_;cases (b&&i==0) with
   | true=>exact oneLt_int q
   | false=>exact W.kat_one _ _ (lt_int q)
theorem JU {f:Addr->IL}{vs:List Value}{m:Nat}{b:Bool}(hv:∀v∈vs,∃a,v = .ref a/\TupI sh.heap a (f a)/\(f a).length=m)(un:(vs.map (kf f)).Nodup):Cmp pr wo Ar Ex sh (kf f) (lU vs) (tuples' b):=by
 refine#[λx y st R hk mx my n q=>?_,5]
 .rw[Jw] at mx my;obtain⟨a,ea,⟨o1,i1,n1,u1,r1,g1,_,d1,l1,t1⟩,m1⟩:=hv _ (KF mx).2;obtain⟨c,ec,⟨o2,i2,n2,u2,r2,g2,_,d2,l2,t2⟩,m2⟩:=hv _ (KF my).2;rw[ea,ec] at n q;rw[lt'_eq];refine cg (rS ?_);rw[hk,ea,ec];refine cg (wpS_lift (ow (W.kat_lt g1 d1 g2 d2 ?_)));rw[l1,l2];exact lex t1 t2 (by rw[m1,m2]) n #[0,dD q]
 .rw[Jw];have e:(vs.zip vs).map (λp=>kf f p.1)=vs.map (kf f):=by
   rw[show (λp:Keyed=>kf f p.1)=kf f∘Prod.fst from rfl,<- cW,QC (az _)]
  rw[e];exact un
theorem GC {f:Addr->IL}{vs:List Value}{m:Nat}{R:oN->Shared->Prop}(hm:0<m)(h0:0<vs.length)(hv:∀v∈vs,∃a,v = .ref a/\TupI sh.heap a (f a)/\(f a).length=m)(q:R (tuples' true) sh):wpAny (model pr wo) Ar (keyKind' vs.toArray) R Ex sh:=by
 have all:∀vs:List Value,(∀v∈vs,∃a,v = .ref a/\TupI sh.heap a (f a)/\(f a).length=m)->∃fs,W.KatTups sh.heap vs fs/\fs.length=vs.length/\∀v∈fs,Ex2 λx t=>v = .int x t:=by
  intro vs
  induction vs with
  | nil=>exact λ_=>#[[],.nil,0,by simp]
  | cons v r ih =>
   intro h;obtain⟨fs,a1,a2,a3⟩:=ih λz hz=>h z (bx _ hz);obtain⟨a,rfl,⟨o,its,n,us,rest,g,c,d,l,t⟩,hl⟩:=h v bb;generalize f a=ks at t hl;cases t with
   | nil=>simp at hl;lk
   | cons x tk h' =>
    refine#[.int x tk::fs,.cons g c d (by rw[<- fB,l];rfl) a1,by rw[aK,aK,a2],5];intro z hz
    rcases aM.mp hz with e|e
    .exact#[x,tk,e]
    .exact a3 z e
 obtain⟨fs,a1,a2,a3⟩:=all vs hv;refine W.kat_kind (T:=.type "int") a1 (by lk) (λv h=>?_) rfl q;obtain⟨x,t,rfl⟩:=a3 v h;exact .now
end
end TSort
namespace TSort
open PySem PyProof.Rows
section
variable {pr:aR}{wo:World}{Ar:Around}{Ex:Value->Shared->Prop}{sh:Shared}
theorem le64:64<=aE:=by decide
theorem vJ {f:Addr->IL}{vs:List Value}{xs:Array Keyed}(p:xs.Perm (lU vs))(u:Up (kf f) xs (lU vs).size):(xs.map (·.2)).toList.Perm vs/\((xs.map (·.2)).toList.map (kf f)).Pairwise (· < ·):=by
 have pl:xs.toList.Perm (vs.zip vs):=by
  rw[<- Jw];exact MC.mp p
 have same:∀q∈xs.toList,q.1=q.2:=λq hq=>(KF (pl.mem_iff.mp hq)).1;have e:(xs.map (·.2)).toList=xs.toList.map (·.1):=by
  rw[Array.toList_map];exact z6 λq hq=>(same q hq).symm
 refine#[55]
 .rw[e];have z:=pl.map Prod.fst;rw[QC (az _)] at z;exact z
 .rw[e,cW,yP];intro i j hi hj ij;have hi':i<xs.size:=by simpa using hi
  have hj':j<xs.size:=by simpa using hj
  have z:=u i j ij (by rw[<- p.size_eq];exact hj');unfold ka at z;rw[gO hi',gO hj'] at z;rw[rP,rP];exact z
theorem Md {f:Addr->IL}{a:Addr}{vs:List Value}{m n:Nat}{R:PySem.Fin->Shared->Prop}(ho:sh.heap.get? a=some (seqObj "list" vs.toArray n))(hm:0<m)(hv:∀v∈vs,∃b,v = .ref b/\TupI sh.heap b (f b)/\(f b).length=m)(un:(vs.map (kf f)).Nodup)(h64:vs.length<64)
  (q:∀out:Array Value,out.toList.Perm vs->(out.toList.map (kf f)).Pairwise (· < ·)->R (.done (.ret .none)) { sh with heap:=sortedHeap sh.heap a vs out }) :
  wpAny (model pr wo) Ar (bY.«list.sort» #[[.ref a],[]]) R Ex sh:=by
 have lt:a<sh.heap.objs.size:=aY ho;have len:vs.toArray.size=vs.length:=a7 ..;rw[list_sort_plain];refine ac (listItems_at ho rfl (ac (La ho rfl ?_)));obtain⟨ep,h1⟩:∃ep,(sh.heap.update a (fE λ_=>(yA []))).get? a=some (seqObj "list" (yA []) ep):=#[_,get?_update_seq ho λ_=>(yA [])];refine ac (seqEpoch_at h1 rfl (ac (LE (ac (Io (dG ?_))))));show wpAny (model pr wo) Ar _ R Ex { sh with heap:=((sh.heap.update a (fE λ_=>(yA []))).push (seqObj "tuple" vs.toArray 0)).push (seqObj "list" (yA []) 0) }
 generalize hH:((sh.heap.update a (fE λ_=>(yA []))).push (seqObj "tuple" vs.toArray 0)).push (seqObj "list" (yA []) 0)=H;have h6:H.get? a=some (seqObj "list" (yA []) ep):=by
  rw[<- hH];exact aW _ (aW _ h1)
 have hb:∀v∈vs,∃b,v = .ref b/\TupI H b (f b)/\(f b).length=m:=λv z=>by
  obtain⟨b,e,t,l⟩:=hv v z;refine#[b,e,t.keep λo g=>?_,l];have nb:b≠a:=by
   rintro rfl;obtain⟨o',_,_,_,_,g',c',_⟩:=t;rw[g'] at ho;cases ho;have z:Value.type "list" = Value.type "tuple":=c';injection z with z
   exact absurd z (by decide)
  rw[<- hH];exact aW _ (aW _ ((kY ..).extBut b o nb g))
 have done:∀out:Array Value,H.update a (fE λ_=>out)=sortedHeap sh.heap a vs out:=λout=>by rw[<- hH];rfl
 dsimp only
 by_cases two:vs.toArray.size<2
 .rw[if_pos two,if_pos two];refine ac (aq ?_);rw[StateT.run_pure];refine ac (aq ?_);dsimp only;refine ac (seqEpoch_at h6 rfl (ac (La h6 rfl ?_ (hsz2:=?_))))
  .simp only[bne_self_eq_false,kr,if_false];obtain⟨a1,a2⟩:=vJ (f:=f) (vs:=vs) (xs:=lU vs) (Sw _) (λi j ij hj=>by rw[uL] at hj;lk);refine aq ?_;have z:=q _ a1 a2;rw[<- done] at z;exact z
  .rw[Array.size_map];show (lU vs).size<=aE+1
   rw[uL];have:64<=aE:=by decide
   lk
 .rw[if_neg two,if_neg two];refine ac (GC hm (by lk) hb ?_);have two':2<=(lU vs).size:=by
   rw[uL];lk
  refine ac (dE ((JU (pr:=pr) (wo:=wo) (Ar:=Ar) (Ex:=Ex) (b:=true) hb un).all (st:=SortSt.mk' (tuples' true) (vs.toArray.zip vs.toArray) (yA []) 7 none) #[Sw _,000] two' (by rw[uL];exact h64) (R:=λ_ z=>(arrOf z).Perm (lU vs)/\failedOf z=none/\Up (kf f) (arrOf z) (lU vs).size) λz b1 b2 b3=>#[b1,b2,b3]) ?_ λ_ _ e=>e);rintro⟨⟨⟩,z⟩ s' ⟨rfl,b1,b2,b3⟩;dsimp only;refine ac (seqEpoch_at h6 rfl (ac (La h6 rfl ?_ (hsz2:=?_))))
  .rw[b2];simp only[bne_self_eq_false,kr,if_false];obtain⟨a1,a2⟩:=vJ b1 b3;refine aq ?_;have y:=q _ a1 a2;rw[<- done] at y;exact y
  .refine aV (zZ ((Array.size_map ..).trans (b1.size_eq.trans (uL _)))) ?_;have:64<=aE:=by decide
   lk
theorem Jn {f:Addr->IL}{l:Addr}{vs:List Value}{m:Nat}{R:Value->Shared->Prop}(hl:sh.heap.IsList l vs.toArray)(hm:0<m)(hv:∀v∈vs,∃b,v = .ref b/\TupI sh.heap b (f b)/\(f b).length=m)(un:(vs.map (kf f)).Nodup)(h64:vs.length<64)
  (q:∀out:Array Value,out.toList.Perm vs->(out.toList.map (kf f)).Pairwise (· < ·)->R (.ref (sh.heap.objs.size+1)) { sh with heap:=Ah sh.heap vs out }) :
  wpAny (model pr wo) Ar (call (.builtin "sorted") [.ref l]) R Ex sh:=by
 refine TW kind_sorted plain_sorted entry_sorted (args_sorted1 _) ?_;unfold bY.«sorted»;refine ac (m:=checkCount "sorted" 1 1 _) (aq (ac (collect_list hl (ac (Io ?_)) (aV (iR h64) le64))));show wpAny (model pr wo) _ _ _ Ex { sh with heap:=((sh.heap.push (seqObj "list" (yA []) 0)).update sh.heap.objs.size (fE (· ++ vs.toArray))).push (seqObj "list" vs.toArray 0) }
 generalize hG:(sh.heap.push (seqObj "list" (yA []) 0)).update sh.heap.objs.size (fE (· ++ vs.toArray))=G;have sz:G.objs.size=sh.heap.objs.size+1:=by
  rw[<- hG,Heap.size_update,size_push']
 have kp:∀b o,sh.heap.get? b=some o->G.get? b=some o:=λb o g=>by
  rw[<- hG];exact (kY ..).extBut b o (bB (aY g)) (aW _ g)
 have at1:(G.push (seqObj "list" vs.toArray 0)).get? (sh.heap.objs.size+1)=some (seqObj "list" vs.toArray 0):=by
  rw[<- sz];exact bD _ rfl
 rw[sz];refine ac (dG (fN slot_list_sort #[_,at1,0] entry_list_sort (Md at1 hm (λv z=>?_) un h64 λout o1 o2=>#[15]) (args_list_sort _)))
 .obtain⟨b,e,t,l'⟩:=hv v z;exact#[b,e,t.keep λo g=>aW _ (kp b o g),l']
 .refine aq #[15];have y:=q out o1 o2;unfold Ah at y;rw[hG] at y;exact y
end
end TSort
namespace L2
open PySem PyProof.Rows
noncomputable def refV:Value->V
 | .ref a=>.ref a
 | _=>.non
theorem Kv:∀{us:List V} {its:List Value},Vals us its->(∀u∈us,∃a,u = .ref a)->its.map refV=us/\∀v∈its,∃a,v = .ref a/\V.ref a∈us
 | _,_,.nil,_=>#[0,by simp]
 | _,_,.cons r t,h=>by
  obtain⟨a,rfl⟩:=h _ bb;cases r;obtain⟨e1,e2⟩:=Kv t λu hu=>h u (bx _ hu);refine#[by rw[bp,e1];rfl,5];intro v hv
  rcases aM.mp hv with z|z
  .exact#[a,z,bb]
  .obtain⟨b,e,m⟩:=e2 v z;exact#[b,e,bx _ m]
theorem ww:∀{vs:List Value},(∀v∈vs,∃a,v = .ref a)->Vals (vs.map refV) vs
 | [],_=>.nil
 | v::r,h=>by
  obtain⟨a,rfl⟩:=h v bb;exact .cons rfl (ww λu hu=>h u (bx _ hu))
section
variable {X:Cx}
theorem LZ:di X (.builtin "sorted") (λxs H Q=>Ex4 λ(l:Addr) (us:List V) (g:V->List Int) (m:Nat)=>xs=[.ref l]/\SqL X.K H l us/\us.length<64/\0<m/\(∀u∈us,Ex3 λa ys zs=>u = .ref a/\SqT X.K H a (ys.map V.int++zs)/\g u=ys/\ys.length=m)/\(us.map g).Nodup /\
  ∀p out,H p=none->out.Perm us->(out.map g).Pairwise (· < ·)->Q (.ref p) (upd H p (.lst out))):=by
 intro pins s σ H xs vs Q I r h;obtain⟨l,us,g,m,rfl,hl,h64,hm,ht,un,q⟩:=h;obtain⟨u,rfl,ru⟩:=vals1 r;cases ru;obtain⟨its,rv,pl,_⟩:=I.list hl;obtain⟨e1,e2⟩:=Kv rv λu hu=>by
  obtain⟨a,_,_,e,_⟩:=ht u hu;exact#[a,e]
 have len:its.length=us.length:=rv.length.symm;have kg:∀v∈its,TSort.kf (λa=>g (.ref a)) v=(g∘refV) v:=λv hv=>by
  obtain⟨a,rfl,_⟩:=e2 v hv;rfl
 have hv:∀v∈its,∃b,v = .ref b/\TSort.TupI s.heap b (g (.ref b))/\(g (.ref b)).length=m:=λv hv=>by
  obtain⟨a,rfl,ha⟩:=e2 v hv;obtain⟨a',ys,zs,e,sq,eg,lg⟩:=ht _ ha;cases e;obtain⟨jts,rj,⟨o,g1,g2,n,g3⟩,_⟩:=I.tuple sq;refine#[a,05,by rw[eg];exact lg];have t1:=rj.take (ys.map V.int).length;rw[List.take_left' rfl] at t1;refine#[o,jts.toArray,n,jts.take (ys.map V.int).length,jts.drop (ys.map V.int).length,g1,g2,g3,by rw[JA],5];rw[eg];exact intsAre_of t1
 have un':(its.map (TSort.kf λa=>g (.ref a))).Nodup:=by
  rw[z6 kg,<- cW,e1];exact un
 refine TSort.Jn (vs:=its) (f:=λa=>g (.ref a)) (m:=m) pl.isList hm hv un' (by rw[len];exact h64) λout o1 o2=>?_;obtain⟨e,he⟩:=sortedAll_at s.heap its out;have mem:∀v∈out.toList,v∈its:=λv hv=>o1.mem_iff.mp hv;have rout:Vals (out.toList.map refV) out.toList:=ww λv hv=>by
  obtain⟨a,e,_⟩:=e2 v (mem v hv);exact#[a,e]
 have pm:(out.toList.map refV).Perm us:=by
  have z:=o1.map refV;rw[e1] at z;exact z
 have I1:Inv X pins σ (upd H (s.heap.objs.size+1) (.lst (out.toList.map refV))) { s with heap:=Ah s.heap its out }:=I.laid (t':=s.toks) (λb o e=>sortedAll_old e) (gD _) #[by rw[pm.length_eq];exact aV (iR h64) TSort.le64,out.toList,e,rout,by rw[qo];exact he];refine#[.ref (s.heap.objs.size+1),_,I1,0,q _ _ (I.hok.fresh (gD _)) pm ?_];rw[z6 λv hv=>kg v (mem v hv),<- cW] at o2;exact o2
end
end L2
namespace L2
open PySem PyProof.Rows
section
variable {pr:aR}{wo:World}{Ar:Around}{Ex:Value->Shared->Prop}
end
section
variable {X:Cx}
theorem px (K:ah){es:List Expr}{k:Nat}{t:TGs}{n:Nat}{pos:Pos}(hc:X.calm=true)(h:PGs X es t)
  (hn:(lM es X.env).length=n:=by rfl) (hst:(lM es X.env).findIdx? (·.1)=none:=by rfl) (hK:X.K=K:=by rfl):PG X (.Tuple es k pos) (gTup K n t):=hK▸iN hc h hn hst
end
end L2
namespace L2
open PySem PyProof.Rows
section
variable {X:Cx}
inductive TyB (K:ah)(H:Hp):V->Value->Prop where
 | non:TyB K H .non (.type "NoneType")
 | bl (x:Bool):TyB K H (.bl x) (.type "bool")
 | int (i:Int):TyB K H (.int i) (.type "int")
 | str (x:Str):TyB K H (.str x) (.type "str")
 | lst {a:Addr} {xs:List V} (e:SqL K H a xs):TyB K H (.ref a) (.type "list")
 | tup {a:Addr} {xs:List V} (e:SqT K H a xs):TyB K H (.ref a) (.type "tuple")
theorem Tv:∀{ns:List String} {us:List Value},Vals (ns.map V.ty) us->us=ns.map Value.type
 | [],_,.nil=>rfl
 | n::r,_,.cons h t=>by
  rw[Tv t,show _=Value.type n from h];rfl
theorem IM:di X (.builtin "isinstance") (λxs H Q=>Ex5 λ(x:V) (tp:Addr) (t:Value) (ns:List String) (b:Bool)=>xs=[x,.ref tp]/\TyB X.K H x t/\SqT X.K H tp (ns.map V.ty)/\GD X.K t (ns.map Value.type)=some b/\Q (.bl b) H):=by
 intro pins s σ H xs us Q I r h;obtain⟨x,tp,t,ns,b,rfl,ty,ht,e,q⟩:=h;obtain⟨u,u',rfl,rx,r2⟩:=vals2 r;cases (show u'=Value.ref tp from r2);obtain⟨its,rv,⟨⟨cl,dd,da,sl⟩,g1,g2,n,g3⟩,_⟩:=I.tuple ht;cases Tv rv;simp only at g2 g3;subst g2 g3;have fin:∀tk,Ex2 λy H'=>Inv X pins σ H' { s with toks:=tk }/\RelV y (.bool b)/\Q y H':=λtk=>#[.bl b,H,I.tok tk,0,q];cases ty with
 | non=>cases (show u=Value.none from rx);exact rf QF I.kIn True.intro g1 e (λz=>nomatch z) fin
 | bl y=>cases (show u=Value.bool y from rx);exact rf Qj I.kIn True.intro g1 e (λz=>nomatch z) fin
 | int i=>obtain⟨t,z⟩:=(show ∃t,u=Value.int i t from rx);cases z;exact rf Pt I.kIn True.intro g1 e (λz=>nomatch z) fin
 | str y=>obtain⟨t,z⟩:=(show ∃t,u=Value.str y t from rx);cases z;exact rf Pl I.kIn True.intro g1 e (λz=>nomatch z) fin
 | @lst a xs el =>
  cases (show u=Value.ref a from rx);obtain⟨_,_,pl,_⟩:=I.list el;obtain⟨o,h1,h2,_⟩:=pl.isList;exact rf L7 I.kIn #[o,h1,h2] g1 e (λz=>nomatch z) fin
 | @tup a xs el =>
  cases (show u=Value.ref a from rx);obtain⟨_,_,⟨o,h1,h2,_⟩,_⟩:=I.tuple el;exact rf Qv I.kIn #[o,h1,h2] g1 e (λz=>nomatch z) fin
theorem tY (K:ah)(hK:autoParam (X.K=K) aUB._auto_1):IxR X (rIx K):=hK▸GS
theorem eq_self (A:Around)(s:Shared)(a:Addr):dB A s (.ref a) (.ref a) true:=λpr wo E R h=>by
 unfold eqBool;refine dG ?_;rw[if_pos (by simp)];exact ac (kX (aq h))
theorem all_true (n:Nat):(gM n).all (λ_=>true)=true:=by simp
noncomputable def Dz:V->List V->Hp->VK->Prop:=λx vs H Q=>Ex4 λl xs i y=>x = .ref l/\vs=[.int i,y]/\H l=some (.lst xs)/\0<=i/\i<=(xs.length:Int)/\xs.length<1000/\Q .non (upd H l (.lst (xs.take i.toNat++y::xs.drop i.toNat)))
theorem wE:MtM X "list.insert" Dz:=by
 intro pins s σ H x vs v us Q I rx rv h;obtain⟨l,xs,i,y,rfl,rfl,hH,h0,h1,hz,q⟩:=h;cases rx;obtain⟨u,u',rfl,⟨t,rfl⟩,ru⟩:=vals2 rv;obtain⟨z,its,n,r,hl,e⟩:=I.lstM hH;have len:its.length=xs.length:=r.length.symm;refine gL F.slot_list_insert #[_,e,0] F.entry_list_insert (F.args_list_insert_3 _ _ _) (AutoListH.list_insert_list_int_val_1 l its.toArray n i t u' ?_ (by rw[a7];lk)) #[e,5]
 .unfold bY.List.listFitsIndex;have a:decide (-(2 ^ 63:Int)<=i)=true:=decide_eq_true (by lk);have b:decide (i<2 ^ 63)=true:=decide_eq_true (by lk);rw[a,b];decide
 .refine#[.non,_,I.lset (its':=its.take i.toNat++u'::its.drop i.toNat) hH e ?_ ((r.take _).append (.cons ru (r.drop _))) ?_,0,q]
  .have k:(if i<0 then (i+((its.toArray.size:Nat):Int)).toNat else min i.toNat its.toArray.size)=i.toNat:=by
    rw[if_neg (by lk),a7];lk
   show ((its.toArray.extract 0 _).push u'++its.toArray.extract _)=_
   rw[k];apply tL.mp;simp;exact bX (by rw[jb];exact az _)
  .rw[aS,aK,bQ,jb];have:1001<=aE:=by decide
   lk
end
end L2
namespace L2
open PySem PySem.Spec PyProof.Rows
section
variable {κ:Type}[DecidableEq κ]
noncomputable def valV (kvs:List (κ×V))(k:κ):Option V:=(kvs.find? λkv=>decide (kv.1=k)).map (·.2)
noncomputable def putK (kvs:List (κ×V))(k:κ)(v:V):List (κ×V) :=
 if (kvs.any λkv=>decide (kv.1=k))=true then kvs.map (λkv=>if kv.1=k then (kv.1,v) else kv) else kvs++[(k,v)]
theorem JQ {k:κ}:valV ([]:List (κ×V)) k=none:=rfl
theorem hX {p:κ×V}{r:List (κ×V)}{k:κ}(e:p.1=k):valV (p::r) k=some p.2:=by simp[valV,qb,e]
theorem hJ {p:κ×V}{r:List (κ×V)}{k:κ}(e:¬ p.1=k):valV (p::r) k=valV r k:=by simp[valV,qb,e]
theorem wY (k:κ):∀kvs:List (κ×V),(kvs.any λkv=>decide (kv.1=k))=(valV kvs k).isSome
 | []=>rfl
 | p::r=>by
  rw[xq]
  by_cases e:p.1=k
  .simp only[hX e,decide_eq_true e,Pd,Option.isSome_some]
  .rw[hJ e,decide_eq_false e,MB];exact wY k r
theorem wy (k j:κ)(y:V):∀kvs:List (κ×V),valV (kvs.map λkv=>if kv.1=k then (kv.1,y) else kv) j=(valV kvs j).map λx=>if j=k then y else x
 | []=>rfl
 | p::r=>by
  have ih:=wy k j y r;rw[bp]
  by_cases h:p.1=k
  .rw[if_pos h]
   by_cases e:p.1=j
   .rw[hX (p:=(p.1,y)) e,hX e,zC,if_pos (e.symm.trans h)]
   .rw[hJ (p:=(p.1,y)) e,hJ e,ih]
  .rw[if_neg h]
   by_cases e:p.1=j
   .rw[hX (p:=p) e,hX e,zC,if_neg (λz=>h (e.trans z))]
   .rw[hJ (p:=p) e,hJ e,ih]
theorem tO (k j:κ)(y:V):∀kvs:List (κ×V),valV kvs k=none->valV (kvs++[(k,y)]) j=if j=k then some y else valV kvs j
 | [],_=>by
  by_cases e:k=j
  .rw[if_pos e.symm];exact hX (p:=(k,y)) e
  .rw[if_neg (λz=>e z.symm)];exact hJ (p:=(k,y)) e
 | p::r,hn=>by
  rw[lQ];have hk:¬ p.1=k:=λz=>by rw[hX z] at hn;cases hn
  rw[hJ hk] at hn;have ih:=tO k j y r hn
  by_cases e:p.1=j
  .rw[hX e,hX e,if_neg (λz=>hk (e.trans z))]
  .rw[hJ e,hJ e,ih]
theorem mf (kvs:List (κ×V))(k j:κ)(y:V):valV (putK kvs k y) j=if j=k then some y else valV kvs j:=by
 unfold putK
 by_cases a:(kvs.any λkv=>decide (kv.1=k))=true
 .rw[if_pos a,wy];rw[wY] at a
  by_cases e:j=k
  .obtain⟨x,hx⟩:=RX.mp a;rw[if_pos e,e,hx,zC,if_pos rfl]
  .rw[if_neg e];cases valV kvs j with
   | none=>rfl
   | some x=>rw[zC,if_neg e]
 .rw[if_neg a];refine tO k j y kvs ?_;rw[wY] at a;cases q:valV kvs k with
  | none=>rfl
  | some x=>rw[q] at a;exact (a rfl).elim
theorem AQ (kvs:List (κ×V))(k:κ)(v:V):(putK kvs k v).length<=kvs.length+1:=by
 unfold putK
 split
 .rw[aw];lk
 .rw[aS,aK,iq];lk
theorem CK {kvs:List (κ×V)}{k:κ}(v:V)(h:valV kvs k=none):putK kvs k v=kvs++[(k,v)]:=by
 unfold putK;rw[wY,h];exact if_neg (by decide)
theorem RelO.uw {o:Option V}{u:Option Value}(r:RelO o u):o.isSome=u.isSome:=by
 cases o with
 | none=>cases u with
  | none=>rfl
  | some _=>exact (show False from r).elim
 | some _=>cases u with
  | none=>exact (show False from r).elim
  | some _=>rfl
theorem KV.val {kvs:List (κ×V)}{vs:List (κ×Value)}(r:KV kvs vs)(k:κ):RelO (valV kvs k) (oJ vs k):=by
 unfold KV at r
 induction r with
 | nil=>exact True.intro
 | @cons p q ps qs h t ih =>
  obtain⟨h1,h2⟩:=h
  by_cases e:p.1=k
  .have e':q.1=k:=h1.symm.trans e;have b:oJ (q::qs) k=some q.2:=(by simp[oJ,qb,e']);rw[hX e,b];exact h2
  .have e':¬ q.1=k:=λz=>e (h1.trans z);have b:oJ (q::qs) k=oJ qs k:=(by simp[oJ,qb,e']);rw[hJ e,b];exact ih
theorem KV.any {kvs:List (κ×V)}{vs:List (κ×Value)}(r:KV kvs vs)(k:κ):(kvs.any λkv=>decide (kv.1=k))=vs.any λkv=>decide (kv.1=k):=by
 unfold KV at r
 induction r with
 | nil=>rfl
 | cons h t ih=>rw[xq,xq,ih,h.1]
theorem KV.repl {kvs:List (κ×V)}{vs:List (κ×Value)}(r:KV kvs vs)(k:κ){y:V}{u:Value}(ry:RelV y u) :
  KV (kvs.map λkv=>if kv.1=k then (kv.1,y) else kv) (vs.map λkv=>if kv.1=k then (kv.1,u) else kv):=by
 unfold KV at r ⊢
 induction r with
 | nil=>exact .nil
 | @cons p q ps qs h t ih =>
  rw[bp,bp];refine .cons ?_ ih;obtain⟨h1,h2⟩:=h
  by_cases e:p.1=k
  .rw[if_pos e,if_pos (h1.symm.trans e)];exact#[h1,ry]
  .rw[if_neg e,if_neg (λz=>e (h1.trans z))];exact#[h1,h2]
theorem KV.put {kvs:List (κ×V)}{vs:List (κ×Value)}(r:KV kvs vs)(k:κ){y:V}{u:Value}(ry:RelV y u):KV (putK kvs k y) (stored vs k u):=by
 unfold putK stored;rw[r.any k]
 by_cases e:(vs.any λkv=>decide (kv.1=k))=true
 .rw[if_pos e,if_pos e];exact r.repl k ry
 .rw[if_neg e,if_neg e];exact Paired.snoc r #[0,ry]
theorem KV.length {kvs:List (κ×V)}{vs:List (κ×Value)}(r:KV kvs vs):kvs.length=vs.length:=zg r
end
theorem gQ {P:aR}{w:World}{k:Key}{u:Value}(r:RelV (kV k) u):(fw P w).is k u=true:=by
 cases k with
 | inl i=>obtain⟨t,e⟩:=(show ∃t,u=Value.int i t from r);subst e;exact Ir P w i t
 | inr x=>obtain⟨t,e⟩:=(show ∃t,u=Value.str x t from r);subst e;exact C5 P w x t
theorem yz {P:aR}{w:World}:∀{ks:List Key} {us:List Value},Vals (ks.map kV) us->ItemsAre (fw P w) ks us
 | [],_,r=>by rw[gU] at r;cases r;exact .nil
 | k::ks,_,r=>by
  rw[bp] at r;cases r with
  | cons h t=>exact .cons (gQ h) (yz t)
noncomputable abbrev KT (H:Hp):List (List Key×V)->List (List Key×Addr×Value)->Prop:=Paired λp q=>p.1=q.1/\H q.2.1=some (.tup (p.1.map kV))/\RelV p.2 q.2.2
theorem KT.val {H:Hp}{kvs:List (List Key×V)}{xs:List (List Key×Addr×Value)}(r:KT H kvs xs)(k:List Key):RelO (valV kvs k) ((atKey xs k).map (·.2)):=by
 induction r with
 | nil=>exact True.intro
 | @cons p q ps qs h t ih =>
  obtain⟨h1,_,h2⟩:=h
  by_cases e:p.1=k
  .have e':q.1=k:=h1.symm.trans e;have b:atKey (q::qs) k=some q.2:=(by simp[atKey,qb,e']);rw[hX e,b];exact h2
  .have e':¬ q.1=k:=λz=>e (h1.trans z);have b:atKey (q::qs) k=atKey qs k:=(by simp[atKey,qb,e']);rw[hJ e,b];exact ih
theorem KT.repl {H:Hp}{kvs:List (List Key×V)}{xs:List (List Key×Addr×Value)}(r:KT H kvs xs)(k:List Key){y:V}{u:Value}(ry:RelV y u) :
  KT H (kvs.map λkv=>if kv.1=k then (kv.1,y) else kv) (xs.map (putAt k u)):=by
 induction r with
 | nil=>exact .nil
 | @cons p q ps qs h t ih =>
  rw[bp,bp];refine .cons ?_ ih;obtain⟨h1,h2,h3⟩:=h;unfold putAt
  by_cases e:p.1=k
  .rw[if_pos e,if_pos (h1.symm.trans e)];exact#[h1,h2,ry]
  .rw[if_neg e,if_neg (λz=>e (h1.trans z))];exact#[h1,h2,h3]
theorem KT.put {H:Hp}{kvs:List (List Key×V)}{xs:List (List Key×Addr×Value)}(r:KT H kvs xs)(k:List Key){b:Addr}{y:V}{u:Value}(hb:H b=some (.tup (k.map kV)))(ry:RelV y u) :
  KT H (putK kvs k y) (storedH xs k b u):=by
 have e:(kvs.any λkv=>decide (kv.1=k))=(atKey xs k).isSome:=by
  rw[wY,(r.val k).uw,My]
 unfold putK storedH;rw[e]
 by_cases q:(atKey xs k).isSome=true
 .rw[if_pos q,if_pos q];exact r.repl k ry
 .rw[if_neg q,if_neg q];exact Paired.snoc r #[0,hb,ry]
theorem KT.keeps {H H':Hp}{kvs:List (List Key×V)}{xs:List (List Key×Addr×Value)}(r:KT H kvs xs)(ht:∀b ys,H b=some (.tup ys)->H' b=some (.tup ys)):KT H' kvs xs :=
 Paired.mapP r λ_ _ z=>#[z.1,ht _ _ z.2.1,z.2.2]
section
variable {P:aR}{w:World}{H:Hp}{h:Heap}{a:Addr}
theorem wS {u:HO}(ok:HOk P w H h)(e:Rd H a u):cq P w H h a u:=e.ok ok
theorem iA {kvs:List (Key×V)}(ok:HOk P w H h)(e:Rd H a (.dK kvs)):kvs.length<=aE/\(a==iw)=false/\∃vs,KV kvs vs/\h.DictOf (fw P w) a vs :=
 show cq P w H h a (.dK kvs) from wS ok e
theorem KG {kvs:List (Key×V)}(ok:HOk P w H h)(e:H a=some (.dK kvs)):kvs.length<=aE/\(a==iw)=false/\∃vs,KV kvs vs/\h.DictOf (fw P w) a vs:=iA ok (.inl e)
theorem iY {ks:List Key}(ok:HOk P w H h)(e:H a=some (.tup (ks.map kV))):(yc (fw P w)).is h ks a:=by
 obtain⟨_,its,r,o,h1,h2,n,h3⟩:=(show cq P w H h a (.tup (ks.map kV)) from ok a _ e);exact#[o,its.toArray,n,h1,h2,h3,by simpa using yz r]
theorem iE {kvs:List (List Key×V)}(ok:HOk P w H h)(e:Rd H a (.dT kvs)):kvs.length<=aE/\(a==iw)=false /\
  ∃xs,KT H kvs xs/\h.DictOfH (yc (fw P w)) a xs:=by
 obtain⟨z,y,xs,r,o,es,ep,h1,h2,h3,h4,h5⟩:=(show cq P w H h a (.dT kvs) from wS ok e);refine#[z,y,xs,r,o,es,ep,h1,h2,h3,h4,λx hx=>?_,h5];have all:∀{l:List (List Key×V)} {m:List (List Key×Addr×Value)},KT H l m->∀x∈m,(yc (fw P w)).is h x.1 x.2.1:=by
  intro l m q
  induction q with
  | nil=>intro x hx;exact nomatch hx
  | @cons p q ps qs hq t ih =>
   intro x hx
   rcases aM.mp hx with e|hx
   .subst e;exact iY ok (by rw[<- hq.1];exact hq.2.1)
   .exact ih x hx
 exact all r x hx
theorem CC {kvs:List (List Key×V)}(ok:HOk P w H h)(e:H a=some (.dT kvs)):kvs.length<=aE/\(a==iw)=false /\
  ∃xs,KT H kvs xs/\h.DictOfH (yc (fw P w)) a xs:=iE ok (.inl e)
end
noncomputable def DGet (H:Hp)(a:Addr)(y:V)(r:Option V):Prop :=
 (Ex2 λkvs k=>Rd H a (.dK kvs)/\y=kV k/\r=valV kvs k)∨Ex3 λkvs k b=>Rd H a (.dT kvs)/\y = .ref b/\H b=some (.tup (k.map kV))/\r=valV kvs k
noncomputable def DPut (H:Hp)(a:Addr)(y v:V)(H':Hp):Prop :=
 (Ex2 λkvs k=>H a=some (.dK kvs)/\y=kV k/\kvs.length<aE/\H'=upd H a (.dK (putK kvs k v))) ∨
 Ex3 λkvs k b=>H a=some (.dT kvs)/\y = .ref b/\H b=some (.tup (k.map kV))/\kvs.length<aE/\H'=upd H a (.dT (putK kvs k v))
theorem DGet.k {H:Hp}{a:Addr}{kvs:List (Key×V)}{k:Key}(e:H a=some (.dK kvs)):DGet H a (kV k) (valV kvs k):=.inl #[kvs,k,.inl e,00]
theorem DGet.t {H:Hp}{a b:Addr}{kvs:List (List Key×V)}{k:List Key}(e:H a=some (.dT kvs))(eb:H b=some (.tup (k.map kV))):DGet H a (.ref b) (valV kvs k):=.inr #[kvs,k,b,.inl e,0,eb,0]
theorem DPut.t {H:Hp}{a b:Addr}{kvs:List (List Key×V)}{k:List Key}{v:V}(e:H a=some (.dT kvs))(eb:H b=some (.tup (k.map kV)))(hl:kvs.length<aE) :
  DPut H a (.ref b) v (upd H a (.dT (putK kvs k v))):=.inr #[kvs,k,b,e,0,eb,hl,0]
section
variable {X:Cx}{pins:List (Addr×Obj)}{σ:St}{H:Hp}{s:Shared}{a:Addr}{y v:V}{u r:Value}{o:Option V}{A:Around}{E:Value->Shared->Prop}
theorem Inv.big (I:Inv X pins σ H s):iw<s.heap.objs.size:=by
 have h:bv<s.heap.objs.size:=(I.mod.glob.keeps I.bk).lt;exact Nat.lt_trans (by decide) h
theorem Dt {Q:Value->Shared->Prop}(hu:A.units+1<cLine)(I:Inv X pins σ H s)(g:DGet H a y (some v))(ry:RelV y u)(h:∀w' s',Inv X pins σ H s'->RelV v w'->Q w' s') :
  wpAny (model X.prog X.w) A (jv (.ref a) u) Q E s:=by
 rcases g with⟨kvs,k,e,ey,l⟩|⟨kvs,k,b,e,ey,eb,l⟩
 .subst ey;obtain⟨z,hd,vs,rel,dd⟩:=iA I.hok e;obtain⟨w',hw,rw'⟩:=RelO.some_of (v:=v) (o:=oJ vs k) (by rw[l];exact rel.val k);exact wpAny_getItem_of (gQ ry) dd.mapOf hw (h w' _ (I.tok _) rw')
 .subst ey;cases (show u=Value.ref b from ry);obtain⟨z,hd,xs,rel,dd⟩:=iE I.hok e;obtain⟨w',hw,rw'⟩:=RelO.some_of (v:=v) (o:=(atKey xs k).map (·.2)) (by rw[l];exact rel.val k);obtain⟨p,hp,hp2⟩:=ko.mp hw;refine wpAny_getItem_heap (Ax hu) (iY I.hok eb) dd hp ?_;rw[hp2];exact h w' _ (I.tok _) rw'
theorem d_in {Q:Value->Shared->Prop}(hu:A.units+1<cLine)(I:Inv X pins σ H s)(g:DGet H a y o)(ry:RelV y u)(h:∀s',Inv X pins σ H s'->Q (.bool o.isSome) s') :
  wpAny (model X.prog X.w) A (cy .In u (.ref a)) Q E s:=by
 rcases g with⟨kvs,k,e,ey,l⟩|⟨kvs,k,b,e,ey,eb,l⟩
 .subst ey;obtain⟨z,hd,vs,rel,dd⟩:=iA I.hok e;refine wpAny_in_of (gQ ry) hd dd.mapOf ?_;rw[<- (rel.val k).uw,<- l];exact h _ (I.tok _)
 .subst ey;cases (show u=Value.ref b from ry);obtain⟨z,hd,xs,rel,dd⟩:=iE I.hok e;refine wpAny_in_heap (Ax hu) (iY I.hok eb) hd dd ?_;have q:=(rel.val k).uw;rw[My] at q;rw[<- q,<- l];exact h _ (I.tok _)
theorem E6 {Q:Value->Shared->Prop}(hu:A.units+1<cLine)(I:Inv X pins σ H s)(g:DGet H a y o)(ry:RelV y u)(h:∀s',Inv X pins σ H s'->Q (.bool (!o.isSome)) s') :
  wpAny (model X.prog X.w) A (cy .NotIn u (.ref a)) Q E s:=by
 rcases g with⟨kvs,k,e,ey,l⟩|⟨kvs,k,b,e,ey,eb,l⟩
 .subst ey;obtain⟨z,hd,vs,rel,dd⟩:=iA I.hok e;refine wpAny_notIn_of (gQ ry) hd dd.mapOf ?_;rw[<- (rel.val k).uw,<- l];exact h _ (I.tok _)
 .subst ey;cases (show u=Value.ref b from ry);obtain⟨z,hd,xs,rel,dd⟩:=iE I.hok e;refine wpAny_notIn_heap (Ax hu) (iY I.hok eb) hd dd ?_;have q:=(rel.val k).uw;rw[My] at q;rw[<- q,<- l];exact h _ (I.tok _)
theorem tU {h':Heap}{t':Nat}{ob:HO}(I:Inv X pins σ H s)(mu:Mut (H a))(hs:eN a s.heap h')(he:∃q,h'.get? a=some q)(new:cq X.prog X.w (upd H a ob) h' a ob) :
  Inv X pins σ (upd H a ob) { s with heap:=h',toks:=t' } :=
 I.write (x:=a) (e:=a) mu (.inl rfl) (λb q hb z=>(hs.2 b hb).trans z) he new
theorem xz {P:aR}{w:World}{H':Hp}{h':Heap}{kvs:List (Key×V)}{vs:List (Key×Value)}(z:kvs.length<=aE)(hd:(a==iw)=false)(rel:KV kvs vs)(dd:h'.DictOf (fw P w) a vs) :
  cq P w H' h' a (.dK kvs):=#[z,hd,vs,rel,dd]
theorem MW {H':Hp}{Q:Unit->Shared->Prop}(hu:A.units+1<cLine)(I:Inv X pins σ H s)(g:DPut H a y v H')(ry:RelV y u)(rv:RelV v r)(h:∀s',Inv X pins σ H' s'->Q () s') :
  wpAny (model X.prog X.w) A (setItem (.ref a) u r) Q E s:=by
 rcases g with⟨kvs,k,e,ey,l,eH⟩|⟨kvs,k,b,e,ey,eb,l,eH⟩
 .subst ey eH;obtain⟨z,hd,vs,rel,dd⟩:=KG I.hok e;have hz:vs.length<=aE:=by rw[<- rel.length];exact z
  have hl:(putK kvs k v).length<=aE:=by have:=AQ kvs k v;lk
  refine wpAny_setItem_pairs (hsz:=hz) (gQ ry) dd λh' dd' hs=>h _ ?_;have he:∃q,h'.get? a=some q:=let ⟨q,_,_,hq,_⟩:=dd';#[q,hq];exact tU I (by rw[e];exact True.intro) hs he (xz hl hd (rel.put k rv) dd')
 .subst ey eH;cases (show u=Value.ref b from ry);obtain⟨z,hd,xs,rel,dd⟩:=CC I.hok e;have hz:xs.length<=aE:=by rw[<- zg rel];exact z
  have hl:(putK kvs k v).length<=aE:=by have:=AQ kvs k v;lk
  refine wpAny_setItem_heap (hsz:=hz) (Ax hu) (iY I.hok eb) dd λh' dd' hs=>h _ ?_;obtain⟨q,es,ep,hq,h2,h3,h4,_,h5⟩:=dd';refine tU I (by rw[e];exact True.intro) hs #[q,hq] #[hl,hd,_,(rel.put k eb rv).keeps λc ys ec=>?_,q,es,ep,hq,h2,h3,h4,h5];rw[aF (cw ec e (λz=>nomatch z))];exact ec
end
section
variable {X:Cx}{pins:List (Addr×Obj)}{σ:St}{H:Hp}{s:Shared}{a:Addr}{kvs:List (Key×V)}{k:Key}{u:Value}{A:Around}{E:Value->Shared->Prop}
end
noncomputable def NoSl (i:Expr):Prop:=∀ov iv,AR i false ov iv=operate [ov,iv] (jv ov iv)
theorem Bk {prog:aR}{w:World}{A:Around}{E:Value->Shared->Prop}{s:Shared}{env:Env}{value slice:Expr}{pos:Pos}{T id:String}{Q:Value->Shared->Prop}
  (hl:zP (.type T) "__getitem__" = pure (some (.builtin id))) (hs:NoSl slice)
  (h:wpAny (model prog w) A (eval value env) (λo s₁=>wpAny (model prog w) A (eval slice env) (λi s₂=>s₂.TypeIs o T/\wpAny (model prog w) A (jv o i) Q E s₂) E s₁) E s) :
  wpAny (model prog w) A (eval (.Subscript value slice pos) env) Q E s:=by
 refine Subscript_ (dE h (λo s₁ h₁=>dE h₁ (λi s₂ h₂=>?_) λ_ _ x=>x) λ_ _ x=>x);obtain⟨hT,h₂⟩:=h₂;unfold EA;refine ac ?_;rw[getitemInPython_of_ne hT.not_modules];refine ac (wpAny_specialOf hT hl ?_);have fin:wpAny (model prog w) A (AR slice false o i) (λr s₃=>wpAny (model prog w) A (letTemporaryGo value o r >>= λ_=>pure r) Q E s₃) E s₂:=by
  rw[hs o i];exact wpAny_operating (dE h₂ (λr s₃ h₃=>ac (wpAny_letTemporaryGo (aq h₃))) λ_ _ x=>x)
 first
  | exact aq (ac fin)
  | exact ac (aq (ac fin))
  | exact ac fin
theorem BT {X:Cx}{pins:List (Addr×Obj)}{σ:St}{H:Hp}{s:Shared}{a:Addr}{y:V}{o:Option V}(I:Inv X pins σ H s)(g:DGet H a y o):s.TypeIs (.ref a) "dict":=by
 rcases g with⟨kvs,k,e,_,_⟩|⟨kvs,k,b,e,_,_,_⟩
 .obtain⟨_,_,vs,_,dd⟩:=iA I.hok e;exact dd.typeIs
 .obtain⟨_,_,xs,_,dd⟩:=iE I.hok e;exact dd.typeIs
noncomputable def JB (td ty:TE):TE:=fun σ H Q=>td σ H λx H1=>ty σ H1 λy H2=>Ex2 λa v=>x = .ref a/\DGet H2 a y (some v)/\Q v H2
noncomputable def tDIn (ty td:TE):TE:=fun σ H Q=>ty σ H λy H1=>td σ H1 λx H2=>Ex2 λa o=>x = .ref a/\DGet H2 a y o/\Q (.bl o.isSome) H2
noncomputable def Kc (ty td:TE):TE:=fun σ H Q=>ty σ H λy H1=>td σ H1 λx H2=>Ex2 λa o=>x = .ref a/\DGet H2 a y o/\Q (.bl (!o.isSome)) H2
noncomputable def EK (td ty tv:TE):TS:=λD σ H=>tv σ H λv H1=>td σ H1 λx H2=>ty σ H2 λy H3=>Ex2 λa H4=>x = .ref a/\DPut H3 a y v H4/\D.nx σ H4
section
variable {X:Cx}{o i e value:Expr}{pos pos' tpos:Pos}{td ty tv:TE}
theorem mB (hu:X.A.units+1<cLine)(ho:PE X o td)(hi:PE X i ty)(hs:NoSl i):PE X (.Subscript o i pos) (JB td ty):=by
 intro pins s σ H Q I h;refine Bk PySem.F.slot_dict_getitem.lookup hs (thn (ho pins s σ H _ I h) λu s1 #[x,H1,I1,rx,q1]=>thn (hi pins s1 σ H1 _ I1 q1) λiv s2 #[y,H2,I2,ry,a,v,ex,g,q2]=>?_);subst ex;obtain rfl:u=Value.ref a:=rx;exact#[BT I2 g,Dt hu I2 g ry λw' s3 I3 rw'=>#[v,H2,I3,rw',q2]]
theorem BK (hu:X.A.units+1<cLine)(hi:PE X i ty)(ho:PE X o td):PC X .In i o (tDIn ty td):=by
 intro pins s σ H Q I h;refine thn (hi pins s σ H _ I h) λiv s1 #[y,H1,I1,ry,q1]=>thn (ho pins s1 σ H1 _ I1 q1) λu s2 #[x,H2,I2,rx,a,ov,ex,g,q2]=>?_;subst ex;obtain rfl:u=Value.ref a:=rx;exact d_in hu I2 g ry λs3 I3=>#[.bl ov.isSome,H2,I3,0,q2]
theorem vZ (hu:X.A.units+1<cLine)(hi:PE X i ty)(ho:PE X o td):PC X .NotIn i o (Kc ty td):=by
 intro pins s σ H Q I h;refine thn (hi pins s σ H _ I h) λiv s1 #[y,H1,I1,ry,q1]=>thn (ho pins s1 σ H1 _ I1 q1) λu s2 #[x,H2,I2,rx,a,ov,ex,g,q2]=>?_;subst ex;obtain rfl:u=Value.ref a:=rx;exact E6 hu I2 g ry λs3 I3=>#[.bl (!ov.isSome),H2,I3,0,q2]
theorem yx (hu:X.A.units+1<cLine)(ho:PE X o td)(hi:PE X i ty)(hv:PE X value tv)(hs:sW value (some (.Subscript o i pos')) pos.line X.env=pure false) :
  PS X (.Assign [.Subscript o i pos'] value pos) (EK td ty tv):=by
 intro pins s σ H D I h;refine wpAny_Assign_Subscript (thn (hv pins s σ H _ I h) λr s1 #[v,H1,I1,rv,q1]=>thn (ho pins s1 σ H1 _ I1 q1) λu s2 #[x,H2,I2,rx,q2]=>thn (hi pins s2 σ H2 _ I2 q2) λiv s3 #[y,H3,I3,ry,a,H4,ex,g,q3]=>?_) hs;subst ex;obtain rfl:u=Value.ref a:=rx;exact MW hu I3 g ry rv λs4 I4=>#[σ,H4,I4,q3]
end
theorem Eg {P:aR}{w:World}{H:Hp}(h:Heap)(hb:iw<h.objs.size):cq P w H (h.push { cls:=.type "dict",data:=.dict (yA []) }) h.objs.size (.dT []) :=
 #[ba _,beq_eq_false_iff_ne.mpr (a8 (bB hb)),[],.nil,_,(yA []),(0),bD _ rfl,#[000],00,Hl]
noncomputable def Bc:TE:=λ_ H Q=>∀p,H p=none->Q (.ref p) (upd H p (.dT []))
section
variable {X:Cx}{pos:Pos}
theorem wF:PE X (.Dict [] [] pos) Bc:=λpins s σ H Q I h =>
 wpAny_Dict_empty #[.ref s.heap.objs.size,_,I.laid (a:=s.heap.objs.size) (o:=.dT []) (t':=s.toks) (λ_ _ q=>aW _ q) (az _) (Eg s.heap I.big),0,h _ (I.hok.fresh (az _))]
end
noncomputable def jn (kvs more:List (Key×V)):List (Key×V):=more.foldl (λacc kv=>putK acc kv.1 kv.2) kvs
theorem KV.merge:∀{more:List (Key×V)} {rs:List (Key×Value)} {kvs:List (Key×V)} {vs:List (Key×Value)},KV more rs->KV kvs vs->KV (jn kvs more) (merged vs rs):=by
 intro more rs kvs vs r;unfold KV at r
 induction r generalizing kvs vs with
 | nil=>intro q;exact q
 | @cons p q ps qs h t ih =>
  intro r0;have e:KV (putK kvs p.1 p.2) (stored vs q.1 q.2):=by
   have:=r0.put p.1 h.2;rw[<- h.1];exact this
  exact ih e
theorem RV:∀(more kvs:List (Key×V)),(jn kvs more).length<=kvs.length+more.length
 | [],kvs=>by show kvs.length<=kvs.length+0;lk
 | p::r,kvs=>by
  have h1:=RV r (putK kvs p.1 p.2);have h2:=AQ kvs p.1 p.2;show (jn (putK kvs p.1 p.2) r).length<=_
  rw[aK];lk
structure M1 (X:Cx)(o:Expr)(m:Str)(apos:Pos)(e:Expr)(cpos:Pos):Prop where
 base:oj o m X.env (eval o X.env)=eval o X.env
 few:((backTo cpos (bO [e] X.env)).all (λx=>!x.1)&&(sX cpos (vy [] X.env)).all (λx=>x.1.isSome)
  && decide (([e]:List Expr).length+([]:List oe).length+(if ([]:List oe).isEmpty then 0 else 1)<30))=true
 line:(apos.endLine==cpos.line)=true
 trees:backTo cpos (bO [e] X.env)=[(false,eval e X.env)]
structure M2 (X:Cx)(o:Expr)(m:Str)(apos:Pos)(e f:Expr)(cpos:Pos):Prop where
 base:oj o m X.env (eval o X.env)=eval o X.env
 few:((backTo cpos (bO [e,f] X.env)).all (λx=>!x.1)&&(sX cpos (vy [] X.env)).all (λx=>x.1.isSome)
  && decide (([e,f]:List Expr).length+([]:List oe).length+(if ([]:List oe).isEmpty then 0 else 1)<30))=true
 line:(apos.endLine==cpos.line)=true
 trees:backTo cpos (bO [e,f] X.env)=[(false,eval e X.env),(false,eval f X.env)]
section
variable {X:Cx}{pins:List (Addr×Obj)}{σ:St}{H:Hp}{s:Shared}{a:Addr}{y d:V}{u r:Value}{o:Option V}{A:Around}{E:Value->Shared->Prop}
end
section
variable {X:Cx}{o e f:Expr}{apos cpos:Pos}{td ty tx:TE}
end
section
variable {X:Cx}{pins:List (Addr×Obj)}{σ:St}{H:Hp}{s:Shared}{a:Addr}{kvs:List (Key×V)}{A:Around}{E:Value->Shared->Prop}
end
section
variable {X:Cx}{pins:List (Addr×Obj)}{σ:St}{H:Hp}{s:Shared}{a:Addr}{y:V}{u:Value}{A:Around}{E:Value->Shared->Prop}
end
end L2
namespace L2
open PySem PyProof.Rows
section
variable {pr:aR}{wo:World}{Ar:Around}{Ex:Value->Shared->Prop}{sh:Shared}
theorem xp (a:Addr):¬ ((Value.ref a==Value.none)=true):=cf
theorem KL {it t:Addr}{i:Nat}{ys:Array Value}{v:Value}{R:PySem.Fin->Shared->Prop}(h1:sh.heap.IsTupleIter it t i)(h2:sh.heap.IsTuple t ys)(h3:ys[i]?=some v)
  (q:∀g,g.IsTupleIter it t (i+1)->eN it sh.heap g->R (.done (.ret v)) { sh with heap:=g }):wpAny (model pr wo) Ar (bY.«tuple_iterator.__next__» #[[.ref it],[]]) R Ex sh:=by
 obtain⟨ob,a1,a2,a3⟩:=id h1;obtain⟨ot,b1,_,nn,b3⟩:=h2;refine (show wpAny (model pr wo) Ar (field (.ref it) 0 >>= _) R Ex sh from ac (gu a1 a3 (x:=.ref t) rfl ?_));rw[if_neg (xp t)];refine (show wpAny (model pr wo) Ar (field (.ref it) 1 >>= _) R Ex sh from ac (gu a1 a3 (x:=.int i 0) rfl ?_));refine (show wpAny (model pr wo) Ar (mD (.ref t) >>= _) R Ex sh from ac (si b1 b3 ?_));simp only[cS,h3];refine ac (za a1 a3 (by simp) (aq (q _ #[_,kH _ a1 (P4 (Ab a3 _)),(Q4 ..).trans a2,5] (kY ..))));rw[Ab a3];simp[rawInt]
theorem Iw {it t:Addr}{i:Nat}{ys:Array Value}{v:Value}{R:Value->Shared->Prop}(h1:sh.heap.IsTupleIter it t i)(h2:sh.heap.IsTuple t ys)(h3:ys[i]?=some v)
  (q:∀g,g.IsTupleIter it t (i+1)->eN it sh.heap g->R v { sh with heap:=g }):wpAny (model pr wo) Ar (zB (.ref it)) R Ex sh:=by
 unfold zB;exact ac (jf (name:=iV "__next__") h1.typeIs Ad (fN Ad h1.typeIs QW (KL h1 h2 h3 λg a b=>#[v,0,aq (q g a b)]) (RQ _)))
theorem EQ {it t:Addr}{i:Nat}{ys:Array Value}{R:Value->Shared->Prop}(hd:Ar.handled=none)(h1:sh.heap.IsTupleIter it t i)(h2:sh.heap.IsTuple t ys)(h3:ys[i]?=none)
  (q:∀g e,EL it sh.heap g->(∃o,g.get? e=some o/\o.cls = .type "StopIteration")->Ex (.ref e) { sh with heap:=g }):wpAny (model pr wo) Ar (zB (.ref it)) R Ex sh:=by
 obtain⟨ob,a1,a2,a3⟩:=id h1;obtain⟨ot,b1,_,nn,b3⟩:=h2;unfold zB;refine ac (jf (name:=iV "__next__") h1.typeIs Ad (fN Ad h1.typeIs QW ?_ (RQ _)));refine (show wpAny (model pr wo) Ar.in1 (field (.ref it) 0 >>= _) _ Ex sh from ac (gu a1 a3 (x:=.ref t) rfl ?_));rw[if_neg (xp t)];refine (show wpAny (model pr wo) Ar.in1 (field (.ref it) 1 >>= _) _ Ex sh from ac (gu a1 a3 (x:=.int i 0) rfl ?_));refine (show wpAny (model pr wo) Ar.in1 (mD (.ref t) >>= _) _ Ex sh from ac (si b1 b3 ?_));simp only[cS,h3];refine ac (kX (ac (za a1 a3 (by simp) ?_)));refine (show wpAny (model pr wo) Ar.in1 (newExc (.type "StopIteration") [] >>= _) _ Ex _ from ac ?_);simp only[newExc,newTuple];refine ac (fA ?_ (by size_fits));refine ac (m:=sf _ _) (uj (a:=Value.none) (by first|rfl|(simp only[sf];rfl)) (fA ?_ (by size_fits)));simp only[rE];refine ac (Bx ?_)
 first|rw[show Ar.in1.handled=none from hd]|rw[hd]
 exact ac (aq (wpAny_throw (q _ _ (((kY ..).extBut.push _).push _) #[_,bD _ rfl,0])))
noncomputable def En (h:Heap)(e it t:Addr)(i:Nat):Prop:=(∃old,IsEnum h e it (i:Int) old)/\h.IsTupleIter it t i/\e≠it
theorem Ko {e it t:Addr}{i:Nat}{ys:Array Value}{v:Value}{R:Option Value->Shared->Prop}(hE:En sh.heap e it t i)(h2:sh.heap.IsTuple t ys)(h3:ys[i]?=some v)
  (q:∀g,IsEnumOut g e it ((i:Int)+1) v sh.heap.objs.size->g.IsTupleIter it t (i+1)->g.get? sh.heap.objs.size=some { cls:=.type "tuple",data:=.seq (yA [.int i sh.toks,v]) } →
   (∀b o,b≠e->b≠it->sh.heap.get? b=some o->g.get? b=some o)->R (some (.ref sh.heap.objs.size)) { sh with heap:=g,toks:=sh.toks+1 }):wpAny (model pr wo) Ar (pyNext (.ref e)) R Ex sh:=by
 obtain⟨⟨old,he⟩,h1,ne⟩:=hE;have ty:sh.TypeIs (.ref e) "enumerate":=#[_,he,0];obtain⟨hp,gn,dr,tk,os⟩:=sh;unfold pyNext;refine ac (ow (jf (name:=iV "__next__") ty zp (fN zp ty Ps ?_ (Pr _))));refine (show wpAny (model pr wo) Ar.in1 (field (.ref e) 2 >>= _) _ _ #[hp,gn,dr,tk,os] from ac (gu he rfl (x:=.ref it) rfl ?_));refine ac (Iw h1 h2 h3 λg1 i1 s1=>?_);have s1':eN it hp g1:=s1;have e1:IsEnum g1 e it (i:Int) old:=(s1'.2 e ne).trans he;refine (show wpAny (model pr wo) Ar.in1 (field (.ref e) 3 >>= _) _ _ #[g1,gn,dr,tk,os] from ac (gu e1 rfl (x:=rawInt i) rfl ?_));refine (show wpAny (model pr wo) Ar.in1 (field (.ref e) 4 >>= _) _ _ #[g1,gn,dr,tk,os] from ac (gu e1 rfl (x:=.none) rfl ?_));refine (show wpAny (model pr wo) Ar.in1 (mkInt i >>= _) _ _ #[g1,gn,dr,tk,os] from ac (wpAny_mkInt ?_));refine (show wpAny (model pr wo) Ar.in1 (ju (.ref e) 3 (rawInt ((i:Int)+1)) >>= _) _ _ #[g1,gn,dr,tk+1,os] from ac (iW e1 (by simp) λg2 e2 s2=>?_));have s2':eN e g1 g2:=s2;have e2':IsEnum g2 e it ((i:Int)+1) old:=e2;refine (show wpAny (model pr wo) Ar.in1 (ju (.ref e) 4 .none >>= _) _ _ #[g2,gn,dr,tk+1,os] from ac (iW e2' (by simp) λg3 e3 s3=>?_));have s3':eN e g2 g3:=s3;have e3':IsEnum g3 e it ((i:Int)+1) old:=e3;refine (show wpAny (model pr wo) Ar.in1 (newTuple [.int i tk,v] >>= _) _ _ #[g3,gn,dr,tk+1,os] from ac (LE ?_));have sz:g3.objs.size=hp.objs.size:=by rw[s3'.1,s2'.1,s1'.1]
 have lt:e<hp.objs.size:=aY he;obtain⟨g4,hg4⟩:∃g4,g4=g3.push { cls:=.type "tuple",data:=.seq (yA [.int i tk,v]) }:=#[1];have e4:IsEnum g4 e it ((i:Int)+1) old:=by rw[hg4];exact aW _ e3'
 have t4:g4.get? hp.objs.size=some { cls:=.type "tuple",data:=.seq (yA [.int i tk,v]) }:=by rw[hg4,<- sz];exact bD _ rfl
 have k4:∀b o,b≠e->b≠it->hp.get? b=some o->g4.get? b=some o:=λb o n1 n2 z=>by
  rw[hg4];exact aW _ (s3'.extBut b o n1 (s2'.extBut b o n1 (s1'.extBut b o n2 z)))
 have i4:g4.IsTupleIter it t (i+1):=by
  obtain⟨o,z,r⟩:=(i1.extBut s2'.extBut (a8 ne)).extBut s3'.extBut (a8 ne);exact#[o,by rw[hg4];exact aW _ z,r]
 refine (show wpAny (model pr wo) Ar.in1 (QJ (.ref e) >>= _) _ _ #[g3.push { cls:=.type "tuple",data:=.seq (yA [.int i tk,v]) },gn,dr,tk+1,os] from ?_);rw[<- hg4,sz];refine ac ?_;unfold QJ;refine ac (gu e4 rfl (x:=.none) rfl (aq ?_));simp only[if_true];refine ac (kX (ac (gu e4 rfl (x:=old) rfl (ac (iW e4 (by simp) λg5 e5 s5=>?_)))));have s5':eN e g4 g5:=s5;have e5':IsEnum g5 e it ((i:Int)+1) v:=e5;refine (show wpAny (model pr wo) Ar.in1 (QZ (.ref e) (.ref hp.objs.size) >>= _) _ _ #[g5,gn,dr,tk+1,os] from ac ?_);unfold QZ;refine ac (iW e5' (by simp) λg6 e6 s6=>?_);have s6':eN e g5 g6:=s6;have e6':IsEnumOut g6 e it ((i:Int)+1) v hp.objs.size:=e6;refine iW e6' (by simp) λg7 e7 s7=>?_;have s7':eN e g6 g7:=s7;have up:∀b o,b≠e->g4.get? b=some o->g7.get? b=some o:=λb o n z=>s7'.extBut b o n (s6'.extBut b o n (s5'.extBut b o n z));refine ac (ym (aq #[1,aq (q g7 e7 ?_ (up _ _ (ja lt) t4) λb o n1 n2 z=>up b o n1 (k4 b o n1 n2 z))]));obtain⟨o,z,r⟩:=i4;exact#[o,up _ _ (a8 ne) z,r]
theorem LJ {e it t:Addr}{i:Nat}{ys:Array Value}{R:Option Value->Shared->Prop}(hd:Ar.handled=none)(hE:En sh.heap e it t i)(h2:sh.heap.IsTuple t ys)(h3:ys[i]?=none)
  (q:∀g,EL it sh.heap g->R none { sh with heap:=g }):wpAny (model pr wo) Ar (pyNext (.ref e)) R Ex sh:=by
 obtain⟨⟨old,he⟩,h1,ne⟩:=hE;have ty:sh.TypeIs (.ref e) "enumerate":=#[_,he,0];unfold pyNext;refine ac (ow (jf (name:=iV "__next__") ty zp (fN zp ty Ps ?_ (Pr _))));refine (show wpAny (model pr wo) Ar.in1 (field (.ref e) 2 >>= _) _ _ sh from ac (gu he rfl (x:=.ref it) rfl ?_));refine ac (EQ hd h1 h2 h3 λg x b z=>?_);obtain⟨o,z1,z2⟩:=z;exact ac (zV (T:="StopIteration") (b:=true) #[o,z1,z2] KK (aq (q _ b)))
open AutoSeq1 (wpAny_loadPart') in
theorem Ik (t:Addr)(ys:Array Value)(n:Nat)(dct:Option Addr)(sl:Array (Option Value)):Meets (bY.«enumerate.__new__» #[[.type "enumerate",.ref t],[]]) (λ_ R s=>s.heap.get? t=some { cls:=.type "tuple",dict:=dct,data:=.seq ys n,slots:=sl } /\
   R (.ok (.ret (.ref (s.heap.push { cls:=.type "tuple_iterator",data:=.fields (yA [.ref t,.int 0 0]) }).objs.size)))
    { s with heap:=(s.heap.push { cls:=.type "tuple_iterator",data:=.fields (yA [.ref t,.int 0 0]) }).push { cls:=.type "enumerate",data:=.fields (yA [.none,.bool false,.ref s.heap.objs.size,rawInt 0,.none,.none]) } }) :=
 .of_wp λprog w A R s h=>by
  obtain⟨hp,g,d,tk,os⟩:=s;obtain⟨ht,h⟩:=h;have hsub:=sub_enumerate;have hT:Heap.IsTuple (Shared.heap #[hp,g,d,tk,os]) t ys:=#[_,ht,0,n,0]
  wp_walk using wpAny_loadPart' ht
  refine wpAny_stack_any λst=>aq ?_
  split
  .rename_i c _ _ _ _ _;cases (c==Value.type "enumerate")
   .wp_walk using wpAny_loadPart' ht,xj hT
    exact#[1,h]
   .wp_walk using wpAny_loadPart' ht,xj hT
    exact#[1,h]
  .wp_walk using wpAny_loadPart' ht,xj hT
   exact#[1,h]
theorem E8 {t:Addr}{ys:Array Value}{R:Value->Shared->Prop}(hT:sh.heap.IsTuple t ys)
  (q:∀g,En g (sh.heap.objs.size+1) sh.heap.objs.size t 0->(∀b o,sh.heap.get? b=some o->g.get? b=some o)->R (.ref (sh.heap.objs.size+1)) { sh with heap:=g }) :
  wpAny (model pr wo) Ar (call (.type "enumerate") [.ref t]) R Ex sh:=by
 obtain⟨⟨c,dct,dt,sl⟩,ht,hc,n,hd⟩:=hT;have hc':c = .type "tuple":=hc;have hd':dt = .seq ys n:=hd;subst hc' hd';refine callType_new F.called_enumerate (by decide) (F.typeCall_enumerate_1 _) (F.newCall_enumerate_1 _) (λobj=>F.args_object_init_2 obj _) F.entry_enumerate_new (Ik t ys n dct sl) #[ht,5];obtain⟨g1,hg1⟩:∃g1,g1=sh.heap.push { cls:=.type "tuple_iterator",data:=.fields (yA [.ref t,.int 0 0]) }:=#[1];have sz:g1.objs.size=sh.heap.objs.size+1:=by rw[hg1];exact iz ..
 show _/\_
 rw[<- hg1,sz];have he:IsEnum (g1.push { cls:=.type "enumerate",data:=.fields (yA [.none,.bool false,.ref sh.heap.objs.size,rawInt 0,.none,.none]) }) (sh.heap.objs.size+1) sh.heap.objs.size ((0:Nat):Int) .none:=by
  have z:=bD g1 (o:={ cls:=.type "enumerate",data:=.fields (yA [.none,.bool false,.ref sh.heap.objs.size,rawInt 0,.none,.none]) }) rfl;rw[sz] at z;exact z
 refine#[#[_,he,0],q _ #[#[_,he],#[_,aW _ (by rw[hg1];exact bD _ rfl),00],Nat.succ_ne_self _] λb o x=>aW _ (by rw[hg1];exact aW _ x)]
theorem yb {e it t:Addr}{i:Nat}{R:Value->Shared->Prop}(h:En sh.heap e it t i)(q:R (.ref e) sh):wpAny (model pr wo) Ar (pyIter (.ref e)) R Ex sh:=by
 obtain⟨⟨old,he⟩,_,_⟩:=h;exact wpAny_pyIter_enum he q
end
section
variable {X:Cx}{pins:List (Addr×Obj)}{σ:St}{H:Hp}{s:Shared}{h':Heap}
theorem Inv.O2 {t':Nat}{p q:Addr}(I:Inv X pins σ H s)(k:∀b o,b≠p->b≠q->s.heap.get? b=some o->h'.get? b=some o)(fp:FpOk X pins H p)(fq:FpOk X pins H q):Inv X pins σ H { s with heap:=h',toks:=t' }:=by
 have o1:∀b u,H b=some u->b≠p:=λb u e z=>by
  rw[z,fp.1] at e;cases e
 have o2:∀b u,H b=some u->b≠q:=λb u e z=>by
  rw[z,fq.1] at e;cases e
 have kk:∀b o,b∉[p,q]->s.heap.get? b=some o->h'.get? b=some o:=λb o hb e=>k b o (λz=>hb (by simp[z])) (λz=>hb (by simp[z])) e;refine I.step (g':=s.gens) (d':=s.drawn) (ch:=[p,q]) (λb hb=>?_) (λb o _ _ hc e _=>kk b o hc e) (λb o _ _ hc e _=>#[o.slots,kk b o hc e]) (λ_ _ _ _ n=>n)
  (λb o hc e=>#[o,kk b o hc e]) (λ_ _ e=>e) (λ_ _ _ e=>e) (λb ps e=>#[(yA []),by rw[e];simp]) (λm hm=>?_) (λb u e=>?_) I.bare
 .have e:b=p∨b=q:=by simpa using hb
  rcases e with e|e
  .rw[e];exact#[fp.2.2.2.1,fp.2.1,fp.2.2.2.2.1,fp.2.2.2.2.2]
  .rw[e];exact#[fq.2.2.2.1,fq.2.1,fq.2.2.2.2.1,fq.2.2.2.2.2]
 .obtain⟨o,es,ep,ho,r⟩:=hm;exact#[o,es,ep,k _ o (a8 fp.2.1) (a8 fq.2.1) ho,r]
 .refine (I.hok b u e).stay (λc v hc z=>?_) (λ_ z=>z) λ_ _ z=>z
  rcases hc with y|y
  .rw[y];rw[y] at z;exact k b v (o1 b u e) (o2 b u e) z
  .exact k c v (o1 c _ y) (o2 c _ y) z
end
noncomputable def Ite (K:ah)(a:Addr):It :=
 #[λi H=>Ex2 λxs x=>SqT K H a xs/\xs[i]?=some x,λi H x H'=>Ex2 λp v=>H p=none/\x = .ref p/\H'=upd H p (.tup [.int (i:Int),v])/\∀xs,SqT K H a xs->xs[i]?=some v,λi H=>∃xs,SqT K H a xs/\xs.length<=i]
theorem Oe {P:aR}{w:World}{K:ah}{es:List Expr}{k1:Nat}{pos:Pos}(a e it:Addr):Turn P w K (.Tuple es k1 pos) (Ite K a) [e,it] e (λi h=>En h e it a i) where
 mem:=by simp
 obj:=λi h st b hb=>by
  have z:b=e∨b=it:=by simpa using hb
  obtain⟨⟨old,he⟩,⟨o,g1,g2,g3⟩,_⟩:=st
  rcases z with rfl|rfl
  .exact#[_,he,λv y=>by cases y]
  .exact#[o,g1,λv y=>by rw[g3] at y;cases y]
 keep:=λi h h' st k=>by
  obtain⟨⟨old,he⟩,⟨o,g1,g2⟩,n⟩:=st;exact#[#[old,k e (by simp) _ he],#[o,k it (by simp) _ g1,g2],n]
 item:=by
  intro X hP hw hK hc i pins s σ H E I hf st hg;subst hP hw hK;obtain⟨xs,x,hq,hx⟩:=hg;obtain⟨its,rv,p,hz⟩:=I.tuple hq;obtain⟨u,hu,ru⟩:=rv.get hx;have fe:=hf e (by simp);have fi:=hf it (by simp);have ne:=st.2.2;refine Ko st (show s.heap.IsTuple a its.toArray from p) (v:=u) (by simpa using hu) λg e1 i1 t1 k1=>?_;refine#[1,wpAny_letOwnedTupleGo_enum e1 λg2 e2 s2=>?_];have lt1:e<s.heap.objs.size:=by
   obtain⟨⟨old,he⟩,_⟩:=st;exact aY he
  have lt2:it<s.heap.objs.size:=by
   obtain⟨_,⟨o,g1,_⟩,_⟩:=st;exact aY g1
  have kk:∀b o,b≠e->b≠it->s.heap.get? b=some o->g2.get? b=some o:=λb o n1 n2 z=>s2.extBut b o n1 (k1 b o n1 n2 z);have tt:g2.get? s.heap.objs.size=some { cls:=.type "tuple",data:=.seq (yA [.int i s.toks,u]) }:=s2.extBut _ _ (ja lt1) t1;have na:∀b,b<s.heap.objs.size->b≠s.heap.objs.size:=λb h=>bB h;have I1:Inv X pins σ (upd H s.heap.objs.size (.tup [.int (i:Int),x])) { s with heap:=s.heap.push { cls:=.type "tuple",data:=.seq (yA [.int i s.toks,u]) },toks:=s.toks+1 } :=
   I.laid (t':=s.toks+1) (λb o z=>aW _ z) (az _) #[by show 2<=aE;decide,[.int i s.toks,u],.cons #[1] (.cons ru .nil),#[_,bD _ rfl,01]]
  have fo:∀b,b<s.heap.objs.size->FpOk X pins H b->FpOk X pins (upd H s.heap.objs.size (.tup [.int (i:Int),x])) b:=λb h f=>#[by rw[aF (na b h)];exact f.1,f.2];have I2:=I1.O2 (h':=g2) (t':=s.toks+1) (p:=e) (q:=it) (λb o n1 n2 z=>by
   by_cases hb:b=s.heap.objs.size
   .rw[hb] at z ⊢;rw[bD _ rfl] at z;cases z;exact tt
   .rw[QM _ _ _ hb] at z;exact kk b o n1 n2 z) (fo e lt1 fe) (fo it lt2 fi)
  refine#[.ref s.heap.objs.size,_,I2,0,#[s.heap.objs.size,x,I.hok.fresh (az _),00,λys hy=>by rw[I.sN hy hq];exact hx],#[#[u,e2],5,ne],λb hb=>?_]
  .obtain⟨o,z,r⟩:=i1;exact#[o,s2.extBut _ _ (a8 ne) z,r]
  .have z:b=e∨b=it:=by simpa using hb
   rcases z with rfl|rfl
   .exact (fo _ lt1 fe).1
   .exact (fo _ lt2 fi).1
 done:=by
  intro X hP hw hK hc i pins s σ H E I hf st hg;subst hP hw hK;obtain⟨xs,hq,hx⟩:=hg;obtain⟨its,rv,p,hz⟩:=I.tuple hq;obtain⟨f0,f1,f2,f3,f4,f5⟩:=hf it (by simp);have hl:=rv.length;exact LJ (I.ok.hd hc) st (show s.heap.IsTuple a its.toArray from p) (by simp;lk) λg eb=>#[0,I.turned (t':=s.toks) (λb o hb z=>eb b o hb z) f0 f1 f3 f4 f5]
 self:=λ_ _ _ _ _ st h=>yb st h
section
variable {X:Cx}
theorem Gx:kR "enumerate" = some (.type "enumerate"):=by lia
noncomputable def iEnT (K:ah)(ta:TA):TI:=fun σ H R=>ta σ H λvs H1=>Ex2 λa xs=>vs=[.ref a]/\SqT K H1 a xs/\R (Ite K a) H1
theorem ug {es:List Expr}{k1:Nat}{tp:Pos}{a:Expr}{ta:TA}{p pos:Pos}(hg:Gl X "enumerate")(hm:X.mg "enumerate" = none)(ha:PA X [a] ta)(hs:autoParam (bO [a] X.env=[(false,eval a X.env)]) aUB._auto_1):PI X (.Tuple es k1 tp) (.Call (.Name "enumerate" p) [a] [] pos) (iEnT X.K ta):=by
 intro pins s σ H R I h;refine Call_ (me I hg hm Gx (tI (thn (ha pos pins s σ H _ I h) λus s1 #[vs,H1,I1,r1,q1]=>?_) hs rfl));obtain⟨b,xs,e,hq,q⟩:=q1;subst e;obtain⟨u,rfl,ru⟩:=vals1 r1;cases ru;obtain⟨its,rv,pl,hz⟩:=I1.tuple hq;refine E8 (show s1.heap.IsTuple b its.toArray from pl) λg en kp=>?_;refine yb (sh:={ s1 with heap:=g }) en ?_;refine#[s1.heap.objs.size+1,[s1.heap.objs.size+1,s1.heap.objs.size],_,_,H1,0,I1.kept (t':=s1.toks) kp,Oe b _ _,en,λc hc=>?_,q];have z:c=s1.heap.objs.size+1∨c=s1.heap.objs.size:=by simpa using hc
 rcases z with rfl|rfl
 .exact I1.fpOk (gD _) (I1.hok.fresh (gD _))
 .exact I1.fpOk (az _) (I1.hok.fresh (az _))
end
theorem JT {K:ah}{a:Addr}{xs:List V}{g:TG}{tb:TS}{D:Ends}{σ:St}{H:Hp}(Pv:Nat->St->Hp->Prop)(h0:Pv 0 σ H)(hl:∀i σ H,i<=xs.length->Pv i σ H->SqT K H a xs)
  (hs:∀i x σ H p,xs[i]?=some x->Pv i σ H->H p=none->g (.ref p) σ (upd H p (.tup [.int (i:Int),x])) fun σ2 H2=>tb { D with nx:=Pv (i+1),ct:=Pv (i+1),bk:=D.nx } σ2 H2) (hd:∀ σ H,Pv xs.length σ H->D.nx σ H) :
  ∃W:Nat->Nat->St->Hp->Prop,(∃m,W 0 m σ H)/\∀i m σ H,W i m σ H →
   ((Ite K a).stop i H/\D.nx σ H)∨((Ite K a).go i H/\∃N:St->Hp->Prop,(∀ σ' H',N σ' H'->∃m',m'<m/\W (i+1) m' σ' H')/\∀x H',(Ite K a).iF i H x H'->g x σ H' fun σ2 H2=>tb { D with nx:=N,ct:=N,bk:=D.nx } σ2 H2):=by
 refine#[λi m σ H=>m=xs.length-i/\i<=xs.length/\Pv i σ H,#[xs.length,0,ba _,h0],5];rintro i m σ H ⟨rfl,hi,pv⟩;have sq:=hl i σ H hi pv
 by_cases lt:i<xs.length
 .have ex:xs[i]?=some xs[i]:=cA lt;refine .inr #[#[xs,xs[i],sq,ex],Pv (i+1),fun σ' H' z=>#[xs.length-(i+1),30,lt,z],λx H' y=>?_];obtain⟨p,v,hp,rfl,rfl,hv⟩:=y;exact hs i v σ H p (hv xs sq) pv hp
 .obtain rfl:i=xs.length:=by lk
  exact .inl #[#[xs,sq,az _],hd σ H pv]
end L2
namespace L2
open PySem PyProof.Rows
section
variable {X:Cx}{e st:Expr}{te ts:TE}{p2 pos:Pos}
end
end L2
namespace DL
open PySem PySem.Spec PyProof.Rows
theorem NR:zP (.type "list") "keys" = pure none:=by
 rw[CS,Ke]
 kernel_rfl
theorem sY:entryFor table "dict.update.loop" = some bY.«dict.update.loop»:=entryFor_of_tree (by kernel_rfl)
theorem jX:plainId "dict.update.loop" = true:=by lia
section
variable {prog:aR}{w:World}{A:Around}{E:Value->Shared->Prop}{s:Shared}
theorem Oq {a:Addr}{xs:Array Value}{k:Nat}{sl:Array (Option Value)}{Q:Option Value->Shared->Prop}(hA:A.handled=none)
  (hx:s.heap.get? a=some { cls:=.type "list",dict:=none,data:=.seq xs k,slots:=sl })
  (h:∀h' tk,(∀b q,s.heap.get? b=some q->h'.get? b=some q)->Q none { s with heap:=h',toks:=tk }) :
  wpAny (model prog w) A (getAttr? (.ref a) "keys") Q E s:=by
 obtain⟨hp,g,d,tk,os⟩:=s;have ty:∀t',(#[hp,g,d,t',os]:Shared).TypeIs (.ref a) "list":=λ_=>#[_,hx,0];have f1:=sub_AttributeError;have f3:=Lh.lookup;have f4:=Lh.bind (.ref a);have f5:=am_list_getattr_none;have ms:∀u:Tok,_:=λu=>meets_getattribute_miss_list a xs k sl "keys" u NR (by lia);unfold getAttr? getAttrBy? getAttrBy
 repeat (any_goals (first|assumption|exact ty _|(with_reducible refine ow ?_)|(refine gL Lh (ty _) am_entry_list_getattribute (PySem.F.args_list_getattribute_2 _ _) (ms _) #[hx,hA,λh' tk' e hx'=>?_])|wp_step))
 obtain⟨t1,u1,he⟩:=hx'.there;show wpAny _ _ (getattributeRaised _ _ _ _ _ _ _) _ _ _
 unfold getattributeRaised
 repeat (any_goals (first|assumption|wp_step))
 exact h _ _ hx'.keeps
section
variable {κ:Type}[DecidableEq κ]{knd:KeyKind prog w κ}
theorem J6 (kvs:List (κ×Value))(k:κ)(v:Value):(stored kvs k v).length<=kvs.length+1:=by
 unfold stored
 split
 .rw[aw];lk
 .rw[aS];exact az _
theorem Rt:∀(more kvs:List (κ×Value)),(merged kvs more).length<=kvs.length+more.length
 | [],kvs=>az _
 | kv::r,kvs=>by
  have z:=Rt r (stored kvs kv.1 kv.2);have y:=J6 kvs kv.1 kv.2;show (merged (stored kvs kv.1 kv.2) r).length<=_
  rw[aK];lk
noncomputable def pE (knd:KeyKind prog w κ)(h:Heap)(v:Value)(kv:κ×Value):Prop:=Ex4 λ(t:Addr) (o:Obj) (key:Value) (n:Nat)=>v = .ref t/\h.get? t=some o/\o.cls = .type "tuple" /\ o.data = .seq (yA [key,kv.2]) n/\knd.is kv.1 key=true
theorem loop {R:Result->Shared->Prop}{I S:Addr}{fp wr:List Addr}{n:Nat}{P:Nat->Value->Prop}{St:Nat->Heap->Prop}(W:Walks prog w A.in1 I fp wr n P St)(hSf:S∉fp)(ps:List (κ×Value))(h0:Heap)
  (hval:∀i v,P i v->∃kv,ps[i]?=some kv/\pE knd h0 v kv) (hfar:∀c o,h0.get? c=some o->c∉S::wr) (hn:n<=1000) :
  ∀(k i:Nat) (s:Shared),n-i=k->i<=n->St i s.heap->s.heap.DictOf knd S (merged [] (ps.take i))->(∀c o,h0.get? c=some o->s.heap.get? c=some o) →
   (∀h' tk,h'.DictOf knd S (merged [] (ps.take n))->(∀c o,h0.get? c=some o->h'.get? c=some o)->R (.ok (.ret .none)) { s with heap:=h',toks:=tk }) →
   gi (model prog w) A (.builtin "dict.update.loop" #[[.ref S,.ref I,rawInt i,.none],[]]) R s:=by
 have nw:S∉wr:=λz=>hSf (W.sub _ z);intro k
 induction k with
 | zero =>
  intro i s hk hi st hS h0s hR;obtain rfl:i=n:=by lk
  refine gp sY ?_;rw[ik jX _];show wpAny _ A.in1 (pyNext (.ref I) >>= _) _ _ s
  refine ac (W.done s _ _ st λh' tk keep=>?_);have z:=hR h' tk (let ⟨o,es,ep,ho,r⟩:=hS;#[o,es,ep,keep S o nw ho,r]) λc o e=>keep c o (λz=>hfar c o e (bx _ z)) (h0s c o e);exact ac (aq (aq z))
 | succ k ih =>
  intro i s hk hi st hS h0s hR;have hlt:i<n:=by lk
  refine gp sY ?_;rw[ik jX _];show wpAny _ A.in1 (pyNext (.ref I) >>= _) _ _ s
  refine ac (W.item i s _ _ hlt st λv h1 tk hP st1 keep=>?_);obtain⟨kv,hx,t,o,key,m,rfl,e1,e2,e3,e4⟩:=hval i v hP;have h01:∀c o,h0.get? c=some o->h1.get? c=some o:=λc o e=>keep c o (λz=>hfar c o e (bx _ z)) (h0s c o e);have hS1:h1.DictOf knd S (merged [] (ps.take i)):=let ⟨o,es,ep,ho,r⟩:=hS;#[o,es,ep,keep S o nw ho,r];have et:=h01 _ _ e1;refine ac (dG (ac (ve ?_)));unfold bY.Dict.pairItems;refine ac (tK (T:="tuple") #[o,et,e2] ?_);rw[if_pos (by decide)];refine ac (si et e3 (aq ?_));show wpAny _ _ (jq [key,kv.2] (dictSet S key kv.2)) _ _ _
  have ml:(merged ([]:List (κ×Value)) (ps.take i)).length<=i:=by
   have z:=Rt (ps.take i) ([]:List (κ×Value));rw[bQ] at z;have:([]:List (κ×Value)).length=0:=rfl;lk
  refine dG (wpAny_dictSet_pairs e4 hS1 (λh2 D2 sb=>?_) (aV (aV ml hi) (aV hn (by decide))));rw[<- merged_take_succ [] ps i kv hx] at D2;refine aq #[gE jX _,ih (i+1) _ (by lk) hlt (W.frame _ h1 _ st1 λc hc o e=>?_) D2 (λc o e=>?_) λh3 tk3 D3 k3=>hR h3 tk3 D3 k3]
  .show h2.get? c=some o;rw[sb.2 c (λz:c=S=>hSf (by rw[<- z];exact hc))];exact e
  .show h2.get? c=some o;rw[sb.2 c (λz:c=S=>hfar c o e (by rw[z];exact bb))];exact h01 c o e
theorem dict_list {l:Addr}{its:Array Value}{nl:Nat}{sl:Array (Option Value)}{ps:List (κ×Value)}{Q:Value->Shared->Prop}(hA:A.handled=none)
  (hl:s.heap.get? l=some { cls:=.type "list",dict:=none,data:=.seq its nl,slots:=sl }) (hv:∀(i:Nat) (v:Value),its[i]?=some v->∃kv,ps[i]?=some kv/\pE knd s.heap v kv) (hz:its.size=ps.length) (hb:its.size<=1000)
  (h:∀(h':Heap) (tk:Nat),h'.DictOf knd s.heap.objs.size (merged [] ps)->(∀c o,s.heap.get? c=some o->h'.get? c=some o)->Q (.ref s.heap.objs.size) { s with heap:=h',toks:=tk }) :
  wpAny (model prog w) A (call (.type "dict") [.ref l]) Q E s:=by
 refine callType_codes (Q₁:=λob s1=>ob = .ref s.heap.objs.size/\s1={ s with heap:=s.heap.push { cls:=.type "dict",data:=.dict (yA []) } }) PySem.F.kt_called_dict (PySem.F.kt_typeCall_dict_1 _) PySem.F.entry_dict_init (kt_code_dict_new _ #[00]) ?_;rintro ob s1 ⟨rfl,rfl⟩;have D0:(s.heap.push { cls:=.type "dict",data:=.dict (yA []) }).DictOf knd s.heap.objs.size []:=Heap.DictOf.new s.heap;have lt:l<s.heap.objs.size:=aY hl;have el:=aW { cls:=.type "dict",data:=.dict (yA []) } hl;refine#[D0.typeIs,PySem.F.args_dict_init_2 _ _,5];unfold bY.«dict.__init__»;refine ac ?_;unfold bY.Dict.selfAndRest;refine ac (QE D0.typeIs ?_);show wpAny _ _ (pure (s.heap.objs.size,[Value.ref l])) _ _ _
 refine aq ?_;show wpAny _ _ (Uj "dict.__init__" s.heap.objs.size (.ref l) [] .none) _ _ _
 unfold Uj;refine ac (tK (T:="list") #[_,el,0] ?_);rw[if_pos (by decide)];refine ac (Oq hA el λh1 tk k1=>?_);rw[if_pos (show (none:Option Value).isNone=true from rfl)];refine ac (kX ?_);have L1:h1.IsList l its:=#[_,k1 _ _ el,0,nl,0];have D1:h1.DictOf knd s.heap.objs.size []:=let ⟨o,es,ep,ho,r⟩:=D0;#[o,es,ep,k1 _ _ ho,r];have k2:∀c o,s.heap.get? c=some o->h1.get? c=some o:=λc o e=>k1 _ _ (aW _ e);have ltS:s.heap.objs.size<h1.objs.size:=let ⟨o,_,_,ho,_⟩:=D1;aY ho;have ltl:l<h1.objs.size:=aY (k2 _ _ hl);refine ac (wJ L1 (aq #[gE jX _,5]));have hx:ps.take its.size=ps:=bX (by rw[hz];exact az _);refine loop (knd:=knd) (AY (A:=A.in1.in1) hA h1.objs.size l (bB ltl) its) ?far ps s.heap hv ?near hb (its.size-0) 0 _ (by lk) (ba _) #[#[_,bD _ rfl,00],L1.push _] (D1.push _) (λc o e=>aW _ (k2 c o e)) ?fin
 case far =>
  intro z
  rcases aM.mp z with z|z
  .exact absurd z (bB ltS)
  .exact absurd (aX.mp z) (ja lt)
 case near =>
  intro c o e z;have clt:=aY e
  rcases aM.mp z with z|z
  .exact absurd z (bB clt)
  .exact absurd (aX.mp z) (bB (aY (k2 c o e)))
 case fin =>
  intro h' tk' D' keep;rw[hx] at D';exact#[0,h h' tk' D' keep]
end
end
end DL
namespace L2
open PySem PyProof.Rows
section
variable {X:Cx}
noncomputable def KvT (K:ah)(H:Hp)(u:V)(kv:Key×V):Prop:=∃a,u = .ref a/\SqT K H a [kV kv.1,kv.2]
theorem Kt {pins:List (Addr×Obj)}{σ:St}{H:Hp}{s:Shared}(I:Inv X pins σ H s){ys:List V}{kvs:List (Key×V)}{its:List Value}(h:Paired (KvT X.K H) ys kvs):Vals ys its →
  ∃rs:List (Key×Value),KV kvs rs/\rs.length=its.length/\∀(i:Nat) (v:Value),its[i]?=some v->∃kv,rs[i]?=some kv/\DL.pE (fw X.prog X.w) s.heap v kv:=by
 induction h generalizing its with
 | nil =>
  intro r;cases r;exact#[[],.nil,0,by simp]
 | @cons y kv ys kvs hk t ih =>
  intro r;cases r with
  | cons r rv =>
   obtain⟨a,rfl,ht⟩:=hk;obtain⟨ts,rt,⟨o,e1,e2,n,e3⟩,_⟩:=I.tuple ht;obtain⟨rs,k1,k2,k3⟩:=ih rv;cases r;obtain⟨u1,u2,rfl,r1,r2⟩:=vals2 rt;refine#[(kv.1,u2)::rs,.cons #[0,r2] k1,by rw[aK,aK,k2],5];intro i v e;cases i with
   | zero =>
    rw[lC] at e;cases e;exact#[1,a,o,u1,n,0,e1,e2,e3,gQ r1]
   | succ i =>
    rw[dX] at e;obtain⟨kv2,h1,h2⟩:=k3 i v e;exact#[kv2,by rw[dX];exact h1,h2]
theorem U6 (hc:X.calm=true):di X (.type "dict") (λxs H Q=>Ex3 λ(p:Addr) (ys:List V) (kvs:List (Key×V))=>xs=[.ref p]/\SqL X.K H p ys/\Paired (KvT X.K H) ys kvs/\ys.length<=1000/\∀l,H l=none->Q (.ref l) (upd H l (.dK (jn [] kvs)))):=by
 intro pins s σ H xs us Q I r h;obtain⟨p,ys,kvs,rfl,hq,hy,hl,q⟩:=h;obtain⟨u,rfl,ru⟩:=vals1 r;cases ru;obtain⟨its,rv,⟨⟨oc,od,oD,os⟩,n,e,h1,h2,h3⟩,hz⟩:=I.list hq;dsimp only at h1 h2 h3;subst h1 h2 h3;obtain⟨rs,k1,k2,k3⟩:=Kt I hy rv;have il:=rv.length;have kl:=k1.length;have ml:=RV kvs [];have m0:([]:List (Key×V)).length=0:=rfl;refine DL.dict_list (knd:=fw X.prog X.w) (ps:=rs) (I.ok.hd hc) e (λi v z=>k3 i v (by rw[Kg] at z;exact z)) (by rw[a7,k2]) (by rw[a7];lk) λh' tk D k=>?_;have big:(jn [] kvs).length<=aE:=aV (show (jn [] kvs).length<=1000 by lk) (by decide);exact#[.ref s.heap.objs.size,_,I.laid (a:=s.heap.objs.size) (o:=.dK (jn [] kvs)) (t':=tk) (λb o e=>k b o e) (az _) (xz big (beq_eq_false_iff_ne.mpr (a8 (bB I.big))) (KV.merge k1 .nil) D),0,q _ (I.hok.fresh (az _))]
theorem Um {am:V}{k:Int}:∀(ns:List Int) (acc:List (Key×V)),valV (jn acc (ns.map λn=>((Sum.inl n:Key),am))) (Sum.inl k)=if k∈ns then some am else valV acc (Sum.inl k)
 | [],acc=>by rw[if_neg (by simp)];rfl
 | n::r,acc=>by
  show valV (jn (putK acc (Sum.inl n) am) (r.map λn=>((Sum.inl n:Key),am))) (Sum.inl k)=_
  rw[Um r,mf]
  by_cases c:k∈r
  .rw[if_pos c,if_pos (bx _ c)]
  .rw[if_neg c]
   by_cases e:k=n
   .rw[if_pos (by rw[e]),if_pos (by rw[e];exact bb)]
   .rw[if_neg (by intro z;injection z with z;exact e z),if_neg (by intro z;rcases aM.mp z with z|z<;>contradiction)]
end
end L2
namespace SSet
open PySem PySem.Spec PyProof.Rows
section
variable {prog:aR}{w:World}{A:Around}{E:Value->Shared->Prop}{s:Shared}
theorem set_tuple {l:Addr}{its:Array Value}{xs:List Str}{Q:Value->Shared->Prop}(hh:A.handled=none)(hl:s.heap.IsTuple l its)(hi:iP its.toList xs)(hb:its.size+1<kq)
  (h:∀(h':Heap) (tk:Nat),SS prog w h' s.heap.objs.size (dd xs) (!w.params.followText "set-order")->(∀c o,s.heap.get? c=some o->h'.get? c=some o)->Q (.ref s.heap.objs.size) { s with heap:=h',toks:=tk }) :
  wpAny (model prog w) A (call (.type "set") [.ref l]) Q E s:=by
 obtain⟨cM,tM,mro⟩:=eV.mro;have made:=eV.made;have subs:=eV.sub;have notT:=eV.notType;have canC:=eV.canCreate;have chk:=Uu (.ref l);refine An (Br ?_);show wpAny _ _ (callAny (.type "set") #[[.ref l],[]]) _ _ _
 refine aq #[RL _ (by lia),gp Su ?_];rw[Q3 (SZ "set" [Value.ref l] []) rfl]
 repeat (any_goals (first|assumption|wp_step))
 refine lq (xC (.ref l) (E:=E) (Q1:=λob s1=>ob = .ref s.heap.objs.size/\s1={ s with heap:=s.heap.push (empt w) }) #[00]) λr s1 hr=>?_;cases r with
 | error e=>exact hr
 | ok fl =>
  cases fl with
  | ret ob =>
   obtain⟨rfl,rfl⟩:=hr;have g0:(s.heap.push (empt w)).get? s.heap.objs.size=some (empt w):=bD _ rfl;have ty0:AC { s with heap:=s.heap.push (empt w) } (.ref s.heap.objs.size) "set":=#[_,g0,0];have lk:=eV.init.lookup;have bd:=eV.init.bind (.ref s.heap.objs.size)
   repeat (any_goals (first|assumption|wp_step))
   refine lq (codeAny_call_builtin (R:=wants (λr s2=>r = .none/\∃h' tk,s2={ s with heap:=h',toks:=tk }/\SS prog w h' s.heap.objs.size (dd xs) (!w.params.followText "set-order") /\
     (∀c o,s.heap.get? c=some o->h'.get? c=some o)) E) eV.init.plain Ub (check_set_init_1 ty0 ?_)) λr2 s2 hr2=>?_
   .obtain⟨ol,e1,e2,nl,e3⟩:=hl;obtain⟨oc,od,oD,osl⟩:=ol;dsimp only at e2 e3;subst e2 e3;have e1':(s.heap.push (empt w)).get? l=some { cls:=.type "tuple",dict:=od,data:=.seq its nl,slots:=osl }:=aW _ e1;have q1:=PySem.F.sub_tuple_set;have q2:=PySem.F.sub_tuple_frozenset;have q3:(Value.type "tuple" == Value.type "dict")=false:=by decide
    have L1:(s.heap.push (empt w)).IsTuple l its:=#[_,e1',0,nl,0];have lt:l<s.heap.objs.size:=aY e1;unfold bY.«set.__init__» noKeywords SR;generalize hPI:pyIter=PI
    wp_walk
    subst hPI;refine xj L1 (ac (HQ ?_));have ne:l≠(s.heap.push (empt w)).objs.size:=by
     rw[iz];exact bB (nW lt)
    have nf:s.heap.objs.size∉[(s.heap.push (empt w)).objs.size,l]:=by
     rw[iz];intro z
     rcases aM.mp z with z|z
     .exact absurd z (bB (lp _))
     .exact absurd (aX.mp z) (ja lt)
    have hv:∀(i:Nat) (v:Value),its[i]?=some v->∃x t,xs[i]?=some x/\v = .str x t:=λi v e=>mz hi i v (by rw[fB];exact e);have hx:xs.take its.size=xs:=bX (by rw[<- cR,hi.length];exact az _);refine yw (b:=!w.params.followText "set-order") (Walks.tuple (by simp[hh]) _ l ne its) nf xs hv hb (its.size-0) 0 _ (by lk) (ba _) #[#[_,bD _ rfl,00],L1.push _] ?S0 ?R0
    case S0=>exact (xB s.heap).keep λo e=>aW _ e
    case R0 =>
     intro h' tk S' keep;rw[hx] at S';show wpAny _ _ _ _ _ _
     refine aq ?_;show wpAny _ _ (ret Value.none) _ _ _
     refine aq #[0,h',tk,0,S',λc o e=>?_];have clt:=aY e;refine keep c o ?_ (aW _ (aW _ e));rw[iz];intro z
     rcases aM.mp z with z|z
     .exact absurd z (bB clt)
     .exact absurd (aX.mp z) (bB (nW clt))
   .cases r2 with
    | error e=>exact hr2
    | ok fl2 =>
     cases fl2 with
     | ret r =>
      obtain⟨rfl,h',tk,rfl,S',keep⟩:=hr2
      repeat (any_goals (first|assumption|wp_step))
      exact h _ _ S' keep
     | next=>exact hr2.elim
     | brk=>exact hr2.elim
     | cont=>exact hr2.elim
  | next=>exact hr.elim
  | brk=>exact hr.elim
  | cont=>exact hr.elim
end
end SSet
namespace L2
open PySem PyProof.Rows
section
variable {X:Cx}
theorem Oy (hc:X.calm=true):di X (.type "set") (λxs H Q=>∃p ys,xs=[.ref p]/\SqT X.K H p (ys.map V.str)/\ys.length<=1000/\∀l,H l=none->Q (.ref l) (upd H l (setO X l (SSet.dd ys)))):=by
 intro pins s σ H xs us Q I r h;obtain⟨p,ys,rfl,hq,hy,q⟩:=h;obtain⟨u,rfl,ru⟩:=vals1 r;cases ru;obtain⟨its,rv,pl,hz⟩:=I.tuple hq;have sy:=qL rv;have il:its.length=ys.length:=sy.length;refine SSet.set_tuple (xs:=ys) (I.ok.hd hc) pl (by simpa using sy) (by rw[a7,il];have:kq=4096:=rfl;lk) λh' tk S k=>?_;have I1:Inv X pins σ (upd H s.heap.objs.size (setO X s.heap.objs.size (SSet.dd ys))) { s with heap:=h',toks:=tk }:=I.laid (t':=tk) (λb o e=>k b o e) (az _) #[S,let ⟨o,_,_,_,e,_⟩:=S;#[o,e],λh1 h2 x y=>x.keep y];exact#[.ref s.heap.objs.size,_,I1,0,q _ (I.hok.fresh (az _))]
end
end L2
namespace L2
open PySem PySem.Spec PyProof.Rows PySem.MeetsSeq
theorem O1 (l b:Addr)(items items2:Array Value)(n n2:Nat)(dd dd2:Option Addr)(sl sl2:Array (Option Value))(hc0:items.isEmpty=true) :
  Meets (bY.«tuple.__add__» #[[.ref l,.ref b],[]]) (λ_ R s=>s.heap.get? l=some { cls:=.type "tuple",dict:=dd,data:=.seq items n,slots:=sl }/\s.heap.get? b=some { cls:=.type "tuple",dict:=dd2,data:=.seq items2 n2,slots:=sl2 }/\R (.ok (.ret (Value.ref b))) s):=by
 refine .of_wp λprog w A R s h=>?_;obtain⟨hp,g,d,tk,os⟩:=s;obtain⟨hl,hb,h⟩:=h;have f2:=PySem.F.sub_tuple_tuple;unfold bY.«tuple.__add__»
 wp_walk using wpAny_loadPart' hl,wpAny_loadPart' hb
 exact#[1,h]
section
variable {X:Cx}
noncomputable def O4 (K:ah):R2:=λx y H Q=>Ex4 λa b xs ys=>x = .ref a/\y = .ref b/\SqT K H a xs/\SqT K H b ys/\ys≠[]/\xs.length+ys.length<=aE/\(xs=[]->Q (.ref b) H)/\(xs≠[]->∀p,H p=none->Q (.ref p) (upd H p (.tup (xs++ys))))
theorem Jr:OpR X (gW .Add) (O4 X.K):=by
 intro pins s σ H x y v u Q I rx ry h;obtain⟨a,b,xs,ys,rfl,rfl,ha,hb,hy,hz,q1,q2⟩:=h
 by_cases c:xs=[]
 .subst c;cases rx;cases ry;obtain⟨its,r1,p1,_⟩:=I.tuple ha;obtain⟨its2,r2,p2,_⟩:=I.tuple hb;cases r1;obtain⟨⟨cls,dd,data,sl⟩,ho,hc,n,hd⟩:=id p1;obtain⟨⟨cls2,dd2,data2,sl2⟩,ho2,hc2,n2,hd2⟩:=id p2;simp only at hc hd hc2 hd2;subst hc hd hc2 hd2;exact Gj #[_,ho,0] #[_,ho2,0] FY Li O0 Kq (MU _ _)
   (O1 a b _ its2.toArray n n2 dd dd2 sl sl2 rfl) #[ho,ho2,#[.ref b,H,I,0,q1 rfl]]
 .exact fz pins s σ H (.ref a) (.ref b) v u Q I rx ry #[a,b,xs,ys,00,ha,hb,c,hz,λz=>absurd z hy,λ_=>q2 c]
end
end L2
namespace L2
open PySem PyProof.Rows
section
variable {X:Cx}
end
end L2
namespace DK
open PySem PySem.Spec PyProof.Rows
noncomputable def Raw (h:Heap)(d:Addr)(es:Array g9)(ep:Nat):Prop:=∃o,h.get? d=some o/\o.ExactDict/\o.data = .dict es ep
section
variable {prog:aR}{w:World}{A:Around}{E:Value->Shared->Prop}{s:Shared}
theorem Raw.type {d:Addr}{es:Array g9}{ep:Nat}(h:Raw s.heap d es ep):s.TypeIs (.ref d) "dict":=let ⟨o,g,x,_⟩:=h;#[o,g,x.1]
theorem sJ (d:Addr):¬ ((Value.ref d==Value.none)=true):=cf
theorem Ee {d:Addr}{es:Array g9}{ep:Nat}{Q:Value->Shared->Prop}(lo:(d==iw)=false)(h:Raw s.heap d es ep)
  (q:Q (.ref s.heap.objs.size) { s with heap:=s.heap.push { cls:=.type "dict_keyiterator",data:=.fields (yA [.ref d,.int 0 0,.int es.size 0,.int ep 0]) } }):wpAny (model prog w) A (pyIter (.ref d)) Q E s:=by
 have ty:=h.type;obtain⟨o,g,x,dat⟩:=h;refine Bf ty Ss (fN Ss ty PySem.F.entry_dict_iter ?_ (PySem.F.args_dict_iter_1 _));unfold bY.«dict.__iter__» bY.Dict.dictSlotNone;refine ac (ac (QE ty ?_));show wpAny _ _ (pure (Value.ref d)) _ _ _
 refine aq ?_;show wpAny _ _ (QS d >>= _) _ _ _
 unfold QS;rw[if_neg (λz=>by rw[lo] at z;cases z)];refine ac (aq (ac (y6 g dat (ac (ER g dat ?_)))));exact ac (fA (aq #[1,"dict_keyiterator",_,#[_,bD _ rfl,0],yn.lookup,q]))
theorem DH {it d:Addr}{i ep:Nat}{es:Array g9}{e:g9}{Q:Option Value->Shared->Prop}(hit:s.heap.IsKeyIter it d i es.size ep)(h:Raw s.heap d es ep)(hx:es[i]?=some e)
  (q:∀h',h'.IsKeyIter it d (i+1) es.size ep->eN it s.heap h'->Q (some e.key) { s with heap:=h' }):wpAny (model prog w) A (pyNext (.ref it)) Q E s:=by
 have ty:=hit.typeIs;obtain⟨io,ig,ic,idt⟩:=id hit;obtain⟨o,g,x,dat⟩:=h;obtain⟨lt,ee⟩:=Tl.mp hx;unfold pyNext;refine ac (ow (jf (name:=iV "__next__") ty yn (fN yn ty PF ?_ (TL _))));refine ac (aq (ac (ac ?_)))
 first
 | refine ac (Af ty (aq ?_))
 | refine ac (zN ty (aq ?_))
 refine ac (Hk ig idt ?_);have own:Uq "dict_keyiterator" = false:=by decide
 simp only[own,kr,if_false];show wpAny _ _ (if (Value.ref d==Value.none)=true then _ else _) _ _ _
 rw[if_neg (sJ d)];refine ac (aq (ac (y6 g dat ?_)));rw[if_neg (by simp)];refine ac (aq (ac (ER g dat ?_)));rw[if_neg (by simp)];refine aq ?_;simp only[show ¬ ((i:Int)<0) by lk,if_false,cS,hx];refine ac ?_
 first
 | refine ac (Af ty (aq ?_))
 | refine ac (zN ty (aq ?_))
 refine ac (Tw ty ?_);show wpAny _ _ (ju (.ref it) 1 (rawInt ((i:Int)+1)) >>= _) _ _ _
 refine ac (za ig idt (by simp) ?_);have hit2:(s.heap.update it (Obj.mapFields (·.setIfInBounds 1 (rawInt ((i:Int)+1))))).IsKeyIter it d (i+1) es.size ep :=
  #[_,kH _ ig (P4 (Ab idt _)),(Q4 ..).trans ic,by rw[Ab idt];simp[rawInt]]
 refine ac (dG (ac (Tw (s:={ s with heap:=s.heap.update it (Obj.mapFields (·.setIfInBounds 1 (rawInt ((i:Int)+1)))) }) hit2.typeIs ?_)));show wpAny _ _ (pure e.key) _ _ _
 exact aq (aq #[1,aq (q _ hit2 (kY ..))])
theorem IN {it d:Addr}{i ep:Nat}{es:Array g9}{Q:Option Value->Shared->Prop}(hh:A.handled=none)(hit:s.heap.IsKeyIter it d i es.size ep)(h:Raw s.heap d es ep)(hx:es.size<=i)
  (q:∀h',EL it s.heap h'->Q none { s with heap:=h' }):wpAny (model prog w) A (pyNext (.ref it)) Q E s:=by
 have ty:=hit.typeIs;obtain⟨io,ig,ic,idt⟩:=id hit;obtain⟨o,g,x,dat⟩:=h;unfold pyNext;refine ac (ow (jf (name:=iV "__next__") ty yn (fN yn ty PF ?_ (TL _))));refine ac (aq (ac (ac ?_)))
 first
 | refine ac (Af ty (aq ?_))
 | refine ac (zN ty (aq ?_))
 refine ac (Hk ig idt ?_);have own:Uq "dict_keyiterator" = false:=by decide
 simp only[own,kr,if_false];show wpAny _ _ (if (Value.ref d==Value.none)=true then _ else _) _ _ _
 rw[if_neg (sJ d)];refine ac (aq (ac (y6 g dat ?_)));rw[if_neg (by simp)];refine ac (aq (ac (ER g dat ?_)));rw[if_neg (by simp)];refine aq ?_;simp only[show ¬ ((i:Int)<0) by lk,if_false,cS,A6 hx];refine ac ?_
 first
 | refine ac (Af ty (aq ?_))
 | refine ac (zN ty (aq ?_))
 show wpAny _ _ (ju (.ref it) 0 .none >>= _) _ _ _
 refine ac (za ig idt (by simp) ?_);show wpAny _ _ (newExc (.type "StopIteration") [] >>= _) _ _ _
 refine ac ?_;simp only[newExc,newTuple];refine ac (fA ?_ (by size_fits));refine ac (m:=sf _ _) (uj (a:=Value.none) (by first|rfl|(simp only[sf];rfl)) ?_);refine fA ?_ (by size_fits);simp only[rE];refine ac (Bx ?_);rw[show A.in1.handled=none from hh];refine ac (aq (wpAny_throw ?_));refine ac (zV (T:="StopIteration") (b:=true) #[_,bD _ rfl,0] KK ?_);exact aq (q _ (((kY ..).extBut.push _).push _))
end
end DK
namespace L2
open PySem PyProof.Rows
section
variable {X:Cx}{pins:List (Addr×Obj)}{σ:St}{H:Hp}{s:Shared}
theorem Inv.freeze {a:Addr}{kvs:List (List Key×V)}{o:Obj}(I:Inv X pins σ H s)(e:H a=some (.dT kvs))(g:s.heap.get? a=some o):Inv X pins σ (upd H a (.frz o (.dT kvs))) s:=by
 have ne:∀b u,H b=some u->(∀kvs,u ≠ .dT kvs)->b≠a:=λb u h n=>cw h e (λz=>n _ z);have ho:∀b x,H b=some (.own x)->upd H a (.frz o (.dT kvs)) b=some (.own x):=λb x h=>by
  rw[aF (ne b _ h λ_ z=>by cases z)];exact h
 have ht:∀b xs,H b=some (.tup xs)->upd H a (.frz o (.dT kvs)) b=some (.tup xs):=λb xs h=>by
  rw[aF (ne b _ h λ_ z=>by cases z)];exact h
 refine I.un (h':=s.heap) (t':=s.toks) #[λb q h _ _ _=>h,λb q h _ _ _=>#[q.slots,h],λb q _ h _=>?_,λb q h _=>#[q,h],ht,λb q u h=>?_,λb ps h=>#[(yA []),5]] λb u h=>?_
 .rw[aF (λz=>by rw[z,e] at h;cases h)];exact h
 .rw[aF (ne b _ h λ_ z=>by cases z)];exact h
 .rw[aF (ne b _ h λ_ z=>by cases z)]
  simpa using h
 .by_cases c:b=a
  .subst c;rw[aB] at h;cases h;exact#[g,(I.hok b _ e).stay (λ_ _ _ z=>z) (λc z=>ho c _ z) ht]
  .rw[aF c] at h;exact (I.hok b u h).stay (λ_ _ _ z=>z) (λc z=>ho c _ z) ht
end
theorem Db {α β:Type}{F:α->β->Prop}{xs:List α}{ys:List β}(h:Paired F xs ys):∀{i:Nat} {x:α},xs[i]?=some x->∃y,ys[i]?=some y/\F x y:=by
 induction h with
 | nil =>
  intro i x e;simp at e
 | cons r t ih =>
  intro i x e;cases i with
  | zero =>
   rw[lC] at e;cases e;exact#[1,r]
  | succ i =>
   rw[dX] at e;obtain⟨y,h1,h2⟩:=ih e;exact#[y,by rw[dX];exact h1,h2]
noncomputable def Itf (a:Addr)(o:Obj)(kvs:List (List Key×V))(keys:List Addr):It :=
 #[λi H=>H a=some (.frz o (.dT kvs))/\i<keys.length,λi H x H'=>H'=H/\∃b,keys[i]?=some b/\x = .ref b,λi H=>H a=some (.frz o (.dT kvs))/\keys.length<=i]
noncomputable def KeysAre (o:Obj)(es:Array g9)(ep:Nat)(keys:List Addr):Prop:=o.ExactDict/\o.data = .dict es ep/\es.toList.map (·.key)=keys.map Value.ref
theorem KeysAre.get {o:Obj}{es:Array g9}{ep:Nat}{keys:List Addr}(h:KeysAre o es ep keys){i:Nat}{b:Addr}(hb:keys[i]?=some b):∃e,es[i]?=some e/\e.key = .ref b:=by
 have z:(es.toList.map (·.key))[i]?=some (.ref b):=by rw[h.2.2,bH,hb];rfl
 rw[bH] at z;cases q:es.toList[i]? with
 | none=>rw[q] at z;cases z
 | some e =>
  rw[q] at z;exact#[e,by rw[<- fB];exact q,eQ z]
theorem KeysAre.size {o:Obj}{es:Array g9}{ep:Nat}{keys:List Addr}(h:KeysAre o es ep keys):es.size=keys.length:=by
 have z:=congrArg jA h.2.2
 simpa using z
theorem FH {P:aR}{w:World}{K:ah}{tg:Expr}(a it:Addr){o:Obj}{kvs:List (List Key×V)}{keys:List Addr}{es:Array g9}{ep:Nat}(ka:KeysAre o es ep keys) :
  Turn P w K tg (Itf a o kvs keys) [it] it (λi h=>h.IsKeyIter it a i es.size ep) where
 mem:=by simp
 obj:=λi h st b hb=>by
  have e:b=it:=by simpa using hb
  subst e;obtain⟨q,e,c,d⟩:=st;exact#[q,e,λv z=>by rw[d] at z;cases z]
 keep:=λi h h' st k=>by
  obtain⟨q,e,r⟩:=st;exact#[q,k it (by simp) q e,r]
 item:=by
  intro X hP hw hK hc i pins s σ H E I hf st hg;subst hP hw hK;obtain⟨fr,lt⟩:=hg;obtain⟨f0,f1,f2,f3,f4,f5⟩:=hf it (by simp);have gd:s.heap.get? a=some o:=(I.hok a _ fr).1;obtain⟨b,hb⟩:∃b,keys[i]?=some b:=#[_,cA lt];obtain⟨e,he,ek⟩:=ka.get hb;refine DK.DH st #[o,gd,ka.1,ka.2.1] he λh' st' sb=>?_;have I1:Inv X pins σ H { s with heap:=h' }:=I.turned (t':=s.toks) (λb o hb e=>(sb.2 b hb).trans e) f0 f1 f3 f4 f5;obtain⟨q,e1,c,d⟩:=id st';rw[ek];exact#[1,gS (s:={ s with heap:=h' }) e1 c d (by decide) #[.ref b,H,I1,0,#[0,b,hb,0],st',λb hb=>(hf b hb).1]]
 done:=by
  intro X hP hw hK hc i pins s σ H E I hf st hg;subst hP hw hK;obtain⟨fr,le⟩:=hg;obtain⟨f0,f1,f2,f3,f4,f5⟩:=hf it (by simp);have gd:s.heap.get? a=some o:=(I.hok a _ fr).1;exact DK.IN (I.ok.hd hc) st #[o,gd,ka.1,ka.2.1] (by rw[ka.size];exact le) λh' eb=>#[0,I.turned (t':=s.toks) (λb o hb e=>eb b o hb e) f0 f1 f3 f4 f5]
 self:=λ_ _ _ _ _ st h=>wpAny_pyIter_keyiter st h
section
variable {X:Cx}
noncomputable def DW (td:TE):TI:=fun σ H R=>td σ H λx H1=>Ex2 λa kvs=>x = .ref a/\H1 a=some (.dT kvs)/\∀(o:Obj) (keys:List Addr),keys.length=kvs.length->(∀(i:Nat) (b:Addr) (kv:List Key×V),keys[i]?=some b->kvs[i]?=some kv->H1 b=some (.tup (kv.1.map kV)))->R (Itf a o kvs keys) (upd H1 a (.frz o (.dT kvs)))
theorem EN {tg l:Expr}{td:TE}(hl:PE X l td):PI X tg l (DW td):=by
 intro pins s σ H R I h;refine thn (hl pins s σ H _ I h) λv s1 #[x,H1,I1,r1,q1]=>?_;obtain⟨a,kvs,rfl,ha,q⟩:=q1;cases r1;obtain⟨z,hd,xs,pr,o,es,ep,g,ex,dat,en,nd⟩:=(show cq X.prog X.w H1 s1.heap a (.dT kvs) from I1.hok a _ ha);have ka:KeysAre o es ep (xs.map (·.2.1)):=by
  refine#[ex,dat,5];rw[en,cW,cW];rfl
 have sz:=ka.size;refine DK.Ee hd #[o,g,ex,dat] ?_;have I2:=I1.freeze ha g;have q2:=q o (xs.map (·.2.1)) (by rw[aw];exact pr.length.symm) λi b kv hb hk=>?_
 .refine#[s1.heap.objs.size,[s1.heap.objs.size],_,_,1,I2.kept (t':=s1.toks) λb o e=>aW _ e,FH a _ ka,#[_,bD _ rfl,00],λb hb=>?_,q2];have e:b=s1.heap.objs.size:=by simpa using hb
  subst e;exact I2.fpOk (az _) (I2.hok.fresh (az _))
 .rw[bH] at hb;obtain⟨x,hx,e1,e2,e3⟩:=Db pr hk;rw[hx] at hb;cases hb;exact e2
end
theorem Lk {a:Addr}{o:Obj}{kvs:List (List Key×V)}{keys:List Addr}{H1:Hp}{g:TG}{tt:TT}{te:TE}{n:Nat}{js:List Nat}{σ:St}{Q:VK}(Pv:Nat->List V->Hp->Prop)(hf:∀i ys H,Pv i ys H->H a=some (.frz o (.dT kvs)))(h0:Pv 0 [] H1)(hz:∀i ys H,Pv i ys H->ys.length<=aE)
  (hs:∀i b ys H,keys[i]?=some b->Pv i ys H->g (.ref b) (cb n js σ) H fun σ2 H2=>σ2.drop n=(cb n js σ).drop n/\tt σ2 H2 λb H3=>if b=true then te σ2 H3 λy H4=>Pv (i+1) (ys++[y]) H4 else Pv (i+1) ys H3)
  (hd:∀ys H,Pv keys.length ys H->∀p,H p=none->Q (.ref p) (upd H p (.lst ys))):dP (Itf a o kvs keys) H1 g tt te n js σ Q :=
 uA (len:=keys.length) (x:=λi=>.ref (keys.getD i 0)) Pv (λi ys H h lt=>#[hf i ys H h,lt]) (λys H h=>#[hf _ ys H h,az _]) (λi ys H v H' _ lt y=>by
  obtain⟨rfl,b,hb,rfl⟩:=y;exact#[0,by rw[cJ,hb];rfl]) h0 hz (λi ys H lt p=>by
  have e:keys[i]?=some (keys.getD i 0):=by
   rw[cJ,cA lt];rfl
  exact hs i _ ys H e p) hd
end L2
namespace L2
open PySem PyProof.Rows
section
variable {X:Cx}
theorem KC:∀{as:List Addr} {is:List Value},Vals (as.map V.ref) is->is=as.map Value.ref
 | [],_,.nil=>rfl
 | a::r,_,.cons h t=>by
  cases h;rw[KC t];rfl
end
end L2
namespace L2
open PySem PyProof.Rows
section
open PySem.SeqAt PySem.MeetsSeq
open AutoSeq1 (wpAny_loadPart')
theorem NY (q:Addr)(ys:Array Value)(c:Nat)(z:Value)(f:Value->Bool)(j:Nat)(lt:j<ys.size)(yes:f ys[j]=true)(le:ys.size<=aE)(k:Nat):∀i:Nat,j-i=k->i<=j->(∀m (hm:m<ys.size),i<=m->m<j->f ys[m]=false) →
  Meets (bY.«list.remove.loop» #[[.ref q,z,rawInt i],[]]) (λA R s=>s.heap.get? q=some { cls:=.type "list",data:=.seq ys c }/\(∀y,y∈ys->EqAt A.in1 s y z (f y))/\R (.ok (.ret .none)) { s with heap:=s.heap.update q (fE λu=>u.eraseIdxIfInBounds j) }):=by
 induction k with
 | zero =>
  intro i ek il no pr wo A R sh h;obtain⟨hp,g,d,tk,os⟩:=sh;obtain⟨hq,hf,h⟩:=h;obtain rfl:i=j:=by lk
  wp_walk using wpAny_loadPart' hq
  rw[show ys[((i:Nat):Int).toNat]?=some ys[i] by simp[lt]];refine ac (hf _ (Qn lt) pr wo _ _ ?_);rw[yes];have z':(ys.eraseIdxIfInBounds i).size<=aE+1:=aV (MeetsSeq.size_erased ys _) (pk le)
  wp_walk using (qe hq rfl (hz:=le) (_hz':=z')),wpAny_loadPart' hq
  simpa using h
 | succ k ih =>
  intro i ek il no pr wo A R sh h;obtain⟨hp,g,d,tk,os⟩:=sh;obtain⟨hq,hf,h⟩:=h;have li:i<ys.size:=by lk
  wp_walk using wpAny_loadPart' hq
  rw[show ys[((i:Nat):Int).toNat]?=some ys[i] by simp[li]];refine ac (hf _ (Qn li) pr wo _ _ ?_);rw[no i li (az _) (by lk)]
  wp_walk
  rw[show ((i:Int)+1)=((i+1:Nat):Int) by lk];exact#[gE Am _,gp entry_remove_loop (by
   rw[ik Am _];exact ih (i+1) (by lk) (by lk) (λm hm a b=>no m hm (by lk) b) pr wo A R _ #[hq,hf,h])]
theorem Bp (q:Addr)(ys:Array Value)(c:Nat)(z:Value)(f:Value->Bool)(j:Nat)(lt:j<ys.size)(yes:f ys[j]=true)(no:∀m (hm:m<ys.size),m<j->f ys[m]=false)(le:ys.size<=aE) :
  Meets (bY.«list.remove» #[[.ref q,z],[]]) (λA R s=>s.heap.get? q=some { cls:=.type "list",data:=.seq ys c }/\(∀y,y∈ys->EqAt A.in1 s y z (f y))/\R (.ok (.ret .none)) { s with heap:=s.heap.update q (fE λu=>u.eraseIdxIfInBounds j) }):=by
 intro pr wo A R sh h;obtain⟨hp,g,d,tk,os⟩:=sh;obtain⟨hq,hf,h⟩:=h
 wp_walk using wpAny_loadPart' hq
 exact#[gE Am _,gp entry_remove_loop (by
  rw[ik Am _];exact NY q ys c z f j lt yes le _ 0 rfl (ba _) (λm hm _ b=>no m hm b) pr wo A R _ #[hq,hf,h])]
end
section
variable {X:Cx}
noncomputable def Fm (X:Cx):V->List V->Hp->VK->Prop:=λx vs H Q=>Ex7 λ(l:Addr) (xs:List V) (u:V) (d:PyData) (ds:List PyData) (j:Nat) (dj:PyData)=>x = .ref l/\vs=[u]/\H l=some (.lst xs)/\DV X.K H (.ref l) (.list ds)/\DV X.K H u d/\dO d=true/\dO (.list ds)=true/\d.depth<=8/\ds[j]?=some dj/\fX dj d=true/\(∀(m:Nat) (dm:PyData),m<j->ds[m]?=some dm->fX dm d=false)/\Q .non (upd H l (.lst (xs.eraseIdx j)))
theorem Jp (hu:X.A.units+64<cLine):MtM X "list.remove" (Fm X):=by
 intro pins s σ H x vs v us Q I rx rv h;obtain⟨l,xs,u,d,ds,j,dj,rfl,rfl,hH,hD,hd,s1,s2,dp,ej,yes,no,q⟩:=h;obtain⟨as,r2⟩:=hD.reads I rx;cases rx;obtain⟨w,rfl,rw'⟩:=rv.one;obtain⟨bs,r1⟩:=hd.reads I rw';obtain⟨z,its,n,r,hl,e⟩:=I.lstM hH;have c2:=SU s2;rw[fR] at c2;have c1:=SU s1;have al:∃as',ReadsAll s.heap its.toArray.toList ds as':=by
  cases r2 with
  | list h1 h2 h3 h4 =>
   rw[e] at h1;cases h1;injection h3 with h3 _
   subst h3;exact#[_,h4]
 obtain⟨as',rs⟩:=al;have mp:=SeqAt.readsAll_map ds _ _ c2 rs;have at_:∀(m:Nat) (hm:m<its.toArray.size),ds[m]?=some (FT s.heap its.toArray[m]):=λm hm=>by
  rw[<- mp,bH,fB,gO hm];rfl
 have jl:j<its.toArray.size:=by
  have z:=(br.mp ej).1;rw[<- mp,aw,cR] at z;exact z
 have ey:=SeqAt.items_eqAt (A:=X.A) rs r1 c2 c1 (by have:=Nat.min_le_right (gB ds) d.depth;lk);refine gL F.slot_list_remove #[_,e,0] F.entry_list_remove (F.args_list_remove_2 _ _)
  (Bp l its.toArray n w (λy=>fX (FT s.heap y) d) j jl ?_ ?_ (by rw[a7];lk)) #[e,ey,5]
 .have y:=at_ j jl;rw[ej] at y;injection y with y
  show fX (FT s.heap its.toArray[j]) d=true
  rw[<- y];exact yes
 .exact λm hm lt=>no m _ lt (at_ m hm)
 .refine#[.non,_,I.lset (its':=its.eraseIdx j) hH e ?_ (r.eraseIdx j) ?_,0,q]
  .show its.toArray.eraseIdxIfInBounds j=(its.eraseIdx j).toArray;rw[Dq]
  .have:=JY xs j;lk
end
theorem lex_lt:∀xs ys:List Int,HT.lexLt xs ys=decide (xs<ys)
 | [],[]=>rfl
 | [],_::_=>rfl
 | _::_,[]=>rfl
 | x::xs,y::ys=>by
  rw[HT.PB,lex_lt xs ys]
  by_cases e:x=y
  .subst e;rw[if_pos rfl];refine decide_eq_decide.mpr ?_;rw[x6];exact#[λc=>.inr #[0,c],λc=>c.elim (λc=>absurd c (BP x)) λc=>c.2]
  .rw[if_neg e];refine decide_eq_decide.mpr ?_;rw[x6];exact#[λc=>.inl c,λc=>c.elim id λc=>absurd c.1 e]
section
open TSort
theorem mN (bt:Nat->Nat->Bool):∀k,eT bt k<=k
 | 0=>az _
 | k+1=>by
  unfold eT
  split
  .exact az _
  .exact pk (mN bt k)
theorem xE {n:Nat}{key:Nat->List Int}(ap:∀i j,i<n->j<n->i≠j->key i≠key j):∀k,k<n->∀i,i<=k->i≠eT (λi j=>decide (key i<key j)) k->key (eT (λi j=>decide (key i<key j)) k)<key i
 | 0,_,i,hi,ne=>absurd (Nat.le_zero.mp hi) ne
 | k+1,hk,i,hi,ne=>by
  have ih:=xE ap k (by lk);have bl:=mN (λi j=>decide (key i<key j)) k;have un:eT (λi j=>decide (key i<key j)) (k+1)=if decide (key (k+1)<key (eT (λi j=>decide (key i<key j)) k))=true then k+1 else eT (λi j=>decide (key i<key j)) k:=rfl;rw[un] at ne ⊢;generalize eT (λi j=>decide (key i<key j)) k=b at *
  by_cases c:key (k+1)<key b
  .rw[if_pos (decide_eq_true c)] at ne ⊢
   by_cases e:i=b
   .rw[e];exact c
   .exact mJ c (ih i (by lk) e)
  .rw[if_neg (by simpa using c)] at ne ⊢
   by_cases e:i=k+1
   .rw[e];exact not_lt (ap _ _ hk (by lk) (by lk)) c
   .exact ih i (by lk) ne
end
section
variable {pr:aR}{wo:World}{A:Around}{R:Result->Shared->Prop}{I S:Addr}{fp wr:List Addr}{n:Nat}{P:Nat->Value->Prop}{St:Nat->Heap->Prop}{h0:Heap}
noncomputable def Keeps (h0 h:Heap):Prop:=∀b o,h0.get? b=some o->h.get? b=some o
theorem AE:(toString "min" ++ toString ".loop":String) = "min.loop":=by decide
theorem Of (W:Walks pr wo A.in1 I fp wr n P St)(bt:Nat->Nat->Bool)(old:∀b o,h0.get? b=some o->b∉wr/\b≠S)(cmp:∀i j vi vj (x:Shared) (Q:Value->Shared->Prop) (E:Value->Shared->Prop),i≠j->Keeps h0 x.heap->P i vi->P j vj->Q (.bool (bt i j)) x->wpAny (model pr wo) A.in1 (richCompare .Lt vi vj) Q E x)(nS:S∉fp) :
  ∀(k j:Nat) (x:Shared) (u:Value) (c:Nat),n-(j+1)=k->j+1<=n->St (j+1) x.heap->Keeps h0 x.heap->P (eT bt j) u->x.heap.get? S=some { cls:=.type "list",data:=.seq (yA [u,u]) c } →
   (∀v h' tk,P (eT bt (n-1)) v->Keeps h0 h'->R (.ok (.ret v)) { x with heap:=h',toks:=tk })->gi (model pr wo) A (.builtin "min.loop" #[[.ref I,.none,.ref S],[]]) R x:=by
 have nw:S∉wr:=λh=>nS (W.sub _ h);intro k
 induction k with
 | zero =>
  intro j x u c ek lj st kp pu eS q;obtain rfl:n=j+1:=by lk
  refine gp K1 ?_;rw[ik pQ _];refine ac (si eS rfl ?_);refine ac (ve (W.done x _ _ st λh' tk kk=>?_));refine ac ?_;refine qe (kk S _ nw eS) rfl (ac (ym (aq ?_)));exact q u _ tk pu λb o e=>(iL _ _ (a8 (old b o e).2)).trans (kk b o (old b o e).1 (kp b o e))
 | succ k ih =>
  intro j x u c ek lj st kp pu eS q;have lt:j+1<n:=by lk
  have nj:j+1≠eT bt j:=by
   have:=mN bt j;lk
  refine gp K1 ?_;rw[ik pQ _];refine ac (si eS rfl ?_);refine ac (ve (W.item (j+1) x _ _ lt st λv h' tk pv st' kk=>?_));have eS':=kk S _ nw eS;have kp':Keeps h0 h':=λb o e=>kk b o (old b o e).1 (kp b o e);refine ac (aq ?_);refine ac (ve (dG (ac (cmp (j+1) (eT bt j) v u _ _ _ nj kp' pv pu ?_))));refine ac (dG (ie ?_));refine ac (ym (aq ?_));cases hb:bt (j+1) (eT bt j) with
  | true =>
   simp only[if_true];refine ac ?_;refine qe eS' rfl (ac (ym ?_));rw[AE];refine aq #[gE pQ _,ih (j+1) _ v _ (by lk) lt (W.frame _ _ _ st' λb hbf o e=>?_) (λb o e=>?_) (by simp only[eT,hb,if_true];exact pv) (kH _ eS' rfl) λv' h'' tk'' p' k'=>q v' h'' tk'' p' k']
   .exact (iL _ _ (λh:S=b=>nS (by rw[h];exact hbf))).trans e
   .exact (iL _ _ (a8 (old b o e).2)).trans (kp' b o e)
  | false =>
   simp only[kr,if_false];refine ac (ym ?_);rw[AE];exact aq #[gE pQ _,ih (j+1) _ u c (by lk) lt st' kp' (by simp only[eT,hb,kr,if_false];exact pu) eS' λv' h'' tk'' p' k'=>q v' h'' tk'' p' k']
end
section
variable {pr:aR}{wo:World}{A:Around}{E:Value->Shared->Prop}{s:Shared}
theorem Ev {l:Addr}{vs:List Value}{Q:Value->Shared->Prop}(bt:Nat->Nat->Bool)(hh:A.handled=none)(hl:s.heap.IsList l vs.toArray)(ne:0<vs.length)
  (cmp:∀i j vi vj (x:Shared) (Q:Value->Shared->Prop) (E:Value->Shared->Prop),i≠j->Keeps s.heap x.heap->vs[i]?=some vi->vs[j]?=some vj->Q (.bool (bt i j)) x->wpAny (model pr wo) A.in1 (richCompare .Lt vi vj) Q E x)
  (q:∀v h' tk,vs[eT bt (vs.length-1)]?=some v->Keeps s.heap h'->Q v { s with heap:=h',toks:=tk }):wpAny (model pr wo) A (call (.builtin "min") [.ref l]) Q E s:=by
 have ll:l<s.heap.objs.size:=by
  obtain⟨_,e,_⟩:=hl;exact aY e
 have sz:vs.toArray.size=vs.length:=a7 ..;have W:=AY (prog:=pr) (w:=wo) (A:=A.in1) hh s.heap.objs.size l (bB ll) vs.toArray;refine call_function_tree F.kind_min F.plain_min F.entry_min (F.args_min1 _) ?_;refine ac (uj (show bY.Builtins.bindParams "min" ["key","default"] 0 #[[],[]]=pure [none,none] from rfl) ?_);refine ac (aq ?_);refine ac (wJ hl ?_);refine ac (fA ?_);rw[AE];generalize hG:s.heap.push { cls:=.type "list_iterator",data:=.fields (yA [.ref l,.int 0 0]) }=G;have gs:G.objs.size=s.heap.objs.size+1:=by rw[<- hG];exact size_push' ..
 have kG:Keeps s.heap G:=λb o e=>by rw[<- hG];exact aW _ e
 have iG:G.get? s.heap.objs.size=some { cls:=.type "list_iterator",data:=.fields (yA [.ref l,.int 0 0]) }:=by rw[<- hG];exact bD _ rfl
 have nS:G.objs.size∉[s.heap.objs.size,l]:=λh=>by
  simp only[aM,dN,or_false] at h
  rcases h with z|z
  .exact absurd (gs.symm.trans z) (Nat.succ_ne_self _)
  .exact absurd (Nat.lt_trans ll (lp _)) (by rw[<- z,gs];exact gw _)
 have old:∀b o,s.heap.get? b=some o->b∉[s.heap.objs.size]/\b≠G.objs.size:=λb o e=>by
  have lt:=aY e;exact#[λh=>bB lt (aX.mp h),by rw[gs];exact bB (nW lt)]
 refine aq #[gE pQ _,5];refine gp K1 ?_;rw[ik pQ _];have eS:(G.push { cls:=.type "list",data:=.seq (yA []) }).get? G.objs.size=some { cls:=.type "list",data:=.seq (yA []) }:=bD _ rfl;have st0:(G.push { cls:=.type "list",data:=.seq (yA []) }).IsListIter s.heap.objs.size l 0/\(G.push { cls:=.type "list",data:=.seq (yA []) }).IsList l vs.toArray:=by
  refine#[#[_,aW _ iG,00],5];obtain⟨o,e,r⟩:=hl;exact#[o,aW _ (kG _ _ e),r]
 refine ac (si eS rfl ?_);refine ac (ve (W.item 0 _ _ _ (by rw[sz];exact ne) st0 λv h' tk pv st' kk=>?_));have nw:G.objs.size∉[s.heap.objs.size]:=λh=>nS (W.sub _ h);have eS':=kk _ _ nw eS;have kp':Keeps s.heap h':=λb o e=>kk b o (old b o e).1 (aW _ (kG b o e));refine ac (aq ?_);refine ac ?_;refine qe eS' rfl ?_;rw[AE];refine aq #[gE pQ _,Of W bt old (λi j vi vj x Q E a b c d e=>cmp i j vi vj x Q E a b (by simpa using c) (by simpa using d) e) nS _ 0 _ v _ rfl (by rw[sz];exact ne) (W.frame _ _ _ st' λb hb o e=>?_) (λb o e=>?_) pv (kH _ eS' rfl) λv' h'' tk'' p' k'=>?_]
 .exact (iL _ _ (λh:G.objs.size=b=>nS (by rw[h];exact hb))).trans e
 .exact (iL _ _ (a8 (old b o e).2)).trans (kp' b o e)
 .exact q v' h'' tk'' (by rw[sz] at p';simpa using p') k'
end
section
variable {X:Cx}
theorem CY (hu:X.A.units+64<cLine)(hc:X.calm=true):di X (.builtin "min") (λxs H Q=>Ex3 λ(l:Addr) (us:List V) (g:V->List Int)=>xs=[.ref l]/\SqL X.K H l us/\us≠[]/\(∀u∈us,∃a,u = .ref a/\SqT X.K H a ((g u).map V.int))/\(us.map g).Nodup /\
  ∀u∈us,(∀v∈us,v≠u->g u<g v)->Q u H):=by
 intro pins s σ H xs vs Q I r h;obtain⟨l,us,g,rfl,hl,ne,ht,un,q⟩:=h;obtain⟨u,rfl,ru⟩:=vals1 r;cases ru;obtain⟨its,rv,pl,_⟩:=I.list hl;obtain⟨e1,e2⟩:=Kv rv λu hu=>by
  obtain⟨a,e,_⟩:=ht u hu;exact#[a,e]
 have len:its.length=us.length:=rv.length.symm;have hv:∀v∈its,Ex2 λb jts=>v = .ref b/\eR jts (g (.ref b))/\IsTup s.heap b jts.toArray:=λv hv=>by
  obtain⟨a,rfl,ha⟩:=e2 v hv;obtain⟨a',e,sq⟩:=ht _ ha;cases e;obtain⟨jts,rj,tp,_⟩:=I.tuple sq;exact#[a,jts,0,intsAre_of rj,tp]
 have key:∀i u,us[i]?=some u->(us.map g).getD i []=g u:=λi u e=>by
  rw[cJ,bH,e];rfl
 have itu:∀i v,its[i]?=some v->us[i]?=some (refV v):=λi v e=>by
  rw[<- e1,bH,e];rfl
 have ap:∀i j,i<us.length->j<us.length->i≠j->(us.map g).getD i []≠(us.map g).getD j []:=λi j hi hj nij z=>by
  have li:i<(us.map g).length:=by rw[aw];exact hi
  have lj:j<(us.map g).length:=by rw[aw];exact hj
  rw[cJ,cJ,cA li,cA lj] at z;exact nij ((Uk un).mp z)
 have l0:0<us.length:=LK.mpr ne;refine Ev (vs:=its) (λi j=>decide ((us.map g).getD i []<(us.map g).getD j [])) (I.ok.hd hc) pl.isList (by lk) (λi j vi vj x Q E nij kp ei ej hq=>?_) λv h' tk ev kp=>?_
 .obtain⟨a,j1,rfl,ia,o1,ga,ra⟩:=hv vi (bq ei);obtain⟨b,j2,rfl,ib,o2,gb,rb⟩:=hv vj (bq ej);have k1:=key _ _ (itu _ _ ei);have k2:=key _ _ (itu _ _ ej);rw[k1,k2,<- lex_lt] at hq;exact HT.Ni (A:=X.A.in1) #[o1,kp _ _ ga,ra] #[o2,kp _ _ gb,rb] ia ib (show X.A.units+1<cLine by lk) hq
 .have uv:=itu _ _ ev;have mem:=bq uv;have rel:RelV (refV v) v:=by
   obtain⟨a,_,rfl,_⟩:=hv v (bq ev);rfl
  refine#[refV v,H,I.kept kp,rel,q _ mem λw hw nw=>?_];obtain⟨i,hi,ew⟩:=Uh hw;have ew':us[i]?=some w:=by rw[cA hi,ew]
  rw[len] at uv;have low:=xE (n:=us.length) (key:=λi=>(us.map g).getD i []) ap (us.length-1) (by lk) i (by lk) (λz=>?_)
  .have k1:=key _ _ uv;have k2:=key _ _ ew';rw[k2] at low;exact Eq.subst (motive:=λt=>t<g w) k1 low
  .rw[<- z,ew'] at uv;injection uv with uv
   exact nw uv
end
theorem Dp {X:Cx}{a:Expr}{ta:TE}(K:ah)(ha:PE X a ta)(he:∀whole,isTrue a X.env whole=(do let v <- whole;rF a.pos;jq [v] (truthy v)))(hK:autoParam (X.K=K) aUB._auto_1):PT X a (fun σ H Q=>ta σ H λx H'=>∃k,TruV K x H' k/\Q k H'):=by
 subst hK;exact rh ha he
end L2
namespace ISet
open PySem PySem.Spec PyProof.Rows
noncomputable def Rise (xs:Array Nat):Prop:=xs.toList.Pairwise (· < ·)
structure RT (t:dU):Prop where
 rise:Rise t.place
 none:t.dummies=(yA [])
end ISet
namespace ISet
open PySem PySem.Spec PyProof.Rows
section
variable {prog:aR}{w:World}{A:Around}{E:Value->Shared->Prop}{s:Shared}
noncomputable def dd (xs:List Int):List Int:=xs.foldl (λD x=>if x∈D then D else D++[x]) []
end
end ISet
namespace ISet
open PySem PySem.Spec PyProof.Rows PySem.W
section
variable {prog:aR}{w:World}{A:Around}{E:Value->Shared->Prop}{s:Shared}
end
end ISet
namespace ISet
open PySem PySem.Spec PyProof.Rows PySem.W
section
variable {prog:aR}{w:World}{A:Around}{E:Value->Shared->Prop}{s:Shared}
end
end ISet
namespace SumL
open PySem PySem.Spec PyProof.Rows
section
variable {prog:aR}{w:World}{A:Around}{R:Result->Shared->Prop}
end
section
variable {prog:aR}{w:World}{A:Around}{E:Value->Shared->Prop}{s:Shared}
end
end SumL
namespace L2
open PySem PyProof.Rows
section
variable {X:Cx}
noncomputable def RefI (u:V):Prop:=(∃c,u = .ref c)∨∃i:Int,u = .int i
theorem HS {A:Around}{s:Shared}{us:List V}(hr:∀u∈us,RefI u){v w:List Value}(h1:Vals us v)(h2:Vals us w):v.length=w.length/\∀(j:Nat) (g1:j<v.length) (g2:j<w.length),dB A s v[j] w[j] true:=by
 induction h1 generalizing w with
 | nil=>cases h2;exact#[0,λj g=>absurd g (AS _)]
 | cons r t ih =>
  cases h2 with
  | cons r' t' =>
   obtain⟨e,m⟩:=ih (λu z=>hr u (bx _ z)) t';refine#[by rw[aK,aK,e],λj g1 g2=>?_];cases j with
   | zero =>
    rcases hr _ bb with⟨c,rfl⟩|⟨i,rfl⟩
    .cases r;cases r';exact eq_self _ _ _
    .obtain⟨t1,rfl⟩:=r;obtain⟨t2,rfl⟩:=r';have z:=Gz (A:=A) (s:=s) i t1 i t2;rw[beq_self_eq_true] at z;exact z
   | succ j=>exact m j (z4 g1) (z4 g2)
theorem Jl {A:Around}{pins:List (Addr×Obj)}{σ:St}{H:Hp}{s:Shared}(I:Inv X pins σ H s)(hu:A.units+8<cLine){a b:Addr}{us:List V}(ha:SqL X.K H a us)(hb:SqL X.K H b us)(hr:∀u∈us,RefI u):dB A s (.ref a) (.ref b) true:=by
 by_cases ne:a=b
 .subst ne;exact eq_self _ _ _
 .obtain⟨i1,v1,p1,_⟩:=I.list ha;obtain⟨i2,v2,p2,_⟩:=I.list hb;obtain⟨el,hm⟩:=HS (A:=A.in1) (s:=s) hr v1 v2;have z:=SeqAt.RcAt.lists (A:=A) (s:=s) (e:=λ_=>true) p1.isList p2.isList (by rw[a7,a7,el]) (by lk) λj h1 h2=>by
   have k1:j<i1.length:=(by rw[a7] at h1;exact h1);have k2:j<i2.length:=(by rw[a7] at h2;exact h2);have w:=hm j k1 k2
   simpa using w
  rw[all_true] at z;exact dB.of_refs ne z
theorem NO (hu:X.A.units+64<cLine):OpR X (cy .NotEq) (λx y H Q=>Ex4 λ(p q:Addr) (as bs:List Addr)=>x = .ref p/\y = .ref q/\SqL X.K H p (as.map V.ref)/\SqL X.K H q (bs.map V.ref)/\Paired (λa b=>∃us:List V,SqL X.K H a us/\SqL X.K H b us/\∀u∈us,RefI u) as bs/\Q (.bl false) H):=by
 intro pins s σ H x y v u Q I rx ry h;obtain⟨p,q,as,bs,rfl,rfl,hp,hq,hs,qq⟩:=h;cases rx;cases ry;obtain⟨i1,v1,p1,_⟩:=I.list hp;obtain⟨i2,v2,p2,_⟩:=I.list hq;have e1:=KC v1;have e2:=KC v2;subst e1 e2;have hat:∀{as bs:List Addr},Paired (λa b=>∃us:List V,SqL X.K H a us/\SqL X.K H b us/\∀u∈us,RefI u) as bs->as.length=bs.length/\∀(j:Nat) (h1:j<as.length) (h2:j<bs.length),∃us:List V,SqL X.K H as[j] us/\SqL X.K H bs[j] us/\∀u∈us,RefI u:=by
  intro as bs hs
  induction hs with
  | nil=>exact#[0,λj h=>absurd h (AS _)]
  | cons h t ih =>
   refine#[by rw[aK,aK,ih.1],λj h1 h2=>?_];cases j with
   | zero=>exact h
   | succ j=>exact ih.2 j (z4 h1) (z4 h2)
 obtain⟨hl,hat⟩:=hat hs;have z:=SeqAt.RcNeAt.lists (A:=X.A) (s:=s) (e:=λ_=>true) p1.isList p2.isList (by rw[a7,a7,aw,aw,hl]) (by lk) λj g1 g2=>by
  have k1:j<as.length:=by rw[a7,aw] at g1;exact g1
  have k2:j<bs.length:=by rw[a7,aw] at g2;exact g2
  obtain⟨us,h1,h2,h3⟩:=hat j k1 k2;have w:=Jl (A:=X.A.in1) I (by rw[Around.in1_units];lk) h1 h2 h3
  simpa using w
 rw[all_true] at z;exact z X.prog X.w X.xe _ #[.bl false,H,I,0,qq]
end
end L2
namespace L2
open PySem PySem.Spec PyProof.Rows
section
variable {X:Cx}
end
end L2
namespace L2
open PySem PySem.Spec PyProof.Rows PySem.MeetsSeq
section
variable {X:Cx}
end
end L2
namespace HT
open PySem PySem.Spec PyProof.Rows L2
section
variable {prog:aR}{w:World}{A:Around}{E:Value->Shared->Prop}{s:Shared}
end
end HT
namespace L2
open PySem PySem.Spec PyProof.Rows
section
variable {X:Cx}
end
end L2
namespace L2
open PySem PySem.Spec PyProof.Rows PySem.MeetsSeq
section
variable {X:Cx}
end
end L2
namespace L2
open PySem PySem.Spec PyProof.Rows PySem.MeetsSeq
section
variable {X:Cx}
end
end L2
namespace L2
open PySem PySem.Spec PyProof.Rows PySem.MeetsSeq
section
variable {X:Cx}
end
end L2
namespace L2
open PySem PyProof.Rows
section
variable {X:Cx}
end
end L2
namespace SSet
open PySem PySem.Spec PyProof.Rows
section
variable {mask:Nat}{owner:Array (Option Nat)}
end
end SSet
namespace SSet
open PySem PySem.Spec PyProof.Rows
section
variable {prog:aR}{w:World}{A:Around}{E:Value->Shared->Prop}{s:Shared}
end
end SSet
namespace SSet
open PySem PySem.Spec PyProof.Rows
section
variable {prog:aR}{w:World}{A:Around}{E:Value->Shared->Prop}{s:Shared}
end
end SSet
namespace L2
open PySem PySem.Spec PyProof.Rows PySem.MeetsSeq
section
variable {X:Cx}
end
end L2
namespace L2
open PySem PyProof.Rows
section
variable {X:Cx}{pins:List (Addr×Obj)}{σ:St}{H:Hp}{s:Shared}{h':Heap}
theorem Inv.yL {t':Nat}{fp:List Addr}(I:Inv X pins σ H s)(k:∀b o,b∉fp->s.heap.get? b=some o->h'.get? b=some o)(ff:∀b∈fp,FpOk X pins H b):Inv X pins σ H { s with heap:=h',toks:=t' }:=by
 have o1:∀b u,H b=some u->b∉fp:=λb u e z=>by
  rw[(ff b z).1] at e;cases e
 refine I.step (g':=s.gens) (d':=s.drawn) (ch:=fp) (λb hb=>?_) (λb o _ _ hc e _=>k b o hc e) (λb o _ _ hc e _=>#[o.slots,k b o hc e]) (λ_ _ _ _ n=>n)
  (λb o hc e=>#[o,k b o hc e]) (λ_ _ e=>e) (λ_ _ _ e=>e) (λb ps e=>#[(yA []),by rw[e];simp]) (λm hm=>?_) (λb u e=>?_) I.bare
 .obtain⟨_,f1,_,f3,f4,f5⟩:=ff b hb;exact#[f3,f1,f4,f5]
 .obtain⟨o,es,ep,ho,r⟩:=hm;exact#[o,es,ep,k _ o (λz=>(ff _ z).2.1 rfl) ho,r]
 .refine (I.hok b u e).stay (λc v hc q=>k c v ?_ q) (λ_ q=>q) λ_ _ q=>q
  rcases hc with z|z
  .rw[z];exact o1 b u e
  .exact o1 c _ z
end
noncomputable def ZpL (h:Heap)(z TI TO i1 i2 l1 l2:Addr)(i:Nat):Prop:=IsZip h z TI TO .none/\IsPair h TI (.ref i1) (.ref i2)/\(Ex2 λa b=>IsPair h TO a b)/\h.IsListIter i1 l1 i/\h.IsListIter i2 l2 i
noncomputable def Izl (K:ah)(a b:Addr):It :=
 #[λi H=>Ex4 λxs ys x y=>SqL K H a xs/\SqL K H b ys/\xs[i]?=some x/\ys[i]?=some y,λi H x H'=>Ex3 λp v u=>H p=none/\x = .ref p/\H'=upd H p (.tup [v,u])/\∀xs ys,SqL K H a xs->SqL K H b ys->xs[i]?=some v/\ys[i]?=some u,λi H=>Ex2 λxs ys=>SqL K H a xs/\SqL K H b ys/\(xs.length<=i∨ys.length<=i)]
theorem xi {h:Heap}{z TI TO i1 i2 a b:Addr}{i:Nat}{xs ys:Array Value}(D1:TI≠z)(D2:TO≠z)(D3:i1≠z)(D4:i2≠z)(D5:TI≠TO)(D6:TI≠i1)(D7:TI≠i2)(D8:TO≠i1)(D9:TO≠i2)(D10:i1≠i2)(st:ZpL h z TI TO i1 i2 a b i)(p:h.IsList a xs)(q:h.IsList b ys):ZipApart z TI TO i1 i2 a b:=by
 obtain⟨g1,g2,⟨x0,y0,g3⟩,⟨o4,g4,c4,_⟩,⟨o5,g5,c5,_⟩⟩:=st;have key:∀{l:Addr} {zs:Array Value},h.IsList l zs->l≠z/\l≠TO/\l≠i1/\l≠i2:=λ{l zs} hl=>by
  obtain⟨o,ho,hc,_⟩:=hl;refine#[λe=>?_,λe=>?_,λe=>?_,λe=>?_]
  .rw[e,g1] at ho;cases ho;exact absurd hc (by simp)
  .rw[e,g3] at ho;cases ho;exact absurd hc (by simp)
  .rw[e,g4] at ho;cases ho;exact absurd (c4.symm.trans hc) (by simp)
  .rw[e,g5] at ho;cases ho;exact absurd (c5.symm.trans hc) (by simp)
 obtain⟨a1,a2,a3,a4⟩:=key p;obtain⟨b1,b2,b3,b4⟩:=key q;exact#[D1,D2,D3,D4,D5,D6,D7,D8,D9,D10,a1,a2,a3,a4,b1,b2,b3,b4]
theorem FB {P:aR}{w:World}{K:ah}{es:List Expr}{k1:Nat}{pos:Pos}(a b z TI TO i1 i2:Addr)(D1:TI≠z)(D2:TO≠z)(D3:i1≠z)(D4:i2≠z)(D5:TI≠TO)(D6:TI≠i1)(D7:TI≠i2)(D8:TO≠i1)(D9:TO≠i2)(D10:i1≠i2):Turn P w K (.Tuple es k1 pos) (Izl K a b) [z,TI,TO,i1,i2] z (λi h=>ZpL h z TI TO i1 i2 a b i) where
 mem:=by simp
 obj:=λi h st c hc=>by
  obtain⟨g1,g2,⟨x,y,g3⟩,⟨o4,h4,_,d4⟩,⟨o5,h5,_,d5⟩⟩:=st;simp only[aM,dN,or_false] at hc
  rcases hc with rfl|rfl|rfl|rfl|rfl
  .exact#[_,g1,λv y=>by cases y]
  .exact#[_,g2,λv y=>by cases y]
  .exact#[_,g3,λv y=>by cases y]
  .exact#[o4,h4,λv y=>by rw[d4] at y;cases y]
  .exact#[o5,h5,λv y=>by rw[d5] at y;cases y]
 keep:=λi h h' st k=>by
  obtain⟨g1,g2,⟨x,y,g3⟩,⟨o4,h4,r4⟩,⟨o5,h5,r5⟩⟩:=st;exact#[k z (by simp) _ g1,k TI (by simp) _ g2,#[x,y,k TO (by simp) _ g3],#[o4,k i1 (by simp) _ h4,r4],#[o5,k i2 (by simp) _ h5,r5]]
 item:=by
  intro X hP hw hK hc i pins s σ H E I hf st hg;subst hP hw hK;obtain⟨xs,ys,x,y,hq,hq2,hx,hy⟩:=hg;obtain⟨its,rv,p,hz⟩:=I.list hq;obtain⟨its2,rv2,p2,hz2⟩:=I.list hq2;obtain⟨u,hu,ru⟩:=rv.get hx;obtain⟨u2,hu2,ru2⟩:=rv2.get hy;obtain⟨g1,g2,⟨x0,y0,g3⟩,g4,g5⟩:=id st;have low:∀c∈[z,TI,TO,i1,i2],c<s.heap.objs.size:=λc hc=>by
   simp only[aM,dN,or_false] at hc
   rcases hc with rfl|rfl|rfl|rfl|rfl
   .exact aY g1
   .exact aY g2
   .exact aY g3
   .obtain⟨o,h,_⟩:=g4;exact aY h
   .obtain⟨o,h,_⟩:=g5;exact aY h
  have D:ZipApart z TI TO i1 i2 a b:=xi D1 D2 D3 D4 D5 D6 D7 D8 D9 D10 st p.isList p2.isList;refine wpAny_pyNext_zip_item D g1 g2 g3 g4 g5 p.isList p2.isList (x:=u) (y:=u2) (by simpa using hu) (by simpa using hu2) λg e1 eo i1' i2' t1 sz k1=>?_;refine#[1,wpAny_letOwnedTupleGo_zip e1 λg2' e2 s2=>?_];have na:∀c,c<s.heap.objs.size->c≠s.heap.objs.size:=λc h=>bB h;have ltz:=low z (by simp);have tt:g2'.get? s.heap.objs.size=some { cls:=.type "tuple",data:=.seq (yA [u,u2]) }:=s2.extBut _ _ (ja ltz) t1;have kk:∀c o,c∉[z,TI,TO,i1,i2]->s.heap.get? c=some o->g2'.get? c=some o:=λc o hc e=>by
   simp only[aM,dN,or_false,not_or] at hc;exact s2.extBut c o hc.1 (k1 c o hc.1 hc.2.2.1 hc.2.2.2.1 hc.2.2.2.2 e)
  have I1:Inv X pins σ (upd H s.heap.objs.size (.tup [x,y])) { s with heap:=s.heap.push { cls:=.type "tuple",data:=.seq (yA [u,u2]) },toks:=s.toks } :=
   I.laid (t':=s.toks) (λb o z=>aW _ z) (az _) #[by show 2<=aE;decide,[u,u2],.cons ru (.cons ru2 .nil),#[_,bD _ rfl,01]]
  have fo:∀c∈[z,TI,TO,i1,i2],FpOk X pins (upd H s.heap.objs.size (.tup [x,y])) c:=λc hc=>#[by rw[aF (na c (low c hc))];exact (hf c hc).1,(hf c hc).2];have I2:=I1.yL (h':=g2') (t':=s.toks) (fp:=[z,TI,TO,i1,i2]) (λc o hc e=>by
   by_cases hb:c=s.heap.objs.size
   .rw[hb] at e ⊢;rw[bD _ rfl] at e;cases e;exact tt
   .rw[QM _ _ _ hb] at e;exact kk c o hc e) fo
  refine#[.ref s.heap.objs.size,_,I2,0,#[s.heap.objs.size,x,y,I.hok.fresh (az _),00,λzs ws hz hw=>#[by rw[I.oX hz hq];exact hx,by rw[I.oX hw hq2];exact hy]],#[e2,5,#[u,u2,5],55],λc hc=>(fo c hc).1]
  .exact s2.extBut _ _ D1 (k1 _ _ D1 D5 D6 D7 g2)
  .exact s2.extBut _ _ D2 eo
  .obtain⟨o,e,r⟩:=i1';exact#[o,s2.extBut _ _ D3 e,r]
  .obtain⟨o,e,r⟩:=i2';exact#[o,s2.extBut _ _ D4 e,r]
 done:=by
  intro X hP hw hK hc i pins s σ H E I hf st hg;subst hP hw hK;obtain⟨xs,ys,hq,hq2,hx⟩:=hg;obtain⟨its,rv,p,hz⟩:=I.list hq;obtain⟨its2,rv2,p2,hz2⟩:=I.list hq2;obtain⟨g1,g2,⟨x0,y0,g3⟩,g4,g5⟩:=id st;have D:ZipApart z TI TO i1 i2 a b:=xi D1 D2 D3 D4 D5 D6 D7 D8 D9 D10 st p.isList p2.isList;have hl:=rv.length;have hl2:=rv2.length;refine wpAny_pyNext_zip_end (I.ok.hd hc) D g1 g2 g3 g4 g5 p.isList p2.isList ?_ λg kp=>#[0,I.yL (t':=s.toks) (fp:=[z,TI,TO,i1,i2]) (λc o hc e=>?_) hf]
  .rcases hx with hx|hx
   .exact .inl (by simp;lk)
   .exact .inr (by simp;lk)
  .simp only[aM,dN,or_false,not_or] at hc;exact kp c o hc.1 hc.2.2.1 hc.2.2.2.1 hc.2.2.2.2 e
 self:=λ_ _ _ _ _ st h=>by
  obtain⟨g1,_⟩:=st;exact wpAny_pyIter_zip g1 h
theorem boot_zip:kR "zip" = some (.type "zip"):=by lia
section
variable {X:Cx}
noncomputable def iZpL (K:ah)(ta:TA):TI:=fun σ H R=>ta σ H λvs H1=>Ex4 λa b xs ys=>vs=[.ref a,.ref b]/\SqL K H1 a xs/\SqL K H1 b ys/\R (Izl K a b) H1
theorem Jd {es:List Expr}{k1:Nat}{tp:Pos}{a b:Expr}{ta:TA}{p pos:Pos}(hg:Gl X "zip")(hm:X.mg "zip" = none)(ha:PA X [a,b] ta)(hs:autoParam (bO [a,b] X.env=(false,eval a X.env)::bO [b] X.env) aUB._auto_1)(hp:autoParam ((backTo pos (bO [b] X.env)).any (·.1)=false) aUB._auto_1):PI X (.Tuple es k1 tp) (.Call (.Name "zip" p) [a,b] [] pos) (iZpL X.K ta):=by
 intro pins s σ H R I h;refine Call_ (me I hg hm boot_zip (tI (thn (ha pos pins s σ H _ I h) λus s1 #[vs,H1,I1,r1,q1]=>?_) hs hp));obtain⟨c,d,xs,ys,e,hq,hq2,q⟩:=q1;subst e;obtain⟨u,u',rfl,ru,ru'⟩:=vals2 r1;cases ru;cases ru';obtain⟨its,rv,pl,hz⟩:=I1.list hq;obtain⟨its2,rv2,pl2,hz2⟩:=I1.list hq2;refine call_zip_2 pl.isList pl2.isList λg zz ti to li1 li2 sz kp=>?_;refine wpAny_pyIter_zip (s:={ s1 with heap:=g }) zz ?_;have n:∀{i j:Nat},i≠j->s1.heap.objs.size+i≠s1.heap.objs.size+j:=λh e=>h (Nat.add_left_cancel e);refine#[s1.heap.objs.size+4,[s1.heap.objs.size+4,s1.heap.objs.size+2,s1.heap.objs.size+3,s1.heap.objs.size,s1.heap.objs.size+1],_,_,H1,0,I1.kept (t':=s1.toks) kp,FB c d (s1.heap.objs.size+4) (s1.heap.objs.size+2) (s1.heap.objs.size+3) s1.heap.objs.size (s1.heap.objs.size+1) (n (by decide)) (n (by decide)) (n (i:=0) (by decide)) (n (by decide)) (n (by decide)) (n (j:=0) (by decide)) (n (by decide)) (n (j:=0) (by decide)) (n (by decide)) (n (i:=0) (by decide)),#[zz,ti,#[_,_,to],li1,li2],λx hx=>?_,q];have le:s1.heap.objs.size<=x:=by
  simp only[aM,dN,or_false] at hx
  rcases hx with e|e|e|e|e<;>rw[e]<;>first|exact az _|exact Nat.le_add_right _ _
 exact I1.fpOk le (I1.hok.fresh le)
end
theorem NF {K:ah}{a b:Addr}{xs ys:List V}{g:TG}{tb:TS}{D:Ends}{σ:St}{H:Hp}(Pv:Nat->St->Hp->Prop)(hlen:xs.length=ys.length)(h0:Pv 0 σ H)(hl:∀i σ H,i<=xs.length->Pv i σ H->SqL K H a xs/\SqL K H b ys)
  (hs:∀i x y σ H p,xs[i]?=some x->ys[i]?=some y->Pv i σ H->H p=none->g (.ref p) σ (upd H p (.tup [x,y])) fun σ2 H2=>tb { D with nx:=Pv (i+1),ct:=Pv (i+1),bk:=D.nx } σ2 H2) (hd:∀ σ H,Pv xs.length σ H->D.nx σ H) :
  ∃W:Nat->Nat->St->Hp->Prop,(∃m,W 0 m σ H)/\∀i m σ H,W i m σ H →
   ((Izl K a b).stop i H/\D.nx σ H)∨((Izl K a b).go i H/\∃N:St->Hp->Prop,(∀ σ' H',N σ' H'->∃m',m'<m/\W (i+1) m' σ' H')/\∀x H',(Izl K a b).iF i H x H'->g x σ H' fun σ2 H2=>tb { D with nx:=N,ct:=N,bk:=D.nx } σ2 H2):=by
 refine#[λi m σ H=>m=xs.length-i/\i<=xs.length/\Pv i σ H,#[xs.length,0,ba _,h0],5];rintro i m σ H ⟨rfl,hi,pv⟩;obtain⟨sq,sq2⟩:=hl i σ H hi pv
 by_cases lt:i<xs.length
 .have ex:xs[i]?=some xs[i]:=cA lt;have ey:ys[i]?=some (ys[i]'(by lk)):=cA (by lk);refine .inr #[#[xs,ys,xs[i],_,sq,sq2,ex,ey],Pv (i+1),fun σ' H' z=>#[xs.length-(i+1),30,lt,z],λx H' y=>?_];obtain⟨p,v,u,hp,rfl,rfl,hv⟩:=y;obtain⟨h1,h2⟩:=hv xs ys sq sq2;exact hs i v u σ H p h1 h2 pv hp
 .obtain rfl:i=xs.length:=by lk
  exact .inl #[#[xs,ys,sq,sq2,.inl (az _)],hd σ H pv]
section
variable {X:Cx}
open PySem.Spec PySem.MeetsSeq
end
end L2
namespace L2
open PySem PyProof.Rows
section
variable {pr:aR}{wo:World}{Ar:Around}{Ex:Value->Shared->Prop}{sh:Shared}
end
section
variable {X:Cx}
end
section
variable {X:Cx}
end
end L2
namespace L2
open PySem PyProof.Rows
noncomputable def DfT (K:ah)(dV:Value)(ds:List Value):Prop:=Ex3 λ(da:Addr) (o:Obj) (n:Nat)=>dV = .ref da/\K.lookup da=some o/\o.data = .seq ds.toArray n
structure FunD (K:ah)(x qual:Str)(st:Stmt)(f:Addr)(fd:cP)(ds:List Value):Prop where
 ex:Ex10 λ(oc:Value) (od:Option Addr) (dV kV doc pm:Value) (an:Option Addr) (cdv ct:Value) (osl:Array (Option Value)) =>
  fd=jD x qual (lG st) (gA st) (aG st) dV kV doc pm an cdv ct/\K.lookup f=some #[oc,od,.func fd,osl]/\m4 K cdv qual=true/\DfT K dV ds
 kp:jB K (.ref f)=true
set_option genInjectivity false in
structure MfD (K:ah)(C:Addr)(x q:Str)(st:Stmt)(ds:List Value) where
 f:Addr
 d:cP
 F:FunD K x q st f d ds
 M:Meth K C x f
section
variable {K:ah}{C f da:Addr}{x q:Str}{st:Stmt}{oc dcl:Value}{od an ddi:Option Addr}{sl dsl:Array (Option Value)}{kV dc pm cd ct:Value}{ds:List Value}{dn:Nat}
end
section
variable {P:aR}{w:World}{K:ah}{mg:Str->Option Value}{base:Heap}{C:Addr}{x q:Str}{st:Stmt}{N ps:List Str}{k:Nat}{sp:Sp}{ds:List Value}
theorem MfD.ok (g:MfD K C x q st ds)(S:aQ N ps (aG st))
  (hb:∀(f:Addr) (cdv:Value) (A:Around) (outer:List Env) (s:Shared) (H:Hp) (vs:List V) (Q:VK) (E:XK),Room k (A.deeper (envOfC q (aG st) s.heap.objs.size f cdv))->sp vs H Q E->let X:=(cxOf CX0 P w K mg base N q (aG st) f cdv A outer s H E).nox;∃t,PSs X (gA st) t/\t { nx:=λ_ H'=>Q .non H',rt:=Q } (start N vs) H)
  (len:∀vs H Q E,sp vs H Q E->vs.length=ps.length:=by intro _ _ _ _ h;cases h;rename_i h;rw[h.1];rfl):FnOk P w K mg base CX0 (k+1) g.f g.d ps sp:=by
 obtain⟨oc,od,dV,kV,doc,pm,an,cdv,ct,osl,e,lk,hcd,_⟩:=g.F.ex;have lk':=lk;rw[e] at lk';rw[e];refine yu lk' hcd S len λA outer s H vs Q E hr hsp=>?_;obtain⟨t,h,q⟩:=hb g.f cdv A outer s H vs Q E hr hsp;exact#[t,h.nox,q]
end
end L2
namespace L2
open PySem PySem.Spec PyProof.Rows PySem.MeetsSeq
section
variable {X:Cx}
end
end L2
namespace Wm
open PySem
theorem wU {c:Nat}:∀{x y a b:List Nat},c∉x->c∉y->x++c::a=y++c::b->x=y/\a=b
 | [],[],a,b,_,_,h=>#[0,by simpa using h]
 | [],y::ys,a,b,_,hy,h=>by
  exfalso;simp only[sB,lQ,Aw] at h;exact hy (by rw[<- h.1];exact bb)
 | x::xs,[],a,b,hx,_,h=>by
  exfalso;simp only[sB,lQ,Aw] at h;exact hx (by rw[h.1];exact bb)
 | x::xs,y::ys,a,b,hx,hy,h=>by
  simp only[lQ,Aw] at h;obtain⟨h1,h2⟩:=h;obtain⟨e1,e2⟩:=wU (λz=>hx (bx _ z)) (λz=>hy (bx _ z)) h2;exact#[by rw[h1,e1],e2]
noncomputable def jl (c:Nat):List (List Nat)->List Nat
 | []=>[]
 | [x]=>x
 | x::y::r=>x++c::jl c (y::r)
theorem uV {c:Nat}:∀{xs ys:List (List Nat)},xs≠[]->ys≠[]->(∀x∈xs,c∉x)->(∀y∈ys,c∉y)->jl c xs=jl c ys->xs=ys
 | [],_,h,_,_,_,_=>absurd rfl h
 | _,[],_,h,_,_,_=>absurd rfl h
 | [x],[y],_,_,_,_,h=>by
  have h':x=y:=h;rw[h']
 | [x],y::z::r,_,_,hx,_,h=>by
  exfalso;have h':x=y++c::jl c (z::r):=h;exact hx x bb (by rw[h'];simp)
 | x::z::r,[y],_,_,_,hy,h=>by
  exfalso;have h':x++c::jl c (z::r)=y:=h;exact hy y bb (by rw[<- h'];simp)
 | x::z::r,y::z'::r',_,_,hx,hy,h=>by
  have h':x++c::jl c (z::r)=y++c::jl c (z'::r'):=h;obtain⟨e1,e2⟩:=wU (hx x bb) (hy y bb) h';rw[e1,uV (by simp) (by simp) (λq hq=>hx q (bx _ hq)) (λq hq=>hy q (bx _ hq)) e2]
theorem Nn (c:Nat):∀ws:List Str,(aj #[(yA [c])] ws).cps.toList=jl c (ws.map λw=>w.cps.toList)
 | []=>rfl
 | [x]=>rfl
 | x::y::r=>by
  have ih:=Nn c (y::r);show (x++(#[(yA [c])]:Str)++aj #[(yA [c])] (y::r)).cps.toList=x.cps.toList++c::jl c ((y::r).map λw=>w.cps.toList)
  rw[<- ih];show ((x.cps++(yA [c]))++(aj #[(yA [c])] (y::r)).cps).toList=_
  simp
theorem toList_inj {xs ys:List Str}(h:(xs.map λw=>w.cps.toList)=(ys.map λw=>w.cps.toList)):xs=ys:=by
 induction xs generalizing ys with
 | nil=>cases ys with
  | nil=>rfl
  | cons y r=>simp at h
 | cons x r ih=>cases ys with
  | nil=>simp at h
  | cons y s =>
   simp only[bp,Aw] at h;have e:x=y:=by
    obtain⟨a⟩:=x;obtain⟨b⟩:=y;have h1:a.toList=b.toList:=h.1;rw[tL.mp h1]
   rw[e,ih h.2]
theorem Ef (x y:Str):eW x y≠[]:=by
 unfold eW
 split
 .simp
 .split
  .simp
  .unfold Av;cases lz x y 0 x.length (x.length+1)<;>simp
theorem LC {c:Nat}{ws:List Str}(hne:ws≠[])(hf:∀w∈ws,c∉w.cps.toList):eW (aj #[(yA [c])] ws) #[(yA [c])]=ws:=by
 refine toList_inj (uV (c:=c) (by simpa using Ef _ _) (by simpa using hne) (λx hx=>?_) (λx hx=>?_) ?_)
 .obtain⟨w,hw,rfl⟩:=bT.mp hx;exact StrLaws.split_free _ c w hw
 .obtain⟨w,hw,rfl⟩:=bT.mp hx;exact hf w hw
 .rw[<- Nn,<- Nn,StrLaws.join_split]
theorem nz (s:Str):∀ws:List Str,(aj s ws).length<=(ws.map (·.length)).sum+ws.length*s.length
 | []=>ba _
 | [x]=>by
  show x.length<=_
  simp only[bp,gU,d9,ou,fH];lk
 | x::y::r=>by
  have ih:=nz s (y::r);show (x++s++aj s (y::r)).length<=_
  rw[Q7,Q7];simp only[bp,d9,aK,Nat.add_mul,Nat.one_mul] at ih ⊢;lk
theorem join_cons (s x:Str){r:List Str}(h:r≠[]):aj s (x::r)=x++s++aj s r:=by
 cases r with
 | nil=>exact absurd rfl h
 | cons y r=>rfl
theorem rJ (s:Str):∀{xs ys:List Str},xs≠[]->ys≠[]->aj s (xs++ys)=aj s xs++s++aj s ys
 | [],_,h,_=>absurd rfl h
 | [x],ys,_,h=>by rw[List.singleton_append,join_cons s x h];rfl
 | x::y::r,ys,_,h=>by
  have ih:=rJ s (xs:=y::r) (by simp) h;rw[lQ,join_cons s x (by simp),ih,join_cons s x (by simp)];simp only[re]
theorem LQ (s:Str):∀{xss:List (List Str)},(∀xs∈xss,xs≠[])->aj s (xss.map (aj s))=aj s xss.flatten
 | [],_=>rfl
 | [xs],_=>by simp[aj]
 | xs::ys::r,h=>by
  have ih:=LQ s (xss:=ys::r) (λq hq=>h q (bx _ hq));have hx:=h xs bb;have hy:=h ys (bx _ bb);have ne:(ys::r).flatten≠[]:=by
   rw[jr];intro z;exact hy (Cs.mp z).1
  rw[bp,join_cons s _ (by simp),ih,jr (l:=xs),rJ s hx ne]
inductive Wh where
 | all|self|mine|mark (n:Str)|force (i:Nat)|not (a:Wh)|both (a b:Wh)|any (a b:Wh)
noncomputable def Wh.word:Wh->Str
 | .all=>"all"
 | .self=>"self"
 | .mine=>"mine"
 | .mark _=>"mark"
 | .force _=>"force"
 | .not _=>"not"
 | .both _ _=>"both"
 | .any _ _=>"any"
inductive Wv where
 | non|name (n:Str)|num (i:Nat)
noncomputable def Wh.val:Wh->Wv
 | .mark n=>.name n
 | .force i=>.num i
 | _=>.non
noncomputable def Wh.parts:Wh->List Wh
 | .not a=>[a]
 | .both a b=>[a,b]
 | .any a b=>[a,b]
 | _=>[]
noncomputable def Wv.words:Wv->List Str
 | .non=>[]
 | .name n=>[n]
 | .num i=>[toString (i:Int)]
noncomputable def Wh.words:Wh->List Str
 | .all=>["all"]
 | .self=>["self"]
 | .mine=>["mine"]
 | .mark n=>["mark",n]
 | .force i=>["force",toString (i:Int)]
 | .not a=>"not" :: a.words
 | .both a b=>"both" :: (a.words++b.words)
 | .any a b=>"any" :: (a.words++b.words)
noncomputable def Wh.size:Wh->Nat
 | .not a=>a.size+1
 | .both a b=>a.size+b.size+1
 | .any a b=>a.size+b.size+1
 | _=>1
theorem Wh.zQ (w:Wh):w.words=w.word::(w.val.words++(w.parts.map Wh.words).flatten):=by
 cases w<;>simp[Wh.words,Wh.word,Wh.val,Wv.words,Wh.parts]
theorem Wh.dw (w:Wh):w.words≠[]:=by
 rw[w.zQ];simp
theorem Wh.size_eq (w:Wh):w.size=1+(w.parts.map Wh.size).sum:=by
 cases w<;>simp[Wh.size,Wh.parts]<;>lk
theorem Wh.size_pos (w:Wh):0<w.size:=by
 rw[w.size_eq];lk
noncomputable def Wh.flat:Wh->List (Str×Wv)
 | .not a=>("not",.non)::a.flat
 | .both a b=>("both",.non)::(a.flat++b.flat)
 | .any a b=>("any",.non)::(a.flat++b.flat)
 | w=>[(w.word,w.val)]
theorem Wh.Lg (w:Wh):w.flat=(w.word,w.val)::(w.parts.map Wh.flat).flatten:=by
 cases w<;>simp[Wh.flat,Wh.word,Wh.val,Wh.parts]
theorem Wh.ze (w:Wh):w.flat.length=w.size:=by
 induction w<;>simp[Wh.flat,Wh.size, *]
noncomputable def ip (ws:List Wh):List (Str×Wv):=(ws.map Wh.flat).flatten
noncomputable def i6 (ws:List Wh):List Str:=(ws.map Wh.words).flatten
noncomputable def gh (ws:List Wh):Nat:=(ws.map Wh.size).sum
theorem tJ (w:Wh)(ws:List Wh):ip (w::ws)=(w.word,w.val)::ip (w.parts++ws):=by
 unfold ip;rw[bp,jr,w.Lg,bE,yY];rfl
theorem Nf (w:Wh)(ws:List Wh):i6 (w::ws)=w.word::(w.val.words++i6 (w.parts++ws)):=by
 unfold i6;rw[bp,jr,w.zQ,bE,yY];simp
theorem C4 (w:Wh)(ws:List Wh):gh (w::ws)=1+gh (w.parts++ws):=by
 unfold gh;rw[bp,d9,w.size_eq,bE,zx];lk
theorem OE {ws:List Wh}(h:ws≠[]):0<gh ws:=by
 cases ws with
 | nil=>exact absurd rfl h
 | cons w r=>rw[C4];lk
noncomputable def cC (n:Str):Prop:=1<=n.length/\n.length<=8/\∀c∈n.cps.toList,97<=c/\c<=122
noncomputable def Wh.ok:Wh->Prop
 | .mark n=>cC n
 | .force i=>i<1000
 | .not a=>a.ok
 | .both a b=>a.ok/\b.ok
 | .any a b=>a.ok/\b.ok
 | _=>True
theorem Wh.ni {w:Wh}(h:w.ok):∀p∈w.parts,p.ok:=by
 cases w with
 | not a =>
  intro p hp;have e:p=a:=by simpa [Wh.parts] using hp
  rw[e];exact h
 | both a b =>
  intro p hp;have e:p=a∨p=b:=by simpa [Wh.parts] using hp
  rcases e with e|e<;>rw[e]
  .exact h.1
  .exact h.2
 | any a b =>
  intro p hp;have e:p=a∨p=b:=by simpa [Wh.parts] using hp
  rcases e with e|e<;>rw[e]
  .exact h.1
  .exact h.2
 | _=>intro p hp;simp[Wh.parts] at hp
theorem tF:∀i:Nat,i<1000->∀c∈(toString (i:Int):Str).cps.toList,48<=c/\c<=57:=by lia
theorem j6:∀i:Nat,i<1000->1<=(toString (i:Int):Str).length/\(toString (i:Int):Str).length<=3:=by lia
noncomputable def pA (u:Str):Prop:=32∉u.cps.toList/\1<=u.length/\u.length<=8
theorem uf {n:Str}(h:cC n):pA n:=#[λz=>absurd (h.2.2 32 z).1 (by decide),h.1,h.2.1]
theorem gf {i:Nat}(h:i<1000):pA (toString (i:Int):Str):=by
 have q:=j6 i h;exact#[λz=>absurd (tF i h 32 z).1 (by decide),q.1,3]
theorem Wh.jz (w:Wh):pA w.word:=by
 have h:∀u∈(["all","self","mine","mark","force","not","both","any"]:List Str),32∉u.cps.toList/\1<=u.length/\u.length<=8:=by lia
 refine h _ ?_;cases w<;>simp[Wh.word]
theorem Wh.vD {w:Wh}(h:w.ok):∀u∈w.words,pA u:=by
 induction w with
 | not a ih =>
  intro u hu
  rcases aM.mp hu with e|e
  .rw[e];exact Wh.jz (.not a)
  .exact ih h u e
 | both a b iha ihb =>
  intro u hu
  rcases aM.mp hu with e|e
  .rw[e];exact Wh.jz (.both a b)
  .rcases bM.mp e with e|e
   .exact iha h.1 u e
   .exact ihb h.2 u e
 | any a b iha ihb =>
  intro u hu
  rcases aM.mp hu with e|e
  .rw[e];exact Wh.jz (.any a b)
  .rcases bM.mp e with e|e
   .exact iha h.1 u e
   .exact ihb h.2 u e
 | mark n =>
  intro u hu;have e:u = "mark" ∨ u=n:=by simpa [Wh.words] using hu
  rcases e with e|e<;>rw[e]
  .exact Wh.jz (.mark n)
  .exact uf h
 | force i =>
  intro u hu;have e:u = "force" ∨ u=toString (i:Int):=by simpa [Wh.words] using hu
  rcases e with e|e<;>rw[e]
  .exact Wh.jz (.force i)
  .exact gf h
 | all=>intro u hu;have e:u = "all":=by simpa [Wh.words] using hu
        rw[e];exact Wh.jz .all
 | self=>intro u hu;have e:u = "self":=by simpa [Wh.words] using hu
         rw[e];exact Wh.jz .self
 | mine=>intro u hu;have e:u = "mine":=by simpa [Wh.words] using hu
         rw[e];exact Wh.jz .mine
theorem Wh.xZ (w:Wh):w.words.length<=2*w.size:=by
 induction w<;>simp[Wh.words,Wh.size]<;>lk
theorem gY {l:List Nat}{k:Nat}(h:∀x∈l,x<=k):l.sum<=l.length*k:=by
 induction l with
 | nil=>simp
 | cons x r ih =>
  have a:=h x bb;have b:=ih λy hy=>h y (bx _ hy);rw[d9,aK,Nat.add_mul,Nat.one_mul];lk
noncomputable def step:List Wh->List Wh
 | []=>[]
 | h::t=>h.parts++t
noncomputable def pend (w:Wh):Nat->List Wh
 | 0=>[w]
 | j+1=>step (pend w j)
theorem GE (w:Wh):ip [w]=w.flat:=by simp[ip]
theorem Tn (w:Wh):i6 [w]=w.words:=by simp[i6]
theorem BC (w:Wh):∀j,ip (pend w j)=w.flat.drop j
 | 0=>by rw[Ag];exact GE w
 | j+1=>by
  have ih:=BC w j;show ip (step (pend w j))=_
  cases e:pend w j with
  | nil =>
   rw[e] at ih;have z:w.flat.drop j=[]:=ih.symm;rw[<- u0 (i:=1),z];rfl
  | cons h t =>
   rw[e,tJ] at ih;show ip (h.parts++t)=_
   have z:=congrArg (List.drop 1) ih;rw[u0] at z
   simpa using z
theorem Kb (w:Wh)(j:Nat):gh (pend w j)=w.size-j:=by
 have a:∀ws:List Wh,(ip ws).length=gh ws:=by
  intro ws
  induction ws with
  | nil=>rfl
  | cons x r ih =>
   have e1:ip (x::r)=x.flat++ip r:=(by simp[ip]);have e2:gh (x::r)=x.size+gh r:=(by simp[gh]);rw[e1,e2,aS,x.ze,ih]
 rw[<- a,BC,jb,w.ze]
theorem nA {w:Wh}{j:Nat}(h:j<w.size):Ex2 λx t=>pend w j=x::t:=by
 cases e:pend w j with
 | nil =>
  have z:=Kb w j;rw[e] at z;have z':0=w.size-j:=z;lk
 | cons x t=>exact#[x,t,0]
theorem om (w:Wh):pend w w.size=[]:=by
 cases e:pend w w.size with
 | nil=>rfl
 | cons x t =>
  have z:=Kb w w.size;rw[e] at z;have p:=OE (ws:=x::t) (by simp);lk
theorem uG {w x:Wh}{t:List Wh}{j:Nat}(e:pend w j=x::t):w.flat[j]?=some (x.word,x.val):=by
 have z:=BC w j;rw[e,tJ] at z;have q:(w.flat.drop j)[0]?=some (x.word,x.val):=by rw[<- z];rfl
 rw[qG] at q
 simpa using q
theorem t0 {w:Wh}(h:w.ok):∀j,∀x∈pend w j,x.ok
 | 0=>λx hx=>by
  have e:x=w:=by simpa [pend] using hx
  rw[e];exact h
 | j+1=>λx hx=>by
  have ih:=t0 h j;cases e:pend w j with
  | nil =>
   have hx':x∈step (pend w j):=hx;rw[e] at hx';simp[step] at hx'
  | cons y t =>
   have hx':x∈step (pend w j):=hx;rw[e] at hx' ih
   rcases bM.mp hx' with q|q
   .exact Wh.ni (ih y bb) x q
   .exact ih x (bx _ q)
noncomputable def Wh.depth:Wh->Nat
 | .not a=>a.depth+1
 | .both a b=>max a.depth b.depth+1
 | .any a b=>max a.depth b.depth+1
 | _=>1
theorem Wh.pR (w:Wh):w.depth<=w.size:=by
 induction w<;>simp[Wh.depth,Wh.size]<;>lk
theorem Wh.Q5 (w:Wh):∀p∈w.parts,p.depth+1<=w.depth:=by
 cases w<;>simp[Wh.parts,Wh.depth]<;>lk
theorem pK {α:Type}(l:List α):(l.map λx=>[x]).flatten=l:=by
 induction l with
 | nil=>rfl
 | cons x r ih=>rw[bp,jr,ih];rfl
theorem F0 (w:Wh):aj " " (w.word::(w.val.words++w.parts.map λp=>aj " " p.words))=aj " " w.words:=by
 have e:(w.word::(w.val.words++w.parts.map λp=>aj " " p.words))=((w.word::w.val.words).map λx=>[x]).map (aj " ")++(w.parts.map Wh.words).map (aj " "):=by
  rw[cW,cW];have e1:((w.word::w.val.words).map (aj " " ∘ λx=>[x]))=w.word::w.val.words:=by
   have:(aj " " ∘ λx=>[x])=id:=by funext x;rfl
   rw[this,Jb]
  rw[e1];rfl
 rw[e,<- bE,LQ]
 .rw[yY,w.zQ,pK];rfl
 .intro xs hx
  rcases bM.mp hx with q|q
  .obtain⟨x,_,rfl⟩:=bT.mp q;simp
  .obtain⟨x,_,rfl⟩:=bT.mp q;exact x.dw
end Wm
namespace Wm
open PySem
noncomputable def plain (w:Wh):Prop:=w.ok/\w.size<=9
structure Deed where
 each:Str
 kind:Str
 amt:Wv
 whom:Wh
noncomputable def gI:List Str:=["each","one"]
noncomputable def cQ:List Str:=["leave","hurt","gain","lack","lose","score","draw"]
noncomputable def nN:List Str:=["come","leave","hurt","gain","lack","lose","score","draw"]
noncomputable def zM:List Str:=["lose","score","draw"]
noncomputable def changes:List Str:=["mute","steal","gain","lack","be","more","less","per"]
noncomputable def sorts:List Str:=["hold","when","instead","may"]
inductive eX:Str->Wv->Prop
 | leave:eX "leave" .non
 | gain {n:Str}:cC n->eX "gain" (.name n)
 | lack {n:Str}:cC n->eX "lack" (.name n)
 | hurt {i:Nat}:i<1000->eX "hurt" (.num i)
 | lose {i:Nat}:i<1000->eX "lose" (.num i)
 | score {i:Nat}:i<1000->eX "score" (.num i)
 | draw {i:Nat}:i<1000->eX "draw" (.num i)
structure Deed.ok (d:Deed):Prop where
 each:d.each∈gI
 amt:eX d.kind d.amt
 whom:plain d.whom
noncomputable def Deed.words (d:Deed):List Str:=d.each::d.kind::(d.amt.words++d.whom.words)
inductive Hv where
 | v (x:Wv)|w (y:Wh)
noncomputable def Hv.words:Hv->List Str
 | .v x=>x.words
 | .w y=>y.words
inductive cj:Str->Hv->Prop
 | mute:cj "mute" (.v .non)
 | steal:cj "steal" (.v .non)
 | gain {n:Str}:cC n->cj "gain" (.v (.name n))
 | lack {n:Str}:cC n->cj "lack" (.v (.name n))
 | be {i:Nat}:i<1000->cj "be" (.v (.num i))
 | more {i:Nat}:i<1000->cj "more" (.v (.num i))
 | less {i:Nat}:i<1000->cj "less" (.v (.num i))
 | per {y:Wh}:plain y->cj "per" (.w y)
inductive TurnOk:Str->Wv->Prop
 | none:TurnOk "none" .non
 | here:TurnOk "here" .non
 | less {i:Nat}:i<1000->TurnOk "less" (.num i)
 | more {i:Nat}:i<1000->TurnOk "more" (.num i)
 | as {n:Str}:n∈zM->TurnOk "as" (.name n)
noncomputable def turns:Str->List Str:=λk =>
 if k = "leave" then ["none","here"] else if k = "hurt" then ["none","here","less","more"] else if k = "gain" then ["none","here"] else if k = "lack" then ["none","here"]
 else ["none","less","more","as"]
inductive Rule where
 | hold (word:Str) (val:Hv) (whom:Wh)
 | wen (kind:Str) (whom:Wh) (deed:Deed)
 | instead (kind:Str) (whom:Wh) (word:Str) (val:Wv)
 | may (cost:Nat) (deed:Deed)
noncomputable def Rule.ok:Rule->Prop
 | .hold w v y=>cj w v/\plain y
 | .wen k y d=>k∈nN/\plain y/\d.ok
 | .instead k y w v=>k∈cQ/\plain y/\w∈turns k/\TurnOk w v
 | .may c d=>c<1000/\d.ok
noncomputable def Rule.words:Rule->List Str
 | .hold w v y=>"hold" :: w::(v.words++y.words)
 | .wen k y d=>"when" :: k::(y.words++("do":Str)::d.words)
 | .instead k y w v=>"instead" :: k::(y.words++("do":Str)::w::v.words)
 | .may c d=>"may" :: toString (c:Int) :: "do" :: d.words
theorem eX.kind {k:Str}{v:Wv}(h:eX k v):k∈cQ:=by cases h<;>decide
theorem cj.word {k:Str}{v:Hv}(h:cj k v):k∈changes:=by cases h<;>decide
theorem Rule.dw (r:Rule):r.words≠[]:=by cases r<;>exact dS _ _
noncomputable def ii (u:Str):Prop:=pA u/\47∉u.cps.toList
theorem ln {n:Str}(h:cC n):ii n:=#[uf h,λz=>absurd (h.2.2 47 z).1 (by decide)]
theorem d7 {i:Nat}(h:i<1000):ii (toString (i:Int):Str):=#[gf h,λz=>absurd (tF i h 47 z).1 (by decide)]
noncomputable def goodW (u:Str):Bool:=!u.cps.toList.contains 32 && !u.cps.toList.contains 47&&decide (1<=u.length)&&decide (u.length<=8)
theorem gc {u:Str}(h:goodW u=true):ii u:=by
 unfold goodW at h;rw[gz,gz,gz] at h;obtain⟨⟨⟨a,b⟩,c⟩,d⟩:=h;refine#[#[λz=>?_,of_decide_eq_true c,of_decide_eq_true d],λz=>?_]
 .rw[RE.mpr z] at a;cases a
 .rw[RE.mpr z] at b;cases b
theorem dL {l:List Str}(h:l.all goodW=true){u:Str}(hu:u∈l):ii u:=gc (pM.mp h u hu)
theorem Wh.fZ {w:Wh}(h:w.ok):∀u∈w.words,ii u:=by
 induction w with
 | all=>intro u hu;exact dL (l:=["all"]) (by lia) hu
 | self=>intro u hu;exact dL (l:=["self"]) (by lia) hu
 | mine=>intro u hu;exact dL (l:=["mine"]) (by lia) hu
 | mark n =>
  intro u hu
  rcases aM.mp hu with rfl|hu
  .exact gc (by lia)
  .rw[aX.mp hu];exact ln h
 | force i =>
  intro u hu
  rcases aM.mp hu with rfl|hu
  .exact gc (by lia)
  .rw[aX.mp hu];exact d7 h
 | not a ih =>
  intro u hu
  rcases aM.mp hu with rfl|hu
  .exact gc (by lia)
  .exact ih h u hu
 | both a b ia ib =>
  intro u hu
  rcases aM.mp hu with rfl|hu
  .exact gc (by lia)
  .rcases bM.mp hu with hu|hu
   .exact ia h.1 u hu
   .exact ib h.2 u hu
 | any a b ia ib =>
  intro u hu
  rcases aM.mp hu with rfl|hu
  .exact gc (by lia)
  .rcases bM.mp hu with hu|hu
   .exact ia h.1 u hu
   .exact ib h.2 u hu
theorem eX.words {k:Str}{v:Wv}(h:eX k v):∀u∈v.words,ii u:=by
 intro u hu;cases h with
 | leave=>cases hu
 | gain h=>rw[aX.mp hu];exact ln h
 | lack h=>rw[aX.mp hu];exact ln h
 | hurt h=>rw[aX.mp hu];exact d7 h
 | lose h=>rw[aX.mp hu];exact d7 h
 | score h=>rw[aX.mp hu];exact d7 h
 | draw h=>rw[aX.mp hu];exact d7 h
theorem TurnOk.words {k:Str}{v:Wv}(h:TurnOk k v):∀u∈v.words,ii u:=by
 intro u hu;cases h with
 | none=>cases hu
 | here=>cases hu
 | less h=>rw[aX.mp hu];exact d7 h
 | more h=>rw[aX.mp hu];exact d7 h
 | as h=>rw[aX.mp hu];exact dL (l:=zM) (by lia) h
theorem TurnOk.word {k:Str}{v:Wv}(h:TurnOk k v):ii k:=by cases h<;>exact gc (by lia)
theorem cj.words {k:Str}{v:Hv}(h:cj k v):∀u∈v.words,ii u:=by
 intro u hu;cases h with
 | mute=>cases hu
 | steal=>cases hu
 | gain h=>rw[aX.mp hu];exact ln h
 | lack h=>rw[aX.mp hu];exact ln h
 | be h=>rw[aX.mp hu];exact d7 h
 | more h=>rw[aX.mp hu];exact d7 h
 | less h=>rw[aX.mp hu];exact d7 h
 | per h=>exact Wh.fZ h.1 u hu
theorem Deed.fZ {d:Deed}(h:d.ok):∀u∈d.words,ii u:=by
 intro u hu
 rcases aM.mp hu with rfl|hu
 .exact dL (l:=gI) (by lia) h.each
 rcases aM.mp hu with rfl|hu
 .exact dL (l:=cQ) (by lia) h.amt.kind
 rcases bM.mp hu with hu|hu
 .exact h.amt.words u hu
 .exact Wh.fZ h.whom.1 u hu
theorem Rule.fZ {r:Rule}(h:r.ok):∀u∈r.words,ii u:=by
 intro u hu;cases r with
 | hold w v y =>
  rcases aM.mp hu with rfl|hu
  .exact gc (by lia)
  rcases aM.mp hu with rfl|hu
  .exact dL (l:=changes) (by lia) h.1.word
  rcases bM.mp hu with hu|hu
  .exact h.1.words u hu
  .exact Wh.fZ h.2.1 u hu
 | wen k y d =>
  rcases aM.mp hu with rfl|hu
  .exact gc (by lia)
  rcases aM.mp hu with rfl|hu
  .exact dL (l:=nN) (by lia) h.1
  rcases bM.mp hu with hu|hu
  .exact Wh.fZ h.2.1.1 u hu
  rcases aM.mp hu with rfl|hu
  .exact gc (by lia)
  .exact Deed.fZ h.2.2 u hu
 | instead k y w v =>
  rcases aM.mp hu with rfl|hu
  .exact gc (by lia)
  rcases aM.mp hu with rfl|hu
  .exact dL (l:=cQ) (by lia) h.1
  rcases bM.mp hu with hu|hu
  .exact Wh.fZ h.2.1.1 u hu
  rcases aM.mp hu with rfl|hu
  .exact gc (by lia)
  rcases aM.mp hu with rfl|hu
  .exact h.2.2.2.word
  .exact h.2.2.2.words u hu
 | may c d =>
  rcases aM.mp hu with rfl|hu
  .exact gc (by lia)
  rcases aM.mp hu with rfl|hu
  .exact d7 h.1
  rcases aM.mp hu with rfl|hu
  .exact gc (by lia)
  .exact Deed.fZ h.2 u hu
end Wm
namespace Wm
open PySem PySem.StrLaws PySem.Builtin.Str
noncomputable def SL:Str:=#[(yA [32,47,32])]
theorem tz {s sub:Str}{hi:Nat}:∀{cuts cuts':List Nat} {a f f':Nat},ChainG s sub hi a cuts f->(∀k,f<=k->¬ At s sub hi k)->ChainG s sub hi a cuts' f'->(∀k,f'<=k->¬ At s sub hi k)->cuts=cuts'
 | [],[],_,_,_,_,_,_,_=>rfl
 | [],c::r,a,f,f',h,n,h',n'=>by
  have e:f=a:=h;subst e;exact absurd h'.2.1 (n c h'.1)
 | c::r,[],a,f,f',h,n,h',n'=>by
  have e:f'=a:=h';subst e;exact absurd h.2.1 (n' c h.1)
 | c::r,c'::r',a,f,f',h,n,h',n'=>by
  rcases Tu c c' with z|z|z
  .exact absurd h.2.1 (h'.2.2.1 c h.1 z)
  .subst z;rw[tz h.2.2.2 n h'.2.2.2 n']
  .exact absurd h'.2.1 (h.2.2.1 c' h'.1 z)
theorem mw (x:Str)(a b:Nat):(x.cps.extract a b).toList=(x.cps.toList.drop a).take (b-a):=by
 rw[Array.toList_extract,List.extract_eq_take_drop]
theorem tE {x:Str}{hi k:Nat}(h:At x SL hi k):x.cps.toList[k+1]?=some 47:=by
 have e:x.cps.extract k (k+3)=(yA [32,47,32]):=by
  have:=h.2;unfold subAt at this;exact beq_iff_eq.mp this
 have q:=congrArg (λz=>z.toList[1]?) e;simp only[mw] at q;rw[Pq (by lk),qG] at q;exact q
theorem at_of {x:Str}{pre r:List Nat}(e:x.cps.toList=pre++32::47::32::r):At x SL x.length pre.length:=by
 have hl:=congrArg jA e;rw[aS] at hl;simp only[aK,cR] at hl;refine#[55]
 .show pre.length+3<=x.cps.size;lk
 .unfold subAt;rw[beq_iff_eq];apply tL.mp;rw[mw,e,zT];show ((32::47::32::r:List Nat).take (pre.length+3-pre.length))=[32,47,32]
  rw[wK];rfl
noncomputable def jl3:List (List Nat)->List Nat
 | []=>[]
 | [p]=>p
 | p::q::r=>p++32::47::32::jl3 (q::r)
noncomputable def cutsOf:Nat->List (List Nat)->List Nat
 | a,p::q::r=>(a+p.length)::cutsOf (a+p.length+3) (q::r)
 | _,_=>[]
noncomputable def lastOf:Nat->List (List Nat)->Nat
 | a,p::q::r=>lastOf (a+p.length+3) (q::r)
 | a,_=>a
theorem wD:∀ws:List Str,(aj SL ws).cps.toList=jl3 (ws.map λw=>w.cps.toList)
 | []=>rfl
 | [x]=>rfl
 | x::y::r=>by
  have e:aj SL (x::y::r)=x++SL++aj SL (y::r):=rfl;rw[e];show ((x.cps++SL.cps)++(aj SL (y::r)).cps).toList=_
  rw[uB,uB,wD (y::r),fV];rfl
theorem vo {x:Str}{pre p r:List Nat}{b:Nat}(e:x.cps.toList=pre++(p++r))(hb:b=pre.length+p.length)(q:Str)(hq:q.cps.toList=p):strSub x pre.length b=q:=by
 obtain⟨c⟩:=q;have z:x.cps.extract pre.length b=c:=by
  apply tL.mp;rw[mw,e,zT,hb,wK,List.take_left];exact hq.symm
 show (#[x.cps.extract pre.length b]:Str)=#[c]
 rw[z]
theorem yD {x:Str}:∀{ps:List Str} {pre:List Nat},ps≠[]->(∀p∈ps,47∉p.cps.toList)->x.cps.toList=pre++jl3 (ps.map λw=>w.cps.toList) →
  ChainG x SL x.length pre.length (cutsOf pre.length (ps.map λw=>w.cps.toList)) (lastOf pre.length (ps.map λw=>w.cps.toList))/\(∀k,lastOf pre.length (ps.map λw=>w.cps.toList)<=k->¬ At x SL x.length k)/\partsFrom x 3 pre.length (cutsOf pre.length (ps.map λw=>w.cps.toList))=ps
 | [],_,h,_,_=>absurd rfl h
 | [p],pre,_,hf,e=>by
  have e':x.cps.toList=pre++p.cps.toList:=e;refine#[0,λk hk hA=>?_,5]
  .have hk':pre.length<=k:=hk;have m:=tE hA;rw[e',eh (by lk)] at m;exact hf p (aX.mpr rfl) (bq m)
  .show [strSub x pre.length x.length]=[p];rw[vo (r:=[]) (by rw[ci];exact e') ?_ p rfl];have hl:=congrArg jA e';rw[aS,cR] at hl;exact hl
 | p::q::r,pre,_,hf,e=>by
  have e':x.cps.toList=pre++(p.cps.toList++32::47::32::jl3 ((q::r).map λw=>w.cps.toList)):=e;have e1:x.cps.toList=(pre++p.cps.toList)++32::47::32::jl3 ((q::r).map λw=>w.cps.toList):=by rw[e',fV]
  have e2:x.cps.toList=(pre++p.cps.toList++[32,47,32])++jl3 ((q::r).map λw=>w.cps.toList):=by rw[e1,fV (pre++p.cps.toList)];rfl
  obtain⟨c1,c2,c3⟩:=yD (ps:=q::r) (pre:=pre++p.cps.toList++[32,47,32]) (dS _ _) (λy hy=>hf y (bx _ hy)) e2;have el:(pre++p.cps.toList++[32,47,32]).length=pre.length+p.cps.toList.length+3:=by
   rw[aS,aS];rfl
  rw[el] at c1 c2 c3;have eA:=at_of e1;rw[aS] at eA;refine#[#[Nat.le_add_right _ _,eA,λk h1 h2 hA=>?_,c1],c2,5]
  .have m:=tE hA
   rcases jw (k+1) (pre.length+p.cps.toList.length) with z|z
   .rw[e',eh (by lk),iU (by lk)] at m;exact hf p bb (bq m)
   .have h2':k<pre.length+p.cps.toList.length:=h2;have ek:k+1=(pre++p.cps.toList).length:=(by rw[aS];lk);rw[e1,ek,eh (az _),lZ] at m;exact absurd m (by simp)
  .show strSub x pre.length (pre.length+p.cps.toList.length)::partsFrom x 3 (pre.length+p.cps.toList.length+3) (cutsOf (pre.length+p.cps.toList.length+3) ((q::r).map λw=>w.cps.toList))=p::q::r;rw[c3,vo e' rfl p rfl]
theorem Cw {ps:List Str}(hne:ps≠[])(hf:∀p∈ps,47∉p.cps.toList):eW (aj SL ps) SL=ps:=by
 obtain⟨f,hG,hn⟩:=occ_tight (aj SL ps) SL (by decide);obtain⟨c1,c2,c3⟩:=yD (x:=aj SL ps) (ps:=ps) (pre:=[]) hne hf (wD ps);have u:=tz hG hn c1 c2;unfold eW;rw[u];have one:cutsOf ([]:List Nat).length (ps.map λw=>w.cps.toList)=[]->[aj SL ps]=ps:=λz=>by
  cases ps with
  | nil=>exact absurd rfl hne
  | cons p r =>
   cases r with
   | nil=>rfl
   | cons q r=>cases z
 split
 .rename_i hc;rw[Bool.or_eq_true,decide_eq_true_eq,decide_eq_true_eq] at hc;apply one
  rcases hc with h|h
  .cases hcut:cutsOf ([]:List Nat).length (ps.map λw=>w.cps.toList) with
   | nil=>rfl
   | cons c r =>
    rw[hcut] at c1;have:=c1.2.1.1;lk
  .exfalso;have ek:zG SL=1:=(by lia);rw[ek] at h;unfold zG at h
   split at h
   .omega
   .split at h
    .omega
    .omega
 .split
  .rename_i he;exact one (List.isEmpty_iff.mp he)
  .rw[partsBetween_eq];exact c3
end Wm
namespace Wm
open PySem PySem.Spec PyProof.Rows
noncomputable def leS (a b:Str):Prop:=a.cps.toList<=b.cps.toList
theorem Kf {a b:Str}(h:ltCps b.cps.toList a.cps.toList=false):leS a b:=by
 rw[ltCps_eq] at h;exact zm.mp (of_decide_eq_false h)
theorem Gw {a b:Str}(h:leS a b):ltCps b.cps.toList a.cps.toList=false:=by
 rw[ltCps_eq];exact decide_eq_false (zm.mpr h)
theorem Ki {a b c:Str}(h:leS a b)(g:leS b c):leS a c:=List.le_trans h g
theorem Na {a b:Str}(h:leS a b)(g:leS b a):a=b:=by
 have e:=Rz h g;obtain⟨x⟩:=a;obtain⟨y⟩:=b;rw[show x=y from tL.mp e]
theorem tW:∀(p:Str) (l:List Str),risingS p l=true->(p::l).Pairwise leS
 | p,[],_=>vA _ _
 | p,x::r,h=>by
  have h':(!ltCps x.cps.toList p.cps.toList&&risingS x r)=true:=h;rw[gz] at h';have h1:leS p x:=Kf (by have:=h'.1;revert this;cases ltCps x.cps.toList p.cps.toList<;>simp);have h2:=tW x r h'.2;rw[lv];refine#[λb hb=>?_,h2]
  rcases aM.mp hb with rfl|hb
  .exact h1
  .exact Ki h1 ((lv.mp h2).1 b hb)
theorem Ku:∀{l:List Str},cX l=true->l.Pairwise leS
 | [],_=>.nil
 | x::r,h=>tW x r h
theorem Ip {xs ys:List Str}(hp:xs.Perm ys)(hx:cX xs=true)(hy:cX ys=true):xs=ys :=
 Gb (le:=leS) (λ_ _ _ _ h g=>Na h g) (Ku hx) (Ku hy) hp
theorem AW {xs:List Str}(h:xs.Nodup):SSet.dd xs=xs:=by
 have key:∀n,n<=xs.length->SSet.dd (xs.take n)=xs.take n:=by
  intro n
  induction n with
  | zero=>intro _;rfl
  | succ n ih =>
   intro hn;have hlt:n<xs.length:=hn;rw[bU,cA hlt];show SSet.dd (xs.take n++[xs[n]])=xs.take n++[xs[n]]
   rw[SSet.yK,ih (by lk),if_neg];intro hm;obtain⟨i,hi,e⟩:=Uh hm;rw[bQ] at hi;rw[List.getElem_take] at e;exact (yP.mp h) i n (by lk) hlt (by lk) e
 have:=key xs.length (az _)
 rwa [A3] at this
structure Marks (ms:List Str):Prop where
 ok:∀m∈ms,cC m
 nd:ms.Nodup
 so:cX ms=true
 le:ms.length<=20
theorem Marks.same {ms ys:List Str}(h:Marks ms)(hp:ys.Perm (SSet.dd ms))(hs:cX ys=true):ys=ms:=by
 rw[AW h.nd] at hp;exact Ip hp hs h.so
noncomputable def CM:Str:=#[(yA [44])]
noncomputable def cU:List Str->Str
 | []=>"-"
 | m::r=>aj CM (m::r)
theorem DS {c:Nat}:∀{ws:List Str} {d:Nat},d∈(aj #[(yA [c])] ws).cps.toList->d=c∨∃w∈ws,d∈w.cps.toList
 | [],d,h=>by cases h
 | [x],d,h=>.inr #[x,aX.mpr rfl,h]
 | x::y::r,d,h=>by
  have e:aj #[(yA [c])] (x::y::r)=x++#[(yA [c])]++aj #[(yA [c])] (y::r):=rfl;rw[e] at h;have h':d∈((x.cps++(yA [c]))++(aj #[(yA [c])] (y::r)).cps).toList:=h;rw[uB,uB] at h'
  rcases bM.mp h' with h'|h'
  .rcases bM.mp h' with h'|h'
   .exact .inr #[x,bb,h']
   .exact .inl (aX.mp h')
  .rcases DS h' with z|⟨w,hw,z⟩
   .exact .inl z
   .exact .inr #[w,bx _ hw,z]
theorem EU {ms:List Str}(h:Marks ms)(hne:ms≠[]):∀d∈(cU ms).cps.toList,d=44∨(97<=d/\d<=122):=by
 cases ms with
 | nil=>exact absurd rfl hne
 | cons m r =>
  intro d hd
  rcases DS (c:=44) hd with z|⟨w,hw,z⟩
  .exact .inl z
  .exact .inr ((h.ok w hw).2.2 d z)
theorem Bq {ms:List Str}(h:Marks ms)(hne:ms≠[]):cU ms ≠ "-":=by
 intro z;have:=EU h hne 45 (by rw[z];lia);lk
theorem uW {ms:List Str}(h:Marks ms):1<=(cU ms).length/\(cU ms).length<=180:=by
 cases ms with
 | nil=>exact#[77]
 | cons m r =>
  have a:=nz CM (m::r);have c:=gY (l:=(m::r).map (·.length)) (k:=8) (λx hx=>by
   obtain⟨u,hu,rfl⟩:=bT.mp hx;exact (h.ok u hu).2.1)
  rw[aw] at c;have e:CM.length=1:=rfl;rw[e] at a;have l:=h.le;refine#[55]
  .have m1:=(h.ok m bb).1;cases r with
   | nil=>exact m1
   | cons y r =>
    have e2:aj CM (m::y::r)=m++CM++aj CM (y::r):=rfl;show 1<=(aj CM (m::y::r)).length
    rw[e2];show 1<=((m.cps++CM.cps)++(aj CM (y::r)).cps).size
    rw[zf,zf];have:m.length=m.cps.size:=rfl;lk
  .show (aj CM (m::r)).length<=180;lk
theorem HI {ms:List Str}(h:Marks ms)(hne:ms≠[]):eW (cU ms) CM=ms:=by
 cases ms with
 | nil=>exact absurd rfl hne
 | cons m r=>exact LC (c:=44) (dS _ _) (λw hw z=>absurd ((h.ok w hw).2.2 44 z).1 (by decide))
structure Crd where
 name:Str
 cost:Nat
 force:Nat
 marks:List Str
 rules:List Rule
structure Crd.ok (c:Crd):Prop where
 name:cC c.name
 cost:c.cost<1000
 force:c.force<1000
 marks:Marks c.marks
 rules:∀r∈c.rules,r.ok
 few:c.rules.length<=3
noncomputable def Crd.head (c:Crd):List Str:=[c.name,toString (c.cost:Int),toString (c.force:Int),cU c.marks]
noncomputable def bF (r:Rule):Str:=aj " " r.words
noncomputable def Crd.text (c:Crd):Str:=aj SL (aj " " c.head::c.rules.map bF)
theorem xW {c d:Nat}{ws:List Str}(h:∀w∈ws,d∉w.cps.toList)(n:d≠c):d∉(aj #[(yA [c])] ws).cps.toList:=λz=>by
 rcases DS z with e|⟨w,hw,z⟩
 .exact n e
 .exact h w hw z
theorem Ou {ms:List Str}(h:Marks ms):32∉(cU ms).cps.toList/\47∉(cU ms).cps.toList:=by
 by_cases e:ms=[]
 .subst e;exact#[77]
 .exact#[λz=>by have:=EU h e 32 z;lk,λz=>by have:=EU h e 47 z;lk]
theorem Crd.xX {c:Crd}(h:c.ok):∀u∈c.head,32∉u.cps.toList/\47∉u.cps.toList:=by
 intro u hu;simp only[Crd.head,aM,dN,or_false] at hu
 rcases hu with rfl|rfl|rfl|rfl
 .exact#[(ln h.name).1.1,(ln h.name).2]
 .exact#[(d7 h.cost).1.1,(d7 h.cost).2]
 .exact#[(d7 h.force).1.1,(d7 h.force).2]
 .exact Ou h.marks
theorem Crd.FG {c:Crd}(h:c.ok):eW (aj " " c.head) " " = c.head:=LC (c:=32) (dS _ _) (λu hu=>(Crd.xX h u hu).1)
theorem Crd.zr {c:Crd}(h:c.ok):(aj " " c.head).length<=300:=by
 have a:=nz " " c.head;have c':=gY (l:=c.head.map (·.length)) (k:=180) (λx hx=>by
  obtain⟨u,hu,rfl⟩:=bT.mp hx;simp only[Crd.head,aM,dN,or_false] at hu
  rcases hu with rfl|rfl|rfl|rfl
  .have:=h.name.2.1;lk
  .have:=(j6 _ h.cost).2;lk
  .have:=(j6 _ h.force).2;lk
  .exact (uW h.marks).2)
 have e:(" ":Str).length=1:=rfl;rw[e] at a;have s:(c.head.map (·.length)).sum=c.name.length+((toString (c.cost:Int):Str).length+((toString (c.force:Int):Str).length+((cU c.marks).length+0))):=rfl;have hl:c.head.length=4:=rfl;rw[s,hl] at a;have b1:=h.name.2.1;have b2:=(j6 _ h.cost).2;have b3:=(j6 _ h.force).2;have b4:=(uW h.marks).2;lk
theorem Crd.split {c:Crd}(h:c.ok):eW c.text SL=aj " " c.head::c.rules.map bF:=by
 refine Cw (dS _ _) λp hp=>?_
 rcases aM.mp hp with rfl|hp
 .exact xW (λu hu=>(Crd.xX h u hu).2) (by decide)
 .obtain⟨r,hr,rfl⟩:=bT.mp hp;exact xW (λu hu=>(Rule.fZ (h.rules r hr) u hu).2) (by decide)
end Wm
namespace Wm
open PySem PySem.Spec PyProof.Rows
theorem RJ:∀(p:Str) (l:List Str),(p::l).Pairwise leS->risingS p l=true
 | p,[],_=>rfl
 | p,x::r,h=>by
  have h1:=(lv.mp h).1 x bb;show (!ltCps x.cps.toList p.cps.toList&&risingS x r)=true
  rw[Gw h1,RJ x r (lv.mp h).2];rfl
theorem Ln:∀{l:List Str},l.Pairwise leS->cX l=true
 | [],_=>rfl
 | x::r,h=>RJ x r h
theorem Cf {xs ys:List Str}(h:xs.Sublist ys)(s:cX ys=true):cX xs=true:=Ln ((Ku s).sublist h)
end Wm
namespace K23
open PySem L2 PyProof.Rows Wm
theorem _root_.L2.Gf.c{K mg}{x q:Str}{st:Stmt}(G:Gf K mg x q st){X:Cx}{k:Nat}{ps:List Str}{sp:Sp}{e:Expr}{es:List Expr}{t:TA}{p pos:Pos}(F:FnOk X.prog X.w X.K X.mg X.base CX0 k G.f G.d ps sp)(hr:Room k X.A)(hb:Binds X.K G.d ps [])(ha:PA X (e::es) t)(eK:autoParam (X.K=K) aUB._auto_1)(em:autoParam (X.mg=mg) aUB._auto_1)(hg:autoParam (Gl X x) aUB._auto_1)(hdb:autoParam ((x==("__debug__":Str))=false) aUA._auto_1) (he:autoParam (bO (e::es) X.env=(false,eval e X.env)::bO es X.env) aUB._auto_1) (hpl:autoParam ((backTo pos (bO es X.env)).any (·.1)=false) aUB._auto_1):PE X (.Call (.Name x p) (e::es) [] pos) (tT sp [] E0 t):=by
 subst eK em;exact Vf F hr hg G.m G.F.kp hb .nil bA ha hdb he hpl
theorem sqA{a b:TS}{D:Ends}{s:L2.St}{H:Hp}(h:let d:=D;let r:=b;tSeq a r d s H):tSeq a b D s H:=h
theorem sqB{a b:TS}{D:Ends}{s:L2.St}{H:Hp}(h:let d:=D;let r:=b;let s:=s;tSeq a r d s H):tSeq a b D s H:=h
set_option hygiene false in
local macro_rules|`(tactic|k_ne)=>`(tactic|try ((try dsimp only [cL]);(try dsimp only);with_reducible refine sqB ?_;intro _ _ _))
set_option hygiene false in
local macro_rules|`(tactic|kd_p)=>`(tactic|try ((try dsimp only [cL]);(try dsimp only);with_reducible refine sqA ?_;intro _ _))
variable {P:aR}{w:World}{K:ah}{mg:Str->Option Value}{base:Heap}
noncomputable def top (i:Nat):Stmt:=PySem.Challenge.pw_turnstack_k23_the_sight_of_a_table.main.body.getD i (.Pass #[(0),(0),(0),(0)])
noncomputable abbrev sH:Stmt:=top 8
noncomputable abbrev NG:List Str:=["word"]
noncomputable abbrev Es:List Str:=["word"]
theorem LV:aQ NG Es (aG sH):=scOf (by lia)
noncomputable abbrev PY:Stmt:=top 9
noncomputable abbrev Hw:List Str:=["word"]
noncomputable abbrev KY:List Str:=["word"]
theorem Fi:aQ Hw KY (aG PY):=scOf (by lia)
noncomputable abbrev Sj:Stmt:=top 10
noncomputable abbrev DZ:List Str:=["word","most"]
noncomputable abbrev N9:List Str:=["word","most"]
theorem ME:aQ DZ N9 (aG Sj):=scOf (by lia)
noncomputable abbrev GA:Stmt:=inClass (top 11) 0
noncomputable abbrev UL:List Str:=["self","text"]
noncomputable abbrev NV:List Str:=["self","text"]
theorem UF:aQ UL NV (aG GA):=scOf (by lia)
noncomputable abbrev MN:Stmt:=inClass (top 11) 1
noncomputable abbrev Kr:List Str:=["self"]
noncomputable abbrev Ng:List Str:=["self"]
theorem Gc:aQ Kr Ng (aG MN):=scOf (by lia)
noncomputable abbrev G9:Stmt:=inClass (top 11) 2
noncomputable abbrev US:List Str:=["self","known","word"]
noncomputable abbrev No:List Str:=["self","known"]
theorem QQ:aQ US No (aG G9):=scOf (by lia)
noncomputable abbrev LN:Stmt:=inClass (top 11) 3
noncomputable abbrev Vl:List Str:=["self","word"]
noncomputable abbrev G4:List Str:=["self"]
theorem Qs:aQ Vl G4 (aG LN):=scOf (by lia)
noncomputable abbrev Jv:Stmt:=inClass (top 11) 4
noncomputable abbrev U0:List Str:=["self","word"]
noncomputable abbrev MZ:List Str:=["self"]
theorem Rv:aQ U0 MZ (aG Jv):=scOf (by lia)
noncomputable abbrev JX:Stmt:=inClass (top 11) 5
noncomputable abbrev Vn:List Str:=["self"]
noncomputable abbrev Bn:List Str:=["self"]
theorem UK:aQ Vn Bn (aG JX):=scOf (by lia)
noncomputable abbrev K3:Stmt:=inClass (top 12) 0
noncomputable abbrev UR:List Str:=["self","word","value","parts"]
noncomputable abbrev GN:List Str:=["self","word","value","parts"]
theorem UB:aQ UR GN (aG K3):=scOf (by lia)
noncomputable abbrev Ma:Stmt:=inClass (top 12) 1
noncomputable abbrev Mv:List Str:=["self","words"]
noncomputable abbrev qy:List Str:=["self"]
theorem Rx:aQ Mv qy (aG Ma):=scOf (by lia)
noncomputable abbrev Nv:Stmt:=inClass (top 12) 3
noncomputable abbrev Vd:List Str:=["self","row","number","keeper","thing"]
noncomputable abbrev sx:List Str:=["self","row","number","keeper","thing"]
theorem UC:aQ Vd sx (aG Nv):=scOf (by lia)
noncomputable abbrev Fy:Stmt:=inClass (top 12) 4
noncomputable abbrev Uy:List Str:=["self","row","number","keeper","thing","first"]
noncomputable abbrev AD:List Str:=["self","row","number","keeper","thing"]
theorem Qw:aQ Uy AD (aG Fy):=scOf (by lia)
noncomputable abbrev yG:Stmt:=top 13
noncomputable abbrev CZ:List Str:=["sight","thing","row"]
noncomputable abbrev ph:List Str:=["sight","thing"]
theorem uJ:aQ CZ ph (aG yG):=scOf (by lia)
noncomputable abbrev QY:Stmt:=top 14
noncomputable abbrev Fw:List Str:=["words","taken","missing","word"]
noncomputable abbrev Jt:List Str:=["words"]
theorem wz:aQ Fw Jt (aG QY):=scOf (by lia)
noncomputable abbrev Q8:Stmt:=top 15
noncomputable abbrev Im:List Str:=["words","word"]
noncomputable abbrev ML:List Str:=["words","word"]
theorem Fn:aQ Im ML (aG Q8):=scOf (by lia)
noncomputable abbrev xG:Stmt:=top 16
noncomputable abbrev EV:List Str:=["taken","whoms","word","value","many"]
noncomputable abbrev oQ:List Str:=["taken"]
theorem qF:aQ EV oQ (aG xG):=scOf (by lia)
noncomputable abbrev Cd:Stmt:=inClass (top 25) 0
noncomputable abbrev Vg:List Str:=["self","name","cost","force","marks","rules"]
noncomputable abbrev CQ:List Str:=["self","name","cost","force","marks","rules"]
theorem Vm:aQ Vg CQ (aG Cd):=scOf (by lia)
noncomputable abbrev TN:Stmt:=top 26
noncomputable abbrev Ju:List Str:=["text","texts","words","name","cost","force","marks"]
noncomputable abbrev Nm:List Str:=["text"]
theorem oP:aQ Ju Nm (aG TN):=scOf (by lia)
noncomputable abbrev Rn:Stmt:=top 27
noncomputable abbrev OB:List Str:=["word","marks"]
noncomputable abbrev Mo:List Str:=["word"]
theorem Tr:aQ OB Mo (aG Rn):=scOf (by lia)
noncomputable abbrev Q6:Stmt:=top 28
noncomputable abbrev Ny:List Str:=["text","words","first","rule"]
noncomputable abbrev Ii:List Str:=["text"]
theorem mS:aQ Ny Ii (aG Q6):=scOf (by lia)
noncomputable abbrev Qy:Stmt:=top 29
noncomputable abbrev EB:List Str:=["words","word","value","whom"]
noncomputable abbrev LG:List Str:=["words"]
theorem AK:aQ EB LG (aG Qy):=scOf (by lia)
noncomputable abbrev Qk:Stmt:=top 30
noncomputable abbrev UX:List Str:=["words","word"]
noncomputable abbrev IP:List Str:=["words","word"]
theorem Vj:aQ UX IP (aG Qk):=scOf (by lia)
noncomputable abbrev QH:Stmt:=top 31
noncomputable abbrev DB:List Str:=["words","kind","whom"]
noncomputable abbrev GQ:List Str:=["words"]
theorem Bu:aQ DB GQ (aG QH):=scOf (by lia)
noncomputable abbrev Pn:Stmt:=top 32
noncomputable abbrev UO:List Str:=["words","kind","whom","word"]
noncomputable abbrev Op:List Str:=["words"]
theorem zW:aQ UO Op (aG Pn):=scOf (by lia)
noncomputable abbrev Qu:Stmt:=top 33
noncomputable abbrev U1:List Str:=["words","word"]
noncomputable abbrev K9:List Str:=["words","word"]
theorem UN:aQ U1 K9 (aG Qu):=scOf (by lia)
noncomputable abbrev Si:Stmt:=top 34
noncomputable abbrev Ot:List Str:=["words","cost"]
noncomputable abbrev Dj:List Str:=["words"]
theorem TD:aQ Ot Dj (aG Si):=scOf (by lia)
noncomputable abbrev Q9:Stmt:=top 35
noncomputable abbrev OF:List Str:=["words","each","kind","amount","whom"]
noncomputable abbrev LB:List Str:=["words"]
theorem wj:aQ OF LB (aG Q9):=scOf (by lia)
noncomputable abbrev P9:Stmt:=top 36
noncomputable abbrev GM:List Str:=["words","kind"]
noncomputable abbrev HX:List Str:=["words","kind"]
theorem UZ:aQ GM HX (aG P9):=scOf (by lia)
noncomputable abbrev Ur:Stmt:=top 37
noncomputable abbrev JK:List Str:=["card","head"]
noncomputable abbrev Mz:List Str:=["card"]
theorem Qq:aQ JK Mz (aG Ur):=scOf (by lia)
noncomputable abbrev Ue:Stmt:=top 38
noncomputable abbrev E4:List Str:=["marks"]
noncomputable abbrev Bl:List Str:=["marks"]
theorem N7:aQ E4 Bl (aG Ue):=scOf (by lia)
noncomputable abbrev SM:Stmt:=top 39
noncomputable abbrev M0:List Str:=["rule","words"]
noncomputable abbrev Dy:List Str:=["rule"]
theorem vO:aQ M0 Dy (aG SM):=scOf (by lia)
noncomputable abbrev Qr:Stmt:=top 40
noncomputable abbrev Ie:List Str:=["value"]
noncomputable abbrev GO:List Str:=["value"]
theorem F9:aQ Ie GO (aG Qr):=scOf (by lia)
noncomputable abbrev Sk:Stmt:=top 41
noncomputable abbrev Ch:List Str:=["deed","amount"]
noncomputable abbrev Gi:List Str:=["deed"]
theorem PZ:aQ Ch Gi (aG Sk):=scOf (by lia)
noncomputable abbrev Py:Stmt:=top 45
noncomputable abbrev Dm:List Str:=["lying"]
noncomputable abbrev C3:List Str:=["lying"]
theorem U2:aQ Dm C3 (aG Py):=scOf (by lia)
noncomputable abbrev vm:Stmt:=top 46
noncomputable abbrev Fl:List Str:=["lying","found","number","card","keeper","came","marks","place","rule"]
noncomputable abbrev Pc:List Str:=["lying"]
theorem jS:aQ Fl Pc (aG vm):=scOf (by lia)
noncomputable abbrev wG:Stmt:=top 47
noncomputable abbrev OH:List Str:=["lying","sight","change","asker","rule","fitting","amount"]
noncomputable abbrev oG:List Str:=["lying","sight","change"]
theorem xP:aQ OH oG (aG wG):=scOf (by lia)
noncomputable abbrev xf:Stmt:=top 48
noncomputable abbrev JM:List Str:=["lying","number","place","rules"]
noncomputable abbrev J8:List Str:=["lying","number","place"]
theorem Qo:aQ JM J8 (aG xf):=scOf (by lia)
noncomputable abbrev PJ:Stmt:=top 49
noncomputable abbrev UU:List Str:=["sight","whom","asker"]
noncomputable abbrev NX:List Str:=["sight","whom","asker"]
theorem UY:aQ UU NX (aG PJ):=scOf (by lia)
noncomputable abbrev Ua:Stmt:=top 50
noncomputable abbrev Lb:List Str:=["sight","rule","asker","word"]
noncomputable abbrev JW:List Str:=["sight","rule","asker"]
theorem Pk:aQ Lb JW (aG Ua):=scOf (by lia)
noncomputable abbrev yM:Stmt:=top 51
noncomputable abbrev BS:List Str:=["lying","sight","change","word","amounts"]
noncomputable abbrev mI:List Str:=["lying","sight","change"]
theorem Cm:aQ BS mI (aG yM):=scOf (by lia)
noncomputable abbrev yC:Stmt:=top 52
noncomputable abbrev MT:List Str:=["row","word","amount"]
noncomputable abbrev El:List Str:=["row","word","amount"]
theorem K0:aQ MT El (aG yC):=scOf (by lia)
noncomputable abbrev uo:Stmt:=top 53
noncomputable abbrev Do:List Str:=["values","one"]
noncomputable abbrev pG:List Str:=["values","one"]
theorem Fd:aQ Do pG (aG uo):=scOf (by lia)
noncomputable abbrev ux:Stmt:=top 54
noncomputable abbrev Mm:List Str:=["values","one"]
noncomputable abbrev Ge:List Str:=["values","one"]
theorem Hr:aQ Mm Ge (aG ux):=scOf (by lia)
noncomputable abbrev TM:Stmt:=top 55
noncomputable abbrev KM:List Str:=["lying","sight","some","sights","found","one","now","others"]
noncomputable abbrev FM:List Str:=["lying","sight","some"]
theorem rG:aQ KM FM (aG TM):=scOf (by lia)
noncomputable abbrev PM:Stmt:=top 56
noncomputable abbrev Nk:List Str:=["leaned","one"]
noncomputable abbrev F4:List Str:=["leaned","one"]
theorem Og:aQ Nk F4 (aG PM):=scOf (by lia)
noncomputable abbrev wc:Stmt:=top 57
noncomputable abbrev Fv:List Str:=["leaned","one","found","left","change"]
noncomputable abbrev pL:List Str:=["leaned","one"]
theorem A0:aQ Fv pL (aG wc):=scOf (by lia)
noncomputable abbrev uQ:Stmt:=top 58
noncomputable abbrev NJ:List Str:=["lying","sight","order","every","layer","left","change"]
noncomputable abbrev yT:List Str:=["lying"]
theorem lK:aQ NJ yT (aG uQ):=scOf (by lia)
noncomputable abbrev s9:Stmt:=top 59
noncomputable abbrev OD:List Str:=["lying","sight","left","leaned"]
noncomputable abbrev EI:List Str:=["lying","sight","left"]
theorem Pi:aQ OD EI (aG s9):=scOf (by lia)
noncomputable abbrev uZ:Stmt:=top 63
noncomputable abbrev Om:List Str:=["cards","owners","table","marks"]
noncomputable abbrev Jq:List Str:=["cards","owners","table"]
theorem Pp:aQ Om Jq (aG uZ):=scOf (by lia)
noncomputable abbrev Rq:Stmt:=top 64
noncomputable abbrev EH:List Str:=["cards","owners","table"]
noncomputable abbrev Cr:List Str:=["cards","owners","table"]
theorem Oi:aQ EH Cr (aG Rq):=scOf (by lia)
noncomputable abbrev Ro:Stmt:=top 66
noncomputable abbrev Jg:List Str:=["_law_script","_law_k","_law_seed","_law_mixed"]
noncomputable abbrev ET:List Str:=["_law_script","_law_k"]
theorem Aj:aQ Jg ET (aG Ro):=scOf (by lia)
noncomputable abbrev Rp:Stmt:=top 67
noncomputable abbrev Nl:List Str:=["_law_pen","_law_most","_law_cell_here"]
noncomputable abbrev NI:List Str:=["_law_pen","_law_most"]
theorem QO:aQ Nl NI (aG Rp):=scOf (by lia)
noncomputable abbrev Ug:Stmt:=top 68
noncomputable abbrev FX:List Str:=["_law_pen","_law_letters","_law_base","_law_at","_law_first"]
noncomputable abbrev Ld:List Str:=["_law_pen"]
theorem vI:aQ FX Ld (aG Ug):=scOf (by lia)
noncomputable abbrev QL:Stmt:=top 69
noncomputable abbrev BL:List Str:=["_law_pen"]
noncomputable abbrev IG:List Str:=["_law_pen"]
theorem U3:aQ BL IG (aG QL):=scOf (by lia)
noncomputable abbrev Pw:Stmt:=top 70
noncomputable abbrev G6:List Str:=["_law_pen","_law_names_here","_law_left","_law_way","_law_half","_law_one"]
noncomputable abbrev rW:List Str:=["_law_pen","_law_names_here","_law_left"]
theorem zh:aQ G6 rW (aG Pw):=scOf (by lia)
noncomputable abbrev Sh:Stmt:=top 71
noncomputable abbrev A8:List Str:=["_law_whom_here","_law_words_here","_law_part"]
noncomputable abbrev qE:List Str:=["_law_whom_here"]
theorem Mr:aQ A8 qE (aG Sh):=scOf (by lia)
noncomputable abbrev Rf:Stmt:=top 73
noncomputable abbrev OV:List Str:=["_law_pen","_law_names_here","_law_kind","_law_amount"]
noncomputable abbrev OU:List Str:=["_law_pen","_law_names_here"]
theorem wm:aQ OV OU (aG Rf):=scOf (by lia)
noncomputable abbrev Px:Stmt:=top 74
noncomputable abbrev Vk:List Str:=["_law_deed_here","_law_words_here"]
noncomputable abbrev Fj:List Str:=["_law_deed_here"]
theorem QR:aQ Vk Fj (aG Px):=scOf (by lia)
noncomputable abbrev Ud:Stmt:=top 75
noncomputable abbrev Oc:List Str:=["_law_pen","_law_names_here","_law_kinds","_law_kind"]
noncomputable abbrev BG:List Str:=["_law_pen","_law_names_here","_law_kinds"]
theorem Rr:aQ Oc BG (aG Ud):=scOf (by lia)
noncomputable abbrev RN:Stmt:=top 76
noncomputable abbrev Vi:List Str:=["_law_pen","_law_names_here","_law_kinds","_law_kind","_law_whom_here","_law_some"]
noncomputable abbrev CG:List Str:=["_law_pen","_law_names_here","_law_kinds"]
theorem lS:aQ Vi CG (aG RN):=scOf (by lia)
noncomputable abbrev PN:Stmt:=top 77
noncomputable abbrev UA:List Str:=["_law_rule","_law_words_here"]
noncomputable abbrev Hn:List Str:=["_law_rule"]
theorem Qz:aQ UA Hn (aG PN):=scOf (by lia)
noncomputable abbrev QT:Stmt:=top 78
noncomputable abbrev NK:List Str:=["_law_pen","_law_names_here","_law_rules","_law_marks","_law_cost","_law_force","_law_shown","_law_head","_law_text"]
noncomputable abbrev J7:List Str:=["_law_pen","_law_names_here","_law_rules"]
theorem lR:aQ NK J7 (aG QT):=scOf (by lia)
noncomputable abbrev Uv:Stmt:=top 79
noncomputable abbrev Eu:List Str:=["_law_pen","_law_many","_law_points","_law_scores"]
noncomputable abbrev L5:List Str:=["_law_pen","_law_many"]
theorem Er:aQ Eu L5 (aG Uv):=scOf (by lia)
noncomputable abbrev QA:Stmt:=top 80
noncomputable abbrev Km:List Str:=["_law_pen","_law_names_here","_law_cards_here","_law_owners","_law_many","_law_heads_here","_law_decks","_law_hands","_law_lying","_law_heap","_law_marks","_law_wounds","_law_number","_law_owner","_law_way","_law_cells"]
noncomputable abbrev K8:List Str:=["_law_pen","_law_names_here","_law_cards_here","_law_owners","_law_many"]
theorem hZ:aQ Km K8 (aG QA):=scOf (by lia)
noncomputable abbrev Qa:Stmt:=top 81
noncomputable abbrev DG:List Str:=["_law_found","_law_due"]
noncomputable abbrev qX:List Str:=["_law_found","_law_due"]
theorem Lf:aQ DG qX (aG Qa):=scOf (by lia)
noncomputable abbrev PL:Stmt:=top 82
noncomputable abbrev Cn:List Str:=["_law_pen","_law_names_here","_law_change"]
noncomputable abbrev BF:List Str:=["_law_pen","_law_names_here"]
theorem L6:aQ Cn BF (aG PL):=scOf (by lia)
noncomputable abbrev Uo:Stmt:=top 83
noncomputable abbrev Kh:List Str:=["_law_pen","_law_names_here","_law_kinds","_law_cards_here","_law_holds","_law_total","_law_k","_law_rules","_law_j","_law_way"]
noncomputable abbrev Gq:List Str:=["_law_pen","_law_names_here","_law_kinds"]
theorem je:aQ Kh Gq (aG Uo):=scOf (by lia)
noncomputable abbrev PK:Stmt:=top 84
noncomputable abbrev UT:List Str:=["_law_found","_law_due","_law_one","_law_other"]
noncomputable abbrev NL:List Str:=["_law_found","_law_due"]
theorem Co:aQ UT NL (aG PK):=scOf (by lia)
noncomputable abbrev uF:Stmt:=top 85
noncomputable abbrev Oo:List Str:=["_law_script","_law_pen","_law_names_here","_law_many","_law_cards_here","_law_owners","_law_read","_law_k","_law_table_here","_law_due","_law_came","_law_number","_law_sight","_law_handed","_law_found","_law_seen"]
noncomputable abbrev sC:List Str:=["_law_script"]
theorem eU:aQ Oo sC (aG uF):=scOf (by lia)
noncomputable abbrev GJ:Str:="abcdefghijklmnopqrstuvwxyz"
noncomputable abbrev C0:Str:="0123456789"
noncomputable abbrev vp:List (Str×qJ):=[("all",.flat (.int 0)),("self",.flat (.int 0)),("mine",.flat (.int 0)),("mark",.flat (.int 0)),("force",.flat (.int 0)),("not",.flat (.int 1)),("both",.flat (.int 2)),("any",.flat (.int 2))]
noncomputable abbrev nh:List (Str×qJ):=[("leave",.tup ((["none","here"]:List Str).map PyData.str)),("hurt",.tup ((["none","here","less","more"]:List Str).map PyData.str)),("gain",.tup ((["none","here"]:List Str).map PyData.str)),("lack",.tup ((["none","here"]:List Str).map PyData.str)),("lose",.tup ((["none","less","more","as"]:List Str).map PyData.str)),("score",.tup ((["none","less","more","as"]:List Str).map PyData.str)),("draw",.tup ((["none","less","more","as"]:List Str).map PyData.str))]
noncomputable abbrev tR:List (Str×qJ):=[("mute",.flat (.int 0)),("steal",.flat (.int 1)),("gain",.flat (.int 2)),("lack",.flat (.int 2)),("be",.flat (.int 3)),("more",.flat (.int 4)),("less",.flat (.int 4)),("per",.flat (.int 4))]
theorem onlZ {m:List Value->Prop}(h:m [])(us:List Value)(hl:us.length=0):m us:=by rw[OM.mp hl];exact h
theorem onlS {m:List Value->Prop}{k:Nat}(h:∀a,∀us,us.length=k->m (a::us))(us:List Value)(hl:us.length=k+1):m us:=by
 obtain⟨a,t,rfl⟩:=List.exists_cons_of_length_eq_add_one hl;exact h a t (Nat.succ.inj hl)
@[elab_as_elim] theorem onl1 {m:List Value->Prop} (h:∀a,m [a]) (us:List Value) (hl:us.length=1):m us:=(onlS (m:=λt=>m (t)) λa=>onlZ (h a)) us hl
@[elab_as_elim] theorem onl2 {m:List Value->Prop} (h:∀a b,m [a,b]) (us:List Value) (hl:us.length=2):m us:=(onlS (m:=λt=>m (t)) λa=>onlS (m:=λt=>m (a::t)) λb=>onlZ (h a b)) us hl
@[elab_as_elim] theorem onl3 {m:List Value->Prop} (h:∀a b c,m [a,b,c]) (us:List Value) (hl:us.length=3):m us:=(onlS (m:=λt=>m (t)) λa=>onlS (m:=λt=>m (a::t)) λb=>onlS (m:=λt=>m (a::b::t)) λc=>onlZ (h a b c)) us hl
@[elab_as_elim] theorem onl4 {m:List Value->Prop} (h:∀a b c d,m [a,b,c,d]) (us:List Value) (hl:us.length=4):m us:=(onlS (m:=λt=>m (t)) λa=>onlS (m:=λt=>m (a::t)) λb=>onlS (m:=λt=>m (a::b::t)) λc=>onlS (m:=λt=>m (a::b::c::t)) λd=>onlZ (h a b c d)) us hl
@[elab_as_elim] theorem onl5 {m:List Value->Prop} (h:∀a b c d e,m [a,b,c,d,e]) (us:List Value) (hl:us.length=5):m us:=(onlS (m:=λt=>m (t)) λa=>onlS (m:=λt=>m (a::t)) λb=>onlS (m:=λt=>m (a::b::t)) λc=>onlS (m:=λt=>m (a::b::c::t)) λd=>onlS (m:=λt=>m (a::b::c::d::t)) λe=>onlZ (h a b c d e)) us hl
@[elab_as_elim] theorem onl6 {m:List Value->Prop} (h:∀a b c d e f,m [a,b,c,d,e,f]) (us:List Value) (hl:us.length=6):m us:=(onlS (m:=λt=>m (t)) λa=>onlS (m:=λt=>m (a::t)) λb=>onlS (m:=λt=>m (a::b::t)) λc=>onlS (m:=λt=>m (a::b::c::t)) λd=>onlS (m:=λt=>m (a::b::c::d::t)) λe=>onlS (m:=λt=>m (a::b::c::d::e::t)) λf=>onlZ (h a b c d e f)) us hl
@[elab_as_elim] theorem onl7 {m:List Value->Prop} (h:∀a b c d e f g,m [a,b,c,d,e,f,g]) (us:List Value) (hl:us.length=7):m us:=(onlS (m:=λt=>m (t)) λa=>onlS (m:=λt=>m (a::t)) λb=>onlS (m:=λt=>m (a::b::t)) λc=>onlS (m:=λt=>m (a::b::c::t)) λd=>onlS (m:=λt=>m (a::b::c::d::t)) λe=>onlS (m:=λt=>m (a::b::c::d::e::t)) λf=>onlS (m:=λt=>m (a::b::c::d::e::f::t)) λg=>onlZ (h a b c d e f g)) us hl
set_option genInjectivity false in
set_option genSizeOf false in
structure Tf (K:ah)(mg:Str->Option Value) where
 n6:Gf K mg "is_name" "is_name" sH
 sk:Gf K mg "is_number" "is_number" PY
 rY:Gf K mg "is_whole" "is_whole" Sj
 rN:Gf K mg "row_of" "row_of" yG
 i9:Gf K mg "take_whom" "take_whom" QY
 ql:Gf K mg "take_value" "take_value" Q8
 qu:Gf K mg "built" "built" xG
 qa:Gf K mg "read_card" "read_card" TN
 sd:Gf K mg "read_marks" "read_marks" Rn
 qi:Gf K mg "read_rule" "read_rule" Q6
 qg:Gf K mg "take_hold" "take_hold" Qy
 sr:Gf K mg "take_change_value" "take_change_value" Qk
 rq:Gf K mg "take_when" "take_when" QH
 qZ:Gf K mg "take_instead" "take_instead" Pn
 qR:Gf K mg "take_turn_value" "take_turn_value" Qu
 qt:Gf K mg "take_may" "take_may" Si
 pY:Gf K mg "take_deed" "take_deed" Q9
 su:Gf K mg "take_amount" "take_amount" P9
 pi:Gf K mg "show_card" "show_card" Ur
 rL:Gf K mg "show_marks" "show_marks" Ue
 qc:Gf K mg "show_rule" "show_rule" SM
 pq:Gf K mg "show_value" "show_value" Qr
 m8:Gf K mg "show_deed" "show_deed" Sk
 rH:Gf K mg "first_sight" "first_sight" Py
 qP:Gf K mg "changes" "changes" vm
 kT:Gf K mg "reach" "reach" wG
 mY:Gf K mg "rule_of" "rule_of" xf
 pB:Gf K mg "numbers_fitting" "numbers_fitting" PJ
 rK:Gf K mg "amount_of" "amount_of" Ua
 pV:Gf K mg "behind" "behind" yM
 qS:Gf K mg "changed" "changed" yC
 qh:Gf K mg "joined" "joined" uo
 rO:Gf K mg "without" "without" ux
 qK:Gf K mg "leaned_on" "leaned_on" TM
 qv:Gf K mg "waited_for" "waited_for" PM
 m7:Gf K mg "led_to" "led_to" wc
 jO:Gf K mg "layered" "layered" uQ
 rC:Gf K mg "next_of" "next_of" s9
 lA:Gf K mg "rows_of" "rows_of" uZ
 pd:Gf K mg "sight_of" "sight_of" Rq
 qM:Gf K mg "_law_cell" "_law_cell" Ro
 bw:Gf K mg "_law_take" "_law_take" Rp
 r9:Gf K mg "_law_names" "_law_names" Ug
 kP:Gf K mg "_law_figure" "_law_figure" QL
 dZ:Gf K mg "_law_whom" "_law_whom" Pw
 fk:Gf K mg "_law_words" "_law_words" Sh
 rp:Gf K mg "_law_deed" "_law_deed" Rf
 qV:Gf K mg "_law_deed_words" "_law_deed_words" Px
 sA:Gf K mg "_law_when" "_law_when" Ud
 rm:Gf K mg "_law_instead" "_law_instead" RN
 qA:Gf K mg "_law_rule_words" "_law_rule_words" PN
 qm:Gf K mg "_law_card" "_law_card" QT
 rA:Gf K mg "_law_heads" "_law_heads" Uv
 qO:Gf K mg "_law_table" "_law_table" QA
 fI:Gf K mg "_law_alike" "_law_alike" Qa
 rD:Gf K mg "_law_hold" "_law_hold" PL
 qH:Gf K mg "_law_cards" "_law_cards" Uo
 pJ:Gf K mg "_law_rows_good" "_law_rows_good" PK
 iZ:Gf K mg "law" "law" uF
set_option genInjectivity false in
set_option genSizeOf false in
structure Tx (K:ah)(mg:Str->Option Value) extends Tf K mg where
 bP:Addr
 bN:Cls K bP
 oi:mg "Words" = some (.ref bP)
 lm:If K bP "__init__" "Words.__init__" GA
 iJ:Mf K bP "take" "Words.take" MN
 eE:Mf K bP "take_one_of" "Words.take_one_of" G9
 jt:Mf K bP "take_name" "Words.take_name" LN
 gy:Mf K bP "take_number" "Words.take_number" Jv
 lF:Mf K bP "finish" "Words.finish" JX
 mE:eD K bP "words"
 lP:eD K bP "place"
 aT:Addr
 cx:Cls K aT
 oV:mg "Whom" = some (.ref aT)
 oU:If K aT "__init__" "Whom.__init__" K3
 dY:Mf K aT "told" "Whom.told" Ma
 fb:Mf K aT "fits_row" "Whom.fits_row" Nv
 kA:Mf K aT "fits_parts" "Whom.fits_parts" Fy
 uK:eD K aT "word"
 lE:eD K aT "value"
 iy:eD K aT "parts"
 iH:Isi K aT
 b9:Addr
 fW:Cls K b9
 xJ:mg "Card" = some (.ref b9)
 oo:If K b9 "__init__" "Card.__init__" Cd
 vE:eD K b9 "name"
 xo:eD K b9 "cost"
 qB:eD K b9 "force"
 uz:eD K b9 "marks"
 pP:eD K b9 "rules"
 gT:mg "all" = none
 mj:mg "bool" = none
 j8:mg "dict" = none
 uD:mg "enumerate" = none
 gJ:mg "int" = none
 dH:mg "isinstance" = none
 cr:mg "len" = none
 gZ:mg "list" = none
 jG:mg "min" = none
 eC:mg "range" = none
 zX:mg "reversed" = none
 i3:mg "set" = none
 jk:mg "sorted" = none
 fc:mg "str" = none
 cG:mg "tuple" = none
 jK:mg "zip" = none
 xS:Tok
 zJ:mg "LETTERS" = some (.str GJ xS)
 v9:Tok
 AJ:mg "FIGURES" = some (.str C0 v9)
 R5:Tok
 yR:mg "MOST_WORDS" = some (.int 9 R5)
 mQ:Addr
 qf:mg "PARTS" = some (.ref mQ)
 jW:wq (jP λb=>K.lookup b) (λb=>K.lookup b) mQ vp=true
 RY:Tok
 As:mg "MOST_RULES" = some (.int 3 RY)
 kL:Addr
 j7:mg "SORTS" = some (.ref kL)
 kE:TupK K kL ["hold","when","instead","may"]
 zL:Addr
 Aa:mg "CHANGES" = some (.ref zL)
 y7:TupK K zL ["mute","steal","gain","lack","be","more","less","per"]
 AZ:Addr
 Ap:mg "WHEN_KINDS" = some (.ref AZ)
 zY:TupK K AZ ["come","leave","hurt","gain","lack","lose","score","draw"]
 xA:Addr
 xu:mg "DEED_KINDS" = some (.ref xA)
 xn:TupK K xA ["leave","hurt","gain","lack","lose","score","draw"]
 zy:Addr
 zK:mg "PLAYER_KINDS" = some (.ref zy)
 zF:TupK K zy ["lose","score","draw"]
 jY:Addr
 kJ:mg "TURNS" = some (.ref jY)
 km:TabK K jY nh
 ya:Addr
 AH:mg "LAYERS" = some (.ref ya)
 AO:wq (jP λb=>K.lookup b) (λb=>K.lookup b) ya tR=true
 PP:Tok
 zI:mg "MANY_LAYERS" = some (.int 5 PP)
 xU:Tok
 j5:mg "LYING" = some (.int 5 xU)
 sF:Tok
 kF:mg "MARKS" = some (.int 7 sF)
theorem vN (T:Tx K mg):Binds K T.n6.d Es []:=T.n6.F.binds λ_ _ _ _ _ _ us hl=>onl1 (λ_=>rfl) us hl
theorem Ga (T:Tx K mg):Binds K T.sk.d KY []:=T.sk.F.binds λ_ _ _ _ _ _ us hl=>onl1 (λ_=>rfl) us hl
theorem Ey (T:Tx K mg):Binds K T.rY.d N9 []:=T.rY.F.binds λ_ _ _ _ _ _ us hl=>onl2 (λ_ _=>rfl) us hl
theorem Qm (T:Tx K mg):Binds K T.lm.d NV []:=T.lm.F.binds λ_ _ _ _ _ _ us hl=>onl2 (λ_ _=>rfl) us hl
theorem wX (T:Tx K mg):Binds K T.iJ.d Ng []:=T.iJ.F.binds λ_ _ _ _ _ _ us hl=>onl1 (λ_=>rfl) us hl
theorem i8 (T:Tx K mg):Binds K T.eE.d No []:=T.eE.F.binds λ_ _ _ _ _ _ us hl=>onl2 (λ_ _=>rfl) us hl
theorem AX (T:Tx K mg):Binds K T.jt.d G4 []:=T.jt.F.binds λ_ _ _ _ _ _ us hl=>onl1 (λ_=>rfl) us hl
theorem oR (T:Tx K mg):Binds K T.gy.d MZ []:=T.gy.F.binds λ_ _ _ _ _ _ us hl=>onl1 (λ_=>rfl) us hl
theorem TU (T:Tx K mg):Binds K T.lF.d Bn []:=T.lF.F.binds λ_ _ _ _ _ _ us hl=>onl1 (λ_=>rfl) us hl
theorem Va (T:Tx K mg):Binds K T.oU.d GN []:=T.oU.F.binds λ_ _ _ _ _ _ us hl=>onl4 (λ_ _ _ _=>rfl) us hl
theorem qT (T:Tx K mg):Binds K T.dY.d qy []:=T.dY.F.binds λ_ _ _ _ _ _ us hl=>onl1 (λ_=>rfl) us hl
theorem AG (T:Tx K mg):Binds K T.fb.d sx []:=T.fb.F.binds λ_ _ _ _ _ _ us hl=>onl5 (λ_ _ _ _ _=>rfl) us hl
theorem Ve (T:Tx K mg):Binds K T.kA.d AD []:=T.kA.F.binds λ_ _ _ _ _ _ us hl=>onl5 (λ_ _ _ _ _=>rfl) us hl
theorem JH (T:Tx K mg):Binds K T.rN.d ph []:=T.rN.F.binds λ_ _ _ _ _ _ us hl=>onl2 (λ_ _=>rfl) us hl
theorem u5 (T:Tx K mg):Binds K T.i9.d Jt []:=T.i9.F.binds λ_ _ _ _ _ _ us hl=>onl1 (λ_=>rfl) us hl
theorem Ib (T:Tx K mg):Binds K T.ql.d ML []:=T.ql.F.binds λ_ _ _ _ _ _ us hl=>onl2 (λ_ _=>rfl) us hl
theorem OW (T:Tx K mg):Binds K T.qu.d oQ []:=T.qu.F.binds λ_ _ _ _ _ _ us hl=>onl1 (λ_=>rfl) us hl
theorem Uz (T:Tx K mg):Binds K T.oo.d CQ []:=T.oo.F.binds λ_ _ _ _ _ _ us hl=>onl6 (λ_ _ _ _ _ _=>rfl) us hl
theorem JO (T:Tx K mg):Binds K T.qa.d Nm []:=T.qa.F.binds λ_ _ _ _ _ _ us hl=>onl1 (λ_=>rfl) us hl
theorem FK (T:Tx K mg):Binds K T.sd.d Mo []:=T.sd.F.binds λ_ _ _ _ _ _ us hl=>onl1 (λ_=>rfl) us hl
theorem M8 (T:Tx K mg):Binds K T.qi.d Ii []:=T.qi.F.binds λ_ _ _ _ _ _ us hl=>onl1 (λ_=>rfl) us hl
theorem Lr (T:Tx K mg):Binds K T.qg.d LG []:=T.qg.F.binds λ_ _ _ _ _ _ us hl=>onl1 (λ_=>rfl) us hl
theorem U9 (T:Tx K mg):Binds K T.sr.d IP []:=T.sr.F.binds λ_ _ _ _ _ _ us hl=>onl2 (λ_ _=>rfl) us hl
theorem J1 (T:Tx K mg):Binds K T.rq.d GQ []:=T.rq.F.binds λ_ _ _ _ _ _ us hl=>onl1 (λ_=>rfl) us hl
theorem Vc (T:Tx K mg):Binds K T.qZ.d Op []:=T.qZ.F.binds λ_ _ _ _ _ _ us hl=>onl1 (λ_=>rfl) us hl
theorem UG (T:Tx K mg):Binds K T.qR.d K9 []:=T.qR.F.binds λ_ _ _ _ _ _ us hl=>onl2 (λ_ _=>rfl) us hl
theorem Mw (T:Tx K mg):Binds K T.qt.d Dj []:=T.qt.F.binds λ_ _ _ _ _ _ us hl=>onl1 (λ_=>rfl) us hl
theorem Sl (T:Tx K mg):Binds K T.pY.d LB []:=T.pY.F.binds λ_ _ _ _ _ _ us hl=>onl1 (λ_=>rfl) us hl
theorem Nu (T:Tx K mg):Binds K T.su.d HX []:=T.su.F.binds λ_ _ _ _ _ _ us hl=>onl2 (λ_ _=>rfl) us hl
theorem P2 (T:Tx K mg):Binds K T.pi.d Mz []:=T.pi.F.binds λ_ _ _ _ _ _ us hl=>onl1 (λ_=>rfl) us hl
theorem Gg (T:Tx K mg):Binds K T.rL.d Bl []:=T.rL.F.binds λ_ _ _ _ _ _ us hl=>onl1 (λ_=>rfl) us hl
theorem Fu (T:Tx K mg):Binds K T.qc.d Dy []:=T.qc.F.binds λ_ _ _ _ _ _ us hl=>onl1 (λ_=>rfl) us hl
theorem QB (T:Tx K mg):Binds K T.pq.d GO []:=T.pq.F.binds λ_ _ _ _ _ _ us hl=>onl1 (λ_=>rfl) us hl
theorem Ql (T:Tx K mg):Binds K T.m8.d Gi []:=T.m8.F.binds λ_ _ _ _ _ _ us hl=>onl1 (λ_=>rfl) us hl
theorem Ix (T:Tx K mg):Binds K T.rH.d C3 []:=T.rH.F.binds λ_ _ _ _ _ _ us hl=>onl1 (λ_=>rfl) us hl
theorem DY (T:Tx K mg):Binds K T.qP.d Pc []:=T.qP.F.binds λ_ _ _ _ _ _ us hl=>onl1 (λ_=>rfl) us hl
theorem kD (T:Tx K mg):Binds K T.kT.d oG []:=T.kT.F.binds λ_ _ _ _ _ _ us hl=>onl3 (λ_ _ _=>rfl) us hl
theorem wf (T:Tx K mg):Binds K T.mY.d J8 []:=T.mY.F.binds λ_ _ _ _ _ _ us hl=>onl3 (λ_ _ _=>rfl) us hl
theorem QN (T:Tx K mg):Binds K T.pB.d NX []:=T.pB.F.binds λ_ _ _ _ _ _ us hl=>onl3 (λ_ _ _=>rfl) us hl
theorem BY (T:Tx K mg):Binds K T.rK.d JW []:=T.rK.F.binds λ_ _ _ _ _ _ us hl=>onl3 (λ_ _ _=>rfl) us hl
theorem tQ (T:Tx K mg):Binds K T.pV.d mI []:=T.pV.F.binds λ_ _ _ _ _ _ us hl=>onl3 (λ_ _ _=>rfl) us hl
theorem KU (T:Tx K mg):Binds K T.qS.d El []:=T.qS.F.binds λ_ _ _ _ _ _ us hl=>onl3 (λ_ _ _=>rfl) us hl
theorem Ca (T:Tx K mg):Binds K T.qh.d pG []:=T.qh.F.binds λ_ _ _ _ _ _ us hl=>onl2 (λ_ _=>rfl) us hl
theorem NE (T:Tx K mg):Binds K T.rO.d Ge []:=T.rO.F.binds λ_ _ _ _ _ _ us hl=>onl2 (λ_ _=>rfl) us hl
theorem JE (T:Tx K mg):Binds K T.qK.d FM []:=T.qK.F.binds λ_ _ _ _ _ _ us hl=>onl3 (λ_ _ _=>rfl) us hl
theorem CV (T:Tx K mg):Binds K T.qv.d F4 []:=T.qv.F.binds λ_ _ _ _ _ _ us hl=>onl2 (λ_ _=>rfl) us hl
theorem yH (T:Tx K mg):Binds K T.m7.d pL []:=T.m7.F.binds λ_ _ _ _ _ _ us hl=>onl2 (λ_ _=>rfl) us hl
theorem u9 (T:Tx K mg):Binds K T.jO.d yT []:=T.jO.F.binds λ_ _ _ _ _ _ us hl=>onl1 (λ_=>rfl) us hl
theorem Il (T:Tx K mg):Binds K T.rC.d EI []:=T.rC.F.binds λ_ _ _ _ _ _ us hl=>onl3 (λ_ _ _=>rfl) us hl
theorem F3 (T:Tx K mg):Binds K T.lA.d Jq []:=T.lA.F.binds λ_ _ _ _ _ _ us hl=>onl3 (λ_ _ _=>rfl) us hl
theorem uh (T:Tx K mg):Binds K T.pd.d Cr []:=T.pd.F.binds λ_ _ _ _ _ _ us hl=>onl3 (λ_ _ _=>rfl) us hl
theorem Oh (T:Tx K mg):Binds K T.qM.d ET []:=T.qM.F.binds λ_ _ _ _ _ _ us hl=>onl2 (λ_ _=>rfl) us hl
theorem bK (T:Tx K mg):Binds K T.bw.d NI []:=T.bw.F.binds λ_ _ _ _ _ _ us hl=>onl2 (λ_ _=>rfl) us hl
theorem Pb (T:Tx K mg):Binds K T.r9.d Ld []:=T.r9.F.binds λ_ _ _ _ _ _ us hl=>onl1 (λ_=>rfl) us hl
theorem zR (T:Tx K mg):Binds K T.kP.d IG []:=T.kP.F.binds λ_ _ _ _ _ _ us hl=>onl1 (λ_=>rfl) us hl
theorem nP (T:Tx K mg):Binds K T.dZ.d rW []:=T.dZ.F.binds λ_ _ _ _ _ _ us hl=>onl3 (λ_ _ _=>rfl) us hl
theorem wP (T:Tx K mg):Binds K T.fk.d qE []:=T.fk.F.binds λ_ _ _ _ _ _ us hl=>onl1 (λ_=>rfl) us hl
theorem IS (T:Tx K mg):Binds K T.rp.d OU []:=T.rp.F.binds λ_ _ _ _ _ _ us hl=>onl2 (λ_ _=>rfl) us hl
theorem UI (T:Tx K mg):Binds K T.qV.d Fj []:=T.qV.F.binds λ_ _ _ _ _ _ us hl=>onl1 (λ_=>rfl) us hl
theorem O9 (T:Tx K mg):Binds K T.sA.d BG []:=T.sA.F.binds λ_ _ _ _ _ _ us hl=>onl3 (λ_ _ _=>rfl) us hl
theorem UW (T:Tx K mg):Binds K T.rm.d CG []:=T.rm.F.binds λ_ _ _ _ _ _ us hl=>onl3 (λ_ _ _=>rfl) us hl
theorem Vo (T:Tx K mg):Binds K T.qA.d Hn []:=T.qA.F.binds λ_ _ _ _ _ _ us hl=>onl1 (λ_=>rfl) us hl
theorem NM (T:Tx K mg):Binds K T.qm.d J7 []:=T.qm.F.binds λ_ _ _ _ _ _ us hl=>onl3 (λ_ _ _=>rfl) us hl
theorem NP (T:Tx K mg):Binds K T.rA.d L5 []:=T.rA.F.binds λ_ _ _ _ _ _ us hl=>onl2 (λ_ _=>rfl) us hl
theorem Ka (T:Tx K mg):Binds K T.qO.d K8 []:=T.qO.F.binds λ_ _ _ _ _ _ us hl=>onl5 (λ_ _ _ _ _=>rfl) us hl
theorem Al (T:Tx K mg):Binds K T.fI.d qX []:=T.fI.F.binds λ_ _ _ _ _ _ us hl=>onl2 (λ_ _=>rfl) us hl
theorem Gs (T:Tx K mg):Binds K T.rD.d BF []:=T.rD.F.binds λ_ _ _ _ _ _ us hl=>onl2 (λ_ _=>rfl) us hl
theorem ED (T:Tx K mg):Binds K T.qH.d Gq []:=T.qH.F.binds λ_ _ _ _ _ _ us hl=>onl3 (λ_ _ _=>rfl) us hl
theorem RZ (T:Tx K mg):Binds K T.pJ.d NL []:=T.pJ.F.binds λ_ _ _ _ _ _ us hl=>onl2 (λ_ _=>rfl) us hl
theorem OI (T:Tx K mg)(kb:K.In base):yU base T.mQ vp:=KTD.text_of_look (λb o q=>kb b o q) T.jW
theorem Mp (T:Tx K mg)(kb:K.In base):yU base T.ya tR:=KTD.text_of_look (λb o q=>kb b o q) T.AO
noncomputable abbrev LL:Str:="abcdefghijklmnopqrstuvwxyz"
noncomputable abbrev FF:Str:="0123456789"
noncomputable def inS (c:Nat)(u:Str):Bool:=!(lz u #[(yA [c])] 0 u.length 1).isEmpty
noncomputable def allIn (t u:Str):Bool:=(t.cps.toList.map λc=>inS c u).all id
noncomputable def rM (t:Str):Bool:=decide (V.str t=V.str "0")||(!decide (V.str ⟨(yA [t.cps.getD 0 0])⟩=V.str "0"))
noncomputable def short (t:Str)(n:Int):Bool:=decide ((1:Int)<=((t.length:Nat):Int))&&decide (((t.length:Nat):Int)<=n)
noncomputable def isName (t:Str):Bool:=short t 8&&allIn t LL
noncomputable def isWhole (t:Str)(n:Int):Bool:=short t n&&(allIn t FF&&rM t)
noncomputable def isNumber (t:Str):Bool:=isWhole t 3
theorem small {n:Nat}(h:n<=1000):n<=aE:=iR (df h)
theorem Fe {t:Str}(h:(1:Int)<=((t.length:Nat):Int)):atI t.cps.toList 0=some (t.cps.getD 0 0):=by
 have hl:0<t.cps.size:=by
  have e:t.length=t.cps.size:=rfl;lk
 have e:t.cps.toList[0]?=some (t.cps.getD 0 0):=by
  rw[fB,O7,gO hl];rfl
 exact aI (j:=0) e
theorem gF {α:Type}{xs:List α}{i:Int}(h0:0<=i)(h:i<(xs.length:Int)):∃v,atI xs i=some v/\v∈xs:=by
 have hk:i.toNat<xs.length:=by lk
 have e:xs[i.toNat]?=some xs[i.toNat]:=cA hk;have q:=aI e;rw[show ((i.toNat:Nat):Int)=i by lk] at q;exact#[_,q,bq e]
theorem vB {ns:List Int}{i:Int}(h0:0<=i)(h:i<(ns.length:Int)):∃z,atI (ns.map V.int) i=some (.int z):=by
 obtain⟨v,hv,hm⟩:=gF (xs:=ns.map V.int) h0 (by rw[aw];exact h);obtain⟨z,_,rfl⟩:=bT.mp hm;exact#[z,hv]
theorem len_app (a b:Str):(a++b).length=a.length+b.length:=by
 show (a.cps++b.cps).size=a.cps.size+b.cps.size
 rw[zf]
noncomputable def But (p:Addr)(H H':Hp):Prop:=∀b o,b≠p->H b=some o->H' b=some o
theorem But.refl (p:Addr)(H:Hp):But p H H:=λ_ _ _ h=>h
theorem But.trans {p:Addr}{H H1 H2:Hp}(a:But p H H1)(b:But p H1 H2):But p H H2:=λc o n h=>b c o n (a c o n h)
theorem But.laid {p q:Addr}{H:Hp}{o:HO}(h:H q=none):But p H (upd H q o):=λb u n e=>by rw[aF (a9 e h)];exact e
theorem But.put {p:Addr}{H:Hp}{o:HO}:But p H (upd H p o):=λb u n e=>by rw[aF n];exact e
theorem But.same {p:Addr}{H H':Hp}(h:Same H H'):But p H H':=λb o _ e=>h b o e
theorem aU {H:Hp}{p:Addr}(h:H p=none)(o:HO):Same H (upd H p o):=λb u q=>by rw[aF (a9 q h)];exact q
noncomputable def SqF (K:ah)(H:Hp)(a:Addr)(xs:List V):Prop :=
 (∃o,H a=some (.frz o (.lst xs)))∨Ex3 λ(o:Obj) (its:Array Value) (n:Nat)=>K.lookup a=some o/\o.cls = .type "list" /\ o.dict=none/\o.data = .seq its n/\its.size<=aE/\Vals xs its.toList
theorem SqF.sq {K:ah}{H:Hp}{a:Addr}{xs:List V}(h:SqF K H a xs):SqL K H a xs:=by
 rcases h with⟨o,h⟩|h
 .exact .inl (.inr #[o,h])
 .exact .inr h
theorem SqF.of {K:ah}{H:Hp}{a:Addr}{xs:List V}(O:Only H)(h:SqL K H a xs):SqF K H a xs:=by
 rcases h with (h|⟨o,h⟩)|h
 .rcases O a with z|⟨o,ys,z⟩
  .rw[z] at h;cases h
  .rw[z] at h;cases h
 .exact .inl #[o,h]
 .exact .inr h
theorem SqF.keep {K:ah}{H H':Hp}{a:Addr}{xs:List V}(h:SqF K H a xs)(k:∀o u,H a=some (.frz o u)->H' a=some (.frz o u)):SqF K H' a xs:=by
 rcases h with⟨o,h⟩|h
 .exact .inl #[o,k _ _ h]
 .exact .inr h
structure Tk (K:ah)(H:Hp)(p:Addr)(k:Int):Prop where
 ex:Ex2 λa (ns:List Int)=>H p=some (.lst [.ref a,.int k])/\SqF K H a (ns.map V.int)/\ns.length<=63
 lo:0<=k
theorem Tk.ne {K:ah}{H:Hp}{p q:Addr}{k:Int}(T:Tk K H p k)(h:H q=none):p≠q:=by
 obtain⟨⟨a,ns,h1,_⟩,_⟩:=T;exact a9 h1 h
theorem Tk.same {K:ah}{H H':Hp}{p:Addr}{k:Int}(T:Tk K H p k)(h:Same H H'):Tk K H' p k:=by
 obtain⟨⟨a,ns,h1,h2,h3⟩,lo⟩:=T;exact#[#[a,ns,h p _ h1,h2.keep λo u z=>h _ _ z,h3],lo]
theorem Tk.other {K:ah}{H:Hp}{p q:Addr}{k:Int}{us vs:List V}(T:Tk K H p k)(hq:H q=some (.lst us))(n:p≠q):Tk K (upd H q (.lst vs)) p k:=by
 obtain⟨⟨a,ns,h1,h2,h3⟩,lo⟩:=T;exact#[#[a,ns,by rw[aF n];exact h1,h2.keep λo u z=>by rw[aF (cw z hq (by intro y;cases y))];exact z,h3],lo]
theorem Tk.begin {K:ah}{H:Hp}{p a:Addr}{ns:List Int}(hp:H p=none)(hS:SqF K H a (ns.map V.int))(h63:ns.length<=63):Tk K (upd H p (.lst [.ref a,.int 0])) p 0 :=
 #[#[a,ns,aB,hS.keep λo u z=>by rw[aF (a9 z hp)];exact z,h63],Int.le_refl 0]
noncomputable def Du (K:ah):Sp:=λvs H Q _=>Ex3 λp (k m:Int)=>vs=[.ref p,.int m]/\Tk K H p k/\k<=1000000/\0<m/\∀(r:Int) H',0<=r->r<m->But p H H'->Tk K H' p (k+1)->Q (.int r) H'
noncomputable def KW:Sp:=λvs H Q _=>∃t:Str,vs=[.str t]/\t.length<=1000/\∀H',Same H H'->Q (.bl (isName t)) H'
noncomputable def Ks:Sp:=λvs H Q _=>∃t:Str,vs=[.str t]/\t.length<=1000/\∀H',Same H H'->Q (.bl (isNumber t)) H'
noncomputable def FR:Sp:=λvs H Q _=>Ex2 λ(t:Str) (n:Int)=>vs=[.str t,.int n]/\t.length<=1000/\∀H',Same H H'->Q (.bl (isWhole t n)) H'
noncomputable def kn (K:ah):Sp:=λvs H Q _=>Ex2 λa (ns:List Int)=>vs=[.ref a]/\SqF K H a (ns.map V.int)/\ns.length<=63/\∀H',Q (.bl true) H'
noncomputable abbrev Ho:R2:=λx y H Q=>Ex2 λi j=>x = .str i/\y = .str j/\Q (.bl (!(lz j i 0 j.length 1).isEmpty)) H
theorem xy {t L:Str}{σ:L2.St}{H:Hp}{Q:VK}(hz:t.length<=aE)(q:∀p,H p=none->Q (.ref p) (upd H p (.lst ((t.cps.toList.map λc=>inS c L).map V.bl)))) :
  dP (Its t) H (cL 0) vT (tOp Ho (tVar 0) (tC (.str L))) 1 [] σ Q:=by
 refine E1 (λi ys H'=>H'=H/\i<=t.cps.size/\ys=((t.cps.toList.take i).map λc=>inS c L).map V.bl) #[0,ba _,0] ?_ ?_ ?_
 .rintro i ys H' ⟨_,hi,rfl⟩;rw[aw,aw,bQ];have e:t.length=t.cps.toList.length:=by simp[IQ]
  lk
 .rintro i c ys H' hc ⟨rfl,hi,rfl⟩;refine#[014055]
  .have hlt:i<t.cps.size:=(Tl.mp hc).1;exact hlt
  .have e:t.cps.toList[i]?=some c:=by simpa using hc
   rw[bU,e,bE,bE];rfl
 .rintro ys H' ⟨rfl,_,rfl⟩ p hp;have q':=q p hp;rw[bX (by simp)];exact q'
section
variable {P:aR}{w:World}{K:ah}{mg:Str->Option Value}{base:Heap}{f:Addr}{fd:cP}
theorem QP (T:Tx K mg):FnOk P w K mg base CX0 2 T.n6.f T.n6.d Es KW:=by
 refine T.n6.ok LV ?_;rintro f c A o s H vs Q E hr ⟨t,rfl,hz,q⟩ X;have hz':=small hz;refine#[_,(ag (aD (m3 (Mn jH jH ad (bh KI rfl T.cr cE (aa (pv 0) ab)) ad) (lL (bh (oO rfl) rfl T.gT boot_all (aa (cB (own:=["sign"]) (cap:=[]) rfl (bI.chk rfl rfl) .nil (xK (pv 0)) (λ_ _ _ _=>(aZ (i:=0) (show bG (["sign"]:List Str) by lia) rfl (.inl rfl))) (λ_ _ _ _=>cF) (λ_ _ _ _=>by exact (eY yq (pv 0) (dR (v:=.str GJ) rfl T.zJ #[1]) rfl))) ab)))))),5];refine#[1,t,0,hz',415];refine ite2 (λc1=>?_) (λc1=>?_)
 .refine#[415];refine ite2 (λc2=>?_) (λc2=>?_)
  .refine#[1,t,05];refine xy hz' λp hp=>?_;refine#[p,1,SqL.of aB,5];have q':=q (upd H p (.lst ((t.cps.toList.map λc=>inS c LL).map V.bl))) (aU hp _);have e:isName t=allIn t LL:=by
    unfold isName short;rw[c1,c2,lI,lI]
   rw[e] at q';exact q'
  .have q':=q H (Same.refl H);have e:isName t=false:=by
    unfold isName short;rw[lu.mpr c2,A1,kK]
   rw[e] at q';exact q'
 .refine#[6];have q':=q H (Same.refl H);have e:isName t=false:=by
   unfold isName short;rw[lu.mpr c1,kK,kK]
  rw[e] at q';exact q'
theorem J5 (T:Tx K mg):FnOk P w K mg base CX0 1 T.rY.f T.rY.d N9 FR:=by
 refine T.rY.ok ME ?_;rintro f c A o s H vs Q E hr ⟨t,n,rfl,hz,q⟩ X;have hz':=small hz;refine#[_,(ae (aJ (PW.pt (jd (fj (Ky jH jH ad (bh KI rfl T.cr cE (aa (pv 0) ab)) (pv 1))) (lO (fj (cN (bh (oO rfl) rfl T.gT boot_all (aa (cB (own:=["sign"]) (cap:=[]) rfl (bI.chk rfl rfl) .nil (xK (pv 0)) (λ_ _ _ _=>(aZ (i:=0) (show bG (["sign"]:List Str) by lia) rfl (.inl rfl))) (λ_ _ _ _=>cF) (λ_ _ _ _=>by exact (eY yq (pv 0) (dR (v:=.str C0) rfl T.AJ #[1]) rfl))) ab)))))))
   (ag (aD fK))
   aO)
  (ag (aD (wO (eY a6 (pv 0) ar (aH _)) (lL (eY fO (ao jT (pv 0) ad) ar (aH _))))))),5]
 refine#[1,t,0,hz',415];refine ite2 (λc1=>?_) (λc1=>?_)
 .refine#[1415];refine ite2 (λc2=>?_) (λc2=>?_)
  .refine iteT ?_;have q':=q H (Same.refl H);have c2':decide (((t.length:Nat):Int)<=n)=false:=(by simpa using c2);have e:isWhole t n=false:=by
    unfold isWhole short;rw[c2',A1,kK]
   rw[e] at q';exact q'
  .have c2':decide (((t.length:Nat):Int)<=n)=true:=by simpa using c2
   refine#[1,t,05];refine xy hz' λp hp=>?_;refine#[p,1,SqL.of aB,15];have S1:=aU hp (.lst ((t.cps.toList.map λc=>inS c FF).map V.bl));have q':=q _ S1;have e0:isWhole t n=(allIn t FF&&rM t):=by
    unfold isWhole short;rw[c1,c2',lI,lI]
   rw[e0] at q';refine ite2 (λc3=>?_) (λc3=>?_)
   .have c3':allIn t FF=false:=by simpa [allIn] using c3
    rw[c3',kK] at q';exact q'
   .have c3':allIn t FF=true:=by simpa [allIn] using c3
    rw[c3',lI] at q';refine#[1015];refine ite2 (λc4=>?_) (λc4=>?_)
    .have e:rM t=true:=by
      unfold rM;rw[c4,Pd]
     rw[e] at q';exact q'
    .refine#[1,t,4,hz',Fe (of_decide_eq_true c1),05];have e:rM t=(!decide (V.str #[(yA [t.cps.getD 0 0])]=V.str "0")):=by
      unfold rM;rw[lu.mpr c4,MB]
     rw[e] at q';exact q'
 .refine#[1,iteT (iteT ?_)];have q':=q H (Same.refl H);have e:isWhole t n=false:=by
   unfold isWhole short;rw[lu.mpr c1,kK,kK]
  rw[e] at q';exact q'
theorem Nw (T:Tx K mg):FnOk P w K mg base CX0 2 T.sk.f T.sk.d KY Ks:=by
 refine T.sk.ok Fi ?_;rintro f c A o s H vs Q E hr ⟨t,rfl,hz,q⟩ X;refine#[_,(ag (aD (T.rY.c (J5 T) hr (Ey T) (aa (pv 0) (aa ad ab))))),5];exact#[1,t,(3),0,hz,q]
end
section
seal PySem.wpAny
theorem Ls:∀c:Nat,c<123->97<=c->inS c LL=true:=by lia
theorem P5 {n:Str}(h:cC n):isName n=true:=by
 unfold isName short allIn;obtain⟨h1,h2,h3⟩:=h;rw[decide_eq_true (by lk),decide_eq_true (by lk),lI,lI,pM];intro b hb;obtain⟨c,hc,rfl⟩:=bT.mp hb;exact Ls c (by have:=h3 c hc;lk) (h3 c hc).1
theorem II:∀i:Nat,i<1000->isNumber (toString (i:Int):Str)=true:=by lia
theorem EY:∀i:Nat,i<1000->PySem.intText? (toString (i:Int):Str)=some (i:Int):=by lia
theorem g8 {f:Str}{v:V}{r:List (Str×V)}:fT f ((f,v)::r)=some v:=by rw[l8,beq_self_eq_true]
theorem cD {f g:Str}{v:V}{r:List (Str×V)}(h:¬ f=g):fT f ((g,v)::r)=fT f r:=by
 have e:(f==g)=false:=by simpa using h
 rw[l8,e]
theorem qx {f:Str}{v:V}:putF f v []=[(f,v)]:=rfl
theorem K7 {f:Str}{v u:V}{r:List (Str×V)}:putF f v ((f,u)::r)=(f,v)::r:=by
 show (if f=f then (f,v)::r else (f,u)::putF f v r)=_
 rw[if_pos rfl]
theorem m9 {f g:Str}{v u:V}{r:List (Str×V)}(h:¬ g=f):putF f v ((g,u)::r)=(g,u)::putF f v r:=by
 show (if g=f then (g,v)::r else (g,u)::putF f v r)=_
 rw[if_neg h]
noncomputable def wfs (l:Addr)(k:Int):List (Str×V):=[("words",.ref l),("place",.int k)]
theorem xI:¬ (("words":Str) = "place"):=by lia
theorem DJ:¬ (("place":Str) = "words"):=by lia
theorem Lv (l:Addr)(k:Int):(wfs l k).lookup ("words":Str)=some (.ref l):=g8
theorem zA (l:Addr)(k:Int):(wfs l k).lookup ("place":Str)=some (.int k):=(cD DJ).trans g8
theorem Gn (l:Addr)(k j:Int):putF "place" (.int j) (wfs l k)=wfs l j:=(m9 xI).trans (congrArg _ K7)
theorem Ms (l:Addr)(j:Int):putF "place" (.int j) (putF "words" (.ref l) [])=wfs l j:=(m9 xI).trans rfl
theorem Vb (l:Addr)(k:Int){m:Str}(h1:¬ m = "words")(h2:¬ m = "place"):(wfs l k).lookup m=none:=(cD h1).trans ((cD h2).trans rfl)
noncomputable def WAt (C:Addr)(H:Hp)(p:Addr)(ws:List Str)(k:Nat):Prop:=Ex2 λdx l=>H p=some (.ins C dx (wfs l (k:Int)))/\H l=some (.lst (ws.map V.str))
theorem WAt.at {C:Addr}{H H':Hp}{p:Addr}{ws:List Str}{k:Nat}(h:WAt C H p ws k)(s:Same H H'):WAt C H' p ws k:=by
 obtain⟨dx,l,h1,h2⟩:=h;exact#[dx,l,s _ _ h1,s _ _ h2]
theorem WAt.go {C:Addr}{H:Hp}{p dx l:Addr}{ws:List Str}{k j:Nat}(h1:H p=some (.ins C dx (wfs l (k:Int))))(h2:H l=some (.lst (ws.map V.str))):WAt C (upd H p (.ins C dx (wfs l (j:Int)))) p ws j:=by
 have n:l≠p:=cw h2 h1 (by intro z;cases z);exact#[dx,l,aB,by rw[aF n];exact h2]
theorem But.of_same {p:Addr}{H H1 H2:Hp}(a:But p H H1)(b:Same H1 H2):But p H H2:=a.trans (But.same b)
theorem But.new {p:Addr}{H H1:Hp}(b:But p H H1)(h:H p=none):Same H H1:=λc o e=>b c o (a9 e h) e
theorem F5 {ws:List Str}{k:Nat}{u:Str}(h:ws[k]?=some u):atI (ws.map V.str) (k:Int)=some (.str u):=aI (by rw[bH,h];rfl)
noncomputable def FL (C:Addr):Sp:=λvs H Q _=>Ex3 λp dx (t:Str)=>vs=[.ref p,.str t]/\H p=some (.ins C dx [])/\t.length<=1000/\∀H',WAt C H' p (eW t " ") 0->But p H H'->Q .non H'
noncomputable def JG (C:Addr):Sp:=λvs H Q _=>Ex4 λp (ws:List Str) (k:Nat) (u:Str)=>vs=[.ref p]/\WAt C H p ws k/\ws[k]?=some u/\∀H',WAt C H' p ws (k+1)->But p H H'->Q (.str u) H'
noncomputable def Da (C:Addr):Sp:=λvs H Q _=>Ex4 λp (ws:List Str) (k:Nat) (u:Str)=>vs=[.ref p]/\WAt C H p ws k/\ws[k]?=some u/\cC u/\∀H',WAt C H' p ws (k+1)->But p H H'->Q (.str u) H'
noncomputable def BR (C:Addr):Sp:=λvs H Q _=>Ex4 λp (ws:List Str) (k i:Nat)=>vs=[.ref p]/\WAt C H p ws k/\ws[k]?=some (toString (i:Int):Str)/\i<1000/\∀H',WAt C H' p ws (k+1)->But p H H'->Q (.int i) H'
noncomputable def HR (C:Addr):Sp:=λvs H Q _=>Ex2 λp (ws:List Str)=>vs=[.ref p]/\WAt C H p ws ws.length/\Q .non H
theorem wN (T:Tx K mg):FnOk P w K mg base CX0 2 T.lm.f T.lm.d NV (FL T.bP):=by
 refine T.lm.ok UF ?_;rintro f c A o s H vs Q E hr ⟨p,dx,t,rfl,hp,ht,q⟩ X;refine#[_,(ae (jj (pv 0) (bR eM Ly OO oM (pv 1) (aa ar ab)) rfl)
  (ag (jj (pv 0) ad rfl))),5]
 k_ne
 refine#[10,t,10,(by lia),(aV (M4 ht 2) (by decide)),λl hl=>?_];have npl:p≠l:=a9 hp hl;refine#[1,p,_,dx,1,(by rw[aF npl];exact hp),T.bN,T.mE,(by show 0<1000;decide),5];refine#[1,p,_,dx,1,aB,T.bN,T.lP,(by show 1<1000;decide),5];refine q _ #[dx,l,55] ?_
 .rw[aB,Ms];rfl
 .rw[aF npl.symm,aF npl.symm,aB]
 .exact (But.laid hl).trans (But.put.trans But.put)
theorem vX (T:Tx K mg):FnOk P w K mg base CX0 2 T.iJ.f T.iJ.d Ng (JG T.bP):=by
 refine T.iJ.ok Gc ?_;rintro f c A o s H vs Q E hr ⟨p,ws,k,u,rfl,⟨dx,l,h1,h2⟩,hu,q⟩ X;refine#[_,(ae (aJ (aL a6 (cc (pv 0) rfl) (bh cT rfl T.cr cE (aa (cc (pv 0) rfl) ab)) (aH _))
   (ag iI)
   aO)
  (ae (Lp (pv 0) ad Iv)
  (ag (aD (ao bC (cc (pv 0) rfl) (aN jF (cc (pv 0) rfl) ad)))))),5]
 have hk:k<ws.length:=(br.mp hu).1;have n:l≠p:=cw h2 h1 (by intro z;cases z)
 k_ne
 refine#[1,p,_,dx,_,1,h1,T.bN,T.lP,zA _ _,1,p,_,dx,_,1,h1,T.bN,T.mE,Lv _ _,l,1,.inl (SqL.of h2),015];refine ite2 (λc=>?_) (λc=>?_)
 .exfalso;have c':=of_decide_eq_true c;injection c' with c'
  rw[aw] at c';lk
 .refine#[1,p,_,dx,_,1,h1,T.bN,T.lP,zA _ _,4,dx,_,h1,(by show 2<1000;decide),5];rw[Gn];refine#[1,p,_,dx,_,1,aB,T.bN,T.mE,Lv _ _,1,p,_,dx,_,1,aB,T.bN,T.lP,zA _ _,4,l,_,4,SqL.of (by rw[aF n];exact h2),(by rw[Int.add_sub_cancel];exact F5 hu),5];exact q _ (WAt.go (j:=k+1) h1 h2) But.put
theorem PD (T:Tx K mg):FnOk P w K mg base CX0 2 T.lF.f T.lF.d Bn (HR T.bP):=by
 refine T.lF.ok UK ?_;rintro f c A o s H vs Q E hr ⟨p,ws,rfl,⟨dx,l,h1,h2⟩,q⟩ X;refine#[_,(ag (aJ (aL fP (cc (pv 0) rfl) (bh cT rfl T.cr cE (aa (cc (pv 0) rfl) ab)) (aH _))
   (ag iI)
   aO)),5]
 refine#[1,p,_,dx,_,1,h1,T.bN,T.lP,zA _ _,1,p,_,dx,_,1,h1,T.bN,T.mE,Lv _ _,l,1,.inl (SqL.of h2),415];refine ite2 (λc=>?_) (λc=>?_)
 .exfalso;have c':=of_decide_eq_true c;rw[aw] at c';lk
 .exact q
theorem Ac (T:Tx K mg):FnOk P w K mg base CX0 3 T.jt.f T.jt.d G4 (Da T.bP):=by
 refine T.jt.ok Qs ?_;rintro f c A o s H vs Q E hr ⟨p,ws,k,u,rfl,W,hu,hn,q⟩ X;refine#[_,(ae (aA (i:=1) Qs.nd rfl (.inl rfl) (cH (pv 0) T.bN T.iJ.M (vX T) hr (wX T) .nil bA))
  (ae (aJ (fj (cN (T.n6.c (QP T) hr (vN T) (aa (pv 1) ab))))
   (ag iI)
   aO)
  (ag (aD (pv 1))))),5]
 obtain⟨dx,l,h1,h2⟩:=id W
 k_ne
 refine#[1,p,dx,1,h1,2,p,ws,k,u,0,W,hu,λH1 W1 B1=>?_]
 k_ne
 refine#[1,u,0,(aV hn.2.1 (by decide)),λH2 S2=>?_];rw[P5 hn];refine#[6];exact#[1,q H2 (W1.at S2) (B1.of_same S2)]
theorem mG (T:Tx K mg):FnOk P w K mg base CX0 3 T.gy.f T.gy.d MZ (BR T.bP):=by
 refine T.gy.ok Rv ?_;rintro f c A o s H vs Q E hr ⟨p,ws,k,i,rfl,W,hu,hi,q⟩ X;refine#[_,(ae (aA (i:=1) Rv.nd rfl (.inl rfl) (cH (pv 0) T.bN T.iJ.M (vX T) hr (wX T) .nil bA))
  (ae (aJ (fj (cN (T.sk.c (Nw T) hr (Ga T) (aa (pv 1) ab))))
   (ag iI)
   aO)
  (ag (aD (bV Mi rfl T.gJ boot_int (aa (pv 1) ab)))))),5]
 obtain⟨dx,l,h1,h2⟩:=id W
 k_ne
 refine#[1,p,dx,1,h1,2,p,ws,k,1,W,hu,λH1 W1 B1=>?_];have hl:=j6 i hi
 k_ne
 refine#[11,(by lk),λH2 S2=>?_];rw[II i hi];refine#[6];exact#[1,_,1,EY i hi,(by lk),q H2 (W1.at S2) (B1.of_same S2)]
noncomputable def valV:Wv->V
 | .non=>.non
 | .name n=>.str n
 | .num i=>.int i
noncomputable def hfs (w:Str)(v:V)(t:Addr):List (Str×V):=[("word",.str w),("value",v),("parts",.ref t)]
theorem A7:¬ (("value":Str) = "word"):=by lia
theorem vW:¬ (("word":Str) = "value"):=by lia
theorem LR:¬ (("parts":Str) = "word"):=by lia
theorem GZ:¬ (("word":Str) = "parts"):=by lia
theorem LP:¬ (("parts":Str) = "value"):=by lia
theorem KB:¬ (("value":Str) = "parts"):=by lia
theorem UM (w:Str)(v:V)(t:Addr):(hfs w v t).lookup ("word":Str)=some (.str w):=g8
theorem AT (w:Str)(v:V)(t:Addr):(hfs w v t).lookup ("value":Str)=some v:=(cD A7).trans g8
theorem mW (w:Str)(v:V)(t:Addr):(hfs w v t).lookup ("parts":Str)=some (.ref t):=(cD LR).trans ((cD LP).trans g8)
theorem ES (w:Str)(v:V)(t:Addr):putF "parts" (.ref t) (putF "value" v (putF "word" (.str w) []))=hfs w v t:=by
 rw[qx,m9 vW,qx,m9 GZ,m9 KB,qx];rfl
theorem kS (w:Str)(v:V)(t:Addr){m:Str}(h1:¬ m = "word")(h2:¬ m = "value")(h3:¬ m = "parts"):(hfs w v t).lookup m=none:=(cD h1).trans ((cD h2).trans ((cD h3).trans rfl))
theorem Bg {C D dx dy t l:Addr}{w:Str}{v:V}{k:Int}:HO.ins D dx (hfs w v t)≠HO.ins C dy (wfs l k):=by
 intro z;injection z with _ _ z
 exact absurd (congrArg jA z) (by show ¬ (3=2);decide)
mutual
inductive IsW (D:Addr)(H:Hp):V->Wh->Prop where
 | mk {a dx t:Addr} {vs:List V} {w:Wh} (h1:H a=some (.ins D dx (hfs w.word (valV w.val) t))) (h2:H t=some (.tup vs)) (h3:IsWs D H vs w.parts):IsW D H (.ref a) w
inductive IsWs (D:Addr)(H:Hp):List V->List Wh->Prop where
 | nil:IsWs D H [] []
 | cons {v:V} {w:Wh} {vs:List V} {ws:List Wh}:IsW D H v w->IsWs D H vs ws->IsWs D H (v::vs) (w::ws)
end
mutual
theorem IsW.same {D:Addr}{H H':Hp}(s:Same H H'):∀{v:V} {w:Wh},IsW D H v w->IsW D H' v w
 | _,_,.mk h1 h2 h3=>.mk (s _ _ h1) (s _ _ h2) (h3.same s)
theorem IsWs.same {D:Addr}{H H':Hp}(s:Same H H'):∀{vs:List V} {ws:List Wh},IsWs D H vs ws->IsWs D H' vs ws
 | _,_,.nil=>.nil
 | _,_,.cons h t=>.cons (h.same s) (t.same s)
end
mutual
theorem IsW.but {D C p dy l:Addr}{k:Int}{H H':Hp}(b:But p H H')(hp:H p=some (.ins C dy (wfs l k))):∀{v:V} {w:Wh},IsW D H v w->IsW D H' v w
 | _,_,.mk h1 h2 h3=>.mk (b _ _ (cw h1 hp Bg) h1) (b _ _ (cw h2 hp (by intro z;cases z)) h2) (h3.but b hp)
theorem IsWs.but {D C p dy l:Addr}{k:Int}{H H':Hp}(b:But p H H')(hp:H p=some (.ins C dy (wfs l k))):∀{vs:List V} {ws:List Wh},IsWs D H vs ws->IsWs D H' vs ws
 | _,_,.nil=>.nil
 | _,_,.cons h t=>.cons (h.but b hp) (t.but b hp)
end
theorem IsWs.length {D:Addr}{H:Hp}:∀{vs:List V} {ws:List Wh},IsWs D H vs ws->vs.length=ws.length
 | _,_,.nil=>rfl
 | _,_,.cons _ t=>by rw[aK,aK,t.length]
theorem IsWs.split {D:Addr}{H:Hp}:∀{xs:List Wh} {vs:List V} {ys:List Wh},IsWs D H vs (xs++ys)->IsWs D H (vs.take xs.length) xs/\IsWs D H (vs.drop xs.length) ys
 | [],vs,ys,h=>#[by rw[iq,Fo];exact .nil,by rw[iq,Ag];exact h]
 | x::xs,_,ys,.cons h t=>by
  obtain⟨a,b⟩:=IsWs.split (xs:=xs) t;exact#[.cons h a,b]
theorem IsWs.get {D:Addr}{H:Hp}:∀{vs:List V} {ws:List Wh} {i:Nat} {v:V},IsWs D H vs ws->vs[i]?=some v->∃w,ws[i]?=some w/\IsW D H v w
 | _,_,_,_,.nil,e=>by simp at e
 | _,_,0,_,.cons h t,e=>by
  rw[lC] at e;cases e;exact#[1,h]
 | _,_,i+1,_,.cons h t,e=>by
  rw[dX] at e;obtain⟨w,h1,h2⟩:=t.get e;exact#[w,by rw[dX];exact h1,h2]
theorem JS (xs:List V)(n:Nat):cutV xs none (some (n:Int))=xs.take n:=by
 unfold cutV;rw[HT.vh,HT.pf,Ag,yX]
 by_cases h:n<=xs.length
 .rw[Nat.min_eq_left h]
 .rw[Nat.min_eq_right (by lk),bX (az _),bX (by lk)]
theorem Gp (xs:List V)(n:Nat):cutV xs (some (n:Int)) none=xs.drop n:=by
 unfold cutV;rw[HT.vh,HT.pf]
 by_cases h:n<=xs.length
 .rw[Nat.min_eq_left h,bX (by rw[jb];exact az _)]
 .rw[Nat.min_eq_right (by lk),lZ,Fo,List.drop_eq_nil_of_le (by lk)]
theorem RO (w:Wh):∀p∈w.parts,p.size<w.size:=by
 cases w<;>simp[Wh.parts,Wh.size]<;>lk
theorem mZ (w:Wh):w.parts.length<=2:=by
 cases w<;>simp[Wh.parts]
theorem yj (w:Wh):w.val.words.length<=1:=by
 cases w<;>simp[Wh.val,Wv.words]
theorem jg {w:Wh}(h:w.ok)(hs:w.size<=9):(aj " " w.words).length<=200:=by
 have a:=nz " " w.words;have b:=w.xZ;have c:=gY (l:=w.words.map (·.length)) (k:=8) (λx hx=>by
  obtain⟨u,hu,rfl⟩:=bT.mp hx;exact (Wh.vD h u hu).2.2)
 rw[aw] at c;have e:(" ":Str).length=1:=rfl;rw[e] at a;lk
theorem FS {w:Wh}(h:w.ok):∀u∈w.val.words,pA u:=by
 intro u hu;refine Wh.vD h u ?_;rw[w.zQ];exact bx _ (fL _ hu)
theorem Ed {w:Wh}(h:w.ok)(hs:w.size<=9):((w.word::(w.val.words++w.parts.map λp=>aj " " p.words)).map (·.length)).sum+(w.word::(w.val.words++w.parts.map λp=>aj " " p.words)).length*(" ":Str).length<=16777216:=by
 have c:=gY (l:=(w.word::(w.val.words++w.parts.map λp=>aj " " p.words)).map (·.length)) (k:=200) (λx hx=>by
  obtain⟨u,hu,rfl⟩:=bT.mp hx
  rcases aM.mp hu with e|e
  .rw[e];have:=(w.jz).2.2;lk
  .rcases bM.mp e with e|e
   .have:=(FS h u e).2.2;lk
   .obtain⟨p,hp,rfl⟩:=bT.mp e;exact jg (Wh.ni h p hp) (by have:=RO w p hp;lk))
 have n1:=mZ w;have n2:=yj w;have e:(" ":Str).length=1:=rfl;rw[e];rw[aw] at c;have l:(w.word::(w.val.words++w.parts.map λp=>aj " " p.words)).length=1+(w.val.words.length+w.parts.length):=by
  rw[aK,aS,aw];lk
 rw[l] at c ⊢;lk
theorem ng:∀i:Nat,i<1000->i.log2<1920:=by lia
theorem tP (w:Wh):qj w.word vp=some (.flat (.int (w.parts.length:Nat))):=by
 cases w<;>rfl
theorem Jh (w:Wh):KTD.inKeys w.word vp=true:=by
 cases w<;>rfl
noncomputable def LU (D:Addr):Sp:=λvs H Q _=>Ex5 λx dx t (u:Str) v=>vs=[.ref x,.str u,v,.ref t]/\H x=some (.ins D dx [])/\Q .non (upd H x (.ins D dx (hfs u v t)))
noncomputable def iQ (D:Addr)(n:Nat):Sp:=λvs H Q _=>Ex2 λv (w:Wh)=>vs=[v]/\IsW D H v w/\w.ok/\w.depth<=n/\w.size<=9/\∀H',Same H H'->Q (.str (aj " " w.words)) H'
theorem Iy (T:Tx K mg):FnOk P w K mg base CX0 2 T.oU.f T.oU.d GN (LU T.aT):=by
 refine T.oU.ok UB ?_;rintro f c A o s H vs Q E hr ⟨x,dx,t,u,v,rfl,hx,q⟩ X;refine#[_,(ae (jj (pv 0) (pv 1) rfl)
  (ae (jj (pv 0) (pv 2) rfl)
  (ag (jj (pv 0) (pv 3) rfl)))),5]
 k_ne
 refine#[11,x,_,dx,1,hx,T.cx,T.uK,(by show 0<1000;decide),5]
 k_ne
 refine#[11,x,_,dx,1,aB,T.cx,T.lE,(by show 1<1000;decide),5];refine#[11,x,_,dx,1,aB,T.cx,T.iy,(by rw[qx,m9 vW,qx];show 2<1000;decide),5];show Q .non _
 rw[kM,kM,ES];exact q
theorem Pa (T:Tx K mg){n:Nat}(zilb:FnOk P w K mg base CX0 (n+2) T.dY.f T.dY.d qy (iQ T.aT n)):FnOk P w K mg base CX0 (n+3) T.dY.f T.dY.d qy (iQ T.aT (n+1)):=by
 refine T.dY.ok Rx ?_;rintro f c A o s H vs Q E hr ⟨v,y,rfl,W,ok,hd,hs,q⟩ X;refine#[_,(ae (aA (i:=1) Rx.nd rfl (.inl rfl) (bj (aa (cc (pv 0) rfl) ab)))
  (ae (aJ (aL wR (cc (pv 0) rfl) gP (aH _))
   (ag (cz (bR cO fQ fC fJ (pv 1) (aa (bV mo rfl T.fc gK (aa (cc (pv 0) rfl) ab)) ab))))
   aO)
  (ae (cz (bR cO SX Qh yo (pv 1) (aa (cB (own:=["part"]) (cap:=[]) rfl (bI.chk rfl rfl) .nil (kC (cc (pv 0) rfl)) (λ_ _ _ _=>(aZ (i:=0) (show bG (["part"]:List Str) by lia) rfl (.inl rfl))) (λ_ _ _ _=>cF) (λ_ _ _ _=>by exact (cH (pv 0) T.cx T.dY.M zilb hr (qT T) .nil bA))) ab)))
  (ag (aD (bR eM gk gq im ar (aa (pv 1) ab))))))),5]
 cases W with
 | @mk a dx t ps _ h1 h2 h3 =>
 k_ne
 refine#[1,a,_,dx,8,sz1,λl hl=>?_];have nal:a≠l:=a9 h1 hl;have ntl:t≠l:=a9 h2 hl
 k_ne
 refine#[1,a,_,dx,_,1,(by rw[aF nal];exact h1),T.cx,T.lE,AT _ _ _,015];have S1:Same H (upd H l (.lst [.str y.word])):=aU hl _;refine ite2 (λc=>?g1) (λc=>?g2)
 case' g1 =>
  have nv:valV y.val ≠ .non:=by simpa using c
  have ev:∃u,y.val.words=[u]/\((valV y.val = .str u)∨∃i:Nat,i<1000/\valV y.val = .int i/\u=(toString (i:Int):Str)):=by
   cases y with
   | mark m=>exact#[m,0,.inl rfl]
   | force i=>exact#[1,.inr #[i,ok,00]]
   | _=>exact absurd rfl nv
  obtain⟨u,eu,hv⟩:=ev;have rd:∀H0 (Q':VK),Q' (.str u) H0->rStrAny [valV y.val] H0 Q':=by
   intro H0 Q' z;unfold rStrAny
   rcases hv with e|⟨i,hi,e,rfl⟩
   .exact .inl #[u,by rw[e],z]
   .exact .inr #[i,by rw[e],(by rw[mM];exact ng i hi),z]
  refine#[1,.inl #[0,_,SqL.of aB],1,a,_,dx,_,valV y.val,0,(by rw[aF nal];exact h1),T.cx,T.lE,AT _ _ _,5];show rStrAny [valV y.val] _ _
  refine rd _ _ ?_;refine#[l,4,aB,(by show 1<aE;decide),5];rw[kM];have e2:upd H l (.lst ([.str y.word]++[.str u])) l=some (.lst ((y.word::y.val.words).map V.str)):=by rw[aB,eu];rfl
  have S2:Same H (upd H l (.lst ([.str y.word]++[.str u]))):=aU hl _;generalize upd H l (.lst ([.str y.word]++[.str u]))=H2 at *
 case' g2 =>
  have nv:valV y.val = .non:=by simpa using c
  have eu:y.val.words=[]:=by
   cases y with
   | mark m=>exact absurd nv (by intro z;cases z)
   | force i=>exact absurd nv (by intro z;cases z)
   | _=>rfl
  have e2:upd H l (.lst [.str y.word]) l=some (.lst ((y.word::y.val.words).map V.str)):=by rw[aB,eu];rfl
  have S2:=S1;clear S1;generalize upd H l (.lst [.str y.word])=H2 at *
 all_goals
  k_ne
  refine#[1,.inl #[0,_,SqL.of e2],1,a,_,dx,_,1,S2 _ _ h1,T.cx,T.iy,mW _ _ _,t,0,#[_,SqT.of (S2 _ _ h2)],5];refine mL (xs:=ps) (λi ys H'=>Same H2 H'/\i<=ps.length/\ys=(y.parts.take i).map λp=>V.str (aj " " p.words)) (λi ys H' z=>SqT.of (z.1 _ _ (S2 _ _ h2))) #[Same.refl _,ba _,0] ?_ ?_ ?_
  .rintro i ys H' ⟨_,_,rfl⟩;rw[aw,bQ];have:=mZ y;exact small (by lk)
  .rintro i x ys H' hx ⟨S3,hi,rfl⟩;obtain⟨p,hp,hw⟩:=h3.get hx;have hm:p∈y.parts:=bq hp;have hw':=hw.same (S2.trans S3);cases hw' with
   | @mk a' dx' t' ps' _ k1 k2 k3 =>
   refine#[01,a',dx',1,k1,kS _ _ _ (by lia) (by lia) (by lia),.ref a',p,0,.mk k1 k2 k3,Wh.ni ok p hm,55,λH4 S4=>#[S3.trans S4,55]]
   .have:=y.Q5 p hm;lk
   .have:=RO y p hm;lk
   .exact (br.mp hx).1
   .rw[bU,hp,bE];rfl
  .rintro ys H' ⟨S3,_,rfl⟩ b hb;have e3:=S3 _ _ e2;have nlb:l≠b:=a9 e3 hb;have hlen:=h3.length;have hpl:=mZ y;have hvl:=yj y;rw[bX (by lk)];refine#[l,b,4,(by rw[aF nlb];exact e3),aB,55]
   .rw[aw,aw,aK];exact small (by lk)
   .refine#[01," ",l,(y.word::(y.val.words++y.parts.map λp=>aj " " p.words)),00,SqL.of ?_,Ed ok hs,5]
    .rw[aB];simp[Function.comp_def]
    .have S4:Same H' (upd H' b (.lst (y.parts.map λp=>V.str (aj " " p.words)))):=aU hb _;rw[F0];refine q _ λc o e=>?_;have ncl:c≠l:=a9 e hl;rw[aF ncl];exact S4 _ _ (S3 _ _ (S2 _ _ e))
theorem KJ (T:Tx K mg):FnOk P w K mg base CX0 2 T.dY.f T.dY.d qy (iQ T.aT 0):=by
 have no:∀vs H Q E,¬ iQ T.aT 0 vs H Q E:=λvs H Q E h=>by
  obtain⟨v,y,_,_,_,hd,_⟩:=h;have:1<=y.depth:=by cases y<;>simp[Wh.depth]
  lk
 exact#[λvs H Q E h=>absurd h (no vs H Q E),λA outer s H args us vs Q E _ _ _ _ h=>absurd h (no vs H Q E)]
theorem se (T:Tx K mg):∀n:Nat,FnOk P w K mg base CX0 (n+2) T.dY.f T.dY.d qy (iQ T.aT n)
 | 0=>KJ T
 | n+1=>Pa T (se T n)
noncomputable def TkAt (H:Hp)(l:Addr)(fl:List (Str×Wv)):Prop:=∃as:List Addr,H l=some (.lst (as.map V.ref))/\as.length=fl.length/\∀(i:Nat) a (x:Str×Wv),as[i]?=some a->fl[i]?=some x->H a=some (.tup [.str x.1,valV x.2])
theorem TkAt.same {H H':Hp}{l:Addr}{fl:List (Str×Wv)}(h:TkAt H l fl)(s:Same H H'):TkAt H' l fl:=by
 obtain⟨as,h1,h2,h3⟩:=h;exact#[as,s _ _ h1,h2,λi a x e1 e2=>s _ _ (h3 i a x e1 e2)]
theorem TkAt.but {H H':Hp}{l p C dy wl:Addr}{k:Int}{fl:List (Str×Wv)}(h:TkAt H l fl)(b:But p H H')(hp:H p=some (.ins C dy (wfs wl k))):TkAt H' l fl:=by
 obtain⟨as,h1,h2,h3⟩:=h;exact#[as,b _ _ (cw h1 hp (by intro z;cases z)) h1,h2,λi a x e1 e2=>b _ _ (cw (h3 i a x e1 e2) hp (by intro z;cases z)) (h3 i a x e1 e2)]
theorem TkAt.snoc {H:Hp}{l a:Addr}{fl:List (Str×Wv)}{x:Str×Wv}(h:TkAt H l fl)(ha:H a=some (.tup [.str x.1,valV x.2])){as:List Addr}(hl:H l=some (.lst (as.map V.ref))):TkAt (upd H l (.lst (as.map V.ref++[.ref a]))) l (fl++[x]):=by
 obtain⟨as',h1,h2,h3⟩:=h;have e:as'=as:=by
  rw[h1] at hl;injection hl with hl
  injection hl with hl
  exact List.map_inj_right (λx y z=>by injection z) |>.mp hl
 subst e;refine#[as'++[a],55,λi b y e1 e2=>?_]
 .rw[aB,bE];rfl
 .rw[aS,aS,h2];rfl
 .by_cases hi:i<as'.length
  .rw[iU hi] at e1;rw[iU (by lk)] at e2;have z:=h3 i b y e1 e2;rw[aF (cw z h1 (by intro z;cases z))];exact z
  .have hi2:i<(as'++[a]).length:=(br.mp e1).1;rw[aS,fH] at hi2;have ei:i=as'.length:=(by lk);rw[eh (by lk),ei,lZ] at e1;rw[eh (by lk),ei,h2,lZ] at e2;cases e1;cases e2;rw[aF (cw ha h1 (by intro z;cases z))];exact ha
noncomputable def EG (D:Addr):Sp:=λvs H Q _=>Ex2 λl (y:Wh)=>vs=[.ref l]/\TkAt H l y.flat/\y.size<=9/\∀v H',Same H H'->IsW D H' v y->Q v H'
noncomputable def spTV (C:Addr):Sp:=λvs H Q _=>Ex5 λp (ws rest:List Str) (k:Nat) (y:Wh)=>vs=[.ref p,.str y.word]/\WAt C H p ws k/\y.ok/\ws.drop k=y.val.words++rest/\∀H',WAt C H' p ws (k+y.val.words.length)->But p H H'->Q (valV y.val) H'
noncomputable def spTW (C D:Addr):Sp:=λvs H Q _=>Ex5 λp (ws rest:List Str) (k:Nat) (y:Wh)=>vs=[.ref p]/\WAt C H p ws k/\y.ok/\y.size<=9/\ws.drop k=y.words++rest/\∀v H',WAt C H' p ws (k+y.words.length)->But p H H'->IsW D H' v y->Q v H'
theorem cK {ws rest:List Str}{k:Nat}{u:Str}(h:ws.drop k=u::rest):ws[k]?=some u/\ws.drop (k+1)=rest:=by
 constructor
 .have e:(ws.drop k)[0]?=some u:=by rw[h];rfl
  rw[qG] at e
  simpa using e
 .rw[<- u0,h];rfl
theorem MG (T:Tx K mg):FnOk P w K mg base CX0 4 T.ql.f T.ql.d ML (spTV T.bP):=by
 refine T.ql.ok Fn ?_;rintro f c A o s H vs Q E hr ⟨p,ws,rest,k,y,rfl,W,ok,hd,q⟩ X;refine#[_,(ae (aJ (aL a6 (pv 1) ar (aH _))
   (ag (aD (cH (pv 0) T.bN T.jt.M (Ac T) hr (AX T) .nil bA)))
   aO)
  (ae (aJ (aL a6 (pv 1) ar (aH _))
   (ag (aD (cH (pv 0) T.bN T.gy.M (mG T) hr (oR T) .nil bA)))
   aO)
  (ag (aD gP)))),5]
 obtain⟨dx,l,h1,h2⟩:=id W
 k_ne
 refine#[1015];cases y with
 | mark n =>
  refine iteT ?_;refine#[1,p,dx,1,h1,2,p,ws,k,n,0,W,(cK hd).1,ok,λH1 W1 B1=>?_];exact q H1 W1 B1
 | force i =>
  refine iteF ?_;refine#[101,iteT ?_];refine#[1,p,dx,1,h1,2,p,ws,k,i,0,W,(cK hd).1,ok,λH1 W1 B1=>?_];exact q H1 W1 B1
 | _=>exact iteF #[101,iteF (q H W (But.refl p H))]
theorem JF (T:Tx K mg)(kb:K.In base):FnOk P w K mg base CX0 4 T.qu.f T.qu.d oQ (EG T.aT):=by
 refine T.qu.ok qF ?_;rintro f c A o s H vs Q E hr ⟨l,y,rfl,⟨as,h1,h2,h3⟩,hs,q⟩ X;refine#[_,(ae (aA (i:=1) qF.nd rfl (.inl rfl) (bj ab))
  (ae (gG eZ rfl (Mu rfl T.zX (aa (pv 0) ab)) (iN (n:=2) rfl (dC (aZ (i:=2) qF.nd rfl (.inl rfl)) (dC (aZ (i:=3) qF.nd rfl (.inl rfl)) mR)))
   (ae (aA (i:=4) qF.nd rfl (.inl rfl) (ao (nF (OI T kb)) (dR (v:=.ref T.mQ) rfl T.qf rfl) (pv 2)))
   (ag (aA (i:=1) qF.nd rfl (.inl rfl) (aN hU (bj (aa (jN T.oU.M (Iy T) hr rfl T.oV (Va T) .nil bA (aa (pv 2) (aa (pv 3) (aa (bV fF rfl T.cG db (aa (de ox (pv 1) dq (cY (pv 4))) ab)) ab)))) ab)) (de ox (pv 1) (cY (pv 4)) dq))))))
  (ag (aD (ao bC (pv 1) ad))))),5]
 k_ne
 refine#[sz0,λw0 hw0=>?_];have S0:Same H (upd H w0 (.lst [])):=aU hw0 _;have fl:=y.ze;have len:(as.map V.ref).length=y.size:=by rw[aw,h2,fl]
 k_ne
 refine#[1,l,as.map V.ref,0,SqL.of (S0 _ _ h1),5];refine F7 (xs:=as.map V.ref) (λi σ H'=>Ex5 λwl vs o2 o3 o4=>σ=[some (.ref l),some (.ref wl),o2,o3,o4]/\Same H H'/\H' wl=some (.lst vs)/\IsWs T.aT H' vs (pend y (y.size-i))) #[w0,[],_,_,1,S0,aB,by rw[yX,om];exact .nil] (λi σ H' _ #[_,_,_,_,_,_,S',_]=>SqL.of (S' _ _ h1)) ?_ ?_
 .rintro i x σ H' hi hx ⟨wl,vs,o2,o3,o4,rfl,S1,e1,W1⟩;rw[len] at hi hx;have hj:y.size-1-i<y.size:=by lk
  obtain⟨z,t,ez⟩:=nA hj;have ef:=uG ez;rw[bH] at hx;cases ea:as[y.size-1-i]? with
  | none =>
   rw[ea] at hx;cases hx
  | some a =>
  rw[ea] at hx;cases hx;have ha:=S1 _ _ (h3 _ _ _ ea ef);have ep:pend y (y.size-i)=z.parts++t:=by
   rw[show y.size-i=(y.size-1-i)+1 by lk];show step (pend y (y.size-1-i))=_
   rw[ez];rfl
  rw[ep] at W1;obtain⟨Wp,Wt⟩:=W1.split;have vl:=W1.length;rw[aS] at vl;have szp:=Kb y (y.size-i);have lez:(z.parts++t).length<=gh (z.parts++t):=by
   have go:∀l:List Wh,l.length<=gh l:=by
    intro l
    induction l with
    | nil=>exact ba _
    | cons x r ih =>
     have e2:gh (x::r)=x.size+gh r:=(by simp[gh]);have:=x.size_pos;rw[e2,aK];lk
   exact go _
  rw[ep] at szp;rw[aS] at lez;refine#[a,1,SqT.of ha,0,_,145]
  k_ne
  refine#[14,tP z,5];refine#[11111,wl,vs,0,SqL.of e1,λs1 hs1=>?_];have S2:=aU hs1 (.lst (cutV vs none (some ((z.parts.length:Nat):Int))));refine#[s1,1,.inl #[SqL.of aB,λtp htp=>?_]];have S3:=aU htp (.tup (cutV vs none (some ((z.parts.length:Nat):Int))));intro x dx nx ndx nex;refine#[x,dx,tp,z.word,valV z.val,0,aB,05];rw[kM];have etp:=a9 (b:=x) (aB (H:=upd H' s1 (.lst (cutV vs none (some ((z.parts.length:Nat):Int))))) (a:=tp) (o:=.tup (cutV vs none (some ((z.parts.length:Nat):Int))))) nx;have etd:=a9 (b:=dx) (aB (H:=upd H' s1 (.lst (cutV vs none (some ((z.parts.length:Nat):Int))))) (a:=tp) (o:=.tup (cutV vs none (some ((z.parts.length:Nat):Int))))) ndx;generalize hH3:upd (upd H' s1 (.lst (cutV vs none (some ((z.parts.length:Nat):Int))))) tp (.tup (cutV vs none (some ((z.parts.length:Nat):Int))))=H3 at *;have e3:H3 tp=some (.tup (vs.take z.parts.length)):=by rw[<- hH3,aB,JS]
  have S4:Same H3 (upd (upd H3 dx (.own x)) x (.ins T.aT dx (hfs z.word (valV z.val) tp))):=λb o e=>by
   rw[aF (a9 e nx),aF (a9 e ndx)];exact e
  have e4:upd (upd H3 dx (.own x)) x (.ins T.aT dx (hfs z.word (valV z.val) tp)) x=some (.ins T.aT dx (hfs z.word (valV z.val) tp)):=aB;generalize upd (upd H3 dx (.own x)) x (.ins T.aT dx (hfs z.word (valV z.val) tp))=H4 at *;have S14:Same H' H4:=S2.trans (S3.trans S4);refine#[sz1,λq1 hq1=>?_];have S5:=aU hq1 (.lst [.ref x]);refine#[111,wl,vs,0,SqL.of (S5 _ _ (S14 _ _ e1)),λs2 hs2=>?_];have e5:upd H4 q1 (.lst [.ref x]) q1=some (.lst [.ref x]):=aB;generalize upd H4 q1 (.lst [.ref x])=H5 at *;have S6:=aU hs2 (.lst (cutV vs (some ((z.parts.length:Nat):Int)) none));have e6:upd H5 s2 (.lst (cutV vs (some ((z.parts.length:Nat):Int)) none)) s2=some (.lst (vs.drop z.parts.length)):=by rw[aB,Gp]
  generalize upd H5 s2 (.lst (cutV vs (some ((z.parts.length:Nat):Int)) none))=H6 at *;refine#[q1,s2,4,S6 _ _ e5,e6,5,λr hr'=>?_]
  .rw[jb,fH];exact small (by lk)
  have S7:=aU hr' (.lst ([.ref x]++vs.drop z.parts.length));have S37:Same H3 (upd H6 r (.lst ([.ref x]++vs.drop z.parts.length))):=S4.trans (S5.trans (S6.trans S7));have S17:Same H' (upd H6 r (.lst ([.ref x]++vs.drop z.parts.length))):=S14.trans (S5.trans (S6.trans S7));refine#[r,_,_,_,1,S1.trans S17,aB,5];rw[show y.size-(i+1)=y.size-1-i by lk,ez];exact .cons (.mk ((S5.trans (S6.trans S7)) _ _ e4) (S37 _ _ e3) (Wp.same S17)) (Wt.same S17)
 .rintro σ H' ⟨wl,vs,o2,o3,o4,rfl,S1,e1,W1⟩;rw[len,lZ] at W1;have W1':IsWs T.aT H' vs [y]:=W1;cases W1' with
  | cons hv ht =>
  cases ht;exact#[1,wl,_,4,SqL.of e1,0,q _ H' S1 hv]
theorem GX {y z:Wh}{t:List Wh}{j:Nat}(e:pend y j=z::t):pend y (j+1)=z.parts++t:=by
 show step (pend y j)=_
 rw[e];rfl
theorem NU {y:Wh}{j:Nat}{x:Str×Wv}(h:y.flat[j]?=some x):y.flat.take j++[x]=y.flat.take (j+1):=by
 rw[bU,h];rfl
theorem ue (T:Tx K mg)(kb:K.In base):FnOk P w K mg base CX0 5 T.i9.f T.i9.d Jt (spTW T.bP T.aT):=by
 refine T.i9.ok wz ?_;rintro f c A o s H vs Q E hr ⟨p,ws,rest,k,y,rfl,W,ok,hs,hd,q⟩ X;refine#[_,(ae (aA (i:=1) wz.nd rfl (.inl rfl) (bj ab))
  (ae (aA (i:=2) wz.nd rfl (.inl rfl) ad)
  (ae (nI eZ (aL gR (pv 2) ad (aH _))
   (ae (aJ (aL a6 (bh cT rfl T.cr cE (aa (pv 1) ab)) (dR (v:=.int 9) rfl T.yR #[1]) (aH _))
    (ag iI)
    aO)
   (ae (aA (i:=3) wz.nd rfl (.inl rfl) (cH (pv 0) T.bN T.iJ.M (vX T).up hr (wX T) .nil bA))
   (ae (aJ (aL (KS (OI T kb)) (pv 3) (dR (v:=.ref T.mQ) rfl T.qf rfl) rfl)
    (ag iI)
    aO)
   (ae (cz (bR cO fQ fC fJ (pv 1) (aa (bc (aa (pv 3) (aa (T.ql.c (MG T) hr (Ib T) (aa (pv 0) (aa (pv 3) ab))) ab))) ab)))
   (ag (Ft (i:=2) wz.nd rfl (.inl rfl) (aN jF (ao (nF (OI T kb)) (dR (v:=.ref T.mQ) rfl T.qf rfl) (pv 3)) ad) Lq)))))))
  (ag (aD (T.qu.c (JF T kb) hr (OW T) (aa (pv 1) ab))))))),5]
 k_ne
 refine#[sz0,λl hl=>?_];have fl:=y.ze
 k_ne
 refine#[λm σ H'=>Ex3 λ(j k':Nat) o=>m=y.size-j/\σ=[some (.ref p),some (.ref l),some (.int ((pend y j).length:Nat)),o]/\j<=y.size/\But p H H'/\WAt T.bP H' p ws k'/\ws.drop k'=i6 (pend y j)++rest/\k'+(i6 (pend y j)).length=k+y.words.length/\TkAt H' l (y.flat.take j),#[_,(0),k,none,00,ba _,But.laid hl,W.at (aU hl _),55,[],aB,05],5]
 .show _=i6 [y]++rest;rw[Tn];exact hd
 .show _+(i6 [y]).length=_;rw[Tn]
 .intro i a x e;simp at e
 rintro m σ H' ⟨j,k',o,rfl,rfl,hj,B,W',hd',hk',TA⟩;refine#[1415];obtain⟨as,t1,t2,t3⟩:=id TA;rw[bQ] at t2;refine ite2 (λc=>?_) (λc=>?_)
 .have c':(0:Int)<(((pend y j).length:Nat):Int):=of_decide_eq_true c;have hjl:j<y.size:=by
   rcases jw j y.size with z|z
   .exact z
   .have e:j=y.size:=by lk
    rw[e,om] at c';exact absurd c' (by simp)
  obtain⟨z,t,ez⟩:=nA hjl;have zok:z.ok:=t0 ok j z (by rw[ez];exact bb);have ef:=uG ez;rw[ez,Nf] at hd' hk';have es:=GX ez;obtain⟨u1,u2⟩:=cK (rest:=(z.val.words++i6 (z.parts++t))++rest) hd';have u2':ws.drop (k'+1)=z.val.words++(i6 (z.parts++t)++rest):=by rw[u2,fV]
  have kws:k'<ws.length:=(br.mp u1).1;refine#[_,fun σ' H' n=>n,5]
  k_ne
  refine#[1,l,1,.inl (SqL.of t1),015];refine ite2 (λc1=>?_) (λc1=>?_)
  .exfalso;have c1':=of_decide_eq_true c1;injection c1' with c1'
   rw[aw] at c1';lk
  obtain⟨dx,wl,w1,w2⟩:=id W';refine#[1,p,dx,1,w1,2,p,ws,k',z.word,0,W',u1,λH1 W1 B1=>?_]
  k_ne
  refine#[11015];rw[Jh];refine iteF ?_;have TA1:=TA.but B1 w1;obtain⟨dx1,wl1,w11,w12⟩:=id W1;have t11:=B1 _ _ (cw t1 w1 (by intro z;cases z)) t1;refine#[1,.inl #[0,_,SqL.of t11],111,p,ws,_,k'+1,z,0,W1,zok,u2',λH2 W2 B2=>?_];have TA2:=TA1.but B2 w11;have t12:=B2 _ _ (cw t11 w11 (by intro z;cases z)) t11;refine#[sz2,λa ha=>?_];have S3:=aU ha (.tup [.str z.word,valV z.val]);have TA3:=TA2.same S3;have t13:=S3 _ _ t12;have e3:upd H2 a (.tup [.str z.word,valV z.val]) a=some (.tup [.str z.word,valV z.val]):=aB;generalize upd H2 a (.tup [.str z.word,valV z.val])=H3 at *;have W3:=W2.at S3;obtain⟨dx3,wl3,w31,w32⟩:=id W3;have npl:p≠l:=cw w31 t13 (by intro z;cases z);have nwl:wl3≠l:=by
   intro z;rw[z,t13] at w32;injection w32 with w32
   injection w32 with w32
   cases ws with
   | nil=>exact absurd kws (by simp)
   | cons u r =>
    cases as with
    | nil=>simp at w32
    | cons b r'=>simp at w32
  refine#[l,4,t13,55]
  .rw[aw];exact df (by lk)
  have TA4:=TA3.snoc (x:=(z.word,z.val)) e3 t13;rw[NU ef] at TA4;have W4:WAt T.bP (upd H3 l (.lst (as.map V.ref++[.ref a]))) p ws (k'+1+z.val.words.length):=#[dx3,wl3,by rw[aF npl];exact w31,by rw[aF nwl];exact w32];have B4:But p H (upd H3 l (.lst (as.map V.ref++[.ref a]))):=λb o n e=>by
   rw[aF (a9 e hl)];exact S3 _ _ (B2 _ _ n (B1 _ _ n (B _ _ n e)))
  have em:(((pend y j).length:Nat):Int)+(((z.parts.length:Nat):Int)-1)=(((pend y (j+1)).length:Nat):Int):=by
   rw[ez,es,aK,aS];lk
  refine#[114,tP z,445];refine#[y.size-(j+1),3,j+1,k'+1+z.val.words.length,1,(by rw[<- em];rfl),hjl,B4,W4,55,TA4]
  .rw[es,<- u0,u2',zT]
  .rw[es];rw[aK,aS] at hk';lk
 .have c':¬ (0:Int)<(((pend y j).length:Nat):Int):=of_decide_eq_false (lu.mpr c);have ej:j=y.size:=by
   rcases jw j y.size with z|z
   .obtain⟨z,t,ez⟩:=nA z;rw[ez,aK] at c';lk
   .omega
  subst ej;rw[om] at hk';rw[bX (by lk)] at TA;have hk2:k'=k+y.words.length:=hk';subst hk2;refine#[1,l,y,0,TA,hs,λv H2 S2 IW=>?_];exact q v H2 (W'.at S2) (B.of_same S2) IW
theorem nr {u:Str}:∀{ss:List Str},u∈ss->inV (.str u) (ss.map V.str)=true
 | x::ss,h=>by
  show (eqV (.str x) (.str u)||inV (.str u) (ss.map V.str))=true
  rcases aM.mp h with rfl|h
  .have e:eqV (.str u) (.str u)=true:=by show (u==u)=true;simp
   rw[e];rfl
  .rw[nr h,Bool.or_true]
theorem vG:∀ss:List Str,(ss.map V.str).all jx=true
 | []=>rfl
 | _::ss=>vG ss
noncomputable def Kn (K:ah)(H:Hp)(t:Addr)(ss:List Str):Prop:=TupK K t ss∨H t=some (.tup (ss.map V.str))
theorem Kn.sq {K:ah}{H H':Hp}{t p C dx l:Addr}{k:Int}{ss:List Str}(h:Kn K H t ss)(hz:ss.length<=1000)(hp:H p=some (.ins C dx (wfs l k)))(b:But p H H'):SqT K H' t (ss.map V.str):=by
 rcases h with h|h
 .exact h.sq hz H'
 .exact SqT.of (b _ _ (cw h hp (by intro z;cases z)) h)
theorem oH {ws xs:List Str}{k:Nat}(h:ws.drop k=xs)(hx:xs≠[]):k+xs.length=ws.length:=by
 have e:=congrArg jA h;rw[jb] at e;have:xs.length≠0:=λz=>hx (List.eq_nil_of_length_eq_zero z);lk
theorem Aq {ws xs ys:List Str}{k:Nat}(h:ws.drop k=xs++ys):ws.drop (k+xs.length)=ys:=by
 rw[<- u0,h,zT]
noncomputable def amtV:Wv->V
 | .non=>.int 0
 | .name n=>.str n
 | .num i=>.int i
noncomputable def HvAt (D:Addr)(H:Hp)(x:V):Hv->Prop
 | .v y=>x=valV y
 | .w y=>IsW D H x y
noncomputable def jC (D:Addr)(H:Hp)(v:V)(d:Deed):Prop:=Ex2 λa x=>v = .ref a/\H a=some (.tup [.str d.each,.str d.kind,amtV d.amt,x])/\IsW D H x d.whom
noncomputable def fU (D:Addr)(H:Hp)(v:V):Rule->Prop
 | .hold w y z=>Ex3 λa x u=>v = .ref a/\H a=some (.tup [.str "hold",.str w,x,u])/\HvAt D H x y/\IsW D H u z
 | .wen k y d=>Ex3 λa x u=>v = .ref a/\H a=some (.tup [.str "when",.str k,x,u])/\IsW D H x y/\jC D H u d
 | .instead k y w z=>Ex2 λa x=>v = .ref a/\H a=some (.tup [.str "instead",.str k,x,.str w,valV z])/\IsW D H x y
 | .may c d=>Ex2 λa u=>v = .ref a/\H a=some (.tup [.str "may",.int c,u])/\jC D H u d
theorem HvAt.same {D:Addr}{H H':Hp}(s:Same H H'){x:V}:∀{y:Hv},HvAt D H x y->HvAt D H' x y
 | .v _,h=>h
 | .w _,h=>IsW.same s h
theorem HvAt.but {D C p dy l:Addr}{k:Int}{H H':Hp}(b:But p H H')(hp:H p=some (.ins C dy (wfs l k))){x:V}:∀{y:Hv},HvAt D H x y->HvAt D H' x y
 | .v _,h=>h
 | .w _,h=>IsW.but b hp h
theorem jC.same {D:Addr}{H H':Hp}(s:Same H H'){v:V}{d:Deed}(h:jC D H v d):jC D H' v d:=by
 obtain⟨a,x,e,h1,h2⟩:=h;exact#[a,x,e,s _ _ h1,h2.same s]
theorem fU.same {D:Addr}{H H':Hp}(s:Same H H'){v:V}:∀{r:Rule},fU D H v r->fU D H' v r
 | .hold w y z,⟨a,x,u,e,h,p,q⟩=>#[a,x,u,e,s _ _ h,p.same s,q.same s]
 | .wen k y d,⟨a,x,u,e,h,p,q⟩=>#[a,x,u,e,s _ _ h,p.same s,q.same s]
 | .instead k y w z,⟨a,x,e,h,p⟩=>#[a,x,e,s _ _ h,p.same s]
 | .may c d,⟨a,u,e,h,p⟩=>#[a,u,e,s _ _ h,p.same s]
theorem C2 {k:Str}(h:k∈cQ):qj k nh=some (.tup ((turns k).map PyData.str)):=by
 simp only[cQ,aM,dN,or_false] at h
 rcases h with rfl|rfl|rfl|rfl|rfl|rfl|rfl<;>rfl
theorem Fx (k:Str):(turns k).length<=1000:=by
 unfold turns
 repeat' split
 all_goals decide
noncomputable def FA (K:ah)(C:Addr):Sp:=λvs H Q _=>Ex6 λp t (ws:List Str) (k:Nat) (u:Str) (ss:List Str)=>vs=[.ref p,.ref t]/\WAt C H p ws k/\ws[k]?=some u/\u∈ss/\ss.length<=1000/\Kn K H t ss/\∀H',WAt C H' p ws (k+1)->But p H H'->Q (.str u) H'
noncomputable def GT (C:Addr):Sp:=λvs H Q _=>Ex6 λp (ws rest:List Str) (k:Nat) (u:Str) (v:Wv)=>vs=[.ref p,.str u]/\WAt C H p ws k/\eX u v/\ws.drop k=v.words++rest/\∀H',WAt C H' p ws (k+v.words.length)->But p H H'->Q (amtV v) H'
noncomputable def Ih (C:Addr):Sp:=λvs H Q _=>Ex5 λp (ws:List Str) (k:Nat) (u:Str) (v:Wv)=>vs=[.ref p,.str u]/\WAt C H p ws k/\TurnOk u v/\ws.drop k=v.words/\∀H',WAt C H' p ws (k+v.words.length)->But p H H'->Q (valV v) H'
noncomputable def Ic (C D:Addr):Sp:=λvs H Q _=>Ex6 λp (ws rest:List Str) (k:Nat) (u:Str) (v:Hv)=>vs=[.ref p,.str u]/\WAt C H p ws k/\cj u v/\ws.drop k=v.words++rest/\∀x H',WAt C H' p ws (k+v.words.length)->But p H H'->HvAt D H' x v->Q x H'
noncomputable def FV (C D:Addr):Sp:=λvs H Q _=>Ex4 λp (ws:List Str) (k:Nat) (d:Deed)=>vs=[.ref p]/\WAt C H p ws k/\d.ok/\ws.drop k=d.words/\∀v H',WAt C H' p ws ws.length->But p H H'->jC D H' v d->Q v H'
noncomputable def j4 (C D:Addr)(f:Rule->Prop):Sp:=λvs H Q _=>Ex4 λp (ws:List Str) (k:Nat) (r:Rule)=>vs=[.ref p]/\f r/\WAt C H p ws k/\r.ok/\ws.drop k=r.words.drop 1/\∀v H',WAt C H' p ws ws.length->But p H H'->fU D H' v r->Q v H'
theorem iS (T:Tx K mg):FnOk P w K mg base CX0 3 T.eE.f T.eE.d No (FA K T.bP):=by
 refine T.eE.ok QQ ?_;rintro f c A o s H vs Q E hr ⟨p,t,ws,k,u,ss,rfl,W,hu,hm,hz,hk,q⟩ X;refine#[_,(ae (aA (i:=2) QQ.nd rfl (.inl rfl) (cH (pv 0) T.bN T.iJ.M (vX T) hr (wX T) .nil bA))
  (ae (aJ (aL E7 (pv 2) (pv 1) rfl)
   (ag iI)
   aO)
  (ag (aD (pv 2))))),5]
 obtain⟨dx,l,h1,h2⟩:=id W
 k_ne
 refine#[1,p,dx,1,h1,2,p,ws,k,u,0,W,hu,λH1 W1 B1=>?_]
 k_ne
 refine#[11,t,1,.inr (hk.sq hz h1 B1),0,vG ss,15];have e:(if true=true then !inV (.str u) (ss.map V.str) else inV (.str u) (ss.map V.str))=false:=by rw[nr hm];rfl
 refine ite2 (λc=>absurd (e.symm.trans c) cf) (λ_=>?_);exact#[1,q H1 W1 B1]
theorem UD (T:Tx K mg):FnOk P w K mg base CX0 4 T.su.f T.su.d HX (GT T.bP):=by
 refine T.su.ok UZ ?_;rintro f c A o s H vs Q E hr ⟨p,ws,rest,k,u,v,rfl,W,ok,hd,q⟩ X;refine#[_,(ae (aJ (aL a6 (pv 1) ar (aH _))
   (ag (aD ad))
   aO)
  (ae (aJ (aL kz (pv 1) (bc (aa ar (aa ar ab))) rfl)
   (ag (aD (cH (pv 0) T.bN T.jt.M (Ac T) hr (AX T) .nil bA)))
   aO)
  (ag (aD (cH (pv 0) T.bN T.gy.M (mG T) hr (oR T) .nil bA))))),5]
 obtain⟨dx,l,h1,h2⟩:=id W;have nam:∀{n:Str},cC n->ws.drop k=n::rest->∀{a:Addr} {o:HO},H a=none->(∀H',WAt T.bP H' p ws (k+1)->But p H H'->Q (.str n) H')->Ex4 λp' (ws':List Str) (k':Nat) (u':Str)=>[V.ref p]=[.ref p']/\WAt T.bP (upd H a o) p' ws' k'/\ws'[k']?=some u'/\cC u'/\∀H',WAt T.bP H' p' ws' (k'+1)->But p' (upd H a o) H'->Q (.str u') H' :=
  λ{_} hn e {a o} ha q=>#[p,ws,k,1,W.at (aU ha o),(cK e).1,hn,λH1 W1 B1=>q H1 W1 ((But.laid ha).trans B1)]
 have num:∀{i:Nat},i<1000->ws.drop k=(toString (i:Int):Str)::rest->∀{a:Addr} {o:HO},H a=none->(∀H',WAt T.bP H' p ws (k+1)->But p H H'->Q (.int i) H')->Ex4 λp' (ws':List Str) (k' i':Nat)=>[V.ref p]=[.ref p']/\WAt T.bP (upd H a o) p' ws' k'/\ws'[k']?=some (toString (i':Int):Str)/\i'<1000/\∀H',WAt T.bP H' p' ws' (k'+1)->But p' (upd H a o) H'->Q (.int i') H' :=
  λ{_} hn e {a o} ha q=>#[p,ws,k,1,W.at (aU ha o),(cK e).1,hn,λH1 W1 B1=>q H1 W1 ((But.laid ha).trans B1)]
 have at1:∀{a:Addr} {o:HO},H a=none->upd H a o p=some (.ins T.bP dx (wfs l (k:Int))):=λ{a o} ha=>by rw[aF (a9 h1 ha)];exact h1
 k_ne
 refine#[1015];cases ok with
 | leave=>exact iteT (q H W (But.refl p H))
 | gain hn =>
  refine iteF #[1,sz2,λa ha=>#[a,1,.inr (SqT.of aB),001,iteT ?_]];exact#[1,p,dx,1,at1 ha,2,nam hn hd ha q]
 | lack hn =>
  refine iteF #[1,sz2,λa ha=>#[a,1,.inr (SqT.of aB),001,iteT ?_]];exact#[1,p,dx,1,at1 ha,2,nam hn hd ha q]
 | hurt hn =>
  refine iteF #[1,sz2,λa ha=>#[a,1,.inr (SqT.of aB),006]];exact#[1,p,dx,1,at1 ha,2,num hn hd ha q]
 | lose hn =>
  refine iteF #[1,sz2,λa ha=>#[a,1,.inr (SqT.of aB),006]];exact#[1,p,dx,1,at1 ha,2,num hn hd ha q]
 | score hn =>
  refine iteF #[1,sz2,λa ha=>#[a,1,.inr (SqT.of aB),006]];exact#[1,p,dx,1,at1 ha,2,num hn hd ha q]
 | draw hn =>
  refine iteF #[1,sz2,λa ha=>#[a,1,.inr (SqT.of aB),006]];exact#[1,p,dx,1,at1 ha,2,num hn hd ha q]
theorem UV (T:Tx K mg):FnOk P w K mg base CX0 4 T.qR.f T.qR.d K9 (Ih T.bP):=by
 refine T.qR.ok UN ?_;rintro f c A o s H vs Q E hr ⟨p,ws,k,u,v,rfl,W,ok,hd,q⟩ X;refine#[_,(ae (aJ (aL kz (pv 1) (bc (aa ar (aa ar ab))) rfl)
   (ag (aD (cH (pv 0) T.bN T.gy.M (mG T) hr (oR T) .nil bA)))
   aO)
  (ae (aJ (aL a6 (pv 1) ar (aH _))
   (ag (aD (eP (pv 0) T.bN T.eE.M (iS T) hr (i8 T) .nil bA (aa (dR (v:=.ref T.zy) rfl T.zK rfl) ab))))
   aO)
  (ag (aD gP)))),5]
 obtain⟨dx,l,h1,h2⟩:=id W
 k_ne
 refine#[1,sz2,λa ha=>#[a,1,.inr (SqT.of aB),0015]];have S:=aU ha (.tup [.str "less",.str "more"]);have W1:=W.at S;have at1:upd H a (.tup [.str "less",.str "more"]) p=some (.ins T.bP dx (wfs l (k:Int))):=by rw[aF (a9 h1 ha)];exact h1
 have B:But p H (upd H a (.tup [.str "less",.str "more"])):=But.laid ha;cases ok with
 | none=>exact iteF #[101,iteF (q _ W1 B)]
 | here=>exact iteF #[101,iteF (q _ W1 B)]
 | less hn =>
  refine iteT ?_;exact#[1,p,dx,1,at1,2,p,ws,k,1,W1,(cK hd).1,hn,λH2 W2 B2=>q H2 W2 (B.trans B2)]
 | more hn =>
  refine iteT ?_;exact#[1,p,dx,1,at1,2,p,ws,k,1,W1,(cK hd).1,hn,λH2 W2 B2=>q H2 W2 (B.trans B2)]
 | as hn =>
  refine iteF #[101,iteT ?_];exact#[1,p,dx,1,at1,2,p,_,ws,k,_,zM,0,W1,(cK hd).1,hn,(by decide),.inl T.zF,λH2 W2 B2=>q H2 W2 (B.trans B2)]
theorem Vh (T:Tx K mg)(kb:K.In base):FnOk P w K mg base CX0 6 T.sr.f T.sr.d IP (Ic T.bP T.aT):=by
 refine T.sr.ok Vj ?_;rintro f c A o s H vs Q E hr ⟨p,ws,rest,k,u,v,rfl,W,ok,hd,q⟩ X;refine#[_,(ae (aJ (aL kz (pv 1) (bc (aa ar (aa ar ab))) rfl)
   (ag (aD (cH (pv 0) T.bN T.jt.M (Ac T).up hr (AX T) .nil bA)))
   aO)
  (ae (aJ (aL kz (pv 1) (bc (aa ar (aa ar (aa ar ab)))) rfl)
   (ag (aD (cH (pv 0) T.bN T.gy.M (mG T).up hr (oR T) .nil bA)))
   aO)
  (ae (aJ (aL a6 (pv 1) ar (aH _))
   (ag (aD (T.i9.c (ue T kb) hr (u5 T) (aa (pv 0) ab))))
   aO)
  (ag (aD gP))))),5]
 obtain⟨dx,l,h1,h2⟩:=id W
 k_ne
 refine#[1,sz2,λa ha=>#[a,1,.inr (SqT.of aB),0015]];have S:=aU ha (.tup [.str "gain",.str "lack"]);have W1:=W.at S;have B:But p H (upd H a (.tup [.str "gain",.str "lack"])):=But.laid ha;generalize upd H a (.tup [.str "gain",.str "lack"])=H0 at *;obtain⟨dx1,l1,at1,_⟩:=id W1;have two:∀{b:Addr},H0 b=none->WAt T.bP (upd H0 b (.tup [.str "be",.str "more",.str "less"])) p ws k/\But p H (upd H0 b (.tup [.str "be",.str "more",.str "less"])):=λ{b} hb=>#[W1.at (aU hb _),B.trans (But.laid hb)];cases ok with
 | gain hn =>
  exact iteT #[1,p,dx1,1,at1,2,p,ws,k,1,W1,(cK hd).1,hn,λH2 W2 B2=>q _ H2 W2 (B.trans B2) rfl]
 | lack hn =>
  exact iteT #[1,p,dx1,1,at1,2,p,ws,k,1,W1,(cK hd).1,hn,λH2 W2 B2=>q _ H2 W2 (B.trans B2) rfl]
 | be hn =>
  refine iteF #[1,sz3,λb hb=>#[b,1,.inr (SqT.of aB),001,iteT ?_]];obtain⟨W3,B3⟩:=two hb;obtain⟨dx3,l3,at3,_⟩:=id W3;exact#[1,p,dx3,1,at3,2,p,ws,k,1,W3,(cK hd).1,hn,λH2 W2 B2=>q _ H2 W2 (B3.trans B2) rfl]
 | more hn =>
  refine iteF #[1,sz3,λb hb=>#[b,1,.inr (SqT.of aB),001,iteT ?_]];obtain⟨W3,B3⟩:=two hb;obtain⟨dx3,l3,at3,_⟩:=id W3;exact#[1,p,dx3,1,at3,2,p,ws,k,1,W3,(cK hd).1,hn,λH2 W2 B2=>q _ H2 W2 (B3.trans B2) rfl]
 | less hn =>
  refine iteF #[1,sz3,λb hb=>#[b,1,.inr (SqT.of aB),001,iteT ?_]];obtain⟨W3,B3⟩:=two hb;obtain⟨dx3,l3,at3,_⟩:=id W3;exact#[1,p,dx3,1,at3,2,p,ws,k,1,W3,(cK hd).1,hn,λH2 W2 B2=>q _ H2 W2 (B3.trans B2) rfl]
 | per hn =>
  refine iteF #[1,sz3,λb hb=>#[b,1,.inr (SqT.of aB),006]];obtain⟨W3,B3⟩:=two hb;exact#[101,iteT #[1,p,ws,rest,k,1,W3,hn.1,hn.2,hd,λx H2 W2 B2 IW=>q x H2 W2 (B3.trans B2) IW]]
 | mute =>
  refine iteF #[1,sz3,λb hb=>#[b,1,.inr (SqT.of aB),006]];obtain⟨W3,B3⟩:=two hb;exact#[101,iteF (q _ _ W3 B3 rfl)]
 | steal =>
  refine iteF #[1,sz3,λb hb=>#[b,1,.inr (SqT.of aB),006]];obtain⟨W3,B3⟩:=two hb;exact#[101,iteF (q _ _ W3 B3 rfl)]
theorem SK (T:Tx K mg)(kb:K.In base):FnOk P w K mg base CX0 6 T.pY.f T.pY.d LB (FV T.bP T.aT):=by
 refine T.pY.ok wj ?_;rintro f c A o s H vs Q E hr ⟨p,ws,k,d,rfl,W,ok,hd,q⟩ X;refine#[_,(ae (aA (i:=1) wj.nd rfl (.inl rfl) (eP (pv 0) T.bN T.eE.M (iS T).up hr (i8 T) .nil bA (aa (bc (aa ar (aa ar ab))) ab)))
  (ae (aA (i:=2) wj.nd rfl (.inl rfl) (eP (pv 0) T.bN T.eE.M (iS T).up hr (i8 T) .nil bA (aa (dR (v:=.ref T.xA) rfl T.xu rfl) ab)))
  (ae (aA (i:=3) wj.nd rfl (.inl rfl) (T.su.c (UD T).up hr (Nu T) (aa (pv 0) (aa (pv 2) ab))))
  (ae (aA (i:=4) wj.nd rfl (.inl rfl) (T.i9.c (ue T kb) hr (u5 T) (aa (pv 0) ab)))
  (ag (aD (bc (aa (pv 1) (aa (pv 2) (aa (pv 3) (aa (pv 4) ab))))))))))),5]
 obtain⟨dx,l,h1,h2⟩:=id W;obtain⟨u1,hd1⟩:=cK (show ws.drop k=d.each::(d.kind::(d.amt.words++d.whom.words)) from hd);obtain⟨u2,hd2⟩:=cK hd1;have hd3:=Aq hd2
 k_ne
 refine#[1,p,dx,1,h1,2,sz2,λa ha=>?_];refine#[p,a,ws,k,_,gI,0,W.at (aU ha _),u1,ok.each,(by decide),.inr aB,λH1 W1 B1=>?_];have B1':But p H H1:=(But.laid ha).trans B1;obtain⟨dx1,l1,at1,_⟩:=id W1
 k_ne
 refine#[1,p,dx1,1,at1,2,p,_,ws,k+1,_,cQ,0,W1,u2,ok.amt.kind,(by decide),.inl T.xn,λH2 W2 B2=>?_]
 k_ne
 refine#[11,p,ws,_,k+1+1,_,d.amt,0,W2,ok.amt,hd2,λH3 W3 B3=>?_]
 k_ne
 refine#[1,p,ws,[],_,d.whom,0,W3,ok.whom.1,ok.whom.2,(by rw[ci];exact hd3),λv H4 W4 B4 IW=>?_];refine#[1111,sz4,λb hb=>?_];have en:=oH hd3 d.whom.dw;rw[en] at W4;exact q _ _ (W4.at (aU hb _)) ((B1'.trans (B2.trans (B3.trans B4))).trans (But.laid hb)) #[b,v,0,aB,IW.same (aU hb _)]
noncomputable def De:Rule->Prop
 | .hold _ _ _=>True
 | _=>False
noncomputable def Dr:Rule->Prop
 | .wen _ _ _=>True
 | _=>False
noncomputable def DP:Rule->Prop
 | .instead _ _ _ _=>True
 | _=>False
noncomputable def LF:Rule->Prop
 | .may _ _=>True
 | _=>False
theorem Oz (T:Tx K mg)(kb:K.In base):FnOk P w K mg base CX0 7 T.qg.f T.qg.d LG (j4 T.bP T.aT De):=by
 refine T.qg.ok AK ?_;rintro f c A o s H vs Q E hr ⟨p,ws,k,r,rfl,is,W,ok,hd,q⟩ X;refine#[_,(ae (aA (i:=1) AK.nd rfl (.inl rfl) (eP (pv 0) T.bN T.eE.M (iS T).up hr (i8 T) .nil bA (aa (dR (v:=.ref T.zL) rfl T.Aa rfl) ab)))
  (ae (aA (i:=2) AK.nd rfl (.inl rfl) (T.sr.c (Vh T kb) hr (U9 T) (aa (pv 0) (aa (pv 1) ab))))
  (ae (aA (i:=3) AK.nd rfl (.inl rfl) (T.i9.c (ue T kb).up hr (u5 T) (aa (pv 0) ab)))
  (ag (aD (bc (aa ar (aa (pv 1) (aa (pv 2) (aa (pv 3) ab)))))))))),5]
 cases r with
 | hold u v y =>
  obtain⟨dx,l,h1,h2⟩:=id W;obtain⟨ok1,ok2⟩:=ok;obtain⟨u1,hd1⟩:=cK (show ws.drop k=u::(v.words++y.words) from hd);have hd2:=Aq hd1
  k_ne
  refine#[1,p,dx,1,h1,2,p,_,ws,k,_,changes,0,W,u1,ok1.word,(by decide),.inl T.y7,λH1 W1 B1=>?_]
  k_ne
  refine#[11,p,ws,y.words,k+1,_,v,0,W1,ok1,hd1,λx H2 W2 B2 HV=>?_];obtain⟨dx2,l2,at2,_⟩:=id W2
  k_ne
  refine#[1,p,ws,[],_,y,0,W2,ok2.1,ok2.2,(by rw[ci];exact hd2),λz H3 W3 B3 IW=>?_];refine#[111,sz4,λb hb=>?_];rw[oH hd2 y.dw] at W3;exact q _ _ (W3.at (aU hb _)) ((B1.trans (B2.trans B3)).trans (But.laid hb)) #[b,x,z,0,aB,(HV.but B3 at2).same (aU hb _),IW.same (aU hb _)]
 | wen=>exact is.elim
 | instead=>exact is.elim
 | may=>exact is.elim
theorem GL (T:Tx K mg)(kb:K.In base):FnOk P w K mg base CX0 7 T.rq.f T.rq.d GQ (j4 T.bP T.aT Dr):=by
 refine T.rq.ok Bu ?_;rintro f c A o s H vs Q E hr ⟨p,ws,k,r,rfl,is,W,ok,hd,q⟩ X;refine#[_,(ae (aA (i:=1) Bu.nd rfl (.inl rfl) (eP (pv 0) T.bN T.eE.M (iS T).up hr (i8 T) .nil bA (aa (dR (v:=.ref T.AZ) rfl T.Ap rfl) ab)))
  (ae (aA (i:=2) Bu.nd rfl (.inl rfl) (T.i9.c (ue T kb).up hr (u5 T) (aa (pv 0) ab)))
  (ae (cz (eP (pv 0) T.bN T.eE.M (iS T).up hr (i8 T) .nil bA (aa (bc (aa ar ab)) ab)))
  (ag (aD (bc (aa ar (aa (pv 1) (aa (pv 2) (aa (T.pY.c (SK T kb) hr (Sl T) (aa (pv 0) ab)) ab)))))))))),5]
 cases r with
 | wen u y d =>
  obtain⟨dx,l,h1,h2⟩:=id W;obtain⟨ok1,ok2,ok3⟩:=ok;obtain⟨u1,hd1⟩:=cK (show ws.drop k=u::(y.words++("do":Str)::d.words) from hd);have hd2:=Aq hd1;obtain⟨u3,hd3⟩:=cK hd2
  k_ne
  refine#[1,p,dx,1,h1,2,p,_,ws,k,_,nN,0,W,u1,ok1,(by decide),.inl T.zY,λH1 W1 B1=>?_]
  k_ne
  refine#[1,p,ws,_,k+1,y,0,W1,ok2.1,ok2.2,hd1,λx H2 W2 B2 IW=>?_];obtain⟨dx2,l2,at2,_⟩:=id W2
  k_ne
  refine#[1,p,dx2,1,at2,2,sz1,λa ha=>?_];refine#[p,a,ws,_,_,["do"],0,W2.at (aU ha _),u3,aX.mpr rfl,(by decide),.inr aB,λH3 W3 B3=>?_];have B3':But p H2 H3:=(But.laid ha).trans B3;obtain⟨dx3,l3,at3,_⟩:=id W3;refine#[111,p,ws,_,d,0,W3,ok3,hd3,λz H4 W4 B4 ID=>?_];refine#[sz4,λb hb=>?_];exact q _ _ (W4.at (aU hb _)) ((B1.trans (B2.trans (B3'.trans B4))).trans (But.laid hb)) #[b,x,z,0,aB,((IW.but B3' at2).but B4 at3).same (aU hb _),ID.same (aU hb _)]
 | hold=>exact is.elim
 | instead=>exact is.elim
 | may=>exact is.elim
theorem Ux (T:Tx K mg)(kb:K.In base):FnOk P w K mg base CX0 6 T.qZ.f T.qZ.d Op (j4 T.bP T.aT DP):=by
 refine T.qZ.ok zW ?_;rintro f c A o s H vs Q E hr ⟨p,ws,k,r,rfl,is,W,ok,hd,q⟩ X;refine#[_,(ae (aA (i:=1) zW.nd rfl (.inl rfl) (eP (pv 0) T.bN T.eE.M (iS T).up hr (i8 T) .nil bA (aa (dR (v:=.ref T.xA) rfl T.xu rfl) ab)))
  (ae (aA (i:=2) zW.nd rfl (.inl rfl) (T.i9.c (ue T kb) hr (u5 T) (aa (pv 0) ab)))
  (ae (cz (eP (pv 0) T.bN T.eE.M (iS T).up hr (i8 T) .nil bA (aa (bc (aa ar ab)) ab)))
  (ae (aA (i:=3) zW.nd rfl (.inl rfl) (eP (pv 0) T.bN T.eE.M (iS T).up hr (i8 T) .nil bA (aa (ao (MS rfl T.km) (dR (v:=.ref T.jY) rfl T.kJ rfl) (pv 1)) ab)))
  (ag (aD (bc (aa ar (aa (pv 1) (aa (pv 2) (aa (pv 3) (aa (T.qR.c (UV T).up hr (UG T) (aa (pv 0) (aa (pv 3) ab))) ab)))))))))))),5]
 cases r with
 | instead u y t v =>
  obtain⟨dx,l,h1,h2⟩:=id W;obtain⟨ok1,ok2,ok3,ok4⟩:=ok;obtain⟨u1,hd1⟩:=cK (show ws.drop k=u::(y.words++("do":Str)::t::v.words) from hd);have hd2:=Aq hd1;obtain⟨u3,hd3⟩:=cK hd2;obtain⟨u4,hd4⟩:=cK hd3
  k_ne
  refine#[1,p,dx,1,h1,2,p,_,ws,k,_,cQ,0,W,u1,ok1,(by decide),.inl T.xn,λH1 W1 B1=>?_]
  k_ne
  refine#[1,p,ws,_,k+1,y,0,W1,ok2.1,ok2.2,hd1,λx H2 W2 B2 IW=>?_];obtain⟨dx2,l2,at2,_⟩:=id W2
  k_ne
  refine#[1,p,dx2,1,at2,2,sz1,λa ha=>?_];refine#[p,a,ws,_,_,["do"],0,W2.at (aU ha _),u3,aX.mpr rfl,(by decide),.inr aB,λH3 W3 B3=>?_];have B3':But p H2 H3:=(But.laid ha).trans B3;obtain⟨dx3,l3,at3,_⟩:=id W3
  k_ne
  refine#[1,p,dx3,1,at3,214,C2 ok1,λb hb=>?_];refine#[p,b,ws,_,_,turns u,0,W3,u4,ok3,Fx u,.inl hb,λH4 W4 B4=>?_];obtain⟨dx4,l4,at4,_⟩:=id W4;refine#[11111,p,ws,_,_,v,0,W4,ok4,hd4,λH5 W5 B5=>?_];refine#[sz5,λb hb=>?_];have en:k+1+y.words.length+1+1+v.words.length=ws.length:=by
   have:=oH hd3 (dS _ _);rw[aK] at this;lk
  rw[en] at W5;exact q _ _ (W5.at (aU hb _)) ((B1.trans (B2.trans (B3'.trans (B4.trans B5)))).trans (But.laid hb)) #[b,x,0,aB,(((IW.but B3' at2).but B4 at3).but B5 at4).same (aU hb _)]
 | hold=>exact is.elim
 | wen=>exact is.elim
 | may=>exact is.elim
theorem Fq (T:Tx K mg)(kb:K.In base):FnOk P w K mg base CX0 7 T.qt.f T.qt.d Dj (j4 T.bP T.aT LF):=by
 refine T.qt.ok TD ?_;rintro f c A o s H vs Q E hr ⟨p,ws,k,r,rfl,is,W,ok,hd,q⟩ X;refine#[_,(ae (aA (i:=1) TD.nd rfl (.inl rfl) (cH (pv 0) T.bN T.gy.M (mG T).up hr (oR T) .nil bA))
  (ae (cz (eP (pv 0) T.bN T.eE.M (iS T).up hr (i8 T) .nil bA (aa (bc (aa ar ab)) ab)))
  (ag (aD (bc (aa ar (aa (pv 1) (aa (T.pY.c (SK T kb) hr (Sl T) (aa (pv 0) ab)) ab)))))))),5]
 cases r with
 | may c d =>
  obtain⟨dx,l,h1,h2⟩:=id W;obtain⟨ok1,ok2⟩:=ok;obtain⟨u1,hd1⟩:=cK (show ws.drop k=(toString (c:Int):Str)::("do":Str)::d.words from hd);obtain⟨u3,hd3⟩:=cK hd1
  k_ne
  refine#[1,p,dx,1,h1,2,p,ws,k,c,0,W,u1,ok1,λH2 W2 B2=>?_];obtain⟨dx2,l2,at2,_⟩:=id W2
  k_ne
  refine#[1,p,dx2,1,at2,2,sz1,λa ha=>?_];refine#[p,a,ws,_,_,["do"],0,W2.at (aU ha _),u3,aX.mpr rfl,(by decide),.inr aB,λH3 W3 B3=>?_];have B3':But p H2 H3:=(But.laid ha).trans B3;refine#[11,p,ws,_,d,0,W3,ok2,hd3,λz H4 W4 B4 ID=>?_];refine#[sz3,λb hb=>?_];exact q _ _ (W4.at (aU hb _)) ((B2.trans (B3'.trans B4)).trans (But.laid hb)) #[b,z,0,aB,ID.same (aU hb _)]
 | hold=>exact is.elim
 | wen=>exact is.elim
 | instead=>exact is.elim
noncomputable def nB:Rule->Str
 | .hold _ _ _=>"hold"
 | .wen _ _ _=>"when"
 | .instead _ _ _ _=>"instead"
 | .may _ _=>"may"
theorem Ei (r:Rule):r.words=(nB r)::r.words.drop 1:=by cases r<;>rfl
theorem DM (r:Rule):(nB r)∈sorts:=by
 cases r with
 | hold=>exact (by decide:("hold":Str)∈sorts)
 | wen=>exact (by decide:("when":Str)∈sorts)
 | instead=>exact (by decide:("instead":Str)∈sorts)
 | may=>exact (by decide:("may":Str)∈sorts)
theorem iX (v:Wv):v.words.length<=1:=by cases v<;>simp[Wv.words]
theorem ix {y:Wh}(h:plain y):y.words.length<=18:=by
 have a:=y.xZ;have b:=h.2;lk
theorem vM {u:Str}{v:Hv}(h:cj u v):v.words.length<=18:=by
 cases v with
 | v x=>exact aV (iX x) (by decide)
 | w y =>
  cases h with
  | per h=>exact ix h
theorem mH {d:Deed}(h:d.ok):d.words.length<=21:=by
 have a:=ix h.whom;have b:=iX d.amt;have e:d.words.length=d.amt.words.length+d.whom.words.length+1+1:=by
  show (d.each::d.kind::(d.amt.words++d.whom.words)).length=_
  rw[aK,aK,aS]
 lk
theorem GU {r:Rule}(h:r.ok):r.words.length<=50:=by
 cases r with
 | hold u v y =>
  have a:=ix h.2;have b:=vM h.1;show (("hold":Str)::u::(v.words++y.words)).length<=50
  rw[aK,aK,aS];lk
 | wen u y d =>
  have a:=ix h.2.1;have b:=mH h.2.2;show (("when":Str)::u::(y.words++("do":Str)::d.words)).length<=50
  rw[aK,aK,aS,aK];lk
 | instead u y t v =>
  have a:=ix h.2.1;have b:=iX v;show (("instead":Str)::u::(y.words++("do":Str)::t::v.words)).length<=50
  rw[aK,aK,aS,aK,aK];lk
 | may c d =>
  have b:=mH h.2;show (("may":Str)::(toString (c:Int):Str)::("do":Str)::d.words).length<=50
  rw[aK,aK,aK];lk
theorem text_len {ws:List Str}(h:∀u∈ws,pA u):(aj " " ws).length<=9*ws.length:=by
 have a:=nz " " ws;have c:=gY (l:=ws.map (·.length)) (k:=8) (λx hx=>by
  obtain⟨u,hu,rfl⟩:=bT.mp hx;exact (h u hu).2.2)
 rw[aw] at c;have e:(" ":Str).length=1:=rfl;rw[e] at a;lk
theorem AA {r:Rule}(h:r.ok):(bF r).length<=450:=by
 have a:=text_len (ws:=r.words) (λu hu=>(Rule.fZ h u hu).1);have b:=GU h;show (aj " " r.words).length<=450
 lk
noncomputable def LD (D:Addr):Sp:=λvs H Q _=>∃r:Rule,vs=[.str (bF r)]/\r.ok/\∀v H',Same H H'->fU D H' v r->Q v H'
theorem DC (T:Tx K mg)(kb:K.In base):FnOk P w K mg base CX0 8 T.qi.f T.qi.d Ii (LD T.aT):=by
 refine T.qi.ok mS ?_;rintro f c A o s H vs Q E hr ⟨r,rfl,ok,q⟩ X;refine#[_,(ae (aA (i:=1) mS.nd rfl (.inl rfl) (jN T.lm.M (wN T).up hr rfl T.oi (Qm T) .nil bA (aa (pv 0) ab)))
  (ae (aA (i:=2) mS.nd rfl (.inl rfl) (eP (pv 1) T.bN T.eE.M (iS T).up hr (i8 T) .nil bA (aa (dR (v:=.ref T.kL) rfl T.j7 rfl) ab)))
  (ae (aJ (aL a6 (pv 2) ar (aH _))
   (ag (aA (i:=3) mS.nd rfl (.inl rfl) (T.qg.c (Oz T kb) hr (Lr T) (aa (pv 1) ab))))
   (ag (aJ (aL a6 (pv 2) ar (aH _))
    (ag (aA (i:=3) mS.nd rfl (.inl rfl) (T.rq.c (GL T kb) hr (J1 T) (aa (pv 1) ab))))
    (ag (aJ (aL a6 (pv 2) ar (aH _))
     (ag (aA (i:=3) mS.nd rfl (.inl rfl) (T.qZ.c (Ux T kb).up hr (Vc T) (aa (pv 1) ab))))
     (ag (aA (i:=3) mS.nd rfl (.inl rfl) (T.qt.c (Fq T kb) hr (Mw T) (aa (pv 1) ab)))))))))
  (ae (cz (cH (pv 1) T.bN T.lF.M (PD T).up hr (TU T) .nil bA))
  (ag (aD (pv 3))))))),5]
 have tl:=AA ok
 k_ne
 refine#[15];intro x dx nx ndx nex;refine#[x,dx,1,aB,(by lk),λH1 W1 B1=>#[05]];have es:eW (bF r) " " = r.words:=LC (c:=32) r.dw (λu hu=>(Rule.fZ ok u hu).1.1);rw[es] at W1;have S1:Same H H1:=λb o e=>B1 b o (a9 e nx) (by rw[aF (a9 e nx),aF (a9 e ndx)];exact e);obtain⟨dx1,l1,at1,_⟩:=id W1
 k_ne
 refine#[1,x,dx1,1,at1,2,x,_,r.words,(0),(nB r),sorts,0,W1,(by rw[Ei r];rfl),DM r,(by decide),.inl T.kE,λH2 W2 B2=>?_];have fin:∀{v:V} {H3:Hp},WAt T.bP H3 x r.words r.words.length->But x H2 H3->fU T.aT H3 v r->Q v H3:=λ{v H3} W3 B3 IR =>
  q v H3 (λb o e=>B3 b o (a9 e nx) (B2 b o (a9 e nx) (S1 b o e))) IR
 k_ne
 refine#[1015];cases r with
 | hold u v y =>
  refine iteT #[1,x,_,(1),.hold u v y,0,trivial,W2,ok,0,λz H3 W3 B3 IR=>?_];obtain⟨dx3,l3,at3,_⟩:=id W3
  k_ne
  exact#[1,x,dx3,1,at3,2,x,1,W3,#[1,fin W3 B3 IR]]
 | wen u y d =>
  refine iteF #[101,iteT #[1,x,_,(1),.wen u y d,0,trivial,W2,ok,0,λz H3 W3 B3 IR=>?_]];obtain⟨dx3,l3,at3,_⟩:=id W3
  k_ne
  exact#[1,x,dx3,1,at3,2,x,1,W3,#[1,fin W3 B3 IR]]
 | instead u y t v =>
  refine iteF #[101,iteF #[101,iteT #[1,x,_,(1),.instead u y t v,0,trivial,W2,ok,0,λz H3 W3 B3 IR=>?_]]];obtain⟨dx3,l3,at3,_⟩:=id W3
  k_ne
  exact#[1,x,dx3,1,at3,2,x,1,W3,#[1,fin W3 B3 IR]]
 | may c d =>
  refine iteF #[101,iteF #[101,iteF #[1,x,_,(1),.may c d,0,trivial,W2,ok,0,λz H3 W3 B3 IR=>?_]]];obtain⟨dx3,l3,at3,_⟩:=id W3
  k_ne
  exact#[1,x,dx3,1,at3,2,x,1,W3,#[1,fin W3 B3 IR]]
noncomputable def cfs (n:Str)(c f:Nat)(m t:Addr):List (Str×V):=[("name",.str n),("cost",.int c),("force",.int f),("marks",.ref m),("rules",.ref t)]
inductive IsRules (D:Addr)(H:Hp):List V->List Rule->Prop where
 | nil:IsRules D H [] []
 | cons {v:V} {r:Rule} {vs:List V} {rs:List Rule}:fU D H v r->IsRules D H vs rs->IsRules D H (v::vs) (r::rs)
theorem IsRules.same {D:Addr}{H H':Hp}(s:Same H H'):∀{vs:List V} {rs:List Rule},IsRules D H vs rs->IsRules D H' vs rs
 | _,_,.nil=>.nil
 | _,_,.cons h t=>.cons (h.same s) (t.same s)
theorem IsRules.snoc {D:Addr}{H:Hp}{v:V}{r:Rule}(h:fU D H v r):∀{vs:List V} {rs:List Rule},IsRules D H vs rs->IsRules D H (vs++[v]) (rs++[r])
 | _,_,.nil=>.cons h .nil
 | _,_,.cons h' t=>.cons h' (IsRules.snoc h t)
theorem IsRules.length {D:Addr}{H:Hp}:∀{vs:List V} {rs:List Rule},IsRules D H vs rs->vs.length=rs.length
 | _,_,.nil=>rfl
 | _,_,.cons _ t=>congrArg (· + 1) t.length
theorem IsRules.get {D:Addr}{H:Hp}:∀{vs:List V} {rs:List Rule} {i:Nat} {v:V},IsRules D H vs rs->vs[i]?=some v->∃r,rs[i]?=some r/\fU D H v r
 | _,_,0,_,.cons h _,e=>by cases e;exact#[1,h]
 | _,_,i+1,_,.cons _ t,e=>t.get (i:=i) e
noncomputable def gr (B D:Addr)(H:Hp)(v:V)(c:Crd):Prop:=Ex5 λa dx m t vs=>v = .ref a/\H a=some (.ins B dx (cfs c.name c.cost c.force m t))/\H m=some (.tup (c.marks.map V.str))/\H t=some (.tup vs)/\IsRules D H vs c.rules
theorem gr.same {B D:Addr}{H H':Hp}(s:Same H H'){v:V}{c:Crd}(h:gr B D H v c):gr B D H' v c:=by
 obtain⟨a,dx,m,t,vs,e,h1,h2,h3,h4⟩:=h;exact#[a,dx,m,t,vs,e,s _ _ h1,s _ _ h2,s _ _ h3,h4.same s]
noncomputable def O8:Sp:=λvs H Q _=>∃ms:List Str,vs=[.str (cU ms)]/\Marks ms/\∀m H',Same H H'->H' m=some (.tup (ms.map V.str))->Q (.ref m) H'
noncomputable def FW (B:Addr):Sp:=λvs H Q _=>Ex7 λx dx m t (n:Str) (c f:Nat)=>vs=[.ref x,.str n,.int c,.int f,.ref m,.ref t]/\H x=some (.ins B dx [])/\Q .non (upd H x (.ins B dx (cfs n c f m t)))
noncomputable def DI (B D:Addr):Sp:=λvs H Q _=>∃c:Crd,vs=[.str c.text]/\c.ok/\∀v H',Same H H'->gr B D H' v c->Q v H'
theorem KN (n:Str)(c f:V)(m t:Addr):putF "rules" (.ref t) (putF "marks" (.ref m) (putF "force" f (putF "cost" c (putF "name" (.str n) []))))=([("name",.str n),("cost",c),("force",f),("marks",.ref m),("rules",.ref t)]:List (Str×V)):=by
 repeat (first|rw[qx]|rw[m9 (by lia)])
theorem jU {K:ah}{H:Hp}:∀xs:List Str,DVs K H (xs.map V.str) (xs.map .str)
 | []=>.nil
 | x::r=>.cons (.str x) (jU r)
theorem sS:∀xs:List Str,jE (xs.map .str) (xs.map .str)=true
 | []=>by simp[jE]
 | x::r=>by simp[jE,fX,sS r]
theorem L4 (T:Tx K mg):FnOk P w K mg base CX0 2 T.oo.f T.oo.d CQ (FW T.b9):=by
 refine T.oo.ok Vm ?_;rintro f c A o s H vs Q E hr ⟨x,dx,m,t,n,c,f,rfl,hx,q⟩ X;refine#[_,(ae (jj (pv 0) (pv 1) rfl)
  (ae (jj (pv 0) (pv 2) rfl)
  (ae (jj (pv 0) (pv 3) rfl)
  (ae (jj (pv 0) (pv 4) rfl)
  (ag (jj (pv 0) (pv 5) rfl)))))),5]
 k_ne
 refine#[11,x,_,dx,1,hx,T.fW,T.vE,(by show 0<1000;decide),5]
 k_ne
 refine#[11,x,_,dx,1,aB,T.fW,T.xo,(by show 1<1000;decide),5]
 k_ne
 refine#[11,x,_,dx,1,aB,T.fW,T.qB,(by show 2<1000;decide),5]
 k_ne
 refine#[11,x,_,dx,1,aB,T.fW,T.uz,(by show 3<1000;decide),5];refine#[11,x,_,dx,1,aB,T.fW,T.pP,(by show 4<1000;decide),5];show Q .non _
 rw[kM,kM,kM,kM,KN];exact q
theorem mK {n:Str}(h:cC n):fR (.str n)=true:=by
 rw[fR];unfold PyData.strOk;rw[<- Array.all_toList,pM];intro c hc;have:=(h.2.2 c hc).2;simp;lk
theorem nL:∀xs:List Str,(∀x∈xs,fR (.str x)=true)->jh (xs.map .str)=true
 | [],_=>by simp[jh]
 | x::r,h=>by
  have h1:=h x bb;have h2:=nL r λy hy=>h y (bx _ hy);rw[bp,jh,h1,h2];rfl
theorem nX:∀xs:List Str,gB (xs.map .str)=0
 | []=>by simp[gB]
 | x::r=>by simp[gB,gm,nX r]
theorem QG {ms:List Str}(h:∀m∈ms,cC m):dO (.list (ms.map .str))=true:=by
 unfold dO;rw[fR,nL ms (λx hx=>mK (h x hx)),gm,nX];rfl
theorem NT (T:Tx K mg):FnOk P w K mg base CX0 3 T.sd.f T.sd.d Mo O8:=by
 refine T.sd.ok Tr ?_;rintro f c A o s H vs Q E hr ⟨ms,rfl,hm,q⟩ X;refine#[_,(ae (aJ (aL a6 (pv 0) ar (aH _))
   (ag (aD (bc ab)))
   aO)
  (ae (aA (i:=1) Tr.nd rfl (.inl rfl) (bR eM Ly OO oM (pv 0) (aa ar ab)))
  (ae (aJ (fj (cN (bh (oO rfl) rfl T.gT boot_all (aa (cB (own:=["mark"]) (cap:=[]) rfl (bI.chk rfl rfl) .nil (cI (pv 1)) (λ_ _ _ _=>(aZ (i:=0) (show bG (["mark"]:List Str) by lia) rfl (.inl rfl))) (λ_ _ _ _=>cF) (λ_ _ _ _=>by exact (T.n6.c (QP T) hr (vN T) (aa (pv 0) ab)))) ab))))
   (ag iI)
   aO)
  (ae (aJ (aL (sZ hr.units) (pv 1) (bh (Us rfl) rfl T.jk pC (aa (bV (Ds rfl) rfl T.i3 boot_set (aa (pv 1) ab)) ab)) (aH _))
   (ag iI)
   aO)
  (ag (aD (bV fF rfl T.cG db (aa (pv 1) ab)))))))),5]
 k_ne
 refine#[1015]
 by_cases hne:ms=[]
 .subst hne;exact iteT #[sz0,λa ha=>q a _ (aU ha _) aB]
 refine ite2 (λc=>?_) (λ_=>?_)
 .exfalso;have c':=of_decide_eq_true c;injection c' with c'
  exact Bq hm hne c'
 have ml:=uW hm;have es:eW (cU ms) "," = ms:=HI hm hne;refine#[104,(by lia),(aV (M4 ml.2 2) (by decide)),λl hl=>?_];rw[es];have S1:=aU hl (.lst (ms.map V.str));have e1:upd H l (.lst (ms.map V.str)) l=some (.lst (ms.map V.str)):=aB;generalize upd H l (.lst (ms.map V.str))=H1 at *
 k_ne
 refine#[1,l,0,#[_,SqL.of e1],5];refine cZ (xs:=ms.map V.str) (λi ys H'=>Same H1 H'/\i<=ms.length/\ys=((ms.take i).map isName).map V.bl) (λi ys H' z=>SqL.of (z.1 _ _ e1)) #[Same.refl _,ba _,0] ?_ ?_ ?_
 .rintro i ys H' ⟨_,_,rfl⟩;rw[aw,aw,bQ];have:=hm.le;exact small (by lk)
 .rintro i x ys H' hx ⟨S3,hi,rfl⟩;obtain⟨m,hmm,rfl⟩:∃m,ms[i]?=some m/\V.str m=x:=by
   rw[bH] at hx;cases z:ms[i]? with
   | none=>rw[z] at hx;cases hx
   | some m=>rw[z] at hx;cases hx;exact#[m,00]
  have hmem:=bq hmm;refine#[01,m,0,(aV (hm.ok m hmem).2.1 (by decide)),λH4 S4=>#[S3.trans S4,55]]
  .exact (br.mp hmm).1
  .rw[bU,hmm,bE,bE];rfl
 .rintro ys H2 ⟨S2,_,rfl⟩ b hb;rw[aw,A3];have S3:=aU hb (.lst ((ms.map isName).map V.bl));refine#[b,1,SqL.of aB,15];have al:(ms.map isName).all id=true:=by
   rw[pM];intro x hx;obtain⟨m,hmm,rfl⟩:=bT.mp hx;exact P5 (hm.ok m hmm)
  rw[al];refine iteF ?_;have e3:=S3 _ _ (S2 _ _ e1);generalize upd H2 b (.lst ((ms.map isName).map V.bl))=H3 at *;have ml2:=hm.le;refine#[11,l,ms,0,SqL.of e3,(by lk),λp hp=>?_];have S4:∀o,Same H3 (upd H3 p o):=λo=>aU hp o;refine#[p,1,aB,(by rw[AW hm.nd];lk),λp2 ys hp2 py so=>?_];have ey:=hm.same py so;subst ey;have S5:=aU hp2 (.lst (ys.map V.str));refine#[.list (ys.map .str),.list (ys.map .str),.lst (SqL.of (S5 _ _ (S4 _ _ _ e3))) (jU _),.lst (SqL.of aB) (jU _),QG hm.ok,QG hm.ok,15];have ev:(!PyData.eqv (.list (ys.map .str)) (.list (ys.map .str)))=false:=by
   rw[fX,sS];rfl
  rw[ev];refine iteF ?_;refine#[1,l,1,.inl #[SqL.of (S5 _ _ (S4 _ _ _ e3)),λt ht=>?_]];exact q t _ (λc o e=>aU ht _ _ _ (S5 _ _ (S4 _ _ _ (S3 _ _ (S2 _ _ (S1 _ _ e)))))) aB
theorem Kd {c:Crd}(h:c.ok):c.text.length<=2000:=by
 have a:=nz SL (aj " " c.head::c.rules.map bF);have b:=Crd.zr h;have s:=gY (l:=(c.rules.map bF).map (·.length)) (k:=450) (λx hx=>by
  obtain⟨t,ht,rfl⟩:=bT.mp hx;obtain⟨r,hr,rfl⟩:=bT.mp ht;exact AA (h.rules r hr))
 have e:SL.length=3:=rfl;have f:=h.few;rw[bp,d9,aK,e] at a;rw[aw,aw] at s;rw[aw] at a;show (aj SL (aj " " c.head::c.rules.map bF)).length<=2000
 have:c.rules.length*450<=3*450:=TH _ f;lk
theorem Ep (T:Tx K mg)(kb:K.In base):FnOk P w K mg base CX0 9 T.qa.f T.qa.d Nm (DI T.b9 T.aT):=by
 refine T.qa.ok oP ?_;rintro f c A o s H vs Q E hr ⟨c,rfl,ok,q⟩ X;refine#[_,(ae (aJ (fj (cN (bh fu rfl T.dH eF (aa (pv 0) (aa (eG (v:=.ty "str") rfl T.fc gK rfl) ab)))))
   (ag iI)
   aO)
  (ae (aA (i:=1) oP.nd rfl (.inl rfl) (bR eM Ly OO oM (pv 0) (aa ar ab)))
  (ae (aJ (aL gR (bh cT rfl T.cr cE (aa (pv 1) ab)) (aN dM ad (dR (v:=.int 3) rfl T.As #[1])) (aH _))
   (ag iI)
   aO)
  (ae (aA (i:=2) oP.nd rfl (.inl rfl) (jN T.lm.M (wN T).up hr rfl T.oi (Qm T) .nil bA (aa (ao bC (pv 1) ad) ab)))
  (ae (aA (i:=3) oP.nd rfl (.inl rfl) (cH (pv 2) T.bN T.jt.M (Ac T).up hr (AX T) .nil bA))
  (ae (aA (i:=4) oP.nd rfl (.inl rfl) (cH (pv 2) T.bN T.gy.M (mG T).up hr (oR T) .nil bA))
  (ae (aA (i:=5) oP.nd rfl (.inl rfl) (cH (pv 2) T.bN T.gy.M (mG T).up hr (oR T) .nil bA))
  (ae (aA (i:=6) oP.nd rfl (.inl rfl) (T.sd.c (NT T).up hr (FK T) (aa (cH (pv 2) T.bN T.iJ.M (vX T).up hr (wX T) .nil bA) ab)))
  (ae (cz (cH (pv 2) T.bN T.lF.M (PD T).up hr (TU T) .nil bA))
  (ag (aD (jN T.oo.M (L4 T).up hr rfl T.xJ (Uz T) .nil bA (aa (pv 3) (aa (pv 4) (aa (pv 5) (aa (pv 6) (aa (bV fF rfl T.cG db (aa (cB (own:=["rule"]) (cap:=[]) rfl (bI.chk rfl rfl) .nil (cI (de ox (pv 1) (cY ad) dq)) (λ_ _ _ _=>(aZ (i:=0) (show bG (["rule"]:List Str) by lia) rfl (.inl rfl))) (λ_ _ _ _=>cF) (λ_ _ _ _=>by exact (T.qi.c (DC T kb) hr (M8 T) (aa (pv 0) ab)))) ab)) ab))))))))))))))))),5]
 have tl:=Kd ok
 k_ne
 refine#[1,_,_,.type "str",true,0,TyOf.str _,.inl #["str",00],true,05];refine iteF ?_;have es:eW c.text " / " = aj " " c.head::c.rules.map bF:=Crd.split ok;refine#[104,(by lia),(aV (M4 tl 2) (by decide)),λl hl=>?_];rw[es];have S1:=aU hl (.lst ((aj " " c.head::c.rules.map bF).map V.str));have e1:upd H l (.lst ((aj " " c.head::c.rules.map bF).map V.str)) l=some (.lst ((aj " " c.head::c.rules.map bF).map V.str)):=aB;generalize upd H l (.lst ((aj " " c.head::c.rules.map bF).map V.str))=H1 at *
 k_ne
 refine#[1,l,1,.inl (SqL.of e1),4415];refine ite2 (λz=>?_) (λ_=>?_)
 .exfalso;have z':=of_decide_eq_true z;rw[aw,aK,aw] at z';have:=ok.few;lk
 refine#[1,l,_,4,SqL.of e1,95];intro x dx nx ndx nex;have hl2:=Crd.zr ok;refine#[x,dx,1,aB,(by lk),λH2 W2 B2=>#[05]];rw[show eW (aj " " c.head) " " = c.head from Crd.FG ok] at W2;have S2:Same H1 H2:=λb o e=>B2 b o (a9 e nx) (by rw[aF (a9 e nx),aF (a9 e ndx)];exact e);obtain⟨dx2,l2,at2,_⟩:=id W2
 k_ne
 refine#[1,x,dx2,1,at2,2,x,c.head,(0),c.name,0,W2,0,ok.name,λH3 W3 B3=>?_];obtain⟨dx3,l3,at3,_⟩:=id W3
 k_ne
 refine#[1,x,dx3,1,at3,2,x,c.head,(1),c.cost,0,W3,0,ok.cost,λH4 W4 B4=>?_];obtain⟨dx4,l4,at4,_⟩:=id W4
 k_ne
 refine#[1,x,dx4,1,at4,2,x,c.head,(2),c.force,0,W4,0,ok.force,λH5 W5 B5=>?_];obtain⟨dx5,l5,at5,_⟩:=id W5
 k_ne
 refine#[1,x,dx5,1,at5,2,x,c.head,(3),cU c.marks,0,W5,0,λH6 W6 B6=>?_];refine#[c.marks,0,ok.marks,λm H7 S7 em=>?_];have W7:=W6.at S7;obtain⟨dx7,l7,at7,_⟩:=id W7
 k_ne
 refine#[1,x,dx7,1,at7,2,x,c.head,0,W7,5];have S37:Same H H7:=λb o e=>by
  have n:=a9 (S1 _ _ e) nx;exact S7 _ _ (B6 _ _ n (B5 _ _ n (B4 _ _ n (B3 _ _ n (S2 _ _ (S1 _ _ e))))))
 have nlx:=a9 e1 nx;have e7:H7 l=some (.lst ((aj " " c.head::c.rules.map bF).map V.str)):=S7 _ _ (B6 _ _ nlx (B5 _ _ nlx (B4 _ _ nlx (B3 _ _ nlx (S2 _ _ e1)))));clear W2 W3 W4 W5 W6 at2 at3 at4 at5;refine#[111111,l,1,SqL.of e7,λs1 hs1=>?_];have ct:cutV ((aj " " c.head::c.rules.map bF).map V.str) (some (1:Int)) none=(c.rules.map bF).map V.str:=by
  have:=Gp ((aj " " c.head::c.rules.map bF).map V.str) 1;exact this
 rw[ct];have S8:=aU hs1 (.lst ((c.rules.map bF).map V.str));have e8:upd H7 s1 (.lst ((c.rules.map bF).map V.str)) s1=some (.lst ((c.rules.map bF).map V.str)):=aB;generalize upd H7 s1 (.lst ((c.rules.map bF).map V.str))=H8 at *;refine#[s1,0,#[_,SqL.of e8],5];refine cZ (xs:=(c.rules.map bF).map V.str) (λi ys H'=>Same H8 H'/\i<=c.rules.length/\IsRules T.aT H' ys (c.rules.take i)) (λi ys H' z=>SqL.of (z.1 _ _ e8)) #[Same.refl _,ba _,.nil] ?_ ?_ ?_
 .rintro i ys H' ⟨_,_,R⟩;rw[R.length,bQ];have:=ok.few;exact small (by lk)
 .rintro i v ys H' hx ⟨S3,hi,R⟩;obtain⟨r,hrr,rfl⟩:∃r,c.rules[i]?=some r/\V.str (bF r)=v:=by
   rw[bH,bH] at hx;cases z:c.rules[i]? with
   | none=>rw[z] at hx;cases hx
   | some m=>rw[z] at hx;cases hx;exact#[m,00]
  refine#[01,r,0,ok.rules r (bq hrr),λu H9 S9 IR=>#[S3.trans S9,55]]
  .exact (br.mp hrr).1
  .rw[bU,hrr];exact IsRules.snoc IR (R.same S9)
 .rintro ys H9 ⟨S9,_,R⟩ b hb;rw[aw,aw,A3] at R;refine#[b,1,.inl #[SqL.of aB,λt ht=>?_]];have S10:=aU hb (.lst ys);generalize upd H9 b (.lst ys)=H10 at *;have S11:=aU ht (.tup ys);have e11:upd H10 t (.tup ys) t=some (.tup ys):=aB;have Sall:Same H (upd H10 t (.tup ys)):=λb o e=>S11 _ _ (S10 _ _ (S9 _ _ (S8 _ _ (S37 _ _ e))));have em11:=S11 _ _ (S10 _ _ (S9 _ _ (S8 _ _ em)));have R11:=R.same (S10.trans S11);generalize upd H10 t (.tup ys)=H11 at *;intro y dy ny ndy ney;have S12:∀o,Same H11 (upd (upd (upd H11 dy (.own y)) y (.ins T.b9 dy [])) y o):=λo b u e=>by
   rw[kM,aF (a9 e ny),aF (a9 e ndy)];exact e
  refine#[y,dy,m,t,c.name,c.cost,c.force,0,aB,05];exact q _ _ (Sall.trans (S12 _)) #[y,dy,m,t,ys,0,aB,S12 _ _ _ em11,S12 _ _ _ e11,R11.same (S12 _)]
structure Row where
 num:Int
 keeper:Int
 marks:List Str
 force:Int
 mute:Bool
noncomputable def dA (H:Hp)(v:V)(r:Row):Prop:=Ex2 λa m=>v = .ref a/\H a=some (.tup [.int r.num,.int r.keeper,.ref m,.int r.force,.bl r.mute])/\H m=some (.tup (r.marks.map V.str))
theorem dA.same {H H':Hp}{v:V}{r:Row}(h:dA H v r)(s:Same H H'):dA H' v r:=by
 obtain⟨a,m,e,h1,h2⟩:=h;exact#[a,m,e,s _ _ h1,s _ _ h2]
inductive bJ (H:Hp):List V->List Row->Prop where
 | nil:bJ H [] []
 | cons {v:V} {r:Row} {vs:List V} {rs:List Row}:dA H v r->bJ H vs rs->bJ H (v::vs) (r::rs)
theorem bJ.map {H H':Hp}(f:∀v r,dA H v r->dA H' v r){vs:List V}{rs:List Row}(z:bJ H vs rs):bJ H' vs rs:=by
 induction z with
 | nil=>exact .nil
 | cons h t ih=>exact .cons (f _ _ h) ih
theorem bJ.length {H:Hp}{vs:List V}{rs:List Row}(z:bJ H vs rs):vs.length=rs.length:=by
 induction z with
 | nil=>rfl
 | cons _ _ ih=>rw[aK,aK,ih]
theorem bJ.get {H:Hp}:∀{vs:List V} {rs:List Row} {i:Nat} {v:V},bJ H vs rs->vs[i]?=some v->∃r,rs[i]?=some r/\dA H v r
 | _,_,_,_,.nil,e=>by simp at e
 | _,_,0,_,.cons h t,e=>by
  rw[lC] at e;cases e;exact#[1,h]
 | _,_,i+1,_,.cons h t,e=>by
  rw[dX] at e;obtain⟨w,h1,h2⟩:=t.get e;exact#[w,by rw[dX];exact h1,h2]
theorem bJ.snoc {H:Hp}{vs:List V}{rs:List Row}{v:V}{r:Row}(z:bJ H vs rs)(h:dA H v r):bJ H (vs++[v]) (rs++[r]):=by
 induction z with
 | nil=>exact .cons h .nil
 | cons g _ ih=>exact .cons g ih
noncomputable def n9 (H:Hp)(v:V):Option Row->Prop
 | none=>v = .non
 | some r=>dA H v r
noncomputable def rowOf (rs:List Row)(thing:Int):Option Row:=rs.find? λr=>decide (r.num=thing)
theorem P6 {rs:List Row}{i:Nat}{t:Int}(h:∀j r,j<i->rs[j]?=some r->¬ r.num=t):(rs.take i).find? (λr=>decide (r.num=t))=none:=by
 rw[HW];intro r hr;obtain⟨j,hj⟩:=lD hr;rw[List.getElem?_take] at hj
 split at hj
 .rename_i hlt
  simpa using h j r hlt hj
 .cases hj
theorem F8 {rs:List Row}{i:Nat}{t:Int}{r:Row}(h:∀j r,j<i->rs[j]?=some r->¬ r.num=t)(hr:rs[i]?=some r)(e:r.num=t):rowOf rs t=some r:=by
 have q:rs=rs.take i++rs.drop i:=(JA i rs).symm;have d:rs.drop i=r::rs.drop (i+1):=by
  obtain⟨hi,hv⟩:=br.mp hr;rw[List.drop_eq_getElem_cons hi,hv]
 unfold rowOf;rw[q,List.find?_append,P6 h,d,List.find?_cons_of_pos (by simpa using e)];rfl
theorem M5 {rs:List Row}{t:Int}(h:∀j r,j<rs.length->rs[j]?=some r->¬ r.num=t):rowOf rs t=none:=by
 have q:=P6 (i:=rs.length) h;rw[bX (az _)] at q;exact q
noncomputable def c9 (row:Option Row)(number keeper thing:Int):Wh->Bool
 | .all=>true
 | .self=>decide (thing=number)
 | .mine=>match row with
  | none=>decide (thing = -1-keeper)
  | some r=>decide (r.keeper=keeper)
 | .mark n=>match row with
  | none=>false
  | some r=>inV (.str n) (r.marks.map V.str)
 | .force i=>match row with
  | none=>false
  | some r=>decide ((i:Int)<=r.force)
 | .not a=>!c9 row number keeper thing a
 | .both a b=>c9 row number keeper thing a&&c9 row number keeper thing b
 | .any a b=>c9 row number keeper thing a||c9 row number keeper thing b
theorem G3 (xs:List Str):(xs.map V.str).all jx=true:=by
 rw[pM];intro v hv;obtain⟨x,_,rfl⟩:=bT.mp hv;rfl
noncomputable def Jc (K:ah):Sp:=λvs H Q _=>Ex4 λsl us rs (t:Int)=>vs=[.ref sl,.int t]/\H sl=some (.lst us)/\bJ H us rs/\∀v,n9 H v (rowOf rs t)->Q v H
noncomputable def sE (D:Addr)(n:Nat):Sp:=λvs H Q _=>Ex7 λv rv (row:Option Row) (number keeper thing:Int) (y:Wh)=>vs=[v,rv,.int number,.int keeper,.int thing]/\IsW D H v y/\n9 H rv row/\y.depth<=n/\Q (.bl (c9 row number keeper thing y)) H
noncomputable def TR (D:Addr)(n:Nat):Sp:=λvs H Q _=>Ex7 λv rv (row:Option Row) (number keeper thing:Int) (y:Wh)=>vs=[v,rv,.int number,.int keeper,.int thing]/\IsW D H v y/\n9 H rv row/\y.depth<=n/\y.parts≠[]/\Q (.bl (c9 row number keeper thing y)) H
theorem CP (T:Tx K mg):FnOk P w K mg base CX0 2 T.rN.f T.rN.d ph (Jc K):=by
 refine T.rN.ok uJ ?_;rintro f c A o s H vs Q E hr ⟨sl,us,rs,t,rfl,hsl,R,q⟩ X;refine#[_,(ae (gG eZ rfl (cI (pv 0)) (aZ (i:=2) uJ.nd rfl (.inl rfl))
   (ag (aJ (aL a6 (ao aP (pv 2) ad) (pv 1) (aH _))
    (ag (aD (pv 2)))
    aO)))
  (ag (aD gP))),5]
 have rl:=R.length
 k_ne
 refine#[1,sl,0,#[_,SqL.of hsl],oW (xs:=us) (λi σ H'=>H'=H/\(∃o,σ=[some (.ref sl),some (.int t),o])/\∀j r,j<i->rs[j]?=some r->¬ r.num=t) #[0,#[1],λj r h=>absurd h (AS _)] (λi σ H' _ z=>by rw[z.1];exact SqL.of hsl) ?_ ?_]
 .rintro i x σ H' hx ⟨rfl,⟨o,rfl⟩,hm⟩;obtain⟨r,hr,⟨a,m,rfl,h1,h2⟩⟩:=R.get hx;refine#[1,a,_,4,SqT.of h1,01015];refine ite2 (λc=>?_) (λc=>?_)
  .have c':=of_decide_eq_true c;injection c' with c'
   have e:=F8 hm hr c';exact#[1,q _ (by rw[e];exact#[a,m,0,h1,h2])]
  .refine#[0,#[1],λj r' hj hr'=>?_]
   rcases jw j i with z|z
   .exact hm j r' z hr'
   .have ej:j=i:=by lk
    subst ej;rw[hr] at hr';cases hr';intro z;exact c (decide_eq_true (by rw[z]))
 .rintro σ H' ⟨rfl,⟨o,rfl⟩,hm⟩;rw[rl] at hm;exact q .non (by rw[M5 hm];rfl)
theorem Gk (T:Tx K mg){n k:Nat}(zmk:FnOk P w K mg base CX0 k T.fb.f T.fb.d sx (sE T.aT n)):FnOk P w K mg base CX0 (k+1) T.kA.f T.kA.d AD (TR T.aT (n+1)):=by
 refine T.kA.ok Qw ?_;rintro f c A o s H vs Q E hr ⟨v,rv,row,number,keeper,thing,y,rfl,W,R,hd,hne,q⟩ X;refine#[_,(ae (aA (i:=5) Qw.nd rfl (.inl rfl) (eP (ao aP (cc (pv 0) rfl) ad) T.cx T.fb.M zmk hr (AG T) .nil bA (aa (pv 1) (aa (pv 2) (aa (pv 3) (aa (pv 4) ab))))))
  (ae (aJ (aL a6 (cc (pv 0) rfl) ar (aH _))
   (ag (aD (EZ (pv 5))))
   aO)
  (ae (aJ (aL a6 (cc (pv 0) rfl) ar (aH _))
   (ag (aD (m3 (pv 5) (lL (eP (ao aP (cc (pv 0) rfl) ad) T.cx T.fb.M zmk hr (AG T) .nil bA (aa (pv 1) (aa (pv 2) (aa (pv 3) (aa (pv 4) ab)))))))))
   aO)
  (ag (aD (wO (pv 5) (lL (eP (ao aP (cc (pv 0) rfl) ad) T.cx T.fb.M zmk hr (AG T) .nil bA (aa (pv 1) (aa (pv 2) (aa (pv 3) (aa (pv 4) ab)))))))))))),5]
 cases W with
 | @mk a dx t ps _ h1 h2 h3 =>
 have dp:=y.Q5;have rd:∀{x:V},IsW T.aT H x y->True:=λ_=>trivial;have part:∀(i:Nat) (p:Wh),y.parts[i]?=some p->Ex3 λai dxi fsi=>ps[i]?=some (.ref ai)/\H ai=some (.ins T.aT dxi fsi)/\fsi.lookup ("fits_row":Str)=none/\IsW T.aT H (.ref ai) p/\p.depth<=n:=by
  intro i p hp;have hi:i<ps.length:=by rw[h3.length];exact (br.mp hp).1
  obtain⟨p',hp',hw⟩:=h3.get (cA hi);rw[hp] at hp';cases hp';have hm:p∈y.parts:=bq hp;have:=dp p hm;have hw':=hw
  revert hw'
  cases hq:ps[i] with
  | ref ai =>
   intro hw';have hw2:=hw';cases hw2 with
   | @mk a' dx' t' ps' _ k1 k2 k3=>exact#[ai,dx',_,by rw[cA hi,hq],k1,kS _ _ _ (by lia) (by lia) (by lia),hw',3]
  | _=>intro hw';cases hw'
 have go:∀(i:Nat) (p:Wh),y.parts[i]?=some p->atI ps (i:Int)=some (ps.getD i .non):=λi p hp=>by
  obtain⟨ai,_,_,e,_⟩:=part i p hp;rw[aI e,cJ,e];rfl
 cases y with
 | not p =>
  obtain⟨a0,d0,f0,e0,g0,l0,w0,dd0⟩:=part 0 p rfl
  k_ne
  refine#[1,a,_,dx,_,1,h1,T.cx,T.iy,mW _ _ _,t,_,4,SqT.of h2,aI e0,a0,d0,1,g0,l0,1111,_,rv,row,number,keeper,thing,p,0,w0,R,dd0,5]
  k_ne
  refine#[1,a,_,dx,801,iteT ?_];exact#[11,q]
 | both p p' =>
  obtain⟨a0,d0,f0,e0,g0,l0,w0,dd0⟩:=part 0 p rfl;obtain⟨a1,d1,f1,e1,g1,l1,w1,dd1⟩:=part 1 p' rfl
  k_ne
  refine#[1,a,_,dx,_,1,h1,T.cx,T.iy,mW _ _ _,t,_,4,SqT.of h2,aI e0,a0,d0,1,g0,l0,1111,_,rv,row,number,keeper,thing,p,0,w0,R,dd0,5]
  k_ne
  refine#[1,a,_,dx,806];refine#[1,a,_,dx,801,iteT ?_];refine#[115];have q':Q (.bl (c9 row number keeper thing p&&c9 row number keeper thing p')) H:=q;cases e:c9 row number keeper thing p with
  | true =>
   rw[e,lI] at q';refine iteT ?_;exact#[1,a,_,dx,_,1,h1,T.cx,T.iy,mW _ _ _,t,_,4,SqT.of h2,aI e1,a1,d1,1,g1,l1,1111,_,rv,row,number,keeper,thing,p',0,w1,R,dd1,q']
  | false =>
   rw[e,kK] at q';exact iteF q'
 | any p p' =>
  obtain⟨a0,d0,f0,e0,g0,l0,w0,dd0⟩:=part 0 p rfl;obtain⟨a1,d1,f1,e1,g1,l1,w1,dd1⟩:=part 1 p' rfl
  k_ne
  refine#[1,a,_,dx,_,1,h1,T.cx,T.iy,mW _ _ _,t,_,4,SqT.of h2,aI e0,a0,d0,1,g0,l0,1111,_,rv,row,number,keeper,thing,p,0,w0,R,dd0,5]
  k_ne
  refine#[1,a,_,dx,806];refine#[1,a,_,dx,806];refine#[115];have q':Q (.bl (c9 row number keeper thing p||c9 row number keeper thing p')) H:=q;cases e:c9 row number keeper thing p with
  | true =>
   rw[e,Pd] at q';exact iteT q'
  | false =>
   rw[e,MB] at q';refine iteF ?_;exact#[1,a,_,dx,_,1,h1,T.cx,T.iy,mW _ _ _,t,_,4,SqT.of h2,aI e1,a1,d1,1,g1,l1,1111,_,rv,row,number,keeper,thing,p',0,w1,R,dd1,q']
 | _=>exact absurd rfl hne
theorem Ez (T:Tx K mg){n k:Nat}(zct:FnOk P w K mg base CX0 k T.kA.f T.kA.d AD (TR T.aT n)):FnOk P w K mg base CX0 (k+1) T.fb.f T.fb.d sx (sE T.aT n):=by
 refine T.fb.ok UC ?_;rintro f c A o s H vs Q E hr ⟨v,rv,row,number,keeper,thing,y,rfl,W,R,hd,q⟩ X;refine#[_,(ae (aJ (rh (cc (pv 0) rfl) (λ_=>rfl))
   (ag (aD (eP (pv 0) T.cx T.kA.M zct hr (Ve T) .nil bA (aa (pv 1) (aa (pv 2) (aa (pv 3) (aa (pv 4) ab)))))))
   aO)
  (ae (aJ (aL a6 (cc (pv 0) rfl) ar (aH _))
   (ag (aD fK))
   aO)
  (ae (aJ (aL a6 (cc (pv 0) rfl) ar (aH _))
   (ag (aD (eY a6 (pv 4) (pv 2) (aH _))))
   aO)
  (ae (aJ (aL kU (pv 1) gP (aH _))
   (ag (aD (m3 (eY a6 (cc (pv 0) rfl) ar (aH _)) (lL (eY a6 (pv 4) (aN jF (xr uk ad) (pv 3)) (aH _))))))
   aO)
  (ae (aJ (aL a6 (cc (pv 0) rfl) ar (aH _))
   (ag (aD (eY a6 (ao aP (pv 1) ad) (pv 3) (aH _))))
   aO)
  (ae (aJ (aL a6 (cc (pv 0) rfl) ar (aH _))
   (ag (aD (eY kz (cc (pv 0) rfl) (ao aP (pv 1) ad) rfl)))
   aO)
  (ag (aD (eY JI (ao aP (pv 1) ad) (cc (pv 0) rfl) (aH _)))))))))),5]
 have W0:=W;cases W with
 | @mk a dx t ps _ h1 h2 h3 =>
 have pe:(!ps.isEmpty) = !y.parts.isEmpty:=by
  have z:=h3.length;cases ps with
  | nil=>cases hp:y.parts with
   | nil=>rfl
   | cons p r=>rw[hp] at z;cases z
  | cons v r=>cases hp:y.parts with
   | nil=>rw[hp] at z;cases z
   | cons p r=>rfl
 k_ne
 refine#[1,a,_,dx,_,1,h1,T.cx,T.iy,mW _ _ _,_,.inr (.inl #[_,SqT.of h2,0]),5];rw[pe];have fld:hfs y.word (valV y.val) t=hfs y.word (valV y.val) t:=rfl;have no:(hfs y.word (valV y.val) t).lookup ("fits_parts":Str)=none:=kS _ _ _ (by lia) (by lia) (by lia);have word:∀(A:Prop),A->True:=λ_ _=>trivial;cases y with
 | not p=>exact iteT #[1,a,dx,1,h1,no,1111,_,rv,row,number,keeper,thing,.not p,0,W0,R,hd,by simp[Wh.parts],q]
 | both p p'=>exact iteT #[1,a,dx,1,h1,no,1111,_,rv,row,number,keeper,thing,.both p p',0,W0,R,hd,by simp[Wh.parts],q]
 | any p p'=>exact iteT #[1,a,dx,1,h1,no,1111,_,rv,row,number,keeper,thing,.any p p',0,W0,R,hd,by simp[Wh.parts],q]
 | all =>
  refine iteF #[1,a,_,dx,801,iteT ?_];exact q
 | self =>
  refine iteF #[1,a,_,dx,806];refine#[1,a,_,dx,801,iteT ?_];refine#[1105];have e:decide (V.int thing=V.int number)=decide (thing=number):=by simp
  show Q (.bl (decide (V.int thing=V.int number))) H
  rw[e];exact q
 | mine =>
  refine iteF #[1,a,_,dx,806];refine#[1,a,_,dx,806];refine#[1015];cases row with
  | none =>
   cases (show rv = .non from R);refine iteT ?_;refine#[1,a,_,dx,801,iteT ?_];refine#[111405];have e:decide (V.int thing=V.int (-1-keeper))=decide (thing = -1-keeper):=(by simp);show Q (.bl (decide (V.int thing=V.int (-1-keeper)))) H
   rw[e];exact q
  | some r =>
   obtain⟨b,m,rfl,r1,r2⟩:=(show dA H rv r from R);refine iteF ?_;refine#[1,a,_,dx,801,iteT ?_];refine#[1,b,_,4,SqT.of r1,0105];have e:decide (V.int r.keeper=V.int keeper)=decide (r.keeper=keeper):=(by simp);show Q (.bl (decide (V.int r.keeper=V.int keeper))) H
   rw[e];exact q
 | mark n =>
  refine iteF #[1,a,_,dx,806];refine#[1,a,_,dx,806];refine#[1015];cases row with
  | none =>
   cases (show rv = .non from R);refine iteT ?_;exact#[1,a,_,dx,801,iteF q]
  | some r =>
   obtain⟨b,m,rfl,r1,r2⟩:=(show dA H rv r from R);refine iteF ?_;refine#[1,a,_,dx,806];refine#[1,a,_,dx,801,iteT ?_];exact#[1,a,_,dx,_,1,h1,T.cx,T.lE,AT _ _ _,1,b,_,4,SqT.of r1,0,m,1,.inr (SqT.of r2),0,G3 _,q]
 | force i =>
  refine iteF #[1,a,_,dx,806];refine#[1,a,_,dx,806];refine#[1015];cases row with
  | none =>
   cases (show rv = .non from R);refine iteT ?_;exact#[1,a,_,dx,801,iteF q]
  | some r =>
   obtain⟨b,m,rfl,r1,r2⟩:=(show dA H rv r from R);refine iteF ?_;refine#[1,a,_,dx,806];refine#[1,a,_,dx,806];exact#[1,b,_,4,SqT.of r1,01,a,_,dx,_,1,h1,T.cx,T.lE,AT _ _ _,4,q]
theorem BO (T:Tx K mg):FnOk P w K mg base CX0 2 T.fb.f T.fb.d sx (sE T.aT 0):=by
 have no:∀vs H Q E,¬ sE T.aT 0 vs H Q E:=λvs H Q E h=>by
  obtain⟨v,rv,row,number,keeper,thing,y,_,_,_,hd,_⟩:=h;have:1<=y.depth:=by cases y<;>simp[Wh.depth]
  lk
 exact#[λvs H Q E h=>absurd h (no vs H Q E),λA outer s H args us vs Q E _ _ _ _ h=>absurd h (no vs H Q E)]
theorem TJ (T:Tx K mg):∀n:Nat,FnOk P w K mg base CX0 (2*n+2) T.fb.f T.fb.d sx (sE T.aT n)
 | 0=>BO T
 | n+1=>Ez T (Gk T (TJ T n))
theorem fg {H H':Hp}{p:Addr}(S:Same H H')(h:H p=none)(o:HO):Same H (upd H' p o):=λb u q=>by rw[aF (a9 q h)];exact S b u q
theorem none_of {H H':Hp}{p:Addr}(S:Same H H')(h:H' p=none):H p=none:=by
 cases e:H p with
 | none=>rfl
 | some o =>
  have z:=S _ _ e;rw[z] at h;cases h
@[elab_as_elim] theorem laid {H:Hp} {l:Addr} {o:HO} {motive:Hp->Prop} (hl:H l=none) (h:∀H1,Same H H1->H1 l=some o->motive H1):motive (upd H l o):=h _ (aU hl o) aB
theorem ji {ss:List Str}{r:Int}(h0:0<=r)(h1:r<(ss.length:Int)):∃u,atI (ss.map V.str) r=some (.str u)/\u∈ss:=by
 obtain⟨v,hv,hm⟩:=gF (xs:=ss.map V.str) h0 (by rw[aw];exact h1);obtain⟨u,hu,rfl⟩:=bT.mp hm;exact#[u,hv,hu]
theorem nR (x:Int){m:Int}(h:0<m):0<=x % m/\x % m<m:=#[zE x (by lk),Ao x h]
theorem pw (s:Str)(xs zs:List Str){ys:List Str}(h:ys≠[]):aj s (xs++(aj s ys::zs))=aj s (xs++(ys++zs)):=by
 have e:=LQ s (xss:=xs.map (λx=>[x])++(ys::zs.map λx=>[x])) (λx hx=>by
  rcases bM.mp hx with hx|hx
  .obtain⟨y,_,rfl⟩:=bT.mp hx;exact dS _ _
  .rcases aM.mp hx with rfl|hx
   .exact h
   .obtain⟨y,_,rfl⟩:=bT.mp hx;exact dS _ _)
 rw[yY,jr,pK,pK,bE,bp,cW,cW] at e;have i:∀l:List Str,l.map (aj s∘λx=>[x])=l:=λl=>by
  induction l with
  | nil=>rfl
  | cons x r ih=>rw[bp,ih];rfl
 rw[i,i] at e;exact e
noncomputable def SV (D:Addr)(H:Hp)(x:V)(ws:List Str):Prop :=
 (x = .non/\ws=[])∨(∃y,IsW D H x y/\plain y/\ws=[aj " " y.words])∨(∃u,x = .str u/\ws=[u])∨(∃i:Nat,i<1000/\x = .int i/\ws=[(toString (i:Int):Str)])
theorem qC {x:V}{u:Str}(hv:(x = .str u)∨∃i:Nat,i<1000/\x = .int i/\u=(toString (i:Int):Str))(H0:Hp)(Q':VK)(z:Q' (.str u) H0):rStrAny [x] H0 Q':=by
 unfold rStrAny
 rcases hv with e|⟨i,hi,e,rfl⟩
 .exact .inl #[u,by rw[e],z]
 .exact .inr #[i,by rw[e],(by rw[mM];exact ng i hi),z]
noncomputable def Fz (D:Addr):Sp:=λvs H Q _=>Ex2 λx (ws:List Str)=>vs=[x]/\SV D H x ws/\∀p H',Same H H'->H' p=some (.lst (ws.map V.str))->Q (.ref p) H'
noncomputable def Nj (D:Addr):Sp:=λvs H Q _=>Ex2 λv (d:Deed)=>vs=[v]/\jC D H v d/\d.ok/\∀H',Same H H'->Q (.str (aj " " d.words)) H'
noncomputable def NN (D:Addr):Sp:=λvs H Q _=>Ex2 λv (r:Rule)=>vs=[v]/\fU D H v r/\r.ok/\∀H',Same H H'->Q (.str (bF r)) H'
noncomputable def EM (B D:Addr):Sp:=λvs H Q _=>Ex2 λv (c:Crd)=>vs=[v]/\gr B D H v c/\c.ok/\∀H',Same H H'->Q (.str c.text) H'
theorem QX (T:Tx K mg):FnOk P w K mg base CX0 12 T.pq.f T.pq.d GO (Fz T.aT):=by
 refine T.pq.ok F9 ?_;rintro f c A o s H vs Q E hr ⟨x,ws,rfl,hv,q⟩ X;refine#[_,(ae (aJ (aL kU (pv 0) gP (aH _))
   (ag (aD (bj ab)))
   aO)
  (ae (aJ (cN (bh fu rfl T.dH eF (aa (pv 0) (aa (dR (v:=.ref T.aT) rfl T.oV rfl) ab))))
   (ag (aD (bj (aa (cH (pv 0) T.cx T.dY.M (se T 9) hr (qT T) .nil bA) ab))))
   aO)
  (ag (aD (bj (aa (bV mo rfl T.fc gK (aa (pv 0) ab)) ab)))))),5]
 k_ne
 refine#[1015]
 rcases hv with⟨rfl,rfl⟩|⟨y,W,pl,rfl⟩|⟨u,rfl,rfl⟩|⟨i,hi,rfl,rfl⟩
 .exact iteT #[sz0,λl hl=>q l _ (aU hl _) aB]
 .cases W with
  | @mk a dx t ps _ h1 h2 h3 =>
  refine iteF #[1,_,_,_,true,0,T.iH.ty T.cx h1,.inr #[1,T.iH.self],1,iteT ?_];refine#[1,a,dx,1,h1,kS _ _ _ (by lia) (by lia) (by lia),.ref a,y,0,.mk h1 h2 h3,pl.1,(aV y.pR pl.2),pl.2,λH1 S1=>?_];exact#[sz1,λl hl=>q l _ (S1.trans (aU hl _)) aB]
 .refine iteF #[1,_,_,_,false,0,TyOf.str _,.inr #[1,T.iH.sO],6];refine#[15];refine qC (.inl rfl) _ _ ?_;exact#[sz1,λl hl=>q l _ (aU hl _) aB]
 .refine iteF #[1,_,_,_,false,0,TyOf.int _,.inr #[1,T.iH.iO],6];refine#[15];refine qC (.inr #[i,hi,00]) _ _ ?_;exact#[sz1,λl hl=>q l _ (aU hl _) aB]
theorem lN {ws:List Str}{s:Str}(hs:s.length<=3)(hn:ws.length<=60)(h:∀u∈ws,u.length<=2000):(ws.map (·.length)).sum+ws.length*s.length<=16777216:=by
 have c:=gY (l:=ws.map (·.length)) (k:=2000) (λx hx=>by
  obtain⟨u,hu,rfl⟩:=bT.mp hx;exact h u hu)
 rw[aw] at c;have a:ws.length*2000<=60*2000:=TH _ hn;have b:ws.length*s.length<=60*3:=Nat.mul_le_mul hn hs;lk
theorem OQ {k:Str}{v:Wv}(h:eX k v)(n:k ≠ "leave"):∃u,v.words=[u]/\((amtV v = .str u)∨∃i:Nat,i<1000/\amtV v = .int i/\u=(toString (i:Int):Str)):=by
 cases h with
 | leave=>exact absurd rfl n
 | gain h=>exact#[1,.inl rfl]
 | lack h=>exact#[1,.inl rfl]
 | hurt h=>exact#[1,.inr #[_,h,00]]
 | lose h=>exact#[1,.inr #[_,h,00]]
 | score h=>exact#[1,.inr #[_,h,00]]
 | draw h=>exact#[1,.inr #[_,h,00]]
theorem KO {k:Str}{v:Wv}(h:eX k v)(n:k = "leave"):v.words=[]:=by
 cases h with
 | leave=>rfl
 | _=>exact absurd n (by decide)
theorem Tp (T:Tx K mg):FnOk P w K mg base CX0 12 T.m8.f T.m8.d Gi (Nj T.aT):=by
 refine T.m8.ok PZ ?_;rintro f c A o s H vs Q E hr ⟨x,d,rfl,⟨a,y,rfl,h1,W⟩,ok,q⟩ X;refine#[_,(ae (aA (i:=1) PZ.nd rfl (.inl rfl) (oY (aL a6 (ao aP (pv 0) ad) ar (aH _)) (bj ab) (bj (aa (bV mo rfl T.fc gK (aa (ao aP (pv 0) ad) ab)) ab))))
  (ag (aD (bR eM gk gq im ar (aa (aN hU (aN hU (bj (aa (ao aP (pv 0) ad) (aa (ao aP (pv 0) ad) ab))) (pv 1)) (bj (aa (cH (ao aP (pv 0) ad) T.cx T.dY.M (se T 9) hr (qT T) .nil bA) ab))) ab))))),5]
 k_ne
 refine#[1,a,_,4,SqT.of h1,aI (j:=1) rfl,015];refine ite2 (λc=>?g1) (λc=>?g2)
 case' g1 =>
  have ek:d.kind = "leave":=by
   have c':=of_decide_eq_true c;injection c' with c'
  have ea:=KO ok.amt ek;refine#[sz0,λl hl=>?_];have S1:=aU hl (.lst []);have e1:upd H l (.lst []) l=some (.lst (d.amt.words.map V.str)):=by rw[ea];exact aB
  generalize upd H l (.lst [])=H1 at *
 case' g2 =>
  have ek:d.kind ≠ "leave":=λz=>c (by rw[z];rfl);obtain⟨u,ea,hv⟩:=OQ ok.amt ek;refine#[1,a,_,4,SqT.of h1,aI (j:=2) rfl,5];refine qC hv _ _ ?_;refine#[sz1,λl hl=>?_];have S1:=aU hl (.lst [.str u]);have e1:upd H l (.lst [.str u]) l=some (.lst (d.amt.words.map V.str)):=by rw[ea];exact aB
  generalize upd H l (.lst [.str u])=H1 at *
 all_goals
  refine#[01,a,_,4,SqT.of (S1 _ _ h1),91,a,_,4,SqT.of (S1 _ _ h1),aI (j:=1) rfl,sz2,λl1 hl1=>?_];have S2:=aU hl1 (.lst [.str d.each,.str d.kind]);have e2:upd H1 l1 (.lst [.str d.each,.str d.kind]) l1=some (.lst [.str d.each,.str d.kind]):=aB;generalize upd H1 l1 (.lst [.str d.each,.str d.kind])=H2 at *;have al:=iX d.amt;refine#[1,l1,l,4,e2,S2 _ _ e1,(by rw[aw];exact small (by show 2+d.amt.words.length<=1000;lk)),λp hp=>?_];have S3:=aU hp (.lst ([.str d.each,.str d.kind]++d.amt.words.map V.str));have e3:upd H2 p (.lst ([.str d.each,.str d.kind]++d.amt.words.map V.str)) p=some (.lst ((d.each::d.kind::d.amt.words).map V.str)):=aB;generalize upd H2 p (.lst ([.str d.each,.str d.kind]++d.amt.words.map V.str))=H3 at *;have S03:=S1.trans (S2.trans S3);refine#[1,a,_,4,SqT.of (S03 _ _ h1),aI (j:=3) rfl,5];have W3:=W.same S03;obtain⟨y1,y2⟩:=ok.whom;cases W3 with
  | @mk a' dx t ps _ k1 k2 k3 =>
  refine#[a',dx,1,k1,kS _ _ _ (by lia) (by lia) (by lia),.ref a',d.whom,0,.mk k1 k2 k3,y1,(aV d.whom.pR y2),y2,λH4 S4=>?_];refine#[sz1,λl2 hl2=>?_];have S5:=aU hl2 (.lst [.str (aj " " d.whom.words)]);have e5:upd H4 l2 (.lst [.str (aj " " d.whom.words)]) l2=some (.lst [.str (aj " " d.whom.words)]):=aB;generalize upd H4 l2 (.lst [.str (aj " " d.whom.words)])=H5 at *;refine#[p,l2,4,S5 _ _ (S4 _ _ e3),e5,(by rw[aw];exact small (by show d.amt.words.length+1+1+1<=1000;lk)),λp2 hp2=>?_];refine#[" ",p2,(d.each::d.kind::d.amt.words)++[aj " " d.whom.words],00,SqL.of (by rw[aB,bE];rfl),lN (by decide) ?_ ?_,5]
  .rw[aS];show d.amt.words.length+1+1+1<=60
   lk
  .intro u hu
   rcases bM.mp hu with hu|hu
   .have hw:u∈d.words:=by
     show u∈d.each::d.kind::(d.amt.words++d.whom.words)
     rcases aM.mp hu with rfl|hu
     .exact bb
     .rcases aM.mp hu with rfl|hu
      .exact bx _ bb
      .exact bx _ (bx _ (fL _ hu))
    exact aV (Deed.fZ ok u hw).1.2.2 (by decide)
   .rw[aX.mp hu];exact aV (jg y1 y2) (by decide)
  .rw[pw " " (d.each::d.kind::d.amt.words) [] d.whom.dw,ci];exact q _ ((S03.trans (S4.trans S5)).trans (aU hp2 _))
noncomputable def hvs:Hv->List Str
 | .v x=>x.words
 | .w y=>[aj " " y.words]
theorem Ov {D:Addr}{H:Hp}{x:V}{u:Str}{v:Hv}(h:cj u v)(hv:HvAt D H x v):SV D H x (hvs v):=by
 cases h with
 | mute=>exact .inl #[hv,0]
 | steal=>exact .inl #[hv,0]
 | gain h=>exact .inr (.inr (.inl #[_,hv,0]))
 | lack h=>exact .inr (.inr (.inl #[_,hv,0]))
 | be h=>exact .inr (.inr (.inr #[_,h,hv,0]))
 | more h=>exact .inr (.inr (.inr #[_,h,hv,0]))
 | less h=>exact .inr (.inr (.inr #[_,h,hv,0]))
 | per h=>exact .inr (.inl #[_,hv,h,0])
theorem JJ {D:Addr}{H:Hp}{u:Str}{v:Wv}(h:TurnOk u v):SV D H (valV v) v.words:=by
 cases h with
 | none=>exact .inl #[00]
 | here=>exact .inl #[00]
 | less h=>exact .inr (.inr (.inr #[_,h,00]))
 | more h=>exact .inr (.inr (.inr #[_,h,00]))
 | as h=>exact .inr (.inr (.inl #[10]))
theorem FP {u:Str}{v:Hv}(h:cj u v):(hvs v).length<=1/\∀z∈hvs v,z.length<=2000:=by
 cases h with
 | per h=>exact#[az _,λz hz=>by rw[aX.mp hz];exact aV (jg h.1 h.2) (by decide)]
 | mute=>exact#[7,λz hz=>by cases hz]
 | steal=>exact#[7,λz hz=>by cases hz]
 | gain h=>exact#[az _,λz hz=>by rw[aX.mp hz];exact aV h.2.1 (by decide)]
 | lack h=>exact#[az _,λz hz=>by rw[aX.mp hz];exact aV h.2.1 (by decide)]
 | be h=>exact#[az _,λz hz=>by rw[aX.mp hz];exact aV (j6 _ h).2 (by decide)]
 | more h=>exact#[az _,λz hz=>by rw[aX.mp hz];exact aV (j6 _ h).2 (by decide)]
 | less h=>exact#[az _,λz hz=>by rw[aX.mp hz];exact aV (j6 _ h).2 (by decide)]
theorem Gr (u:Str)(v:Hv)(y:Wh):aj " " ((("hold":Str)::u::hvs v)++[aj " " y.words])=bF (.hold u v y):=by
 rw[pw " " _ [] y.dw,ci];cases v with
 | v x=>rfl
 | w z =>
  show aj " " ([("hold":Str),u]++(aj " " z.words::y.words))=_
  rw[pw " " _ _ z.dw];rfl
theorem xa (d:Deed):d.words≠[]:=dS _ _
theorem tG (u:Str)(y:Wh)(d:Deed):aj " " [("when":Str),u,aj " " y.words,"do",aj " " d.words]=bF (.wen u y d):=by
 show aj " " ([("when":Str),u]++(aj " " y.words::[("do":Str),aj " " d.words]))=_
 rw[pw " " _ _ y.dw];have e:[("when":Str),u]++(y.words++[("do":Str),aj " " d.words])=([("when":Str),u]++(y.words++[("do":Str)]))++(aj " " d.words::[]):=by simp
 rw[e,pw " " _ _ (xa d)];unfold bF Rule.words;simp
theorem Ut (u:Str)(y:Wh)(t:Str)(v:Wv):aj " " ([("instead":Str),u,aj " " y.words,"do",t]++v.words)=bF (.instead u y t v):=by
 show aj " " ([("instead":Str),u]++(aj " " y.words::("do":Str)::t::v.words))=_
 rw[pw " " _ _ y.dw];rfl
theorem BU (c:Nat)(d:Deed):aj " " [("may":Str),(toString (c:Int):Str),"do",aj " " d.words]=bF (.may c d):=by
 show aj " " ([("may":Str),(toString (c:Int):Str),"do"]++(aj " " d.words::[]))=_
 rw[pw " " _ _ (xa d),ci];rfl
theorem wk {d:Deed}(h:d.ok):(aj " " d.words).length<=2000:=by
 have a:=text_len (ws:=d.words) (λu hu=>(Deed.fZ h u hu).1);have b:=mH h;lk
theorem jL {u:Str}(h:ii u):u.length<=2000:=aV h.1.2.2 (by decide)
theorem nq {y:Wh}(h:plain y):(aj " " y.words).length<=2000:=aV (jg h.1 h.2) (by decide)
theorem cV {l:List Str}(h:∀u∈l,u.length<=2000){x:Str}(hx:x.length<=2000):∀u∈x::l,u.length<=2000:=λu hu=>by
 rcases aM.mp hu with rfl|hu
 .exact hx
 .exact h u hu
theorem kN:∀u∈([]:List Str),u.length<=2000:=λu hu=>by cases hu
theorem Mt (T:Tx K mg):FnOk P w K mg base CX0 13 T.qc.f T.qc.d Dy (NN T.aT):=by
 refine T.qc.ok vO ?_;rintro f c A o s H vs Q E hr ⟨z,r,rfl,IR,ok,q⟩ X;refine#[_,(ae (aJ (aL a6 (ao aP (pv 0) ad) ar (aH _))
   (ag (aA (i:=1) vO.nd rfl (.inl rfl) (aN hU (aN hU (bj (aa ar (aa (ao aP (pv 0) ad) ab))) (T.pq.c (QX T) hr (QB T) (aa (ao aP (pv 0) ad) ab))) (bj (aa (cH (ao aP (pv 0) ad) T.cx T.dY.M (se T 9).up hr (qT T) .nil bA) ab)))))
   (ag (aJ (aL a6 (ao aP (pv 0) ad) ar (aH _))
    (ag (aA (i:=1) vO.nd rfl (.inl rfl) (bj (aa ar (aa (ao aP (pv 0) ad) (aa (cH (ao aP (pv 0) ad) T.cx T.dY.M (se T 9).up hr (qT T) .nil bA) (aa ar (aa (T.m8.c (Tp T) hr (Ql T) (aa (ao aP (pv 0) ad) ab)) ab))))))))
    (ag (aJ (aL a6 (ao aP (pv 0) ad) ar (aH _))
     (ag (aA (i:=1) vO.nd rfl (.inl rfl) (aN hU (bj (aa ar (aa (ao aP (pv 0) ad) (aa (cH (ao aP (pv 0) ad) T.cx T.dY.M (se T 9).up hr (qT T) .nil bA) (aa ar (aa (ao aP (pv 0) ad) ab)))))) (T.pq.c (QX T) hr (QB T) (aa (ao aP (pv 0) ad) ab)))))
     (ag (aA (i:=1) vO.nd rfl (.inl rfl) (bj (aa ar (aa (bV mo rfl T.fc gK (aa (ao aP (pv 0) ad) ab)) (aa ar (aa (T.m8.c (Tp T) hr (Ql T) (aa (ao aP (pv 0) ad) ab)) ab))))))))))))
  (ag (aD (bR eM gk gq im ar (aa (pv 1) ab))))),5]
 cases r with
 | hold u v y =>
  obtain⟨a,x,o,rfl,h1,hv,W⟩:=IR;obtain⟨ok1,ok2⟩:=ok;have hl:=FP ok1
  k_ne
  refine#[1,a,_,4,SqT.of h1,901,iteT ?_];refine#[1,a,_,4,SqT.of h1,aI (j:=1) rfl,sz2,λl1 hl1=>?_];have S1:=aU hl1 (.lst [.str "hold",.str u]);have e1:upd H l1 (.lst [.str "hold",.str u]) l1=some (.lst [.str "hold",.str u]):=aB;generalize upd H l1 (.lst [.str "hold",.str u])=H1 at *;refine#[1,a,_,4,SqT.of (S1 _ _ h1),aI (j:=2) rfl,x,hvs v,0,Ov ok1 (hv.same S1),λp H2 S2 e2=>?_];refine#[l1,p,4,S2 _ _ e1,e2,(by rw[aw];exact small (by show 2+(hvs v).length<=1000;lk)),λp3 hp3=>?_];have S3:=aU hp3 (.lst ([.str "hold",.str u]++(hvs v).map V.str));have e3:upd H2 p3 (.lst ([.str "hold",.str u]++(hvs v).map V.str)) p3=some (.lst ((("hold":Str)::u::hvs v).map V.str)):=aB;generalize upd H2 p3 (.lst ([.str "hold",.str u]++(hvs v).map V.str))=H3 at *;have S03:=S1.trans (S2.trans S3);refine#[1,a,_,4,SqT.of (S03 _ _ h1),aI (j:=3) rfl,5];have W3:=W.same S03;cases W3 with
  | @mk a' dx t ps _ k1 k2 k3 =>
  refine#[a',dx,1,k1,kS _ _ _ (by lia) (by lia) (by lia),.ref a',y,0,.mk k1 k2 k3,ok2.1,(aV y.pR ok2.2),ok2.2,λH4 S4=>?_];refine#[sz1,λl2 hl2=>?_];have S5:=aU hl2 (.lst [.str (aj " " y.words)]);have e5:upd H4 l2 (.lst [.str (aj " " y.words)]) l2=some (.lst [.str (aj " " y.words)]):=aB;generalize upd H4 l2 (.lst [.str (aj " " y.words)])=H5 at *;refine#[p3,l2,4,S5 _ _ (S4 _ _ e3),e5,(by rw[aw];exact small (by show (hvs v).length+1+1+1<=1000;lk)),λp6 hp6=>?_];refine#[01," ",p6,(("hold":Str)::u::hvs v)++[aj " " y.words],00,SqL.of (by rw[aB,bE];rfl),lN (by decide) ?_ ?_,5]
  .rw[aS];show (hvs v).length+1+1+1<=60
   lk
  .intro z hz
   rcases bM.mp hz with hz|hz
   .exact cV (cV hl.2 (jL (dL (l:=changes) (by lia) ok1.word))) (by decide) z hz
   .rw[aX.mp hz];exact nq ok2
  .rw[Gr];exact q _ ((S03.trans (S4.trans S5)).trans (aU hp6 _))
 | wen u y d =>
  obtain⟨a,x,o,rfl,h1,W,ID⟩:=IR;obtain⟨ok1,ok2,ok3⟩:=ok
  k_ne
  refine#[1,a,_,4,SqT.of h1,906];refine#[1,a,_,4,SqT.of h1,901,iteT ?_];refine#[1,a,_,4,SqT.of h1,aI (j:=1) rfl,1,a,_,4,SqT.of h1,aI (j:=2) rfl,5];cases id W with
  | @mk a' dx t ps _ k1 k2 k3 =>
  refine#[a',dx,1,k1,kS _ _ _ (by lia) (by lia) (by lia),.ref a',y,0,.mk k1 k2 k3,ok2.1,(aV y.pR ok2.2),ok2.2,λH4 S4=>?_];refine#[1,a,_,4,SqT.of (S4 _ _ h1),aI (j:=3) rfl,o,d,0,ID.same S4,ok3,λH5 S5=>?_];refine#[sz5,λl hl=>?_];refine#[01," ",l,[("when":Str),u,aj " " y.words,"do",aj " " d.words],00,SqL.of aB,lN (by decide) (by show 5<=60;decide) ?_,5]
  .exact cV (cV (cV (cV (cV kN (wk ok3)) (by decide)) (nq ok2)) (jL (dL (l:=nN) (by lia) ok1))) (by decide)
  .rw[tG];exact q _ ((S4.trans S5).trans (aU hl _))
 | instead u y t v =>
  obtain⟨a,x,rfl,h1,W⟩:=IR;obtain⟨ok1,ok2,ok3,ok4⟩:=ok;have vl:=iX v
  k_ne
  refine#[1,a,_,4,SqT.of h1,906];refine#[1,a,_,4,SqT.of h1,906];refine#[1,a,_,4,SqT.of h1,901,iteT ?_];refine#[1,a,_,4,SqT.of h1,aI (j:=1) rfl,1,a,_,4,SqT.of h1,aI (j:=2) rfl,5];cases id W with
  | @mk a' dx b ps _ k1 k2 k3 =>
  refine#[a',dx,1,k1,kS _ _ _ (by lia) (by lia) (by lia),.ref a',y,0,.mk k1 k2 k3,ok2.1,(aV y.pR ok2.2),ok2.2,λH4 S4=>?_];refine#[1,a,_,4,SqT.of (S4 _ _ h1),aI (j:=3) rfl,sz5,λl hl=>?_];have S5:=aU hl (.lst [.str "instead",.str u,.str (aj " " y.words),.str "do",.str t]);have e5:upd H4 l (.lst [.str "instead",.str u,.str (aj " " y.words),.str "do",.str t]) l=some (.lst [.str "instead",.str u,.str (aj " " y.words),.str "do",.str t]):=aB;generalize upd H4 l (.lst [.str "instead",.str u,.str (aj " " y.words),.str "do",.str t])=H5 at *;have h5:=S5 _ _ (S4 _ _ h1);refine#[1,a,_,4,SqT.of h5,aI (j:=4) rfl,valV v,v.words,0,JJ ok4,λp H6 S6 e6=>?_];refine#[l,p,4,S6 _ _ e5,e6,(by rw[aw];exact small (by show 5+v.words.length<=1000;lk)),λp7 hp7=>?_];refine#[01," ",p7,[("instead":Str),u,aj " " y.words,"do",t]++v.words,00,SqL.of (by rw[aB,bE];rfl),lN (by decide) ?_ ?_,5]
  .rw[aS];show 5+v.words.length<=60
   lk
  .intro z hz
   rcases bM.mp hz with hz|hz
   .exact cV (cV (cV (cV (cV kN (jL ok4.word)) (by decide)) (nq ok2)) (jL (dL (l:=cQ) (by lia) ok1))) (by decide) z hz
   .exact jL (ok4.words z hz)
  .rw[Ut];exact q _ ((S4.trans (S5.trans S6)).trans (aU hp7 _))
 | may c d =>
  obtain⟨a,o,rfl,h1,ID⟩:=IR;obtain⟨ok1,ok2⟩:=ok
  k_ne
  refine#[1,a,_,4,SqT.of h1,906];refine#[1,a,_,4,SqT.of h1,906];refine#[1,a,_,4,SqT.of h1,906];refine#[1,a,_,4,SqT.of h1,aI (j:=1) rfl,5];refine qC (.inr #[c,ok1,00]) _ _ ?_;refine#[1,a,_,4,SqT.of h1,aI (j:=2) rfl,o,d,0,ID,ok2,λH5 S5=>?_];refine#[sz4,λl hl=>?_];refine#[01," ",l,[("may":Str),(toString (c:Int):Str),"do",aj " " d.words],00,SqL.of aB,lN (by decide) (by show 4<=60;decide) ?_,5]
  .exact cV (cV (cV (cV kN (wk ok2)) (by decide)) (jL (d7 ok1))) (by decide)
  .rw[BU];exact q _ (S5.trans (aU hl _))
theorem C8 (n:Str)(c f:Nat)(m t:Addr):(cfs n c f m t).lookup ("name":Str)=some (.str n):=g8
theorem Fk (n:Str)(c f:Nat)(m t:Addr):(cfs n c f m t).lookup ("cost":Str)=some (.int c):=(cD (by lia)).trans g8
theorem Ia (n:Str)(c f:Nat)(m t:Addr):(cfs n c f m t).lookup ("force":Str)=some (.int f):=(cD (by lia)).trans ((cD (by lia)).trans g8)
theorem Eh (n:Str)(c f:Nat)(m t:Addr):(cfs n c f m t).lookup ("marks":Str)=some (.ref m):=(cD (by lia)).trans ((cD (by lia)).trans ((cD (by lia)).trans g8))
theorem KQ (n:Str)(c f:Nat)(m t:Addr):(cfs n c f m t).lookup ("rules":Str)=some (.ref t):=(cD (by lia)).trans ((cD (by lia)).trans ((cD (by lia)).trans ((cD (by lia)).trans g8)))
noncomputable def Bv:Sp:=λvs H Q _=>Ex2 λm (us:List Str)=>vs=[.ref m]/\H m=some (.tup (us.map V.str))/\Marks us/\Q (.str (cU us)) H
theorem GP (T:Tx K mg):FnOk P w K mg base CX0 2 T.rL.f T.rL.d Bl Bv:=by
 refine T.rL.ok N7 ?_;rintro f c A o s H vs Q E hr ⟨m,us,rfl,h2,ok,q⟩ X;refine#[_,(ag (aD (oY (rh (pv 0) (λ_=>rfl)) (bR eM gk gq uM ar (aa (pv 0) ab)) ar))),5];have ml:=ok.le;refine#[1,_,.inr (.inl #[_,SqT.of h2,0]),5];refine ite2 (λb=>?_) (λb=>?_)
 .have hne:us≠[]:=by
   intro z;rw[z] at b;cases b
  have em:aj "," us=cU us:=by
   cases hc:us with
   | nil=>exact absurd hc hne
   | cons x r=>rfl
  refine#[01,",",m,us,00,SqT.of h2,lN (by decide) (by lk) (λu hu=>aV (ok.ok u hu).2.1 (by decide)),5];rw[em];exact q
 .have he:us=[]:=by
   cases hc:us with
   | nil=>rfl
   | cons x r=>rw[hc] at b;exact absurd rfl b
  have em:("-":Str)=cU us:=by rw[he];rfl
  rw[em];exact q
theorem TZ (T:Tx K mg):FnOk P w K mg base CX0 14 T.pi.f T.pi.d Mz (EM T.b9 T.aT):=by
 refine T.pi.ok Qq ?_;rintro f c A o s H vs Q E hr ⟨z,c,rfl,⟨a,dx,m,t,vs,rfl,h1,h2,h3,R⟩,ok,q⟩ X;refine#[_,(ae (aA (i:=1) Qq.nd rfl (.inl rfl) (bR eM gk gq im ar (aa (bj (aa (cc (pv 0) rfl) (aa (bV uI rfl T.fc gK (aa (cc (pv 0) rfl) ab)) (aa (bV uI rfl T.fc gK (aa (cc (pv 0) rfl) ab)) (aa (T.rL.c (GP T).up hr (Gg T) (aa (cc (pv 0) rfl) ab)) ab))))) ab)))
  (ag (aD (bR eM gk gq im ar (aa (aN hU (bj (aa (pv 1) ab)) (cB (own:=["rule"]) (cap:=[]) rfl (bI.chk rfl rfl) .nil (kC (cc (pv 0) rfl)) (λ_ _ _ _=>(aZ (i:=0) (show bG (["rule"]:List Str) by lia) rfl (.inl rfl))) (λ_ _ _ _=>cF) (λ_ _ _ _=>by exact (T.qc.c (Mt T) hr (Fu T) (aa (pv 0) ab))))) ab))))),5]
 have ml:=ok.marks.le
 k_ne
 refine#[01,a,_,dx,_,1,h1,T.fW,T.vE,C8 _ _ _ _ _,1,a,_,dx,_,1,h1,T.fW,T.xo,Fk _ _ _ _ _,1,(by rw[mM];exact ng _ ok.cost),1,a,_,dx,_,1,h1,T.fW,T.qB,Ia _ _ _ _ _,1,(by rw[mM];exact ng _ ok.force),1,a,_,dx,_,1,h1,T.fW,T.uz,Eh _ _ _ _ _,m,c.marks,0,h2,ok.marks,sz4,λl hl=>?_];have S1:=aU hl (.lst (c.head.map V.str));have e1:upd H l (.lst (c.head.map V.str)) l=some (.lst (c.head.map V.str)):=aB;refine#[" ",l,c.head,00,SqL.of aB,lN (by decide) (by show 4<=60;decide) ?_,5]
 .exact cV (cV (cV (cV kN (aV (uW ok.marks).2 (by decide))) (jL (d7 ok.force))) (jL (d7 ok.cost))) (jL (ln ok.name))
 change _;refine#[01,sz1,λl2 hl2=>?_];have S2:=aU hl2 (.lst [.str (aj " " c.head)]);have e2:=(aB:upd (upd H l (.lst [.str c.name,.str (toString (c.cost:Int)),.str (toString (c.force:Int)),.str (cU c.marks)])) l2 (.lst [.str (aj " " c.head)]) l2=some (.lst [.str (aj " " c.head)]));have S02:Same H (upd (upd H l (.lst [.str c.name,.str (toString (c.cost:Int)),.str (toString (c.force:Int)),.str (cU c.marks)])) l2 (.lst [.str (aj " " c.head)])):=S1.trans S2;clear e1 S2 S1;generalize (upd (upd H l (.lst [.str c.name,.str (toString (c.cost:Int)),.str (toString (c.force:Int)),.str (cU c.marks)])) l2 (.lst [.str (aj " " c.head)]))=H2 at *;refine#[1,a,_,dx,_,1,S02 _ _ h1,T.fW,T.pP,KQ _ _ _ _ _,t,0,#[_,SqT.of (S02 _ _ h3)],5];refine mL (xs:=vs) (λi ys H'=>Same H2 H'/\i<=vs.length/\ys=(c.rules.take i).map λr=>V.str (bF r)) (λi ys H' z=>SqT.of (z.1 _ _ (S02 _ _ h3))) #[Same.refl _,ba _,0] ?_ ?_ ?_
 .rintro i ys H' ⟨_,_,rfl⟩;rw[aw,bQ];have:=ok.few;exact small (by lk)
 .rintro i x ys H' hx ⟨S3,hi,rfl⟩;obtain⟨r,hr',IR⟩:=R.get hx;refine#[01,x,r,0,IR.same (S02.trans S3),ok.rules r (bq hr'),λH4 S4=>#[S3.trans S4,55]]
  .exact (br.mp hx).1
  .rw[bU,hr',bE];rfl
 .rintro ys H3 ⟨S3,_,rfl⟩ b3 hb3;have rl:=R.length;have few:=ok.few;rw[rl,A3];have S4:=aU hb3 (.lst (c.rules.map λr=>V.str (bF r)));have e4:upd H3 b3 (.lst (c.rules.map λr=>V.str (bF r))) b3=some (.lst (c.rules.map λr=>V.str (bF r))):=aB;generalize upd H3 b3 (.lst (c.rules.map λr=>V.str (bF r)))=H4 at *;refine#[l2,b3,4,S4 _ _ (S3 _ _ e2),e4,(by rw[aw];exact small (by show 1+c.rules.length<=1000;lk)),λp hp=>?_];refine#[" / ",p,aj " " c.head::c.rules.map bF,00,SqL.of (by rw[aB,bp,cW];rfl),lN (by decide) ?_ ?_,5]
  .rw[aK,aw];lk
  .refine cV (λu hu=>?_) (aV (Crd.zr ok) (by decide));obtain⟨r,hr',rfl⟩:=bT.mp hu;exact aV (AA (ok.rules r hr')) (by decide)
  .exact q _ (S02.trans (S3.trans (S4.trans (aU hp _))))
noncomputable def ltr (r:Int):Nat:=(LL.cps.toList[r.toNat]?).getD 0
theorem pO:∀n:Nat,n<26->LL.cps.toList[n]?=some (97+n):=by lia
theorem j0 {r:Int}(h0:0<=r)(h1:r<26):(ltr r:Int)=97+r:=by
 unfold ltr;rw[pO r.toNat (by lk)];show ((97+r.toNat:Nat):Int)=97+r
 lk
theorem xh {r:Int}(h0:0<=r)(h1:r<26):atI LL.cps.toList r=some (ltr r):=by
 have q:=aI (pO r.toNat (by lk));rw[show ((r.toNat:Nat):Int)=r by lk] at q;rw[q];unfold ltr;rw[pO r.toNat (by lk)];rfl
theorem Go (x:Int):97<=ltr (x % 26)/\ltr (x % 26)<=122:=by
 have m:=nR x (m:=26) (by decide);have:=j0 m.1 m.2;lk
noncomputable def sgn (c:Nat):Str:=#[(yA [c])]
theorem Pz:∀cs:List Nat,(aj "" (cs.map sgn)).cps.toList=cs
 | []=>rfl
 | [c]=>rfl
 | c::d::r=>by
  have ih:=Pz (d::r);have e:aj "" ((c::d::r).map sgn)=sgn c ++ "" ++ aj "" ((d::r).map sgn):=rfl;rw[e];show (((yA [c])++("":Str).cps)++(aj "" ((d::r).map sgn)).cps).toList=_
  rw[uB,ih];rfl
theorem ud:∀cs:List Nat,((cs.map sgn).map (·.length)).sum=cs.length
 | []=>rfl
 | c::r=>by
  rw[bp,bp,d9,ud r,aK];show 1+r.length=r.length+1
  lk
theorem Gd (n L:Nat)(h:n<=L):yZ none (some (n:Int)) 1 L=gM n:=by
 unfold yZ;dsimp only;have e:(if (1:Int)>0 then max 0 (min (if (n:Int)<0 then (n:Int)+(L:Int) else (n:Int)) (L:Int)) else max (-1) (min (if (n:Int)<0 then (n:Int)+(L:Int) else (n:Int)) ((L:Int)-1)))=(n:Int):=by
  rw[if_pos (by decide),if_neg (by lk)];lk
 rw[e,if_pos (by decide)];have z:=Je 0 n;rw[yX] at z;rw[show ((0:Int))=((0:Nat):Int) from rfl,z];simp
theorem Nr {x:Array Nat}:∀n:Nat,n<=x.size->(gM n).filterMap (λj=>x[j]?)=x.toList.take n
 | 0,_=>rfl
 | n+1,h=>by
  rw[List.range_succ,List.filterMap_append,Nr n (by lk),bU];have e:x.toList[n]?=x[n]?:=by rw[fB]
  have hn:n<x.size:=by lk
  have e2:x[n]?=some x[n]:=gO hn;rw[e,yV,e2,List.filterMap_nil];rfl
theorem Ci (x:Str)(n:Nat)(h:n<=x.length):rQ x none (some (n:Int))=#[(x.cps.toList.take n).toArray]:=by
 unfold rQ;rw[Gd n x.length h,yy]
 by_cases e:n=x.length
 .subst e;rw[if_pos (by simp)];have:x.cps.toList.take x.length=x.cps.toList:=bX (by simp[IQ]);rw[this,qo]
 .rw[if_neg (by simp[e])];rw[show (λj=>x.cps[j]?)=(λj=>x.cps[j]?) from rfl];have z:=Nr (x:=x.cps) n h;rw[<- z]
noncomputable def Ct (K:ah):Sp:=λvs H Q _=>Ex3 λa (ns:List Int) (k:Int)=>vs=[.ref a,.int k]/\SqL K H a (ns.map V.int)/\ns.length<=63/\0<=k/\k<=10000000/\∀z:Int,Q (.int z) H
theorem Cp (T:Tx K mg):FnOk P w K mg base CX0 2 T.qM.f T.qM.d ET (Ct K):=by
 refine T.qM.ok Aj ?_;rintro f c A o s H vs Q E hr ⟨a,ns,k,rfl,hS,h63,k0,k9,q⟩ X;refine#[_,(ae (aJ (aL fP (pv 1) (bh cT rfl T.cr cE (aa (pv 0) ab)) (aH _))
   (ag (aD (ao bC (pv 0) (pv 1))))
   aO)
  (ae (aA (i:=2) Aj.nd rfl (.inl rfl) (aN dM ad (pv 1)))
  (ae (aJ (aL gR (bh cT rfl T.cr cE (aa (pv 0) ab)) ad (aH _))
   (ag (aA (i:=2) Aj.nd rfl (.inl rfl) (aN dM (pv 2) (aN iD (aN jy (ao bC (pv 0) (aN jy (aN dM (aN iD ad (pv 1)) ad) (bh cT rfl T.cr cE (aa (pv 0) ab)))) ad) (aN dM (aN jy (pv 1) ad) ad)))))
   aO)
  (ae (aA (i:=3) Aj.nd rfl (.inl rfl) (aN jy (aN iD (pv 2) ad) ad))
  (ag (aD (aN jy (aN iD (pv 3) (pv 3)) ad))))))),5]
 have hl:(ns.map V.int).length=ns.length:=aw _
 k_ne
 refine#[11,a,1,.inl hS,415];refine ite2 (λc=>?_) (λc=>?_)
 .have c':k<(((ns.map V.int).length:Nat):Int):=of_decide_eq_true c;obtain⟨z,hz⟩:=vB (ns:=ns) k0 (by lk);exact#[11,a,_,4,hS,hz,q z]
 .have big:∀c:Int,0<=c % 2147483629/\c % 2147483629<2147483629:=λc=>#[zE c (by lk),Ao c (by lk)];have fin:∀z:Int,CMul (z*48271 % 2147483629) (z*48271 % 2147483629):=λz=>.inl #[by have:=big (z*48271);lk,by have:=big (z*48271);lk];refine#[145]
  k_ne
  refine#[1,a,1,.inl hS,415];refine ite2 (λc=>?_) (λc=>?_)
  .have c':(0:Int)<(((ns.map V.int).length:Nat):Int):=of_decide_eq_true c;have n0:0<=(3*k+1) % (((ns.map V.int).length:Nat):Int):=zE _ (by lk);have n1:(3*k+1) % (((ns.map V.int).length:Nat):Int)<(((ns.map V.int).length:Nat):Int):=Ao _ c';obtain⟨z,hz⟩:=vB (ns:=ns) n0 (by lk);refine#[1114,.inl #[77],41,a,1,.inl hS,4,c',a,_,4,hS,hz,4,(by show (0:Int)<1000003;decide),14,(by show (0:Int)<97;decide),44,.inr #[by have:=nR k (m:=97) (by decide);lk,by have:=nR k (m:=97) (by decide);lk],45]
   k_ne
   exact#[14,.inr #[77],4,(by show (0:Int)<2147483629;decide),114,fin _,4,(by show (0:Int)<2147483629;decide),q _]
  .exact#[14,.inr #[77],4,(by show (0:Int)<2147483629;decide),114,fin _,4,(by show (0:Int)<2147483629;decide),q _]
theorem bL (T:Tx K mg):FnOk P w K mg base CX0 3 T.bw.f T.bw.d NI (Du K):=by
 refine T.bw.ok QO ?_;rintro f c A o s H vs Q E hr ⟨p,k,m,rfl,TT,hk,hm,q⟩ X;refine#[_,(ae (aA (i:=2) QO.nd rfl (.inl rfl) (aN jy (T.qM.c (Cp T) hr (Oh T) (aa (ao bC (pv 0) ad) (aa (ao bC (pv 0) ad) ab))) (pv 1)))
  (ae (nZ (aN dM (ao bC (pv 0) ad) ad) (nu (pv 0) ad set_list))
  (ag (aD (pv 2))))),5]
 obtain⟨⟨a,ns,h1,h2,h3⟩,lo⟩:=TT;have S0:SqL K H a (ns.map V.int):=h2.sq
 k_ne
 refine#[1,p,_,4,SqL.of h1,01,p,_,4,SqL.of h1,0,a,ns,k,0,S0,h3,lo,3,λz=>#[14,hm,5]]
 k_ne
 refine#[1,p,_,4,SqL.of h1,041,p,_,4,h1,05];have B:But p H (upd H p (.lst [.ref a,.int (k+1)])):=But.put;have T1:Tk K (upd H p (.lst [.ref a,.int (k+1)])) p (k+1):=#[#[a,ns,aB,h2.keep λo u z=>by rw[aF (cw z h1 (by intro y;cases y))];exact z,h3],3];have big:0<=z % m/\z % m<m:=#[zE z (by lk),Ao z hm];exact#[1,q _ _ big.1 big.2 B T1]
noncomputable def GB (K:ah):Sp:=λvs H Q _=>Ex2 λp (k:Int)=>vs=[.ref p]/\Tk K H p k/\k<=900000/\∀(r:Nat) (k':Int) H',r<1000->But p H H'->Tk K H' p k'->k'<=k+2->Q (.int (r:Int)) H'
theorem zk (T:Tx K mg):FnOk P w K mg base CX0 4 T.kP.f T.kP.d IG (GB K):=by
 refine T.kP.ok U3 ?_;rintro f c A o s H vs Q E hr ⟨p,k,rfl,TT,hk,q⟩ X;refine#[_,(ae (aJ (aL a6 (T.bw.c (bL T) hr (bK T) (aa (pv 0) (aa ad ab))) ad (aH _))
   (ag (aD (T.bw.c (bL T) hr (bK T) (aa (pv 0) (aa ad ab)))))
   aO)
  (ag (aD (T.bw.c (bL T) hr (bK T) (aa (pv 0) (aa ad ab)))))),5]
 k_ne
 refine#[1,p,k,(4),0,TT,37,λr H1 r0 r1 B1 T1=>#[015]];refine ite2 (λc=>?_) (λc=>?_)
 .refine#[1,p,k+1,(1000),0,T1,37,λr2 H2 a b B2 T2=>?_];obtain⟨n,rfl⟩:∃n:Nat,r2=(n:Int):=#[r2.toNat,3];exact q n _ H2 (by lk) (B1.trans B2) T2 (by lk)
 .refine#[1,p,k+1,(5),0,T1,37,λr2 H2 a b B2 T2=>?_];obtain⟨n,rfl⟩:∃n:Nat,r2=(n:Int):=#[r2.toNat,3];exact q n _ H2 (by lk) (B1.trans B2) T2 (by lk)
theorem L9 (n L:Nat)(h:n<=L):yZ (some (n:Int)) none 1 L=(gM (L-n)).map (n+·):=by
 unfold yZ;dsimp only;have e:(if (1:Int)>0 then max 0 (min (if (n:Int)<0 then (n:Int)+(L:Int) else (n:Int)) (L:Int)) else max (-1) (min (if (n:Int)<0 then (n:Int)+(L:Int) else (n:Int)) ((L:Int)-1)))=(n:Int):=by
  rw[if_pos (by decide),if_neg (by lk)];lk
 rw[e,if_pos (by decide)];exact Je n L
theorem Gu (x:Str)(n:Nat)(h:n<=x.length):rQ x (some (n:Int)) none=#[(x.cps.toList.drop n).toArray]:=by
 have hl:x.cps.size=x.length:=rfl;unfold rQ;rw[L9 n x.length h]
 by_cases e:n=0
 .subst e;rw[if_pos (by simp)];rw[Ag,qo]
 .rw[if_neg (by simp;lk)];have z:=Nr (x:=(x.cps.toList.drop n).toArray) (x.length-n) (by simp[hl]);rw[bX (by simp[hl])] at z;rw[Sr]
  congr 1
  rw[show (x.cps.toList.drop n)=(x.cps.toList.drop n).toArray.toList by simp,<- z]
  congr 1
  congr 1
  funext j
  show x.cps[n+j]?=(List.drop n x.cps.toList).toArray[j]?
  rw[<- fB (xs:=(List.drop n x.cps.toList).toArray),List.toList_toArray,qG,fB]
structure N4 (H:Hp)(nl:Addr)(ns:List Str):Prop where
 at_:H nl=some (.lst (ns.map V.str))
 len:ns.length=4
 ok:∀n∈ns,cC n
 nd:ns.Nodup
noncomputable def nmIn (cs:List Nat)(a c:Nat):Str:=#[(cs.take a).toArray]++sgn c++#[(cs.drop a).toArray]
theorem ye (cs:List Nat)(a c:Nat):(nmIn cs a c).cps.toList=cs.take a++c::cs.drop a:=by
 show ((cs.take a).toArray++(yA [c])++(cs.drop a).toArray).toList=_
 simp
theorem Kk {cs:List Nat}{a c:Nat}(h8:cs.length<8)(hc:97<=c/\c<=122)(hs:∀x∈cs,97<=x/\x<=122):cC (nmIn cs a c):=by
 have e:=ye cs a c;have el:(nmIn cs a c).length=cs.length+1:=by
  have q:=congrArg jA e;rw[cR,aS,aK,bQ,jb] at q;have q':(nmIn cs a c).length=min a cs.length+(cs.length-a+1):=q;lk
 refine#[335];rw[e];intro x hx
 rcases bM.mp hx with z|z
 .exact hs x (Tm z)
 .rcases aM.mp z with z|z
  .rw[z];exact hc
  .exact hs x (List.mem_of_mem_drop z)
theorem OT {cs:List Nat}{a c d:Nat}(h:nmIn cs a c=nmIn cs a d):c=d:=by
 have e:=congrArg (λz:Str=>z.cps.toList) h;simp only[ye] at e;have f:=List.append_cancel_left e;injection f
noncomputable def Ck (K:ah):Sp:=λvs H Q _=>Ex2 λp (k:Int)=>vs=[.ref p]/\Tk K H p k/\k<=900000/\∀nl (ns:List Str) (k':Int) H',But p H H'->Tk K H' p k'->k'<=k+11->H nl=none->N4 H' nl ns->Q (.ref nl) H'
theorem Ff (T:Tx K mg):FnOk P w K mg base CX0 4 T.r9.f T.r9.d Ld (Ck K):=by
 refine T.r9.ok vI ?_;rintro f c A o s H vs Q E hr ⟨p,k,rfl,TT,hk,q⟩ X;refine#[_,(ae (aA (i:=1) vI.nd rfl (.inr rfl) ar)
  (ae (aA (i:=2) vI.nd rfl (.inr rfl) (bR eM gk gq im ar (aa (cB (own:=["_law_k"]) (cap:=["_law_letters","_law_pen"]) rfl (bI.chk rfl rfl) (.cons (j:=1) rfl (.inl rfl) (.inl rfl) (.cons (j:=0) rfl (.inl rfl) (.inl rfl) .nil)) (gj rfl T.eC (aa (T.bw.c (bL T) hr (bK T) (aa (pv 0) (aa ad ab))) ab)) (λ_ _ _ _=>(aZ (i:=0) (show bG (["_law_k","_law_letters","_law_pen"]:List Str) by lia) rfl (.inl rfl))) (λ_ _ _ _=>cF) (λ_ _ _ _=>by exact (ao jT (pv 1) (T.bw.c (bL T) hr (bK T) (aa (pv 2) (aa ad ab)))))) ab)))
  (ae (aA (i:=3) vI.nd rfl (.inr rfl) (T.bw.c (bL T) hr (bK T) (aa (pv 0) (aa (aN dM (bh KI rfl T.cr cE (aa (pv 2) ab)) ad) ab))))
  (ae (aA (i:=4) vI.nd rfl (.inr rfl) (T.bw.c (bL T) hr (bK T) (aa (pv 0) (aa ad ab))))
  (ag (aD (cB (own:=["_law_k"]) (cap:=["_law_base","_law_letters","_law_at","_law_first"]) rfl (bI.chk rfl rfl) (.cons (j:=2) rfl (.inl rfl) (.inl rfl) (.cons (j:=1) rfl (.inl rfl) (.inl rfl) (.cons (j:=3) rfl (.inl rfl) (.inl rfl) (.cons (j:=4) rfl (.inl rfl) (.inl rfl) .nil)))) (gj rfl T.eC (aa ad ab)) (λ_ _ _ _=>(aZ (i:=0) (show bG (["_law_k","_law_base","_law_letters","_law_at","_law_first"]:List Str) by lia) rfl (.inl rfl))) (λ_ _ _ _=>cF) (λ_ _ _ _=>by exact (aN oB (aN oB (de uT (pv 1) dq (cY (pv 3))) (ao jT (pv 2) (aN jy (aN dM (pv 4) (aN iD ad (pv 0))) ad))) (de uT (pv 1) (cY (pv 3)) dq)))))))))),5]
 k_ne
 refine#[01,p,k,(8),0,TT,37,λm0 H1 m1 m2 B1 T1=>?_];obtain⟨m,rfl⟩:∃m:Nat,m0=(m:Int):=#[m0.toNat,3];refine#[1335];rw[cS];refine jZ (λj ys Hx=>Ex2 λ(cs:List Nat) (k':Int)=>But p H Hx/\Tk K Hx p k'/\k'<=k+1+(j:Int)/\j<=m/\cs.length=j/\(∀c∈cs,97<=c/\c<=122)/\ys=(cs.map sgn).map V.str) #[[],_,B1,T1,3,ba _,0,by simp,0] ?_ ?_ ?_
 .rintro j ys Hx ⟨cs,k',_,_,_,hj,hl,_,rfl⟩;rw[aw,aw,hl];exact small (by lk)
 .rintro j ys Hx hj ⟨cs,k',B,T2,hk',_,hl,hc,rfl⟩;refine#[011,p,k',(26),0,T2,37,λr H2 r0 r1 B2 T3=>?_];refine#[LL,4,(by lia),xh r0 r1,cs++[ltr r],_,B.trans B2,T3,3,hj,by rw[aS,hl];rfl,55]
  .intro c z
   rcases bM.mp z with y|y
   .exact hc c y
   .rw[aX.mp y];have:=j0 r0 r1;lk
  .rw[bE,bE];rfl
 .rintro ys Hx ⟨cs,k',B,T2,hk',_,hl,hc,rfl⟩ sl hsl;ext hsl H3 S3 e3;have B3:But p H H3:=B.trans (But.same S3);have T3:=T2.same S3;have nsl:p≠sl:=T2.ne hsl;refine#["",sl,cs.map sgn,00,SqL.of e3,55]
  .rw[ud,hl];have z0:("":Str).length=0:=rfl;rw[z0];lk
  have hx:=Pz cs;generalize aj "" (cs.map sgn)=x at hx ⊢;have xl:x.length=m:=by
   have z:=congrArg jA hx;rw[cR,hl] at z;exact z
  have s1000:∀{n:Nat},n<=1000->n<=aE:=λ{n} h=>iR (df h)
  k_ne
  refine#[11,x,0,s1000 (by lk),4,p,k',(m:Int)+1,(by rw[xl];rfl),T3,33,λa0 H4 a1 a2 B4 T4=>?_];obtain⟨a,rfl⟩:∃a:Nat,a0=(a:Int):=#[a0.toNat,3]
  k_ne
  refine#[1,p,_,(26),0,T4,37,λf0 H5 f1 f2 B5 T5=>?_];have B05:=B3.trans (B4.trans B5);refine#[(4),0775];refine jZ (λj ys Hx=>Hx=H5/\j<=4/\∃ns:List Str,ys=ns.map V.str/\ns.length=j/\(∀n∈ns,cC n)/\ns.Nodup/\∀n∈ns,∃i:Nat,i<j/\n=nmIn cs a (ltr ((f0+7*(0+(i:Int))) % 26))) #[0,ba _,[],00,by simp,.nil,by simp] ?_ ?_ ?_
  .rintro j ys Hx ⟨_,hj,ns,rfl,hl2,_⟩;rw[aw,hl2];exact small (by lk)
  .rintro j ys Hx hj ⟨rfl,_,ns,rfl,hl2,ok,nd,wh⟩;have hj4:j<4:=hj;have r26:=nR (f0+7*(0+(j:Int))) (m:=26) (by decide);refine#[0111,x,0,s1000 (by lk),λt1 e1 l1=>?_];refine#[1114,.inl #[77],44,(by show (0:Int)<26;decide),LL,4,(by lia),xh r26.1 r26.2,5];rw[Ci x a (by lk),hx] at e1;subst e1;refine#[4,s1000 (by show _+1<=1000;lk),111,x,0,s1000 (by lk),λt2 e2 l2=>?_];rw[Gu x a (by lk),hx] at e2;subst e2;refine#[450,hj,ns++[nmIn cs a (ltr ((f0+7*(0+(j:Int))) % 26))],55555]
   .refine s1000 ?_;have t1:((cs.take a).toArray++(yA [ltr ((f0+7*(0+(j:Int))) % 26)])).size<=8:=by
     rw[zf,a7,bQ];show _+1<=8
     lk
    have t2:((cs.drop a).toArray).size<=8:=by
     rw[a7,jb];lk
    exact aV (Nat.add_le_add t1 t2) (by decide)
   .rw[bE];rfl
   .rw[aS,hl2];rfl
   .intro n z
    rcases bM.mp z with y|y
    .exact ok n y
    .rw[aX.mp y];exact Kk (by lk) (Go _) hc
   .rw[qw];refine#[nd,vA _ _,λy hy n hn z=>?_];rw[aX.mp hn] at z;obtain⟨i,hi,rfl⟩:=wh y hy;have ed:=OT z;have e1:=j0 (nR (f0+7*(0+(i:Int))) (m:=26) (by decide)).1 (nR (f0+7*(0+(i:Int))) (m:=26) (by decide)).2;have e2:=j0 r26.1 r26.2;lk
   .intro n z
    rcases bM.mp z with y|y
    .obtain⟨i,hi,e⟩:=wh n y;exact#[i,3,e]
    .exact#[j,3,aX.mp y]
  .rintro ys Hx ⟨rfl,_,ns,rfl,hl2,ok,nd,wh⟩ nl hnl;ext hnl H6 S6 e6;refine q nl ns _ H6 (B05.trans (But.same S6)) (T5.same S6) (by lk) ?_ #[e6,hl2,ok,nd];cases z:H nl with
   | none=>rfl
   | some o =>
    by_cases ep:nl=p
    .rw[ep] at hnl;exact absurd rfl (T5.ne hnl)
    .rw[B05 _ _ ep z] at hnl;cases hnl
noncomputable def whT (y:Wh):Str:=aj " " y.words
inductive WT (H:Hp):V->Wh->Prop where
 | all {a:Addr}:H a=some (.tup [.str "all"])->WT H (.ref a) .all
 | self {a:Addr}:H a=some (.tup [.str "self"])->WT H (.ref a) .self
 | mine {a:Addr}:H a=some (.tup [.str "mine"])->WT H (.ref a) .mine
 | mark {a:Addr} {n:Str}:H a=some (.tup [.str "mark",.str n])->WT H (.ref a) (.mark n)
 | force {a:Addr} {i:Nat}:H a=some (.tup [.str "force",.int (i:Int)])->WT H (.ref a) (.force i)
 | not {a:Addr} {x:V} {y:Wh}:H a=some (.tup [.str "not",x])->WT H x y->WT H (.ref a) (.not y)
 | both {a:Addr} {x x':V} {y y':Wh}:H a=some (.tup [.str "both",x,x'])->WT H x y->WT H x' y'->WT H (.ref a) (.both y y')
 | any {a:Addr} {x x':V} {y y':Wh}:H a=some (.tup [.str "any",x,x'])->WT H x y->WT H x' y'->WT H (.ref a) (.any y y')
theorem WT.same {H H':Hp}(s:Same H H'):∀{v:V} {y:Wh},WT H v y->WT H' v y
 | _,_,.all h=>.all (s _ _ h)
 | _,_,.self h=>.self (s _ _ h)
 | _,_,.mine h=>.mine (s _ _ h)
 | _,_,.mark h=>.mark (s _ _ h)
 | _,_,.force h=>.force (s _ _ h)
 | _,_,.not h t=>.not (s _ _ h) (t.same s)
 | _,_,.both h t u=>.both (s _ _ h) (t.same s) (u.same s)
 | _,_,.any h t u=>.any (s _ _ h) (t.same s) (u.same s)
theorem WT.tup {H:Hp}{v:V}{y:Wh}(h:WT H v y):Ex2 λa xs=>v = .ref a/\H a=some (.tup xs):=by
 cases h<;>exact#[_,1,by assumption]
noncomputable def dep:Wh->Nat
 | .not a=>dep a+1
 | .both a b=>max (dep a) (dep b)+1
 | .any a b=>max (dep a) (dep b)+1
 | _=>0
theorem Ec {r:Int}{x y:Str}(h0:0<=r)(h1:r<2):∃u:Str,atI [V.str x,V.str y] r=some (.str u)/\(u=x∨u=y):=by
 obtain⟨v,hv,hm⟩:=gF (xs:=[V.str x,V.str y]) h0 h1;simp only[aM,dN,or_false] at hm
 rcases hm with e|e<;>subst e
 .exact#[_,hv,.inl rfl]
 .exact#[_,hv,.inr rfl]
theorem Tk.two {K:ah}{H:Hp}{p:Addr}{k:Int}(t:Tk K H p k):∃a,H p=some (.lst [.ref a,.int k]):=by
 obtain⟨⟨a,ns,h,_⟩,_⟩:=t;exact#[a,h]
theorem N4.ne {K:ah}{H:Hp}{p nl:Addr}{k:Int}{ns:List Str}(h:N4 H nl ns)(t:Tk K H p k):nl≠p:=λz=>by
 obtain⟨a,e⟩:=t.two;have e2:=h.at_;rw[z,e] at e2;injection e2 with e2
 injection e2 with e2
 have l:=congrArg jA e2;rw[aw,h.len] at l;cases l
theorem N4.but {K:ah}{H H':Hp}{p nl:Addr}{k:Int}{ns:List Str}(h:N4 H nl ns)(t:Tk K H p k)(b:But p H H'):N4 H' nl ns:=#[b _ _ (h.ne t) h.at_,h.len,h.ok,h.nd]
theorem N4.same {H H':Hp}{nl:Addr}{ns:List Str}(h:N4 H nl ns)(s:Same H H'):N4 H' nl ns:=#[s _ _ h.at_,h.len,h.ok,h.nd]
theorem WT.but {K:ah}{H H':Hp}{p:Addr}{k:Int}(t:Tk K H p k)(b:But p H H'){v:V}{y:Wh}(z:WT H v y):WT H' v y:=by
 obtain⟨c,ep⟩:=t.two;have s:∀{a:Addr} {xs:List V},H a=some (.tup xs)->H' a=some (.tup xs):=λh=>b _ _ (cw h ep (by intro z;cases z)) h
 induction z with
 | all h=>exact .all (s h)
 | self h=>exact .self (s h)
 | mine h=>exact .mine (s h)
 | mark h=>exact .mark (s h)
 | force h=>exact .force (s h)
 | not h _ i=>exact .not (s h) i
 | both h _ _ i j=>exact .both (s h) i j
 | any h _ _ i j=>exact .any (s h) i j
noncomputable def va (K:ah)(n:Nat):Sp:=λvs H Q _=>Ex5 λp nl (k:Int) (ns:List Str) (d:Nat)=>vs=[.ref p,.ref nl,.int (d:Int)]/\Tk K H p k/\k+4*(d:Int)<=900000/\N4 H nl ns/\1<=d/\d<=n/\∀v (y:Wh) (k':Int) H',But p H H'->Tk K H' p k'->k'<=k+4*(d:Int)->WT H' v y->y.ok->y.size<=d->Q v H'
theorem BV (T:Tx K mg){n:Nat}(zmq:FnOk P w K mg base CX0 (n+5) T.dZ.f T.dZ.d rW (va K n)):FnOk P w K mg base CX0 (n+6) T.dZ.f T.dZ.d rW (va K (n+1)):=by
 refine T.dZ.ok zh ?_;rintro f c A o s H vs Q E hr ⟨p,nl,k,ns,d,rfl,TT,hk,N0,d1,dn,q⟩ X;refine#[_,(ae (aA (i:=3) zh.nd rfl (.inl rfl) (T.bw.c (bL T).up hr (bK T) (aa (pv 0) (aa ad ab))))
  (ae (aJ (PW.pt (iu (aL gR (pv 2) ad (aH _)) (xT (aL a6 (pv 3) ad (aH _)))))
   (ag (aD (bc (aa ar (aa (T.dZ.c zmq hr (nP T) (aa (pv 0) (aa (pv 1) (aa (aN jF (pv 2) ad) ab)))) ab)))))
   aO)
  (ae (aJ (PW.pt (iu (aL gR (pv 2) ad (aH _)) (xT (aL gR (pv 3) ad (aH _)))))
   (ae (aA (i:=4) zh.nd rfl (.inl rfl) (aN J9 (aN jF (pv 2) ad) ad))
   (ae (aA (i:=5) zh.nd rfl (.inl rfl) (T.dZ.c zmq hr (nP T) (aa (pv 0) (aa (pv 1) (aa (pv 4) ab)))))
   (ag (aD (bc (aa (ao bC (bj (aa ar (aa ar ab))) (aN jF (pv 3) ad)) (aa (pv 5) (aa (T.dZ.c zmq hr (nP T) (aa (pv 0) (aa (pv 1) (aa (aN jF (aN jF (pv 2) ad) (pv 4)) ab)))) ab))))))))
   aO)
  (ae (aJ (aL a6 (aN jy (pv 3) ad) ad (aH _))
   (ag (aD (bc (aa ar (aa (ao bC (pv 1) (T.bw.c (bL T).up hr (bK T) (aa (pv 0) (aa ad ab)))) ab)))))
   aO)
  (ae (aJ (aL a6 (aN jy (pv 3) ad) ad (aH _))
   (ag (aD (bc (aa ar (aa (T.kP.c (zk T).up hr (zR T) (aa (pv 0) ab)) ab)))))
   aO)
  (ag (aD (bc (aa (ao bC (bj (aa ar (aa ar (aa ar ab)))) (aN jy (pv 3) ad)) ab))))))))),5]
 k_ne
 refine#[1,p,k,(8),0,TT,37,λway H1 w0 w1 B1 T1=>?_];have N1:=N0.but TT B1
 k_ne
 refine#[141,ite2 (λc1=>#[101,ite2 (λc2=>?A) (λc2=>?S1)]) (λc1=>iteF ?S2)]
 case' S1=>refine#[141,ite2 (λc3=>#[141,ite2 (λc4=>?B1) (λc4=>?L1)]) (λc3=>iteF ?L2)]
 case' S2=>refine#[141,ite2 (λc3=>absurd (decide_eq_true (Int.lt_trans (by decide:(1:Int)<2) (of_decide_eq_true c3))) c1) (λc3=>iteF ?L3)]
 case A =>
  have d0:(1:Int)<(d:Int):=of_decide_eq_true c1;obtain⟨e,rfl⟩:∃e,d=e+1:=#[d-1,3];refine#[1114,p,nl,k+1,ns,e,5,T1,3,N1,33,λv y k2 H2 B2 T2 hk2 W2 ok2 yz2=>#[sz2,λt ht=>?_]]
  .show [V.ref p,V.ref nl,V.int (((e+1:Nat):Int)-1)]=_;rw[show (((e+1:Nat):Int)-1)=(e:Int) by lk]
  .ext ht H3 S3 e3;exact q _ (.not y) k2 H3 (B1.trans (B2.trans (But.same S3))) (T2.same S3) (by lk) (.not e3 (W2.same S3)) ok2 (by show y.size+1<=e+1;lk)
 case B1 =>
  have d0:(2:Int)<(d:Int):=of_decide_eq_true c3;have w5:(5:Int)<way:=of_decide_eq_true c4
  k_ne
  refine#[144,#[77],5];obtain⟨f,hf⟩:∃f:Nat,((d:Int)-1) / 2=(f:Int):=#[(((d:Int)-1) / 2).toNat,3];dsimp only;rw[hf]
  k_ne
  refine#[111,p,nl,k+1,ns,f,0,T1,3,N1,33,λv y k2 H2 B2 T2 hk2 W2 ok2 yz2=>?_];have N2:=N1.but T1 B2;refine#[sz2,λt2 ht2=>?_];ext ht2 H3 S3 e3;obtain⟨u,hu,hu2⟩:=Ec (r:=way-6) (x:="both") (y:="any") (by lk) (by lk);refine#[14,t2,_,4,SqL.of e3,hu,5];have T3:=T2.same S3;refine#[1111414,p,nl,k2,ns,d-1-f,5,T3,3,N2.same S3,33,λv' y' k4 H4 B4 T4 hk4 W4 ok4 yz4=>#[sz3,λt ht=>?_]]
  .show [V.ref p,V.ref nl,V.int ((d:Int)-1-(f:Int))]=_;rw[show (d:Int)-1-(f:Int)=((d-1-f:Nat):Int) by lk]
  .ext ht H5 S5 e5;have Ba:=B1.trans (B2.trans ((But.same S3).trans (B4.trans (But.same S5))));have wa:WT H5 v y:=((W2.same S3).but T3 B4).same S5
   rcases hu2 with rfl|rfl
   .exact q _ (.both y y') k4 H5 Ba (T4.same S5) (by lk) (.both e5 wa (W4.same S5)) #[ok2,ok4] (by show y.size+y'.size+1<=d;lk)
   .exact q _ (.any y y') k4 H5 Ba (T4.same S5) (by lk) (.any e5 wa (W4.same S5)) #[ok2,ok4] (by show y.size+y'.size+1<=d;lk)
 all_goals
  have m5:=nR way (m:=5) (by decide);refine#[14,(by show (0:Int)<5;decide),01,ite2 (λc6=>?_) (λc6=>?_)]
  .refine#[11,p,k+1,(4),0,T1,37,λr H2 r0 r1 B2 T2=>?_];have N2:=N1.but T1 B2;obtain⟨u,hu,hm⟩:=ji (ss:=ns) r0 (by rw[N0.len];exact r1);refine#[nl,_,4,SqL.of N2.at_,hu,sz2,λt ht=>?_];ext ht H3 S3 e3;exact q _ (.mark u) _ H3 (B1.trans (B2.trans (But.same S3))) (T2.same S3) (by lk) (.mark e3) (N0.ok u hm) (by show 1<=d;lk)
  have w3:¬ way % 5=3:=λz=>c6 (decide_eq_true (by show V.int (way % 5)=_;rw[z]));refine#[14,(by show (0:Int)<5;decide),01,ite2 (λc8=>?_) (λc8=>?_)]
  .refine#[1,p,k+1,0,T1,3,λr k2 H2 r1 B2 T2 hk2=>#[sz2,λt ht=>?_]];ext ht H3 S3 e3;exact q _ (.force r) _ H3 (B1.trans (B2.trans (But.same S3))) (T2.same S3) (by lk) (.force e3) r1 (by show 1<=d;lk)
  have w4:¬ way % 5=4:=λz=>c8 (decide_eq_true (by show V.int (way % 5)=_;rw[z]));refine#[sz3,λt2 ht2=>?_];ext ht2 H2 S2 e2;obtain⟨v,hv,hm⟩:=gF (xs:=[V.str "all",V.str "self",V.str "mine"]) (i:=way % 5) m5.1 (by show way % 5<3;lk);refine#[14,(by show (0:Int)<5;decide),t2,_,4,SqL.of e2,hv,sz1,λt ht=>?_];ext ht H3 S3 e3;have Ba:=B1.trans (But.same (S2.trans S3));have Ta:=T1.same (S2.trans S3);simp only[aM,dN,or_false] at hm
  rcases hm with rfl|rfl|rfl
  .exact q _ .all _ H3 Ba Ta (by lk) (.all e3) trivial (by show 1<=d;lk)
  .exact q _ .self _ H3 Ba Ta (by lk) (.self e3) trivial (by show 1<=d;lk)
  .exact q _ .mine _ H3 Ba Ta (by lk) (.mine e3) trivial (by show 1<=d;lk)
theorem MQ (T:Tx K mg):FnOk P w K mg base CX0 5 T.dZ.f T.dZ.d rW (va K 0):=by
 have no:∀vs H Q E,¬ va K 0 vs H Q E:=λvs H Q E h=>by
  obtain⟨p,nl,k,ns,d,_,_,_,_,h1,h2,_⟩:=h;lk
 exact#[λvs H Q E h=>absurd h (no vs H Q E),λA outer s H args us vs Q E _ _ _ _ h=>absurd h (no vs H Q E)]
theorem yO (T:Tx K mg):∀n:Nat,FnOk P w K mg base CX0 (n+5) T.dZ.f T.dZ.d rW (va K n)
 | 0=>MQ T
 | n+1=>BV T (yO T n)
inductive All2 {α β:Type}(R:α->β->Prop):List α->List β->Prop where
 | nil:All2 R [] []
 | cons {a:α} {b:β} {as:List α} {bs:List β}:R a b->All2 R as bs->All2 R (a::as) (b::bs)
theorem All2.imp {α β:Type}{R S:α->β->Prop}(f:∀{a b},R a b->S a b){as:List α}{bs:List β}(z:All2 R as bs):All2 S as bs:=by
 induction z with
 | nil=>exact .nil
 | cons h _ ih=>exact .cons (f h) ih
theorem All2.snoc {α β:Type}{R:α->β->Prop}{a:α}{b:β}(h:R a b){as:List α}{bs:List β}(z:All2 R as bs):All2 R (as++[a]) (bs++[b]):=by
 induction z with
 | nil=>exact .cons h .nil
 | cons g _ ih=>exact .cons g ih
theorem All2.len {α β:Type}{R:α->β->Prop}{as:List α}{bs:List β}(z:All2 R as bs):as.length=bs.length:=by
 induction z with
 | nil=>rfl
 | cons _ _ ih=>rw[aK,aK,ih]
theorem All2.get {α β:Type}{R:α->β->Prop}:∀{as:List α} {bs:List β} {i:Nat} {a:α},All2 R as bs->as[i]?=some a->∃b,bs[i]?=some b/\R a b
 | _,_,_,_,.nil,e=>by simp at e
 | _,_,0,_,.cons h t,e=>by
  rw[lC] at e;cases e;exact#[1,h]
 | _,_,i+1,_,.cons h t,e=>by
  rw[dX] at e;obtain⟨u,h1,h2⟩:=t.get e;exact#[u,by rw[dX];exact h1,h2]
theorem All2.mem {α β:Type}{R:α->β->Prop}{as:List α}{bs:List β}(h:All2 R as bs){a:α}(ha:a∈as):∃b∈bs,R a b:=by
 induction h with
 | nil=>cases ha
 | cons r t ih =>
  rcases aM.mp ha with rfl|z
  .exact#[_,bb,r]
  .obtain⟨b,hb,rb⟩:=ih z;exact#[b,bx _ hb,rb]
theorem All2.perm {α β:Type}{R:α->β->Prop}{as cs:List α}(p:cs.Perm as):∀{bs:List β},All2 R as bs->∃ds,All2 R cs ds/\ds.Perm bs:=by
 induction p with
 | nil=>intro bs h;exact#[bs,h,.refl _]
 | cons x p ih =>
  intro bs h;cases h with
  | cons r t =>
   obtain⟨ds,h1,h2⟩:=ih t;exact#[_::ds,.cons r h1,h2.cons _]
 | swap x y l =>
  intro bs h;cases h with
  | cons r t =>
   cases t with
   | cons r' t'=>exact#[_,.cons r' (.cons r t'),.swap _ _ _]
 | trans p1 p2 ih1 ih2 =>
  intro bs h;obtain⟨ds,h1,h2⟩:=ih2 h;obtain⟨es,h3,h4⟩:=ih1 h1;exact#[es,h3,h4.trans h2]
theorem All2.mem2 {α β:Type}{R:α->β->Prop}{as:List α}{bs:List β}(z:All2 R as bs){b:β}(hb:b∈bs):∃a∈as,R a b:=by
 induction z with
 | nil=>cases hb
 | cons h _ ih =>
  rcases aM.mp hb with z|z
  .rw[z];exact#[_,bb,h]
  .obtain⟨a,ha,r⟩:=ih z;exact#[a,bx _ ha,r]
theorem DN (K:ah):ce K (.type "str") (.type "tuple")=some false:=by kernel_rfl
theorem NH (K:ah):ce K (.type "int") (.type "tuple")=some false:=by kernel_rfl
theorem mX {x:V}{u:Str}(hv:(x = .str u)∨∃i:Nat,i<1000/\x = .int i/\u=(toString (i:Int):Str))(H0:Hp)(Q':VK)(z:Q' (.str u) H0):rStrAny [x] H0 Q':=by
 unfold rStrAny
 rcases hv with e|⟨i,hi,e,rfl⟩
 .exact .inl #[u,by rw[e],z]
 .exact .inr #[i,by rw[e],(by rw[mM];exact ng i hi),z]
inductive PT (n:Nat)(H:Hp):V->Str->Prop where
 | w {x:V} {y:Wh}:WT H x y->y.ok->dep y<n->y.size<=9->PT n H x (whT y)
 | s {u:Str}:cC u->PT n H (.str u) u
 | i {i:Nat}:i<1000->PT n H (.int (i:Int)) (toString (i:Int):Str)
theorem PT.len {n:Nat}{H:Hp}{x:V}{u:Str}(h:PT n H x u):u.length<=200:=by
 cases h with
 | w _ o _ d=>exact jg o d
 | s o=>exact aV o.2.1 (by decide)
 | i hi=>exact aV (gf hi).2.2 (by decide)
theorem PT.same {n:Nat}{H H':Hp}(s:Same H H'){x:V}{u:Str}(h:PT n H x u):PT n H' x u:=by
 cases h with
 | w a b c d=>exact .w (a.same s) b c d
 | s a=>exact .s a
 | i a=>exact .i a
theorem dw (y:Wh):y.words≠[]:=y.dw
theorem WT.open {n:Nat}{H:Hp}{v:V}{y:Wh}(h:WT H v y)(ok:y.ok)(hn:dep y<n+1)(h2:y.size<=9):Ex3 λa xs us=>v = .ref a/\H a=some (.tup (.str y.word::xs))/\xs.length<=2/\All2 (PT n H) xs us/\aj " " (y.word::us)=whT y:=by
 cases h with
 | all h=>exact#[_,[],[],0,h,by simp,.nil,0]
 | self h=>exact#[_,[],[],0,h,by simp,.nil,0]
 | mine h=>exact#[_,[],[],0,h,by simp,.nil,0]
 | mark h=>exact#[_,_,1,h,by simp,.cons (.s ok) .nil,0]
 | force h=>exact#[_,_,1,h,by simp,.cons (.i ok) .nil,0]
 | @not a x y h t =>
  have m1:dep y+1<n+1:=hn;have m2:y.size+1<=9:=h2;refine#[_,_,1,h,by simp,.cons (.w t ok (by lk) (by lk)) .nil,5];show aj " " ["not",aj " " y.words]=aj " " ("not" :: y.words)
  rw[join_cons " " "not" (dw y),join_cons " " "not" (dS _ _)];rfl
 | @both a x x' y y' h t t' =>
  have m1:max (dep y) (dep y')+1<n+1:=hn;have m2:y.size+y'.size+1<=9:=h2;refine#[_,_,1,h,by simp,.cons (.w t ok.1 (by lk) (by lk)) (.cons (.w t' ok.2 (by lk) (by lk)) .nil),5];show aj " " ["both",aj " " y.words,aj " " y'.words]=aj " " ("both" :: (y.words++y'.words))
  rw[join_cons " " "both" (dS _ _),join_cons " " (aj " " y.words) (dS _ _),join_cons " " "both" (λz=>dw y (Cs.mp z).1),rJ " " (dw y) (dw y')];rfl
 | @any a x x' y y' h t t' =>
  have m1:max (dep y) (dep y')+1<n+1:=hn;have m2:y.size+y'.size+1<=9:=h2;refine#[_,_,1,h,by simp,.cons (.w t ok.1 (by lk) (by lk)) (.cons (.w t' ok.2 (by lk) (by lk)) .nil),5];show aj " " ["any",aj " " y.words,aj " " y'.words]=aj " " ("any" :: (y.words++y'.words))
  rw[join_cons " " "any" (dS _ _),join_cons " " (aj " " y.words) (dS _ _),join_cons " " "any" (λz=>dw y (Cs.mp z).1),rJ " " (dw y) (dw y')];rfl
noncomputable def yI (n:Nat):Sp:=λvs H Q _=>Ex2 λv (y:Wh)=>vs=[v]/\WT H v y/\y.ok/\dep y<n/\y.size<=9/\∀H',Same H H'->Q (.str (whT y)) H'
theorem gY {us:List Str}{m:Nat}(h:∀u∈us,u.length<=m):(us.map (·.length)).sum<=m*us.length:=by
 induction us with
 | nil=>exact ba _
 | cons u r ih =>
  rw[bp,d9,aK,Nat.mul_succ];have:=h u bb;have:=ih λv hv=>h v (bx _ hv);lk
theorem IK (T:Tx K mg){n:Nat}(zcib:FnOk P w K mg base CX0 (n+2) T.fk.f T.fk.d qE (yI n)):FnOk P w K mg base CX0 (n+3) T.fk.f T.fk.d qE (yI (n+1)):=by
 refine T.fk.ok Mr ?_;rintro f c A o s H vs Q E hr ⟨v,y,rfl,wt,ok,hn,h2,q⟩ X;obtain⟨a,xs,us,rfl,ea,hl,ps,eg⟩:=wt.open (n:=n) ok hn h2;refine#[_,(ae (aA (i:=1) Mr.nd rfl (.inl rfl) (bj (aa (ao aP (pv 0) ad) ab)))
  (ae (gG eZ rfl (kC (de fh (pv 0) (cY ad) dq)) (aZ (i:=2) Mr.nd rfl (.inl rfl))
   (ag (aJ (cN (bh fu rfl T.dH eF (aa (pv 2) (aa (eG (v:=.ty "tuple") rfl T.cG db rfl) ab))))
    (ag (cz (bR cO fQ fC fJ (pv 1) (aa (T.fk.c zcib hr (wP T) (aa (pv 2) ab)) ab))))
    (ag (cz (bR cO fQ fC fJ (pv 1) (aa (bV mo rfl T.fc gK (aa (pv 2) ab)) ab)))))))
  (ag (aD (bR eM gk gq im ar (aa (pv 1) ab)))))),5]
 k_ne
 refine#[1,a,_,4,SqT.of ea,9,sz1,λwl hwl=>?_]
 k_ne
 ext hwl H0 S0 e0
 k_ne
 refine#[11,a,1,SqT.of (S0 _ _ ea),5,λb hb=>?_]
 .rintro⟨z,_⟩;rw[show (1:Int)=((1:Nat):Int) from rfl,HT.pf,aK] at z;lk
 have ec:cutV (V.str y.word::xs) (some 1) none=xs:=by
  rw[show (1:Int)=((1:Nat):Int) from rfl,Gp];rfl
 rw[ec];ext hb H1 S1 eb;have nbw:b≠wl:=a8 (a9 e0 hb);have S01:=S0.trans S1;refine#[b,0,#[_,SqT.of eb],5];have wdl:y.word.length<=8:=(y.jz).2.2;have psl:=ps.len;refine K5 (xs:=xs) (λi σ H'=>∃o,σ=[some (.ref a),some (.ref wl),o]/\H' wl=some (.lst ((y.word::us.take i).map V.str))/\H' b=some (.tup xs)/\Same H H') #[1,S1 _ _ e0,eb,S01] ?_ ?_ ?_
 .rintro i σ H' _ ⟨o,rfl,_,e,S⟩;exact SqT.of e
 .rintro i x σ H' hx ⟨o,rfl,ew,eb',S⟩;obtain⟨u,eu,pu⟩:=ps.get hx;have i2:i<xs.length:=(br.mp hx).1;have eg2:(y.word::us.take (i+1)).map V.str=(y.word::us.take i).map V.str++[V.str u]:=by
   rw[bU,eu,dF,bp,bE];rfl
  have sz:((y.word::us.take i).map V.str).length<=1000:=by
   rw[aw,aK,bQ];lk
  cases pu.same S with
  | @w x y' wt' ok' dn d2 =>
   obtain⟨a',xs',rfl,ea'⟩:=wt'.tup;refine#[1,_,_,_,true,0,TyOf.tup ea',.inl #["tuple",00],1,iteT ?_];refine#[1,.inl #[0,_,SqL.of ew],1,_,y',0,wt',ok',dn,d2,λH2 S2=>#[wl,4,S2 _ _ ew,df sz,5]];exact#[1,by rw[eg2];exact aB,by rw[aF nbw];exact S2 _ _ eb',fg (S.trans S2) hwl _]
  | s _ =>
   refine#[1,_,_,_,false,0,TyOf.str _,.inl #["tuple",0,DN _],6];refine#[1,.inl #[0,_,SqL.of ew],1,mX (.inl rfl) _ _ #[wl,4,ew,df sz,5]];exact#[1,by rw[eg2];exact aB,by rw[aF nbw];exact eb',fg S hwl _]
  | i hi =>
   refine#[1,_,_,_,false,0,TyOf.int _,.inl #["tuple",0,NH _],6];refine#[1,.inl #[0,_,SqL.of ew],1,mX (.inr #[_,hi,00]) _ _ #[wl,4,ew,df sz,5]];exact#[1,by rw[eg2];exact aB,by rw[aF nbw];exact eb',fg S hwl _]
 .rintro σ H' ⟨o,rfl,ew,_,S⟩;rw[bX (by lk)] at ew;refine#[01," ",wl,y.word::us,00,SqL.of ew,55]
  .have z:=gY (us:=y.word::us) (m:=200) λu hu=>by
    rcases aM.mp hu with z|z
    .rw[z];lk
    .obtain⟨x,_,pu⟩:=ps.mem2 z;exact pu.len
   rw[aK] at z ⊢;have e1:(" ":Str).length=1:=rfl;rw[e1];lk
  .rw[eg];exact q H' S
theorem MD (T:Tx K mg):FnOk P w K mg base CX0 2 T.fk.f T.fk.d qE (yI 0):=by
 have no:∀vs H Q E,¬ yI 0 vs H Q E:=λvs H Q E h=>by
  obtain⟨v,y,_,_,_,hd,_⟩:=h;lk
 exact#[λvs H Q E h=>absurd h (no vs H Q E),λA outer s H args us vs Q E _ _ _ _ h=>absurd h (no vs H Q E)]
theorem xD (T:Tx K mg):∀n:Nat,FnOk P w K mg base CX0 (n+2) T.fk.f T.fk.d qE (yI n)
 | 0=>MD T
 | n+1=>IK T (xD T n)
noncomputable def Kp (H H':Hp):Prop:=∀a o,(∀xs,o≠HO.lst xs)->H a=some o->H' a=some o
theorem Kp.same {H H':Hp}(s:Same H H'):Kp H H':=λ_ _ _ h=>s _ _ h
theorem Kp.trans {H H1 H2:Hp}(a:Kp H H1)(b:Kp H1 H2):Kp H H2:=λc o n h=>b c o n (a c o n h)
theorem Kp.but {K:ah}{H H':Hp}{p:Addr}{k:Int}(t:Tk K H p k)(b:But p H H'):Kp H H':=λa o n h=>by
 obtain⟨c,ep⟩:=t.two;refine b a o (λz=>?_) h;rw[z,ep] at h;injection h with h
 exact n _ h.symm
theorem Kp.put {H:Hp}{l:Addr}{us vs:List V}(e:H l=some (.lst us)):Kp H (upd H l (.lst vs)):=λa o n h=>by
 rw[aF λz=>?_]
 .exact h
 .rw[z,e] at h;injection h with h
  exact n _ h.symm
theorem Kp.t {H H':Hp}(s:Kp H H'){a:Addr}{xs:List V}(h:H a=some (.tup xs)):H' a=some (.tup xs):=s _ _ (λ_ z=>by cases z) h
theorem WT.kp {H H':Hp}(s:Kp H H'){v:V}{y:Wh}(z:WT H v y):WT H' v y:=by
 induction z with
 | all h=>exact .all (s.t h)
 | self h=>exact .self (s.t h)
 | mine h=>exact .mine (s.t h)
 | mark h=>exact .mark (s.t h)
 | force h=>exact .force (s.t h)
 | not h _ i=>exact .not (s.t h) i
 | both h _ _ i j=>exact .both (s.t h) i j
 | any h _ _ i j=>exact .any (s.t h) i j
theorem Tk.strs {K:ah}{H:Hp}{p l:Addr}{k:Int}{ss:List Str}(t:Tk K H p k)(h:H l=some (.lst (ss.map V.str))):l≠p:=λz=>by
 obtain⟨a,e⟩:=t.two;rw[z,e] at h;injection h with h
 injection h with h
 cases ss with
 | nil=>cases h
 | cons x r=>injection h with h;cases h
theorem kI (y:Wh):dep y<y.size:=by
 induction y with
 | not a i=>exact Nat.succ_lt_succ i
 | both a b i j =>
  show max (dep a) (dep b)+1<a.size+b.size+1
  lk
 | any a b i j =>
  show max (dep a) (dep b)+1<a.size+b.size+1
  lk
 | _=>exact Nat.zero_lt_one
structure Tab where
 pts:List Int
 scs:List Int
 gone:List Bool
 decks:List (List Int)
 hands:List (List Int)
 lying:List Int
 heap:List Int
 marks:List (List Str)
 wnds:List Int
noncomputable def T1 (H:Hp)(v:V)(xs:List V):Prop:=∃b,v = .ref b/\H b=some (.tup xs)
noncomputable def T2 (H:Hp)(v:V)(xss:List (List V)):Prop:=Ex2 λb us=>v = .ref b/\H b=some (.tup us)/\All2 (T1 H) us xss
theorem T1.kp {H H':Hp}(s:Kp H H'){v:V}{xs:List V}(h:T1 H v xs):T1 H' v xs:=by
 obtain⟨b,e,h⟩:=h;exact#[b,e,s.t h]
theorem T2.kp {H H':Hp}(s:Kp H H'){v:V}{xss:List (List V)}(h:T2 H v xss):T2 H' v xss:=by
 obtain⟨b,us,e,h,al⟩:=h;exact#[b,us,e,s.t h,al.imp λz=>z.kp s]
noncomputable def iM (xs:List Int):List V:=xs.map V.int
noncomputable def sM (xs:List Str):List V:=xs.map V.str
structure TabP (H:Hp)(t:Tab)(v0 v1 v2 v3 v4 v5 v6 v7 v8:V):Prop where
 p0:T1 H v0 (iM t.pts)
 p1:T1 H v1 (iM t.scs)
 p2:T1 H v2 (t.gone.map V.bl)
 p3:T2 H v3 (t.decks.map iM)
 p4:T2 H v4 (t.hands.map iM)
 p5:T1 H v5 (iM t.lying)
 p6:T1 H v6 (iM t.heap)
 p7:T2 H v7 (t.marks.map sM)
 p8:T1 H v8 (iM t.wnds)
theorem TabP.kp {H H':Hp}(s:Kp H H'){t:Tab}{v0 v1 v2 v3 v4 v5 v6 v7 v8:V}(h:TabP H t v0 v1 v2 v3 v4 v5 v6 v7 v8):TabP H' t v0 v1 v2 v3 v4 v5 v6 v7 v8:=#[h.p0.kp s,h.p1.kp s,h.p2.kp s,h.p3.kp s,h.p4.kp s,h.p5.kp s,h.p6.kp s,h.p7.kp s,h.p8.kp s]
noncomputable def TabT (H:Hp)(v:V)(t:Tab):Prop:=Ex10 λa v0 v1 v2 v3 v4 v5 v6 v7 v8=>v = .ref a/\H a=some (.tup [v0,v1,v2,v3,v4,v5,v6,v7,v8])/\TabP H t v0 v1 v2 v3 v4 v5 v6 v7 v8
theorem TabT.kp {H H':Hp}(s:Kp H H'){v:V}{t:Tab}(h:TabT H v t):TabT H' v t:=by
 obtain⟨a,v0,v1,v2,v3,v4,v5,v6,v7,v8,e,h,p⟩:=h;exact#[a,v0,v1,v2,v3,v4,v5,v6,v7,v8,e,s.t h,p.kp s]
theorem All2.set {α β:Type}{R:α->β->Prop}{as:List α}{bs:List β}(z:All2 R as bs){a:α}{b:β}(h:R a b):∀n:Nat,All2 R (as.set n a) (bs.set n b):=by
 induction z with
 | nil=>intro n;rw[List.set_nil,List.set_nil];exact .nil
 | cons g t ih =>
  intro n;cases n with
  | zero=>exact .cons h t
  | succ n=>exact .cons g (ih n)
theorem m6 {G:Prop}{Kx pre:V->Hp->Prop}(g:(∀v Hs,pre v Hs->Kx v Hs)->G)(k:∀v Hs,pre v Hs->Kx v Hs):G:=g k
inductive AmtV:Str->V->Wv->Prop where
 | leave:AmtV "leave" (.int 0) .non
 | gain {n:Str}:cC n->AmtV "gain" (.str n) (.name n)
 | lack {n:Str}:cC n->AmtV "lack" (.str n) (.name n)
 | hurt {i:Nat}:i<1000->AmtV "hurt" (.int (i:Int)) (.num i)
 | lose {i:Nat}:i<1000->AmtV "lose" (.int (i:Int)) (.num i)
 | score {i:Nat}:i<1000->AmtV "score" (.int (i:Int)) (.num i)
 | draw {i:Nat}:i<1000->AmtV "draw" (.int (i:Int)) (.num i)
theorem AmtV.ok {k:Str}{v:V}{z:Wv}(h:AmtV k v z):eX k z:=by
 cases h with
 | leave=>exact .leave
 | gain h=>exact .gain h
 | lack h=>exact .lack h
 | hurt h=>exact .hurt h
 | lose h=>exact .lose h
 | score h=>exact .score h
 | draw h=>exact .draw h
noncomputable def DT (H:Hp)(v:V)(d:Deed):Prop:=Ex3 λa av x=>v = .ref a/\H a=some (.tup [.str d.each,.str d.kind,av,x])/\WT H x d.whom/\AmtV d.kind av d.amt/\d.ok
theorem DT.kp {H H':Hp}(s:Kp H H'){v:V}{d:Deed}(h:DT H v d):DT H' v d:=by
 obtain⟨a,av,x,e,h1,h2,h3,h4⟩:=h;exact#[a,av,x,e,s.t h1,h2.kp s,h3,h4]
theorem B0:∀kd∈cQ,inV (.str kd) [.str "gain",.str "lack"]=decide (kd∈(["gain","lack"]:List Str)):=by lia
theorem HY {kd u:Str}(h:kd∈(["gain","lack"]:List Str))(hu:cC u):AmtV kd (.str u) (.name u):=by
 simp only[aM,dN,or_false] at h
 rcases h with rfl|rfl
 .exact .gain hu
 .exact .lack hu
theorem Lm {kd:Str}{v:V}{f:Nat}(h:kd∈cQ)(hg:kd∉(["gain","lack"]:List Str))(hv:(kd = "leave" /\ v = .int 0)∨(kd ≠ "leave" /\ v = .int (f:Int)))(hf:f<1000):∃z,AmtV kd v z:=by
 rcases hv with⟨rfl,rfl⟩|⟨n,rfl⟩
 .exact#[_,.leave]
 simp only[cQ,aM,dN,or_false] at h
 rcases h with rfl|rfl|rfl|rfl|rfl|rfl|rfl
 .exact absurd rfl n
 .exact#[_,.hurt hf]
 .exact absurd (by lia) hg
 .exact absurd (by lia) hg
 .exact#[_,.lose hf]
 .exact#[_,.score hf]
 .exact#[_,.draw hf]
noncomputable def Dd (K:ah):Sp:=λvs H Q _=>Ex4 λp nl (k:Int) (ns:List Str)=>vs=[.ref p,.ref nl]/\Tk K H p k/\k<=700000/\N4 H nl ns/\∀v (d:Deed) (k':Int) H',But p H H'->Tk K H' p k'->k'<=k+26->DT H' v d->Q v H'
theorem MV (T:Tx K mg):FnOk P w K mg base CX0 11 T.rp.f T.rp.d OU (Dd K):=by
 refine T.rp.ok wm ?_;rintro f c A o s H vs Q E hr ⟨p,nl,k,ns,rfl,TT,hk,N0,q⟩ X;refine#[_,(ae (aA (i:=2) wm.nd rfl (.inl rfl) (ao bC (bj (aa ar (aa ar (aa ar (aa ar (aa ar (aa ar (aa ar ab)))))))) (T.bw.c (bL T).up hr (bK T) (aa (pv 0) (aa ad ab)))))
  (ae (aA (i:=3) wm.nd rfl (.inl rfl) (T.kP.c (zk T).up hr (zR T) (aa (pv 0) ab)))
  (ae (aJ (aL a6 (pv 2) ar (aH _))
   (ag (aA (i:=3) wm.nd rfl (.inl rfl) ad))
   aO)
  (ae (aJ (aL kz (pv 2) (bc (aa ar (aa ar ab))) rfl)
   (ag (aA (i:=3) wm.nd rfl (.inl rfl) (ao bC (pv 1) (T.bw.c (bL T).up hr (bK T) (aa (pv 0) (aa ad ab))))))
   aO)
  (ag (aD (bc (aa (ao bC (bj (aa ar (aa ar ab))) (T.bw.c (bL T).up hr (bK T) (aa (pv 0) (aa ad ab)))) (aa (pv 2) (aa (pv 3) (aa (T.dZ.c (yO T 5) hr (nP T) (aa (pv 0) (aa (pv 1) (aa (aN dM ad (T.bw.c (bL T).up hr (bK T) (aa (pv 0) (aa ad ab)))) ab)))) ab))))))))))),5]
 kd_p
 refine#[sz7,λl1 hl1=>?_];ext hl1 H1 S1 e1;have T1:=TT.same S1;have n1:l1≠p:=a8 (TT.ne hl1);refine#[1,p,k,(7),0,T1,37,λr H2 r0 r1 B2 T2=>?_];obtain⟨kd,hkd,hm⟩:=ji (ss:=cQ) r0 r1;refine#[l1,_,4,SqL.of (B2 _ _ n1 e1),hkd,5];have B02:But p H H2:=(But.same S1).trans B2
 kd_p
 refine#[1,p,k+1,0,T2,3,λf k3 H3 f1 B3 T3 hk3=>?_];have B03:=B02.trans B3
 kd_p
 refine#[1015];refine' m6 (pre:=λv Hs=>Hs=H3/\((kd = "leave" /\ v = .int 0)∨(kd ≠ "leave" /\ v = .int (f:Int)))) (λkk=>?g1) ?k1
 case g1 =>
  refine ite2 (λc=>?a) (λc=>?b)
  case b =>
   obtain⟨v4,hv4⟩:∃x,x=V.int (f:Int):=#[1];obtain⟨Hz,hz⟩:∃h,h=H3:=#[1];rw[<- hv4,<- hz];exact kk v4 Hz #[hz,.inr #[λz=>c (decide_eq_true (by rw[z])),hv4]]
  case a =>
   have c':=of_decide_eq_true c;injection c' with c'
   exact kk (.int 0) H3 #[0,.inl #[c',0]]
 case k1 =>
 rintro v _ ⟨rfl,hv⟩;refine#[1,sz2,λq2 hq2=>?_];ext hq2 H5 S5 e5;refine#[q2,1,.inr (SqT.of e5),0015];rw[B0 kd hm];have T5:=T3.same S5;have B05:=B03.trans (But.same S5);refine' m6 (pre:=λv' Hs=>But p H Hs/\(∃z,AmtV kd v' z)/\∃k',Tk K Hs p k'/\k'<=k+4) (λkk=>?g2) ?k2
 case g2 =>
  refine ite2 (λc=>?_) (λc=>?_)
  .have c':=of_decide_eq_true c;refine#[11,p,k3,(4),0,T5,37,λt0 H6 t1 t2 B6 T6=>?_];have N6:=N0.but TT (B05.trans B6);obtain⟨u,hu,hmu⟩:=ji (ss:=ns) t1 (by rw[N0.len];exact t2);refine#[nl,_,4,SqL.of N6.at_,hu,5];obtain⟨v4,hv4⟩:∃v,v=V.str u:=#[1];rw[<- hv4];exact kk v4 H6 #[B05.trans B6,#[_,by rw[hv4];exact HY c' (N0.ok u hmu)],_,T6,3]
  .exact kk v H5 #[B05,Lm hm (λy=>c (decide_eq_true y)) hv f1,_,T5,3]
 case k2 =>
 rintro av Hs ⟨Bs,⟨z,am⟩,k',Ts,hk'⟩;refine#[sz2,λl2 hl2=>?_];ext hl2 H6 S6 e6;have n2:l2≠p:=a8 (Ts.ne hl2);refine#[1,p,k',(2),0,Ts.same S6,37,λr2 H7 a0 a1 B7 T7=>?_];obtain⟨ea,hea,mea⟩:=ji (ss:=gI) a0 a1;have B07:=Bs.trans ((But.same S6).trans B7);refine#[l2,_,4,SqL.of (B7 _ _ n2 e6),hea,11111,p,k'+1,(5),0,T7,37,λd0 H8 d1 d2 B8 T8=>#[45]];obtain⟨d,hd0⟩:∃d:Nat,1+d0=(d:Int):=#[(1+d0).toNat,3];have B08:=B07.trans B8;refine#[p,nl,_,ns,d,(by show [V.ref p,V.ref nl,V.int (1+d0)]=_;rw[hd0]),T8,3,N0.but TT B08,33,λwv y k9 H9 B9 T9 hk9 W9 ok9 y9=>#[sz4,λa ha=>?_]];ext ha H10 S10 e10;exact q (.ref a) #[ea,kd,z,y] k9 H10 (B08.trans (B9.trans (But.same S10))) (T9.same S10) (by lk) #[a,av,wv,0,e10,W9.same S10,am,#[mea,am.ok,ok9,by show y.size<=9;lk]]
noncomputable def eI (d:Deed):Str:=aj " " d.words
theorem Eo {k:Str}{av:V}{z:Wv}(h:AmtV k av z):∃u:Str,((av = .str u)∨∃i:Nat,i<1000/\av = .int i/\u=(toString (i:Int):Str))/\u.length<=8/\((k = "leave" /\ z = .non)∨(k ≠ "leave" /\ z.words=[u])):=by
 cases h with
 | leave=>exact#[_,.inr #[(0),700],(gf (by decide:0<1000)).2.2,.inl #[00]]
 | gain h=>exact#[_,.inl rfl,h.2.1,.inr #[by lia,0]]
 | lack h=>exact#[_,.inl rfl,h.2.1,.inr #[by lia,0]]
 | hurt h=>exact#[_,.inr #[_,h,00],(gf h).2.2,.inr #[by lia,0]]
 | lose h=>exact#[_,.inr #[_,h,00],(gf h).2.2,.inr #[by lia,0]]
 | score h=>exact#[_,.inr #[_,h,00],(gf h).2.2,.inr #[by lia,0]]
 | draw h=>exact#[_,.inr #[_,h,00],(gf h).2.2,.inr #[by lia,0]]
theorem IO (ea kd:Str)(z:Wv)(y:Wh):aj " " (ea::kd::(z.words++[whT y]))=eI #[ea,kd,z,y]:=by
 have e:=rJ " " (xs:=ea::kd::z.words) (ys:=[whT y]) (dS _ _) (dS _ _);have e2:=rJ " " (xs:=ea::kd::z.words) (ys:=y.words) (dS _ _) (dw y);rw[lQ,lQ] at e e2;rw[e];exact e2.symm
theorem Mh {d:Deed}(h:d.ok):(eI d).length<=250:=by
 obtain⟨ea,kd,z,y⟩:=d;have a:=nz " " (ea::kd::(z.words++[whT y]));rw[IO] at a;have l1:(" ":Str).length=1:=rfl;have w1:(whT y).length<=200:=jg h.whom.1 h.whom.2;have e8:ea.length<=8:=(dL (l:=gI) (by lia) h.each).1.2.2;have k8:kd.length<=8:=(dL (l:=cQ) (by lia) h.amt.kind).1.2.2;have zz:z.words.length<=1/\(z.words.map (·.length)).sum<=8:=by
  have:=h.amt;cases this with
  | leave=>exact#[77]
  | gain g=>exact#[az _,by show _+0<=8;exact g.2.1]
  | lack g=>exact#[az _,by show _+0<=8;exact g.2.1]
  | hurt g=>exact#[az _,by show _+0<=8;exact (gf g).2.2]
  | lose g=>exact#[az _,by show _+0<=8;exact (gf g).2.2]
  | score g=>exact#[az _,by show _+0<=8;exact (gf g).2.2]
  | draw g=>exact#[az _,by show _+0<=8;exact (gf g).2.2]
 simp only[bp,bE,gU,d9,zx,ou,aK,aS,iq] at a;rw[l1] at a;lk
noncomputable def BI:Sp:=λvs H Q _=>Ex2 λv (d:Deed)=>vs=[v]/\DT H v d/\∀H',Same H H'->Q (.str (eI d)) H'
theorem UQ (T:Tx K mg):FnOk P w K mg base CX0 12 T.qV.f T.qV.d Fj BI:=by
 refine T.qV.ok QR ?_;rintro f c A o s H vs Q E hr ⟨v,⟨ea,kd,z,y⟩,rfl,⟨a,av,x,rfl,eA,W,am,ok⟩,q⟩ X;obtain⟨u,hv,u8,hz⟩:=Eo am;have w1:(whT y).length<=200:=jg ok.whom.1 ok.whom.2;have y9:y.size<=9:=ok.whom.2;have e8:ea.length<=8:=(dL (l:=gI) (by lia) ok.each).1.2.2;have k8:kd.length<=8:=(dL (l:=cQ) (by lia) ok.amt.kind).1.2.2;have l1:(" ":Str).length=1:=rfl;refine#[_,(ae (aA (i:=1) QR.nd rfl (.inl rfl) (bj (aa (ao aP (pv 0) ad) (aa (ao aP (pv 0) ad) (aa (bV mo rfl T.fc gK (aa (ao aP (pv 0) ad) ab)) (aa (T.fk.c (xD T 9) hr (wP T) (aa (ao aP (pv 0) ad) ab)) ab))))))
  (ae (aJ (aL a6 (ao aP (pv 0) ad) ar (aH _))
   (ag (cz (bR cO PU SY Mx (pv 1) (aa ad ab))))
   aO)
  (ag (aD (bR eM gk gq im ar (aa (pv 1) ab)))))),5]
 k_ne
 refine#[1,a,_,4,SqT.of eA,91,a,_,4,SqT.of eA,aI (j:=1) rfl,1,a,_,4,SqT.of eA,aI (j:=2) rfl,mX hv _ _ ?_];refine#[1,a,_,4,SqT.of eA,aI (j:=3) rfl,x,y,0,W,ok.whom.1,b8 (kI y) y9,y9,λH1 S1=>#[sz4,λl hl=>?_]];have hl0:H l=none:=none_of S1 hl
 k_ne
 ext hl H2 S2 e2;have S02:=S1.trans S2
 k_ne
 refine#[1,a,_,4,SqT.of (S02 _ _ eA),aI (j:=1) rfl,01,ite2 (λc=>?_) (λc=>?_)]
 .have c':=of_decide_eq_true c;injection c' with c'
  have c2:kd = "leave":=c';have zn:z = .non:=by
   rcases hz with⟨_,h⟩|⟨h,_⟩
   .exact h
   .exact absurd c2 h
  subst zn;refine#[1,.inl #[0,_,SqL.of e2],l,_,(2),(2),10,e2,77005];refine#[01," ",l,[ea,kd,whT y],00,SqL.of aB,55]
  .simp only[bp,gU,d9,ou,aK,iq];lk
  .have et:=IO ea kd .non y;have et':aj " " [ea,kd,whT y]=eI #[ea,kd,.non,y]:=et;rw[et'];exact q _ (fg S02 hl0 _)
 .have c2:kd ≠ "leave":=λh=>c (decide_eq_true (by show V.str kd=_;rw[h]));have zw:z.words=[u]:=by
   rcases hz with⟨h,_⟩|⟨_,h⟩
   .exact absurd h c2
   .exact h
  refine#[01," ",l,[ea,kd,u,whT y],00,SqL.of e2,55]
  .simp only[bp,gU,d9,ou,aK,iq];lk
  .have et:=IO ea kd z y;rw[zw] at et;have et':aj " " [ea,kd,u,whT y]=eI #[ea,kd,z,y]:=et;rw[et'];exact q _ S02
theorem All2.get2 {α β:Type}{R:α->β->Prop}{as:List α}{bs:List β}(z:All2 R as bs){i:Nat}{b:β}(h:bs[i]?=some b):∃a,as[i]?=some a/\R a b:=by
 induction z generalizing i with
 | nil=>simp at h
 | cons r _ ih =>
  cases i with
  | zero =>
   rw[lC] at h;cases h;exact#[1,r]
  | succ i =>
   rw[dX] at h;obtain⟨a,e,q⟩:=ih h;exact#[a,by rw[dX];exact e,q]
theorem getx {α:Type}{xs:List α}{i:Nat}(h:i<xs.length):∃x,xs[i]?=some x:=#[_,cA h]
theorem lT {α:Type}{f:α->V}{xs:List α}{i:Nat}{x:α}(h:xs[i]?=some x):atI (xs.map f) (i:Int)=some (f x):=aI (by rw[bH,h];rfl)
theorem yk {n j:Nat}(h:j<n):ixN n (j:Int)=some j:=by
 unfold ixN;rw[if_pos (by lk),if_pos (by lk),cS]
theorem ifT {c:Bool}{A B:Prop}(h:c=true)(a:A):if c=true then A else B:=by rw[if_pos h];exact a
theorem ifF {c:Bool}{A B:Prop}(h:¬ c=true)(b:B):if c=true then A else B:=by rw[if_neg h];exact b
noncomputable def Rw (H:Hp)(as:List Addr)(xss:List (List V)):Prop:=as.length=xss.length/\∀(j:Nat) a xs,as[j]?=some a->xss[j]?=some xs->H a=some (.lst xs)
theorem Rw.same {H H':Hp}{as:List Addr}{xss:List (List V)}(s:Same H H')(h:Rw H as xss):Rw H' as xss:=#[h.1,λj a xs h1 h2=>s _ _ (h.2 j a xs h1 h2)]
theorem Rw.nil {H:Hp}:Rw H [] []:=#[0,λj a xs h _=>by simp at h]
theorem Rw.snoc {H:Hp}{as:List Addr}{xss:List (List V)}(h:Rw H as xss){a:Addr}{xs:List V}(ha:H a=some (.lst xs)):Rw H (as++[a]) (xss++[xs]):=by
 refine#[by rw[aS,aS,h.1];rfl,λj b ys h1 h2=>?_]
 rcases Tu j as.length with z|z|z
 .rw[iU z] at h1;rw[iU (by rw[<- h.1];exact z)] at h2;exact h.2 j b ys h1 h2
 .rw[eh (by lk),z,lZ] at h1;rw[eh (by rw[<- h.1];lk),z,h.1,lZ] at h2;cases h1;cases h2;exact ha
 .rw[eh (by lk),vf (by rw[fH];lk)] at h1;cases h1
theorem Rw.put {H:Hp}{as:List Addr}{xss:List (List V)}(h:Rw H as xss)(nd:as.Nodup){j:Nat}{a:Addr}(ha:as[j]?=some a)(ys:List V):Rw (upd H a (.lst ys)) as (xss.set j ys):=by
 refine#[by rw[rT];exact h.1,λi b zs h1 h2=>?_]
 by_cases e:i=j
 .subst e;rw[ha] at h1;cases h1;rw[zu (by rw[<- h.1];exact (br.mp ha).1)] at h2;cases h2;exact aB
 .rw[xV (λz=>e z.symm)] at h2;rw[aF λz=>?_]
  .exact h.2 i b zs h1 h2
  .exact e ((PR (br.mp h1).1 nd).mp (by rw[h1,ha,z]))
theorem Rw.off {H:Hp}{as:List Addr}{xss:List (List V)}(h:Rw H as xss){l:Addr}(n:H l=none):l∉as:=λz=>by
 obtain⟨j,hj⟩:=lD z;obtain⟨zs,hz⟩:=getx (xs:=xss) (i:=j) (by rw[<- h.1];exact (br.mp hj).1);rw[h.2 j l zs hj hz] at n;cases n
theorem qD {as:List Addr}(nd:as.Nodup){l:Addr}(n:l∉as):(as++[l]).Nodup:=by
 rw[qw];refine#[nd,by simp,λx hx y hy z=>n ?_];rw[<- aX.mp hy,<- z];exact hx
noncomputable def iT (H:Hp)(as:List Addr):Prop:=∀a∈as,H a=none
theorem iT.snoc {H:Hp}{as:List Addr}(f:iT H as){l:Addr}(n:H l=none):iT H (as++[l]):=λx hx=>by
 rcases bM.mp hx with z|z
 .exact f x z
 .rw[aX.mp z];exact n
theorem T1s.kp {H H':Hp}(s:Kp H H'){us:List V}{xss:List (List V)}(h:All2 (T1 H) us xss):All2 (T1 H') us xss:=h.imp λz=>z.kp s
structure R8 where
 num:Int
 keeper:Int
 came:Int
 marks:List Str
 card:Crd
noncomputable abbrev R8.force (r:R8):Nat:=r.card.force
noncomputable abbrev R8.rules (r:R8):List Rule:=r.card.rules
structure R8.ok (r:R8):Prop where
 n0:0<=r.num
 n1:r.num<16
 k0:0<=r.keeper
 k1:r.keeper<4
 mks:Marks r.marks
 cok:r.card.ok
noncomputable abbrev crd (r:R8):Crd:=r.card
theorem R8.ok.ru {r:R8}(h:r.ok):r.rules.length<=3:=h.cok.few
theorem Ht {r:R8}(h:r.ok)(_:∀q∈r.rules,q.ok):(crd r).ok:=h.cok
noncomputable def LyT (B D:Addr)(H:Hp)(u:V)(r:R8):Prop:=Ex3 λa tm c=>u = .ref a/\H a=some (.tup [.int r.num,c,.int r.keeper,.int r.came,.ref tm])/\H tm=some (.tup (r.marks.map V.str))/\gr B D H c (crd r)
theorem LyT.same {B D:Addr}{H H':Hp}(s:Same H H'){v:V}{r:R8}(h:LyT B D H v r):LyT B D H' v r:=by
 obtain⟨a,tm,c,rfl,h1,h2,h3⟩:=h;exact#[a,tm,c,0,s _ _ h1,s _ _ h2,h3.same s]
theorem ND (n:Str)(c f:Nat)(m t:Addr):(cfs n c f m t).lookup ("force":Str)=some (.int f):=(cD (by lia)).trans ((cD (by lia)).trans g8)
theorem eJ {n:Nat}(h:n+64<cLine):n+1<cLine:=by lk
noncomputable def layW (w:Str):Int:=if w = "mute" then 0 else if w = "steal" then 1 else if w = "gain" ∨ w = "lack" then 2 else if w = "be" then 3 else 4
noncomputable def lay:Rule->Int
 | .hold w _ _=>layW w
 | _=>0
noncomputable def eB:Rule->Bool
 | .hold _ _ _=>true
 | _=>false
noncomputable def chAt (r:R8):Nat->List Rule->List (List Int)
 | _,[]=>[]
 | k,q::rs=>(if eB q then [[lay q,r.came,r.num,(k:Int)]] else [])++chAt r (k+1) rs
theorem ur (r:R8):∀(k:Nat) (xs ys:List Rule),chAt r k (xs++ys)=chAt r k xs++chAt r (k+xs.length) ys
 | k,[],ys=>by rw[sB];rfl
 | k,x::xs,ys=>by
  show _++chAt r (k+1) (xs++ys)=(_++chAt r (k+1) xs)++chAt r (k+(xs.length+1)) ys
  rw[ur r (k+1) xs ys,fV,show k+1+xs.length=k+(xs.length+1) by lk]
noncomputable def chs (r:R8):List (List Int):=chAt r 0 r.rules
theorem IE (r:R8):chAt r 0 (crd r).rules=chs r:=rfl
theorem Lz (r:R8)(k:Nat)(xs:List Rule){i:Nat}{q:Rule}(h:xs[i]?=some q):chAt r k (xs.take (i+1))=chAt r k (xs.take i)++(if eB q then [[lay q,r.came,r.num,((k+i:Nat):Int)]] else []):=by
 rw[bU,h,dF,ur];have hl:(xs.take i).length=i:=by
  rw[bQ];have:=(br.mp h).1;lk
 rw[hl];show _++((if eB q then [[lay q,r.came,r.num,((k+i:Nat):Int)]] else [])++[])=_
 rw[ci]
theorem AF (r:R8):∀(k:Nat) (xs:List Rule),∀c∈chAt r k xs,Ex2 λ(l:Int) (j:Nat)=>c=[l,r.came,r.num,(j:Int)]/\k<=j/\j<k+xs.length
 | _,[],c,h=>by cases h
 | k,x::xs,c,h=>by
  rcases bM.mp h with z|z
  .have e:eB x=true:=by
    cases e:eB x with
    | true=>rfl
    | false=>rw[e] at z;cases z
   rw[e] at z;exact#[_,k,aX.mp z,az _,by rw[aK];lk]
  .obtain⟨l,j,e,h1,h2⟩:=AF r (k+1) xs c z;exact#[l,j,e,3,by rw[aK];lk]
theorem um (r:R8):∀(k:Nat) (xs:List Rule),(chAt r k xs).Nodup
 | _,[]=>.nil
 | k,x::xs=>by
  show ((if eB x then [[lay x,r.came,r.num,(k:Int)]] else [])++chAt r (k+1) xs).Nodup
  rw[qw];refine#[5,um r (k+1) xs,λa ha b hb z=>?_]
  .split
   .exact vA _ _
   .exact .nil
  .obtain⟨l,j,e,h1,_⟩:=AF r (k+1) xs b hb;cases e2:eB x with
   | false=>rw[e2] at ha;cases ha
   | true =>
    rw[e2] at ha;rw[aX.mp ha,e] at z;injection z with _ z
    injection z with _ z
    injection z with _ z
    injection z with z _
    lk
theorem mO (r:R8):∀(k:Nat) (xs:List Rule),(chAt r k xs).length<=xs.length
 | _,[]=>az _
 | k,x::xs=>by
  have:=mO r (k+1) xs;show ((if eB x then [[lay x,r.came,r.num,(k:Int)]] else [])++chAt r (k+1) xs).length<=xs.length+1
  rw[aS]
  split
  .show 1+_<=_;lk
  .show 0+_<=_;lk
theorem Ol {rs:List R8}(h:(rs.map (·.num)).Nodup):(rs.flatMap chs).Nodup:=by
 refine List.pairwise_flatMap.mpr #[λr _=>um r _ _,5];refine EF ?_ (A5.mp h);intro a b n x hx y hy z;obtain⟨l,j,e,_,_⟩:=AF a _ _ x hx;obtain⟨l',j',e',_,_⟩:=AF b _ _ y hy;rw[e,e'] at z;injection z with _ z
 injection z with _ z
 injection z with z _
 exact n z
theorem wL {rs:List R8}(h:∀r∈rs,r.rules.length<=3):(rs.flatMap chs).length<=3*rs.length:=by
 induction rs with
 | nil=>exact az _
 | cons r t ih =>
  rw[List.flatMap_cons,aS,aK];have a:=mO r 0 r.rules;have b:=h r bb;have c:=ih λz hz=>h z (bx _ hz);have d:(chs r).length<=r.rules.length:=a;lk
noncomputable def ChT (H:Hp)(u:V)(c:List Int):Prop:=∃a,u = .ref a/\H a=some (.tup (c.map V.int))/\c.length=4
theorem ChT.same {H H':Hp}(s:Same H H'){u:V}{c:List Int}(h:ChT H u c):ChT H' u c:=by
 obtain⟨a,rfl,e,l⟩:=h;exact#[a,0,s _ _ e,l]
theorem ChT.put {H:Hp}{x:Addr}{us vs:List V}{u:V}{c:List Int}(e:H x=some (.lst us))(h:ChT H u c):ChT (upd H x (.lst vs)) u c:=by
 obtain⟨a,rfl,e1,l⟩:=h;exact#[a,0,by rw[aF (cw e1 e (by intro y;cases y))];exact e1,l]
noncomputable def intOf:V->Int
 | .int i=>i
 | _=>0
noncomputable def chG (H:Hp):V->List Int
 | .ref a=>match H a with
  | some (.tup xs)=>xs.map intOf
  | _=>[]
 | _=>[]
theorem ChT.key {H:Hp}{u:V}{c:List Int}(h:ChT H u c):chG H u=c:=by
 obtain⟨a,rfl,e,_⟩:=h;show (match H a with
  | some (.tup xs)=>xs.map intOf
  | _=>[])=c
 rw[e];show (c.map V.int).map intOf=c
 rw[cW,show (intOf∘V.int)=id from rfl,Jb]
theorem xF {H:Hp}{us:List V}{cs:List (List Int)}(z:All2 (ChT H) us cs):us.map (chG H)=cs:=by
 induction z with
 | nil=>rfl
 | cons h _ ih=>rw[bp,h.key,ih]
noncomputable def Bw (B D:Addr):Sp:=λvs H Q _=>Ex3 λl us rs=>vs=[.ref l]/\H l=some (.lst us)/\All2 (LyT B D H) us rs/\(∀r∈rs,r.ok)/\(∀r∈rs,∀q∈r.rules,q.ok)/\rs.length<=16/\(rs.map (·.num)).Nodup/\∀p out cs H',Same H H'->H p=none->H' p=some (.lst out)->All2 (ChT H') out cs->cs.Perm (rs.flatMap chs)->cs.Pairwise (· < ·)->Q (.ref p) H'
theorem sT (n:Str)(c f:Nat)(m t:Addr):(cfs n c f m t).lookup ("rules":Str)=some (.ref t):=(cD (by lia)).trans ((cD (by lia)).trans ((cD (by lia)).trans ((cD (by lia)).trans g8)))
theorem oK {α β:Type}{f:α->β}{xs:List α}(nd:(xs.map f).Nodup){i j:Nat}{a b:α}(hi:xs[i]?=some a)(hj:xs[j]?=some b)(e:f a=f b):i=j:=by
 have h1:(xs.map f)[i]?=some (f a):=by rw[bH,hi];rfl
 have h2:(xs.map f)[j]?=some (f a):=by rw[bH,hj,e];rfl
 have li:=(br.mp h1).1;exact (PR li nd).mp (h1.trans h2.symm)
noncomputable def fitN (rs:List Row)(r0:Row)(y:Wh):List Row:=rs.filter λr=>c9 (some r) r0.num r0.keeper r.num y
noncomputable def Df (D:Addr):Sp:=λvs H Q _=>Ex7 λsl us rs v av (y:Wh) (r0:Row)=>vs=[.ref sl,v,av]/\H sl=some (.lst us)/\bJ H us rs/\rs.length<=16/\IsW D H v y/\y.depth<=9/\dA H av r0/\∀p H',Same H H'->H p=none->H' p=some (.lst ((fitN rs r0 y).map λr=>V.int r.num))->Q (.ref p) H'
theorem Rk (T:Tx K mg):FnOk P w K mg base CX0 21 T.pB.f T.pB.d NX (Df T.aT):=by
 refine T.pB.ok UY ?_;rintro f c A o s H vs Q E hr ⟨sl,us,rs,v,av,y,r0,rfl,el,R,h16,W,hd,RA,q⟩ X;have ul:=R.length;refine#[_,(ag (aD (cB (own:=["row"]) (cap:=["whom","asker"]) rfl (bI.chk rfl rfl) (.cons (j:=1) rfl (.inl rfl) (.inl rfl) (.cons (j:=2) rfl (.inl rfl) (.inl rfl) .nil)) (cI (pv 0)) (λ_ _ _ _=>(aZ (i:=0) (show bG (["row","whom","asker"]:List Str) by lia) rfl (.inl rfl))) (λ_ _ _ _=>iK (cN (eP (pv 1) T.cx T.fb.M (TJ T 9) hr (AG T) .nil bA (aa (pv 0) (aa (ao (fS K) (pv 2) ad) (aa (ao (fS K) (pv 2) ad) (aa (ao (fS K) (pv 0) ad) ab))))))) (λ_ _ _ _=>by exact (ao (fS K) (pv 0) ad))))),5];refine#[1,sl,0,#[_,SqL.of el],5];refine cZ (xs:=us) (λi ys H'=>H'=H/\i<=us.length/\ys=(fitN (rs.take i) r0 y).map λr=>V.int r.num) (λi ys H' z=>by rw[z.1];exact SqL.of el) #[0,ba _,0] ?_ ?_ ?_
 .rintro i ys H' ⟨_,hi,rfl⟩;have h1:(fitN (rs.take i) r0 y).length<=(rs.take i).length:=fY _ _;rw[bQ] at h1;rw[aw];exact small (by lk)
 .rintro i u ys H' hu ⟨rfl,_,rfl⟩;have hi:i<us.length:=(br.mp hu).1;obtain⟨r,er,a,m,rfl,ea,em⟩:=R.get hu;have W0:=W;obtain⟨b,mb,rfl,eb,emb⟩:=RA;cases W with
  | @mk wa dx t ps _ h1 h2 h3 =>
  refine#[05];refine#[1,wa,dx,1,h1,kS _ _ _ (by lia) (by lia) (by lia),11,b,_,4,SqT.of eb,91,b,_,4,SqT.of eb,aI (j:=1) rfl,1,a,_,4,SqT.of ea,9,_,.ref a,some r,r0.num,r0.keeper,r.num,y,0,W0,#[a,m,0,ea,em],hd,15];have e1:fitN (rs.take (i+1)) r0 y=fitN (rs.take i) r0 y++(if c9 (some r) r0.num r0.keeper r.num y=true then [r] else []):=by
   unfold fitN;rw[bU,er,dF,lH]
   congr 1
   by_cases c:c9 (some r) r0.num r0.keeper r.num y=true
   .rw[if_pos c,oE (p:=λr=>c9 (some r) r0.num r0.keeper r.num y) c];rfl
   .rw[if_neg c,sw (p:=λr=>c9 (some r) r0.num r0.keeper r.num y) c];rfl
  rw[e1];refine ite2 (λc=>?_) (λc=>?_)
  .rw[if_pos c];exact#[1,a,_,4,SqT.of ea,90,hi,by rw[bE];rfl]
  .rw[if_neg c,ci];exact#[0,hi,0]
 .rintro ys H' ⟨rfl,_,rfl⟩ p hp;rw[bX (by lk)];ext hp H2 S2 e2;exact q p H2 S2 hp e2
noncomputable def d8 (rs:List Row)(r0:Row)(w:Str)(h:Hv):V :=
 if w = "mute" then .int 0 else if w = "steal" then .int r0.keeper else match h with
 | .w y=>.int (fitN rs r0 y).length
 | .v (.num i)=>.int (if w = "less" then -(i:Int) else i)
 | .v x=>valV x
noncomputable def FU (D:Addr):Sp:=λvs H Q _=>Ex11 λsl a us rs x u av (wd:Str) (h:Hv) (y:Wh) (r0:Row)=>vs=[.ref sl,.ref a,av]/\H sl=some (.lst us)/\bJ H us rs/\rs.length<=16/\H a=some (.tup [.str "hold",.str wd,x,u])/\HvAt D H x h/\cj wd h/\(∀z,h = .w z->z.depth<=9)/\dA H av r0/\∀H',Same H H'->Q (d8 rs r0 wd h) H'
theorem Iz (T:Tx K mg):FnOk P w K mg base CX0 22 T.rK.f T.rK.d JW (FU T.aT):=by
 refine T.rK.ok Pk ?_;rintro f c A o s H vs Q E hr ⟨sl,a,us,rs,x,u,av,wd,hv,y,r0,rfl,el,R,h16,ea,hx,hok,hz,RA,q⟩ X;refine#[_,(ae (aA (i:=3) Pk.nd rfl (.inl rfl) (ao aP (pv 1) ad))
  (ae (aJ (aL a6 (pv 3) ar (aH _))
   (ag (aD ad))
   aO)
  (ae (aJ (aL a6 (pv 3) ar (aH _))
   (ag (aD (ao aP (pv 2) ad)))
   aO)
  (ae (aJ (aL a6 (pv 3) ar (aH _))
   (ag (aD (xr uk (ao aP (pv 1) ad))))
   aO)
  (ae (aJ (aL a6 (pv 3) ar (aH _))
   (ag (aD (bh cT rfl T.cr cE (aa (T.pB.c (Rk T) hr (QN T) (aa (pv 0) (aa (ao aP (pv 1) ad) (aa (pv 2) ab)))) ab))))
   aO)
  (ag (aD (ao aP (pv 1) ad)))))))),5]
 k_ne
 refine#[1,a,_,4,SqT.of ea,aI (j:=1) rfl,5];cases hok with
 | mute =>
  k_ne
  refine#[101,iteT ?_];exact q H (Same.refl H)
 | steal =>
  obtain⟨b,mb,rfl,eb,emb⟩:=RA
  k_ne
  refine#[106];refine#[101,iteT ?_];exact#[1,b,_,4,SqT.of eb,aI (j:=1) rfl,q H (Same.refl H)]
 | per hy =>
  k_ne
  refine#[106];refine#[106];refine#[106];refine#[101,iteT ?_];refine#[11,a,_,4,SqT.of ea,aI (j:=2) rfl,1,sl,us,rs,x,av,_,r0,0,el,R,h16,hx,hz _ rfl,RA,λp H' S hp ep=>?_];refine#[p,1,.inl (SqL.of ep),5];rw[aw];exact q H' S
 | less hi =>
  cases hx
  k_ne
  refine#[106];refine#[106];refine#[101,iteT ?_];exact#[1,a,_,4,SqT.of ea,aI (j:=2) rfl,1,q H (Same.refl H)]
 | _ =>
  cases hx
  k_ne
  refine#[106];refine#[106];refine#[106];refine#[106];exact#[1,a,_,4,SqT.of ea,aI (j:=2) rfl,q H (Same.refl H)]
noncomputable def Mj (B D:Addr):Sp:=λvs H Q _=>Ex7 λl us rs (i k:Nat) (r:R8) (q:Rule)=>vs=[.ref l,.int r.num,.int (k:Int)]/\H l=some (.lst us)/\All2 (LyT B D H) us rs/\rs.length<=16/\(rs.map (·.num)).Nodup/\rs[i]?=some r/\(crd r).rules[k]?=some q/\∀v H',Same H H'->fU D H' v q->Q v H'
theorem QU (T:Tx K mg):FnOk P w K mg base CX0 2 T.mY.f T.mY.d J8 (Mj T.b9 T.aT):=by
 refine T.mY.ok Qo ?_;rintro f c A o s H vs Q E hr ⟨l,us,rs,i,k,r,qr,rfl,el,LY,h16,nd,er,eq,q⟩ X;have ul:=LY.len;have il:i<us.length:=by
  rw[ul];exact (br.mp er).1
 have eu:=cA il;obtain⟨r',er',a,tm,c,eua,ea,em,ca,dx,mm,tt,vs,rfl,hc,hm,ht,IR⟩:=LY.get eu;rw[er] at er';cases er';refine#[_,(ae (i5 (i:=3) Qo.nd rfl (.inl rfl) (own:=["row"]) (cap:=["number"]) rfl (bI.chk rfl rfl) (.cons (j:=1) rfl (.inl rfl) (.inl rfl) .nil) (cI (pv 0)) (λ_ _ _ _=>(aZ (i:=0) (show bG (["row","number"]:List Str) by lia) rfl (.inl rfl))) (λ_ _ _ _=>iK (aL a6 (ao (fS K) (pv 0) ad) (pv 1) (aH _))) (λ_ _ _ _=>by exact (vc K (ao (fS K) (pv 0) ad) rfl)))
  (ag (aD (ao aP (ao bC (pv 3) ad) (pv 2))))),5]
 k_ne
 refine#[1,l,0,#[_,SqL.of el],5];refine cZ (xs:=us) (λj ys H'=>H'=H/\ys=if i<j then [V.ref tt] else []) (λj ys H' z=>by rw[z.1];exact SqL.of el) #[00] ?_ ?_ ?_
 .rintro j ys H' ⟨_,rfl⟩
  split
  .exact small (by show 1<=1000;decide)
  .exact small (by show 0<=1000;decide)
 .rintro j u ys H' hu ⟨rfl,rfl⟩
  by_cases ej:j=i
  .subst ej;rw[eu] at hu;cases hu;rw[eua];refine#[01,a,_,4,SqT.of ea,91015];have t1:decide (V.int r.num=V.int r.num)=true:=decide_eq_true rfl;dsimp only;rw[if_pos t1];refine#[1,a,_,4,SqT.of ea,aI (j:=1) rfl,ca,_,dx,_,1,hc,T.fW,T.pP,sT _ _ _ _ _,05];rw[if_neg (gw _),if_pos (lp _)];rfl
  .obtain⟨r2,er2,a2,tm2,c2,rfl,ea2,_⟩:=LY.get hu;refine#[01,a2,_,4,SqT.of ea2,91015];dsimp only;rw[if_neg (λz=>ej (oK nd er2 er (by have z':=of_decide_eq_true z;injection z')))];refine#[05]
   by_cases z:i<j
   .rw[if_pos z,if_pos (by lk)]
   .rw[if_neg z,if_neg (by lk)]
 .rintro ys H' ⟨rfl,rfl⟩ p hp;rw[if_pos il];ext hp H2 S2 e2;have kl:k<vs.length:=by
   rw[IR.length];exact (br.mp eq).1
  have ek:=cA kl;obtain⟨q2,eq2,ir⟩:=IR.get ek;rw[eq] at eq2;cases eq2;exact#[1,p,_,4,SqL.of e2,91,tt,_,4,SqT.of (S2 _ _ ht),aI ek,q _ _ S2 (ir.same S2)]
noncomputable def iC (H:Hp)(u:V)(x:Int×V):Prop:=∃a:Addr,u = .ref a/\H a=some (.tup [.int x.1,x.2])
theorem iC.same {H H':Hp}(s:Same H H'){u:V}{x:Int×V}(h:iC H u x):iC H' u x:=by
 obtain⟨a,e,h⟩:=h;exact#[a,e,s _ _ h]
noncomputable def gX (ss:List Row)(r0:Row)(wd:Str)(h:Hv)(y:Wh):List (Int×V):=if r0.mute=true then [] else (fitN ss r0 y).map λr=>(r.num,d8 ss r0 wd h)
noncomputable def EJ (B D:Addr):Sp:=λvs H Q _=>Ex16 λll sl us ws rs ss u (i k:Nat) (r:R8) (r0:Row) (wd:Str) (h:Hv) (y:Wh) (a b:Int)=>vs=[.ref ll,.ref sl,u]/\H ll=some (.lst us)/\All2 (LyT B D H) us rs/\rs.length<=16/\(rs.map (·.num)).Nodup/\H sl=some (.lst ws)/\bJ H ws ss/\ss.length<=16/\rs[i]?=some r/\(crd r).rules[k]?=some (.hold wd h y)/\cj wd h/\y.depth<=9/\(∀z,h = .w z->z.depth<=9)/\rowOf ss r.num=some r0/\ChT H u [a,b,r.num,(k:Int)]/\∀p out H',Same H H'->H p=none->H' p=some (.lst out)->All2 (iC H') out (gX ss r0 wd h y)->Q (.ref p) H'
theorem vb (ss:List Row)(r0:Row)(y:Wh):(fitN ss r0 y).length<=ss.length:=fY _ _
theorem Ay (T:Tx K mg):FnOk P w K mg base CX0 23 T.kT.f T.kT.d oG (EJ T.b9 T.aT):=by
 refine T.kT.ok xP ?_;rintro f c A o s H vs Q E hr ⟨ll,sl,us,ws,rs,ss,u,i,k,r,r0,wd,hv,y,a,b,rfl,el,LY,h16,nd,es,R,s16,er,eq,hok,yd,zd,ro,⟨t,rfl,et,_⟩,q⟩ X;refine#[_,(ae (aA (i:=3) xP.nd rfl (.inl rfl) (T.rN.c (CP T).up hr (JH T) (aa (pv 1) (aa (ao aP (pv 2) ad) ab))))
  (ae (aJ (rh (ao aP (pv 3) ad) (λ_=>rfl))
   (ag (aD (bj ab)))
   aO)
  (ae (aA (i:=4) xP.nd rfl (.inl rfl) (T.mY.c (QU T).up hr (wf T) (aa (pv 0) (aa (ao aP (pv 2) ad) (aa (ao aP (pv 2) ad) ab)))))
  (ae (aA (i:=5) xP.nd rfl (.inl rfl) (T.pB.c (Rk T).up hr (QN T) (aa (pv 1) (aa (ao aP (pv 4) ad) (aa (pv 3) ab)))))
  (ae (aA (i:=6) xP.nd rfl (.inr rfl) (T.rK.c (Iz T) hr (BY T) (aa (pv 1) (aa (pv 4) (aa (pv 3) ab)))))
  (ag (aD (cB (own:=["number"]) (cap:=["amount"]) rfl (bI.chk rfl rfl) (.cons (j:=6) rfl (.inl rfl) (.inl rfl) .nil) (cI (pv 5)) (λ_ _ _ _=>(aZ (i:=0) (show bG (["number","amount"]:List Str) by lia) rfl (.inl rfl))) (λ_ _ _ _=>cF) (λ_ _ _ _=>by exact (bc (aa (pv 0) (aa (pv 1) ab)))))))))))),5]
 k_ne
 refine#[11,t,_,4,SqT.of et,aI (j:=2) rfl,sl,ws,ss,r.num,0,es,R,λav hav=>?_];rw[ro] at hav;have RA:dA H av r0:=hav;obtain⟨c,mc,rfl,ec,emc⟩:=id RA
 k_ne
 refine#[1,c,_,4,SqT.of ec,aI (j:=4) rfl,15];refine ite2 (λm=>?_) (λm=>?_)
 .refine#[sz0,λp hp=>?_];ext hp H1 S1 e1;exact q p [] H1 S1 hp e1 (by rw[gX,if_pos m];exact .nil)
 .refine#[11,t,_,4,SqT.of et,aI (j:=2) rfl,1,t,_,4,SqT.of et,aI (j:=3) rfl,ll,us,rs,i,k,r,1,el,LY,h16,nd,er,eq,λv H1 S1 ir=>?_];obtain⟨ra,x,u',rfl,era,hx,hu⟩:=ir;have R1:bJ H1 ws ss:=R.map λ_ _ z=>z.same S1;have RA1:=RA.same S1
  k_ne
  refine#[11,ra,_,4,SqT.of era,aI (j:=3) rfl,1,sl,ws,ss,u',.ref c,y,r0,0,S1 _ _ es,R1,s16,hu,yd,RA1,λp H2 S2 hp ep=>?_];have S12:=S1.trans S2
  k_ne
  refine#[111,sl,ra,ws,ss,x,u',.ref c,wd,hv,y,r0,0,S12 _ _ es,R1.map λ_ _ z=>z.same S2,s16,S2 _ _ era,hx.same S2,hok,zd,RA1.same S2,λH3 S3=>?_];have ep3:=S3 _ _ ep;have fl:=vb ss r0 y;refine#[1,p,0,#[_,SqL.of ep3],5];refine cZ (xs:=(fitN ss r0 y).map λr=>V.int r.num) (λj ys H'=>Same H3 H'/\All2 (iC H') ys (((fitN ss r0 y).take j).map λr=>(r.num,d8 ss r0 wd hv))) (λj ys H' z=>SqL.of (z.1 _ _ ep3)) #[Same.refl _,.nil] ?_ ?_ ?_
  .rintro j ys H' ⟨_,hy⟩;have yl:=hy.len;rw[aw,bQ] at yl;exact small (by lk)
  .rintro j x' ys H' hx' ⟨S,hy⟩;rw[bH] at hx';cases e:(fitN ss r0 y)[j]? with
   | none=>rw[e] at hx';cases hx'
   | some r2 =>
    rw[e] at hx';cases hx';refine#[011,sz2,λt2 ht2=>?_];ext ht2 H5 S5 e5;refine#[S.trans S5,5];rw[bU,e,dF,bE];exact All2.snoc #[t2,0,e5] (hy.imp λz=>z.same S5)
  .rintro ys H' ⟨S,hy⟩ p2 hp2;rw[aw,bX (az _)] at hy;have S3':=S12.trans (S3.trans S);ext hp2 H5 S5 e5;exact q p2 ys H5 (S3'.trans S5) (none_of S3' hp2) e5 (by rw[gX,if_neg m];exact hy.imp λz=>z.same S5)
theorem iC.put {H:Hp}{x:Addr}{us vs:List V}{u:V}{c:Int×V}(e:H x=some (.lst us))(h:iC H u c):iC (upd H x (.lst vs)) u c:=by
 obtain⟨a,rfl,e1⟩:=h;exact#[a,0,by rw[aF (cw e1 e (by intro y;cases y))];exact e1]
theorem dA.put {H:Hp}{x:Addr}{us vs:List V}{u:V}{r:Row}(e:H x=some (.lst us))(h:dA H u r):dA (upd H x (.lst vs)) u r:=by
 obtain⟨a,m,rfl,e1,e2⟩:=h;exact#[a,m,0,by rw[aF (cw e1 e (by intro y;cases y))];exact e1,by rw[aF (cw e2 e (by intro y;cases y))];exact e2]
theorem But.put2 {p:Addr}{H H1:Hp}{o:HO}(b:But p H H1):But p H (upd H1 p o):=b.trans But.put
noncomputable def strV:V->Str
 | .str u=>u
 | _=>""
noncomputable def gg (wd n:Str)(ms zs:List Str):Prop:=if wd = "gain" then (if inV (.str n) (ms.map V.str)=true then zs=ms else zs.Perm (ms++[n])/\cX zs=true) else if wd = "lack" then zs=ms.filter λm=>!decide (V.str m=V.str n) else zs=ms
structure ChdR (wd:Str)(am:V)(r r':Row):Prop where
 num:r'.num=r.num
 keeper:r'.keeper=if wd = "steal" then intOf am else r.keeper
 marks:gg wd (strV am) r.marks r'.marks
 force:r'.force=if wd = "be" then intOf am else if wd = "more" ∨ wd = "less" ∨ wd = "per" then r.force+intOf am else r.force
 mute:r'.mute=(r.mute||decide (V.str wd=V.str "mute"))
noncomputable def hitB (r0:Row)(y:Wh)(r:Row):Bool:=!r0.mute&&c9 (some r) r0.num r0.keeper r.num y
noncomputable def BehR (r0:Row)(wd:Str)(am:V)(y:Wh)(r r':Row):Prop:=if hitB r0 y r=true then ChdR wd am r r' else r'=r
theorem BehR.num {r0:Row}{wd:Str}{am:V}{y:Wh}{r r':Row}(h:BehR r0 wd am y r r'):r'.num=r.num:=by
 unfold BehR at h
 split at h
 .exact h.num
 .rw[h]
theorem yB {r0:Row}{wd:Str}{am:V}{y:Wh}{ss ts:List Row}(z:All2 (BehR r0 wd am y) ss ts):ts.map (·.num)=ss.map (·.num):=by
 induction z with
 | nil=>rfl
 | cons h _ ih=>rw[bp,bp,h.num,ih]
theorem yg {ss:List Row}{r0 r:Row}{y:Wh}{i:Nat}(sn:(ss.map (·.num)).Nodup)(er:ss[i]?=some r):r.num∈(fitN ss r0 y).map (·.num)↔c9 (some r) r0.num r0.keeper r.num y=true:=by
 rw[bT]
 constructor
 .rintro⟨r2,h2,e⟩;obtain⟨h3,h4⟩:=h7.mp h2;obtain⟨j,hj⟩:=lD h3;have ij:=oK sn hj er e;subst ij;rw[er] at hj;cases hj;exact h4
 .intro h;exact#[r,h7.mpr #[bq er,h],0]
theorem JC (ss:List Row)(r0:Row)(wd:Str)(h:Hv)(y:Wh):(gX ss r0 wd h y).map (λx=>((Sum.inl x.1:Key),x.2))=(if r0.mute=true then [] else (fitN ss r0 y).map (·.num)).map λn=>((Sum.inl n:Key),d8 ss r0 wd h):=by
 unfold gX
 split
 .rfl
 .rw[cW,cW];rfl
theorem OS {K:ah}{H:Hp}{us:List V}{xs:List (Int×V)}(z:All2 (iC H) us xs):Paired (KvT K H) us (xs.map λx=>((Sum.inl x.1:Key),x.2)):=by
 induction z with
 | nil=>exact .nil
 | cons h _ ih =>
  obtain⟨a,e,h⟩:=h;exact .cons #[a,e,SqT.of h] ih
theorem OC {ss:List Row}{r0 r:Row}{wd:Str}{h:Hv}{y:Wh}{i:Nat}(sn:(ss.map (·.num)).Nodup)(er:ss[i]?=some r):L2.valV (jn [] ((gX ss r0 wd h y).map (λx=>((Sum.inl x.1:Key),x.2)))) (Sum.inl r.num)=if hitB r0 y r=true then some (d8 ss r0 wd h) else none:=by
 rw[JC,Um,JQ];unfold hitB
 by_cases m:r0.mute=true
 .rw[if_pos m,m,if_neg (by simp),if_neg (by simp)]
 .have m':r0.mute=false:=by simpa using m
  rw[if_neg m,m']
  by_cases c:c9 (some r) r0.num r0.keeper r.num y=true
  .rw[if_pos ((yg (y:=y) (r0:=r0) sn er).mpr c),c,if_pos (show (!false&&true)=true from rfl)]
  .rw[if_neg (λz=>c ((yg (y:=y) (r0:=r0) sn er).mp z)),lu.mpr c,if_neg (by simp)]
theorem xM (ss:List Row)(r0:Row)(wd:Str)(h:Hv)(y:Wh):(gX ss r0 wd h y).length<=ss.length:=by
 unfold gX
 split
 .exact ba _
 .rw[aw];exact vb ss r0 y
theorem pZ {wd n:Str}{ms:List Str}(h1:¬ wd = "gain")(h2:¬ wd = "lack"):gg wd n ms ms:=by
 unfold gg;rw[if_neg h1,if_neg h2]
theorem sj {u:Str}{ss:List Str}:inV (.str u) (ss.map V.str)=true↔u∈ss:=by
 refine#[λh=>?_,nr];unfold inV at h;obtain⟨v,hv,e⟩:=List.any_eq_true.mp h;obtain⟨x,hx,rfl⟩:=bT.mp hv;have e':(x==u)=true:=e;have e2:x=u:=by simpa using e'
 rw[<- e2];exact hx
theorem NZ {ms ys:List Str}{n:Str}(nd:ms.Nodup)(so:cX ms=true)(py:ys.Perm (SSet.dd (ms++[n])))(sy:cX ys=true):gg "gain" n ms ys:=by
 rw[SSet.yK,AW nd] at py;unfold gg;rw[if_pos rfl]
 by_cases c:n∈ms
 .rw[if_pos c] at py;exact (if_pos (sj.mpr c)).mpr (Ip py sy so)
 .rw[if_neg c] at py;exact (if_neg (λz=>c (sj.mp z))).mpr #[py,sy]
theorem Nx {ms:List Str}{n:Str}(nd:ms.Nodup):(SSet.dd (ms++[n])).length<=ms.length+1:=by
 rw[SSet.yK,AW nd]
 split
 .omega
 .rw[aS];exact az _
structure hV (k:Nat)(r:Row):Prop where
 nd:r.marks.Nodup
 so:cX r.marks=true
 le:r.marks.length<=k
noncomputable def Dw:Sp:=λvs H Q _=>Ex3 λm (ms:List Str) (n:Str)=>vs=[.ref m,.str n]/\H m=some (.tup (ms.map V.str))/\ms.Nodup/\cX ms=true/\ms.length<=60/\∀p (zs:List Str) H',Same H H'->H' p=some (.tup (zs.map V.str))->gg "gain" n ms zs->Q (.ref p) H'
noncomputable def GW:Sp:=λvs H Q _=>Ex3 λm (ms:List Str) (n:Str)=>vs=[.ref m,.str n]/\H m=some (.tup (ms.map V.str))/\ms.length<=60/\∀p H',Same H H'->H' p=some (.tup ((ms.filter λm=>!decide (V.str m=V.str n)).map V.str))->Q (.ref p) H'
noncomputable def GH:Sp:=λvs H Q _=>Ex6 λv (r r0:Row) ss (wd:Str) (h:Hv)=>vs=[v,.str wd,d8 ss r0 wd h]/\dA H v r/\hV 60 r/\cj wd h/\∀u (r':Row) H',Same H H'->dA H' u r'->ChdR wd (d8 ss r0 wd h) r r'->Q u H'
theorem Cz (T:Tx K mg):FnOk P w K mg base CX0 2 T.qh.f T.qh.d pG Dw:=by
 refine T.qh.ok Fd ?_;rintro f c A o s H vs Q E hr ⟨m,ms,n,rfl,em,nd,so,le,q⟩ X;refine#[_,(ag (aD (bV fF rfl T.cG db (aa (bh (Us rfl) rfl T.jk pC (aa (bV (Oy rfl) rfl T.i3 boot_set (aa (aN Jr (pv 0) (bc (aa (pv 1) ab))) ab)) ab)) ab)))),5];refine#[11,sz1,λt1 ht1=>?_];ext ht1 H1 S1 e1;refine#[m,t1,4,SqT.of (S1 _ _ em),SqT.of e1,by simp,(by rw[aw];exact small (by show ms.length+1<=1000;lk)),λz=>?g1,λz t2 ht2=>?g2]
 case' g1 =>
  have z':ms=[]:=List.map_eq_nil_iff.mp z;have e2:H1 t1=some (.tup ((ms++[n]).map V.str)):=by rw[e1,z'];rfl
  have S2:=S1
 case' g2 =>
  ext ht2 H2 S2' e2';have e2:H2 t2=some (.tup ((ms++[n]).map V.str)):=by rw[e2',bE];rfl
  have S2:=S1.trans S2'
 all_goals
  have gl:=Nx (n:=n) nd;refine#[_,ms++[n],0,SqT.of e2,(by rw[aS];show ms.length+1<=1000;lk),λl hl=>?_];ext hl H3 S3 e3;refine#[l,1,e3,(by lk),λp ys hp py sy=>?_];ext hp H4 S4 e4;refine#[p,1,.inl #[SqL.of e4,λtm htm=>?_]];ext htm H5 S5 e5;exact q tm ys H5 (S2.trans (S3.trans (S4.trans S5))) e5 (NZ nd so py sy)
theorem Cu (T:Tx K mg):FnOk P w K mg base CX0 2 T.rO.f T.rO.d Ge GW:=by
 refine T.rO.ok Hr ?_;rintro f c A o s H vs Q E hr ⟨m,ms,n,rfl,em,le,q⟩ X;refine#[_,(ag (aD (bV fF rfl T.cG db (aa (cB (own:=["value"]) (cap:=["one"]) rfl (bI.chk rfl rfl) (.cons (j:=1) rfl (.inl rfl) (.inl rfl) .nil) (kC (pv 0)) (λ_ _ _ _=>(aZ (i:=0) (show bG (["value","one"]:List Str) by lia) rfl (.inl rfl))) (λ_ _ _ _=>iK (aL fO (pv 0) (pv 1) (aH _))) (λ_ _ _ _=>by exact (pv 0))) ab)))),5];refine#[1,m,0,#[_,SqT.of em],5];refine mL (xs:=ms.map V.str) (λj ys H'=>H'=H/\ys=((ms.take j).filter λm=>!decide (V.str m=V.str n)).map V.str) (λj ys H' z=>by rw[z.1];exact SqT.of em) #[00] ?_ ?_ ?_
 .rintro j ys H' ⟨_,rfl⟩;rw[aw];have h1:=fY (λm=>!decide (V.str m=V.str n)) (ms.take j);rw[bQ] at h1;exact small (by lk)
 .rintro j x2 ys H' hx2 ⟨rfl,rfl⟩;rw[bH] at hx2;cases em2:ms[j]? with
  | none=>rw[em2] at hx2;cases hx2
  | some m2 =>
   rw[em2] at hx2;cases hx2;refine#[011015];rw[bU,em2,dF,lH,bE];refine ite2 (λc=>?_) (λc=>?_)
   .exact#[10,by rw[oE (p:=λm=>!decide (V.str m=V.str n)) c];rfl]
   .exact#[0,by rw[sw (p:=λm=>!decide (V.str m=V.str n)) c];simp]
 .rintro ys H' ⟨rfl,rfl⟩ l1 hl1;rw[aw,bX (az _)];ext hl1 Ha Sa ea;refine#[l1,1,.inl #[SqL.of ea,λtm htm=>?_]];ext htm Hb Sb eb;exact q tm Hb (Sa.trans Sb) eb
theorem Hj (T:Tx K mg):FnOk P w K mg base CX0 3 T.qS.f T.qS.d El GH:=by
 refine T.qS.ok K0 ?_;rintro f c A o s H vs Q E hr ⟨v,r,r0,ss,wd,hv,rfl,⟨a,m,rfl,ea,em⟩,inv,hok,q⟩ X;refine#[_,(ae (aJ (aL a6 (pv 1) ar (aH _))
   (ag (aD (aN fz (de fh (pv 0) dq (cY ad)) (bc (aa fK ab)))))
   aO)
  (ae (aJ (aL a6 (pv 1) ar (aH _))
   (ag (aD (aN fz (aN fz (de fh (pv 0) dq (cY ad)) (bc (aa (pv 2) ab))) (de fh (pv 0) (cY ad) dq))))
   aO)
  (ae (aJ (aL a6 (pv 1) ar (aH _))
   (ag (aD (aN fz (aN fz (de fh (pv 0) dq (cY ad)) (bc (aa (T.qh.c (Cz T) hr (Ca T) (aa (ao aP (pv 0) ad) (aa (pv 2) ab))) ab))) (de fh (pv 0) (cY ad) dq))))
   aO)
  (ae (aJ (aL a6 (pv 1) ar (aH _))
   (ag (aD (aN fz (aN fz (de fh (pv 0) dq (cY ad)) (bc (aa (T.rO.c (Cu T) hr (NE T) (aa (ao aP (pv 0) ad) (aa (pv 2) ab))) ab))) (de fh (pv 0) (cY ad) dq))))
   aO)
  (ae (aJ (aL a6 (pv 1) ar (aH _))
   (ag (aD (aN fz (aN fz (de fh (pv 0) dq (cY ad)) (bc (aa (pv 2) ab))) (de fh (pv 0) (cY ad) dq))))
   aO)
  (ag (aD (aN fz (aN fz (de fh (pv 0) dq (cY ad)) (bc (aa (aN dM (ao aP (pv 0) ad) (pv 2)) ab))) (de fh (pv 0) (cY ad) dq))))))))),5]
 have le:=inv.le;cases hok
 case mute =>
  k_ne
  refine#[101,iteT ?_];refine#[11,a,1,SqT.of ea,(by show ¬ (HT.sIx 5 0 none=0/\HT.sIx 5 5 (some 4)=5);decide),λp1 hp1=>?_];ext hp1 H1 S1 e1;refine#[sz1,λp2 hp2=>?_];ext hp2 H2 S2 e2;refine#[p1,p2,4,SqT.of (S2 _ _ e1),SqT.of e2,(by intro z;cases z),sz5,λz=>(by cases z),λ_ p3 hp3=>?_];ext hp3 H3 S3 e3;have S13:=S1.trans (S2.trans S3);exact q _ #[r.num,r.keeper,r.marks,r.force,true] H3 S13 #[p3,m,0,e3,S13 _ _ em] #[00,pZ (by decide) (by decide),0,(by show true=(r.mute||true);rw[Bool.or_true])]
 case steal =>
  k_ne
  refine#[106];refine#[101,iteT ?_];refine#[11,a,1,SqT.of ea,(by show ¬ (HT.sIx 5 0 none=0/\HT.sIx 5 5 (some 1)=5);decide),λp1 hp1=>?_];ext hp1 H1 S1 e1;refine#[1,sz1,λp2 hp2=>?_];ext hp2 H2 S2 e2;refine#[p1,p2,4,SqT.of (S2 _ _ e1),SqT.of e2,(by intro z;cases z),sz2,λz=>(by cases z),λ_ p3 hp3=>?_];ext hp3 H3 S3 e3;have S03:=(S1).trans (S2.trans S3);refine#[11,a,1,SqT.of (S03 _ _ ea),(by show ¬ (HT.sIx 5 0 (some 2)=0/\HT.sIx 5 5 none=5);decide),λp4 hp4=>?_];ext hp4 H4 S4 e4;refine#[p3,p4,4,SqT.of (S4 _ _ e3),SqT.of e4,(by intro z;cases z),sz5,λz=>(by cases z),λ_ p5 hp5=>?_];ext hp5 H5 S5 e5;have S05:=S03.trans (S4.trans S5);exact q _ #[r.num,r0.keeper,r.marks,r.force,r.mute] H5 S05 #[p5,1,e5,S05 _ _ em] #[00,pZ (by decide) (by decide),0,(by show r.mute=(r.mute||false);rw[jM])]
 case gain n hn =>
  k_ne
  refine#[106];refine#[106];refine#[101,iteT ?_];refine#[11,a,1,SqT.of ea,(by show ¬ (HT.sIx 5 0 none=0/\HT.sIx 5 5 (some 2)=5);decide),λp1 hp1=>?_];ext hp1 H1 S1 e1;refine#[1,a,_,4,SqT.of (S1 _ _ ea),aI (j:=2) rfl,1,m,r.marks,n,0,S1 _ _ em,inv.nd,inv.so,le,λpm zs Hm Sm em2 MR=>#[sz1,λp2 hp2=>?_]];ext hp2 H2 S2 e2;refine#[p1,p2,4,SqT.of (S2 _ _ (Sm _ _ e1)),SqT.of e2,(by intro z;cases z),sz3,λz=>(by cases z),λ_ p3 hp3=>?_];ext hp3 H3 S3 e3;have S03:=(S1.trans Sm).trans (S2.trans S3);refine#[11,a,1,SqT.of (S03 _ _ ea),(by show ¬ (HT.sIx 5 0 (some 3)=0/\HT.sIx 5 5 none=5);decide),λp4 hp4=>?_];ext hp4 H4 S4 e4;refine#[p3,p4,4,SqT.of (S4 _ _ e3),SqT.of e4,(by intro z;cases z),sz5,λz=>(by cases z),λ_ p5 hp5=>?_];ext hp5 H5 S5 e5;have S05:=S03.trans (S4.trans S5);exact q _ #[r.num,r.keeper,zs,r.force,r.mute] H5 S05 #[p5,1,e5,(S2.trans (S3.trans (S4.trans S5))) _ _ em2] #[00,MR,0,(by show r.mute=(r.mute||false);rw[jM])]
 case lack n hn =>
  k_ne
  refine#[106];refine#[106];refine#[106];refine#[101,iteT ?_];refine#[11,a,1,SqT.of ea,(by show ¬ (HT.sIx 5 0 none=0/\HT.sIx 5 5 (some 2)=5);decide),λp1 hp1=>?_];ext hp1 H1 S1 e1;refine#[1,a,_,4,SqT.of (S1 _ _ ea),aI (j:=2) rfl,1,m,r.marks,n,0,S1 _ _ em,le,λpm Hm Sm em2=>#[sz1,λp2 hp2=>?_]];ext hp2 H2 S2 e2;refine#[p1,p2,4,SqT.of (S2 _ _ (Sm _ _ e1)),SqT.of e2,(by intro z;cases z),sz3,λz=>(by cases z),λ_ p3 hp3=>?_];ext hp3 H3 S3 e3;have S03:=(S1.trans Sm).trans (S2.trans S3);refine#[11,a,1,SqT.of (S03 _ _ ea),(by show ¬ (HT.sIx 5 0 (some 3)=0/\HT.sIx 5 5 none=5);decide),λp4 hp4=>?_];ext hp4 H4 S4 e4;refine#[p3,p4,4,SqT.of (S4 _ _ e3),SqT.of e4,(by intro z;cases z),sz5,λz=>(by cases z),λ_ p5 hp5=>?_];ext hp5 H5 S5 e5;have S05:=S03.trans (S4.trans S5);exact q _ #[r.num,r.keeper,r.marks.filter λm=>!decide (V.str m=V.str n),r.force,r.mute] H5 S05 #[p5,1,e5,(S2.trans (S3.trans (S4.trans S5))) _ _ em2] #[00,(by unfold gg;rw[if_neg (by decide),if_pos rfl];rfl),0,(by show r.mute=(r.mute||false);rw[jM])]
 case be i hi =>
  k_ne
  refine#[106];refine#[106];refine#[106];refine#[106];refine#[101,iteT ?_];refine#[11,a,1,SqT.of ea,(by show ¬ (HT.sIx 5 0 none=0/\HT.sIx 5 5 (some 3)=5);decide),λp1 hp1=>?_];ext hp1 H1 S1 e1;refine#[1,sz1,λp2 hp2=>?_];ext hp2 H2 S2 e2;refine#[p1,p2,4,SqT.of (S2 _ _ e1),SqT.of e2,(by intro z;cases z),sz4,λz=>(by cases z),λ_ p3 hp3=>?_];ext hp3 H3 S3 e3;have S03:=(S1).trans (S2.trans S3);refine#[11,a,1,SqT.of (S03 _ _ ea),(by show ¬ (HT.sIx 5 0 (some 4)=0/\HT.sIx 5 5 none=5);decide),λp4 hp4=>?_];ext hp4 H4 S4 e4;refine#[p3,p4,4,SqT.of (S4 _ _ e3),SqT.of e4,(by intro z;cases z),sz5,λz=>(by cases z),λ_ p5 hp5=>?_];ext hp5 H5 S5 e5;have S05:=S03.trans (S4.trans S5);exact q _ #[r.num,r.keeper,r.marks,intOf (d8 ss r0 "be" (.v (.num i))),r.mute] H5 S05 #[p5,1,e5,S05 _ _ em] #[00,pZ (by decide) (by decide),0,(by show r.mute=(r.mute||false);rw[jM])]
 case more i hi =>
  k_ne
  refine#[106];refine#[106];refine#[106];refine#[106];refine#[106];refine#[11,a,1,SqT.of ea,(by show ¬ (HT.sIx 5 0 none=0/\HT.sIx 5 5 (some 3)=5);decide),λp1 hp1=>?_];ext hp1 H1 S1 e1;refine#[1,a,_,4,SqT.of (S1 _ _ ea),aI (j:=3) rfl,14,sz1,λp2 hp2=>?_];ext hp2 H2 S2 e2;refine#[p1,p2,4,SqT.of (S2 _ _ e1),SqT.of e2,(by intro z;cases z),sz4,λz=>(by cases z),λ_ p3 hp3=>?_];ext hp3 H3 S3 e3;have S03:=(S1).trans (S2.trans S3);refine#[11,a,1,SqT.of (S03 _ _ ea),(by show ¬ (HT.sIx 5 0 (some 4)=0/\HT.sIx 5 5 none=5);decide),λp4 hp4=>?_];ext hp4 H4 S4 e4;refine#[p3,p4,4,SqT.of (S4 _ _ e3),SqT.of e4,(by intro z;cases z),sz5,λz=>(by cases z),λ_ p5 hp5=>?_];ext hp5 H5 S5 e5;have S05:=S03.trans (S4.trans S5);exact q _ #[r.num,r.keeper,r.marks,r.force+intOf (d8 ss r0 "more" (.v (.num i))),r.mute] H5 S05 #[p5,1,e5,S05 _ _ em] #[00,pZ (by decide) (by decide),0,(by show r.mute=(r.mute||false);rw[jM])]
 case less i hi =>
  k_ne
  refine#[106];refine#[106];refine#[106];refine#[106];refine#[106];refine#[11,a,1,SqT.of ea,(by show ¬ (HT.sIx 5 0 none=0/\HT.sIx 5 5 (some 3)=5);decide),λp1 hp1=>?_];ext hp1 H1 S1 e1;refine#[1,a,_,4,SqT.of (S1 _ _ ea),aI (j:=3) rfl,14,sz1,λp2 hp2=>?_];ext hp2 H2 S2 e2;refine#[p1,p2,4,SqT.of (S2 _ _ e1),SqT.of e2,(by intro z;cases z),sz4,λz=>(by cases z),λ_ p3 hp3=>?_];ext hp3 H3 S3 e3;have S03:=(S1).trans (S2.trans S3);refine#[11,a,1,SqT.of (S03 _ _ ea),(by show ¬ (HT.sIx 5 0 (some 4)=0/\HT.sIx 5 5 none=5);decide),λp4 hp4=>?_];ext hp4 H4 S4 e4;refine#[p3,p4,4,SqT.of (S4 _ _ e3),SqT.of e4,(by intro z;cases z),sz5,λz=>(by cases z),λ_ p5 hp5=>?_];ext hp5 H5 S5 e5;have S05:=S03.trans (S4.trans S5);exact q _ #[r.num,r.keeper,r.marks,r.force+intOf (d8 ss r0 "less" (.v (.num i))),r.mute] H5 S05 #[p5,1,e5,S05 _ _ em] #[00,pZ (by decide) (by decide),0,(by show r.mute=(r.mute||false);rw[jM])]
 case per y2 hy2 =>
  k_ne
  refine#[106];refine#[106];refine#[106];refine#[106];refine#[106];refine#[11,a,1,SqT.of ea,(by show ¬ (HT.sIx 5 0 none=0/\HT.sIx 5 5 (some 3)=5);decide),λp1 hp1=>?_];ext hp1 H1 S1 e1;refine#[1,a,_,4,SqT.of (S1 _ _ ea),aI (j:=3) rfl,14,sz1,λp2 hp2=>?_];ext hp2 H2 S2 e2;refine#[p1,p2,4,SqT.of (S2 _ _ e1),SqT.of e2,(by intro z;cases z),sz4,λz=>(by cases z),λ_ p3 hp3=>?_];ext hp3 H3 S3 e3;have S03:=(S1).trans (S2.trans S3);refine#[11,a,1,SqT.of (S03 _ _ ea),(by show ¬ (HT.sIx 5 0 (some 4)=0/\HT.sIx 5 5 none=5);decide),λp4 hp4=>?_];ext hp4 H4 S4 e4;refine#[p3,p4,4,SqT.of (S4 _ _ e3),SqT.of e4,(by intro z;cases z),sz5,λz=>(by cases z),λ_ p5 hp5=>?_];ext hp5 H5 S5 e5;have S05:=S03.trans (S4.trans S5);exact q _ #[r.num,r.keeper,r.marks,r.force+intOf (d8 ss r0 "per" (.w y2)),r.mute] H5 S05 #[p5,1,e5,S05 _ _ em] #[00,pZ (by decide) (by decide),0,(by show r.mute=(r.mute||false);rw[jM])]
noncomputable def IU (B D:Addr):Sp:=λvs H Q _=>Ex16 λll sl us ws rs ss u (i k:Nat) (r:R8) (r0:Row) (wd:Str) (h:Hv) (y:Wh) (a b:Int)=>vs=[.ref ll,.ref sl,u]/\H ll=some (.lst us)/\All2 (LyT B D H) us rs/\rs.length<=16/\(rs.map (·.num)).Nodup/\H sl=some (.lst ws)/\bJ H ws ss/\(ss.map (·.num)).Nodup/\(∀s∈ss,hV 60 s)/\ss.length<=16/\rs[i]?=some r/\(crd r).rules[k]?=some (.hold wd h y)/\cj wd h/\y.depth<=9/\(∀z,h = .w z->z.depth<=9)/\rowOf ss r.num=some r0/\ChT H u [a,b,r.num,(k:Int)]/\∀p out ts H',Same H H'->H p=none->H' p=some (.lst out)->bJ H' out ts->All2 (BehR r0 wd (d8 ss r0 wd h) y) ss ts->Q (.ref p) H'
theorem wg (T:Tx K mg):FnOk P w K mg base CX0 24 T.pV.f T.pV.d mI (IU T.b9 T.aT):=by
 refine T.pV.ok Cm ?_;rintro f c A o s H vs Q E hr ⟨ll,sl,us,ws,rs,ss,u,i,k,r,r0,wd,hv,y,a,b,rfl,el,LY,h16,nd,es,R,sn,inv,s16,er,eq,hok,yd,zd,ro,ct,q⟩ X;obtain⟨t,rfl,et,_⟩:=id ct;refine#[_,(ae (aA (i:=3) Cm.nd rfl (.inr rfl) (ao aP (T.mY.c (QU T).up hr (wf T) (aa (pv 0) (aa (ao aP (pv 2) ad) (aa (ao aP (pv 2) ad) ab)))) ad))
  (ae (aA (i:=4) Cm.nd rfl (.inr rfl) (bV (U6 rfl) rfl T.j8 PyProof.Rows.boot_dict (aa (T.kT.c (Ay T) hr (kD T) (aa (pv 0) (aa (pv 1) (aa (pv 2) ab)))) ab)))
  (ag (aD (cB (own:=["row"]) (cap:=["amounts","word"]) rfl (bI.chk rfl rfl) (.cons (j:=4) rfl (.inl rfl) (.inl rfl) (.cons (j:=3) rfl (.inl rfl) (.inl rfl) .nil)) (cI (pv 1)) (λ_ _ _ _=>(aZ (i:=0) (show bG (["row","amounts","word"]:List Str) by lia) rfl (.inl rfl))) (λ_ _ _ _=>cF) (λ_ _ _ _=>by exact (oY (mC (BK (eJ hr.units) (ao (fS K) (pv 0) ad) (pv 1))) (T.qS.c (Hj T).up hr (KU T) (aa (pv 0) (aa (pv 2) (aa (mB (eJ hr.units) (pv 1) (ao (fS K) (pv 0) ad) (λ_ _=>rfl)) ab)))) (pv 0)))))))),5]
 k_ne
 refine#[11,t,_,4,SqT.of et,aI (j:=2) rfl,1,t,_,4,SqT.of et,aI (j:=3) rfl,ll,us,rs,i,k,r,1,el,LY,h16,nd,er,eq,λv H1 S1 ir=>?_];obtain⟨ra,x,u',rfl,era,hx,hu⟩:=ir;refine#[ra,_,4,SqT.of era,aI (j:=1) rfl,5];have R1:bJ H1 ws ss:=R.map λ_ _ z=>z.same S1
 k_ne
 refine#[111,ll,sl,us,ws,rs,ss,.ref t,i,k,r,r0,wd,hv,y,a,b,0,S1 _ _ el,LY.imp λz=>z.same S1,h16,nd,S1 _ _ es,R1,s16,er,eq,hok,yd,zd,ro,ct.same S1,λp out H2 S2 np ep al=>?_];have ol:=al.len;have ol2:=xM ss r0 wd hv y;refine#[p,out,1,SqL.of ep,OS al,(by lk),λd hd=>?_];ext hd H3 S3 e3;have S03:=S1.trans (S2.trans S3);have R3:bJ H3 ws ss:=R.map λ_ _ z=>z.same S03;have es3:=S03 _ _ es;have wl:=R.length;refine#[1,sl,0,#[_,SqL.of es3],5];refine cZ (xs:=ws) (λj ys H'=>Same H3 H'/\j<=ws.length/\∃ts,bJ H' ys ts/\All2 (BehR r0 wd (d8 ss r0 wd hv) y) (ss.take j) ts) (λj ys H' z=>SqL.of (z.1 _ _ es3)) #[Same.refl _,ba _,[],.nil,.nil] ?_ ?_ ?_
 .rintro j ys H' ⟨_,hj,ts,RT,BH⟩;have h1:=RT.length;have h2:=BH.len;rw[bQ] at h2;exact small (by lk)
 .rintro j u2 ys H4 hu2 ⟨S4,_,ts,RT,BH⟩;have hj:j<ws.length:=(br.mp hu2).1;obtain⟨r2,er2,ra2⟩:=R3.get hu2;have ra4:=ra2.same S4;obtain⟨c,mc,rfl,ec,emc⟩:=id ra4;have dg:=DGet.k (k:=Sum.inl r2.num) (S4 _ _ e3);rw[OC sn er2] at dg;have step:∀{r':Row},BehR r0 wd (d8 ss r0 wd hv) y r2 r'->All2 (BehR r0 wd (d8 ss r0 wd hv) y) (ss.take (j+1)) (ts++[r']):=λ{r'} h=>by
   rw[bU,er2,dF];exact All2.snoc h BH
  by_cases hit:hitB r0 y r2=true
  .rw[if_pos hit] at dg;refine#[01,c,_,4,SqT.of ec,91,d,1,dg,1,iteT ?_];refine#[1111,c,_,4,SqT.of ec,9,d,1,dg,.ref c,r2,r0,ss,wd,hv,0,ra4,inv r2 (bq er2),hok,λv' r' H5 S5 RA CH=>?_];exact#[S4.trans S5,hj,ts++[r'],bJ.snoc (RT.map λ_ _ z=>z.same S5) RA,step (by unfold BehR;rw[if_pos hit];exact CH)]
  .rw[if_neg hit] at dg;refine#[01,c,_,4,SqT.of ec,91,d,1,dg,6];exact#[1,S4,hj,ts++[r2],bJ.snoc RT ra4,step (by unfold BehR;rw[if_neg hit])]
 .rintro ys H4 ⟨S4,_,ts,RT,BH⟩ p2 hp2;rw[bX (by lk)] at BH;have S04:=S03.trans S4;ext hp2 H5 S5 e5;exact q p2 ys ts H5 (S04.trans S5) (none_of S04 hp2) e5 (RT.map λ_ _ z=>z.same S5) BH
noncomputable def SgT (H:Hp)(u:V)(r:R8):Prop:=Ex2 λa tm=>u = .ref a/\H a=some (.tup [.int r.num,.int r.keeper,.ref tm,.int (r.force:Int),.bl false])/\H tm=some (.tup (r.marks.map V.str))
theorem SgT.same {H H':Hp}(s:Same H H'){v:V}{r:R8}(h:SgT H v r):SgT H' v r:=by
 obtain⟨a,tm,rfl,h1,h2⟩:=h;exact#[a,tm,0,s _ _ h1,s _ _ h2]
noncomputable def numG (H:Hp):V->List Int
 | .ref a=>match H a with
  | some (.tup (.int n::_))=>[n]
  | _=>[]
 | _=>[]
theorem SgT.num {H:Hp}{v:V}{r:R8}(h:SgT H v r):numG H v=[r.num]:=by
 obtain⟨a,tm,rfl,h1,h2⟩:=h;show (match H a with
  | some (.tup (.int n::_))=>[n]
  | _=>[])=[r.num]
 rw[h1]
theorem xQ {H:Hp}{vs:List V}{rs:List R8}(z:All2 (SgT H) vs rs):vs.map (numG H)=rs.map λr=>[r.num]:=by
 induction z with
 | nil=>rfl
 | cons h _ ih=>rw[bp,bp,h.num,ih]
theorem Jy {a b:Int}(h:([a]:List Int)<[b]):a<b:=by
 rcases x6.mp h with z|⟨_,z⟩
 .exact z
 .exact absurd z (lJ _)
theorem CB {rs:List R8}(h:(rs.map (·.num)).Nodup):(rs.map λr=>[r.num]).Nodup:=by
 have e:(rs.map λr=>[r.num])=(rs.map (·.num)).map λn=>[n]:=by rw[cW];rfl
 rw[e];refine A5.mpr (EF ?_ h);intro a b n z;injection z with z
 exact n z
noncomputable def gN (ss:List R8):Prop:=ss.Pairwise λa b=>a.num<b.num
theorem Np {H:Hp}{out:List V}{ss:List R8}(h:All2 (SgT H) out ss)(p:(out.map (numG H)).Pairwise (· < ·)):gN ss:=by
 rw[xQ h] at p;exact EF (λz=>Jy z) (A5.mp p)
theorem MX {rs ss ts:List R8}(h1:gN ss)(h2:gN ts)(p1:ss.Perm rs)(p2:ts.Perm rs):ss=ts :=
 Gb (le:=λa b:R8=>a.num<b.num) (λa b _ _ x y=>absurd (Int.lt_trans x y) (BP _)) h1 h2 (p1.trans p2.symm)
noncomputable def C1 (B D:Addr):Sp:=λvs H Q _=>Ex3 λl us rs=>vs=[.ref l]/\H l=some (.lst us)/\All2 (LyT B D H) us rs/\rs.length<=16/\(rs.map (·.num)).Nodup/\∀p out ss H',Same H H'->H p=none->H' p=some (.lst out)->All2 (SgT H') out ss->ss.Perm rs->gN ss->Q (.ref p) H'
theorem nE {K:ah}{H:Hp}:∀c:List Int,DVs K H (c.map V.int) (c.map PyData.int)
 | []=>.nil
 | i::r=>.cons (.int i) (nE r)
noncomputable def chD (c:List Int):PyData:=.tuple (c.map .int)
theorem Ja {K:ah}{H:Hp}{us:List V}{cs:List (List Int)}(z:All2 (ChT H) us cs):DVs K H us (cs.map chD):=by
 induction z with
 | nil=>exact .nil
 | cons h _ ih =>
  obtain⟨a,e,h,_⟩:=h;exact .cons (by rw[e];exact .tup (SqT.of h) (nE _)) ih
theorem lay_ints:∀c:List Int,jh (c.map .int)=true/\gB (c.map .int)=0
 | []=>#[00]
 | i::r=>by
  obtain⟨h1,h2⟩:=lay_ints r;exact#[by simp[jh,fR,h1],by simp[gB,gm,h2]]
theorem yJ:∀cs:List (List Int),jh (cs.map chD)=true/\gB (cs.map chD)<=1
 | []=>#[0,ba _]
 | c::r=>by
  obtain⟨h1,h2⟩:=yJ r;obtain⟨g1,g2⟩:=lay_ints c;refine#[by simp[jh,fR,chD,h1,g1],5];simp only[bp,gB,gm,chD,g2];have h2':gB (List.map chD r)<=1:=h2;unfold chD at h2';lk
theorem L8 (cs:List (List Int)):dO (.list (cs.map chD))=true:=by
 obtain⟨h1,h2⟩:=yJ cs;unfold dO;rw[fR,h1,gm];simp;lk
structure ChOf (rs:List R8)(c:List Int)(i k:Nat)(r:R8)(wd:Str)(h:Hv)(y:Wh)(a b:Int):Prop where
 at_:rs[i]?=some r
 rule:r.rules[k]?=some (.hold wd h y)
 full:(crd r).rules[k]?=some (.hold wd h y)
 is_:c=[a,b,r.num,(k:Int)]
 hok:cj wd h
 yd:y.depth<=9
 zd:∀z,h = .w z->z.depth<=9
theorem Oj {ts:List Row}{n:Int}(h:n∈ts.map (·.num)):∃r0,rowOf ts n=some r0:=by
 obtain⟨r,hr,e⟩:=bT.mp h;cases q:rowOf ts n with
 | some r0=>exact#[r0,0]
 | none =>
  have z:=HW.mp q r hr;simp[e] at z
theorem KD {ms:List Str}{n:Str}(nd:ms.Nodup)(so:cX ms=true):(ms.filter λm=>!decide (V.str m=V.str n)).Nodup/\cX (ms.filter λm=>!decide (V.str m=V.str n))=true:=#[nd.sublist (Rm),Cf (Rm) so]
theorem gg.inv {wd n:Str}{ms zs:List Str}(h:gg wd n ms zs)(nd:ms.Nodup)(so:cX ms=true):zs.Nodup/\cX zs=true/\zs.length<=ms.length+1:=by
 unfold gg at h
 split at h
 .by_cases c:inV (.str n) (ms.map V.str)=true
  .rw[if_pos c] at h;subst h;exact#[nd,so,gD _]
  .rw[if_neg c] at h;have hn:n∉ms:=λz=>c (sj.mpr z);refine#[h.1.nodup_iff.mpr ?_,h.2,by rw[h.1.length_eq,aS];exact az _];rw[qw];refine#[nd,vA _ _,λa ha b hb z=>?_];rw[aX.mp hb] at z;rw[z] at ha;exact hn ha
 .split at h
  .subst h;obtain⟨h1,h2⟩:=KD (n:=n) nd so;exact#[h1,h2,pk (fY _ _)]
  .subst h;exact#[nd,so,gD _]
theorem gg.one {wd n:Str}{ms zs ys:List Str}(h:gg wd n ms zs)(g:gg wd n ms ys):zs=ys:=by
 unfold gg at h g
 split at h
 .rename_i e;rw[if_pos e] at g
  by_cases c:inV (.str n) (ms.map V.str)=true
  .rw[if_pos c] at h g;rw[h,g]
  .rw[if_neg c] at h g;exact Ip (h.1.trans g.1.symm) h.2 g.2
 .rename_i e;rw[if_neg e] at g
  split at h
  .rename_i e2;rw[if_pos e2] at g;rw[h,g]
  .rename_i e2;rw[if_neg e2] at g;rw[h,g]
theorem BehR.inv {k:Nat}{r0:Row}{wd:Str}{am:V}{y:Wh}{r r':Row}(h:BehR r0 wd am y r r')(v:hV k r):hV (k+1) r':=by
 unfold BehR at h
 split at h
 .obtain⟨h1,h2,h3⟩:=h.marks.inv v.nd v.so;have:=v.le;exact#[h1,h2,3]
 .subst h;exact#[v.nd,v.so,pk v.le]
theorem BehR.one {r0:Row}{wd:Str}{am:V}{y:Wh}{r a b:Row}(h:BehR r0 wd am y r a)(g:BehR r0 wd am y r b):a=b:=by
 unfold BehR at h g
 split at h
 .rename_i c;rw[if_pos c] at g;obtain⟨an,ak,am',af,au⟩:=a;obtain⟨bn,bk,bm,bf,bu⟩:=b;have e1:an=bn:=h.num.trans g.num.symm;have e2:ak=bk:=h.keeper.trans g.keeper.symm;have e3:am'=bm:=h.marks.one g.marks;have e4:af=bf:=h.force.trans g.force.symm;have e5:au=bu:=h.mute.trans g.mute.symm;subst e1 e2 e3 e4 e5;rfl
 .rename_i c;rw[if_neg c] at g;rw[h,g]
theorem DQ {r0:Row}{wd:Str}{am:V}{y:Wh}{ss ts us:List Row}(a:All2 (BehR r0 wd am y) ss ts)(b:All2 (BehR r0 wd am y) ss us):ts=us:=by
 induction a generalizing us with
 | nil =>
  cases b;rfl
 | cons h t ih =>
  cases b with
  | cons g u=>rw[h.one g,ih u]
theorem BN {k:Nat}{r0:Row}{wd:Str}{am:V}{y:Wh}{ss ts:List Row}(z:All2 (BehR r0 wd am y) ss ts)(v:∀s∈ss,hV k s):∀t∈ts,hV (k+1) t:=by
 induction z with
 | nil=>exact λt h=>nomatch h
 | cons a r ih =>
  intro t h
  rcases aM.mp h with z|z
  .rw[z];exact a.inv (v _ bb)
  .exact ih (λs hs=>v s (bx _ hs)) t z
theorem U7 (T:Tx K mg):FnOk P w K mg base CX0 2 T.rH.f T.rH.d C3 (C1 T.b9 T.aT):=by
 refine T.rH.ok U2 ?_;rintro f c A o s H vs Q E hr ⟨l,us,rs,rfl,el,LY,h16,hnd,q⟩ X;have ul:=LY.len;refine#[_,(ag (aD (bh LZ rfl T.jk pC (aa (cB (own:=["number","card","keeper","came","marks"]) (cap:=[]) rfl (bI.chk rfl rfl) .nil (cI (pv 0)) (λ_ _ _ _=>(px K (n:=5) rfl (dC (aZ (i:=0) (show bG (["number","card","keeper","came","marks"]:List Str) by lia) rfl (.inl rfl)) (dC (aZ (i:=1) (show bG (["number","card","keeper","came","marks"]:List Str) by lia) rfl (.inl rfl)) (dC (aZ (i:=2) (show bG (["number","card","keeper","came","marks"]:List Str) by lia) rfl (.inl rfl)) (dC (aZ (i:=3) (show bG (["number","card","keeper","came","marks"]:List Str) by lia) rfl (.inl rfl)) (dC (aZ (i:=4) (show bG (["number","card","keeper","came","marks"]:List Str) by lia) rfl (.inl rfl)) mR))))))) (λ_ _ _ _=>cF) (λ_ _ _ _=>by exact (bc (aa (pv 0) (aa (pv 2) (aa (bV (F2 K) rfl T.cG db (aa (pv 4) ab)) (aa (vc K (pv 1) rfl) (aa fK ab)))))))) ab)))),5];refine#[1,l,0,#[_,SqL.of el],5];refine cZ (xs:=us) (λi ys H'=>Same H H'/\i<=us.length/\All2 (SgT H') ys (rs.take i)) (λi ys H' z=>SqL.of (z.1 _ _ el)) #[Same.refl _,ba _,.nil] ?_ ?_ ?_
 .rintro i ys H' ⟨_,hi,hy⟩;have:=hy.len;rw[bQ] at this;exact small (by lk)
 .rintro i u ys H' hu ⟨S,_,hy⟩;have hi:i<us.length:=(br.mp hu).1;obtain⟨r,er,ly⟩:=LY.get hu;obtain⟨a,tm,c,rfl,ea,em,ic⟩:=ly.same S;obtain⟨ca,dx,mm,tt,vs,rfl,hc,_⟩:=ic;refine#[a,1,SqT.of ea,0,_,1,_,1,_,1,_,1405];refine#[111,tm,1,.inr #[SqT.of em,5]];refine#[1,ca,_,dx,_,1,hc,T.fW,T.qB,ND _ _ _ _ _,sz5,λt ht=>?_];ext ht H3 S3 e3;refine#[S.trans S3,hi,5];rw[bU,er];exact All2.snoc #[t,tm,0,e3,S3 _ _ em] (hy.imp λz=>z.same S3)
 .rintro ys H' ⟨S,_,hy⟩ p hp;rw[bX (by lk)] at hy;ext hp H2 S2 e2;have hy2:All2 (SgT H2) ys rs:=hy.imp λz=>z.same S2;have yl:=hy2.len;refine#[p,ys,numG H2,(1),0,SqL.of e2,37,λu hu=>?_,5,λp' out hp' po so=>?_]
  .obtain⟨r,_,sg⟩:=hy2.mem hu;have en:=sg.num;obtain⟨a,tm,rfl,h1,_⟩:=sg;exact#[a,[r.num],1,SqT.of h1,en,0]
  .rw[xQ hy2];exact CB hnd
  .obtain⟨ss,h1,h2⟩:=hy2.perm po;ext hp' H3 S3 e3;exact q p' out ss H3 (S.trans (S2.trans S3)) (none_of (S.trans S2) hp') e3 (h1.imp λz=>z.same S3) h2 (Np h1 so)
theorem lay_of {w:Str}{h:Hv}{y:Wh}(ok:cj w h):qj w tR=some (.flat (.int (lay (.hold w h y)))):=by
 have q:∀u∈changes,qj u tR=some (.flat (.int (layW u))):=by
  unfold changes;intro u hu;simp only[aM,dN,or_false] at hu
  rcases hu with rfl|rfl|rfl|rfl|rfl|rfl|rfl|rfl<;>rfl
 exact q w ok.word
theorem Le (T:Tx K mg)(kb:K.In base):FnOk P w K mg base CX0 2 T.qP.f T.qP.d Pc (Bw T.b9 T.aT):=by
 refine T.qP.ok jS ?_;rintro f c A o s H vs Q E hr ⟨l,us,rs,rfl,el,LY,rok,qok,h16,rnd,q⟩ X;have rls:∀r∈rs,r.rules.length<=3:=λr hr=>by
  have:=(rok r hr).ru;lk
 have ul:=LY.len;refine#[_,(ae (aA (i:=1) jS.nd rfl (.inl rfl) (bj ab))
  (ae (gG eZ rfl (cI (pv 0)) (iN (n:=5) rfl (dC (aZ (i:=2) jS.nd rfl (.inl rfl)) (dC (aZ (i:=3) jS.nd rfl (.inl rfl)) (dC (aZ (i:=4) jS.nd rfl (.inl rfl)) (dC (aZ (i:=5) jS.nd rfl (.inl rfl)) (dC (aZ (i:=6) jS.nd rfl (.inl rfl)) mR))))))
   (ag (gG eZ rfl (ug rfl T.uD (aa (cc (pv 3) rfl) ab)) (iN (n:=2) rfl (dC (aZ (i:=7) jS.nd rfl (.inl rfl)) (dC (aZ (i:=8) jS.nd rfl (.inl rfl)) mR)))
    (ag (aJ (aL a6 (ao aP (pv 8) ad) ar (aH _))
     (ag (cz (bR cO fQ fC fJ (pv 1) (aa (bc (aa (ao (nF (Mp T kb)) (dR (v:=.ref T.ya) rfl T.AH rfl) (ao aP (pv 8) ad)) (aa (pv 5) (aa (pv 2) (aa (pv 7) ab))))) ab))))
     aO)))))
  (ag (aD (bh LZ rfl T.jk pC (aa (pv 1) ab)))))),5]
 k_ne
 refine#[sz0,λfl hfl=>?_]
 k_ne
 ext hfl H2 S2 ef
 k_ne
 refine#[1,l,0,#[_,SqL.of (S2 _ _ el)],5];refine oW (xs:=us) (λi σ H'=>Ex8 λws o2 o3 o4 o5 o6 o7 o8=>σ=[some (.ref l),some (.ref fl),o2,o3,o4,o5,o6,o7,o8]/\H' fl=some (.lst ws)/\All2 (ChT H') ws ((rs.take i).flatMap chs)/\Same H H') #[[],_,_,_,_,_,_,1,ef,.nil,S2] ?_ ?_ ?_
 .rintro i σ H' _ ⟨ws,o2,o3,o4,o5,o6,o7,o8,rfl,_,_,S⟩;exact SqL.of (S _ _ el)
 .rintro i u σ H3 hu ⟨ws,o2,o3,o4,o5,o6,o7,o8,rfl,ef3,CH,S3⟩;obtain⟨r,er,ly⟩:=LY.get hu;have i16:i<us.length:=(br.mp hu).1;have r3:=rls r (bq er);have tl:((rs.take i).flatMap chs).length<=3*(rs.take i).length:=wL λz hz=>rls z (Tm hz);rw[bQ] at tl;have cok:=Ht (rok r (bq er)) (qok r (bq er));obtain⟨a,tm,c,rfl,ea,em,ca,dx,mm,tt,vs,rfl,hc,hm,ht,IR⟩:=ly;refine#[a,1,SqT.of (S3 _ _ ea),0,_,1,_,1,_,1,_,145];refine#[1,ca,_,dx,_,1,S3 _ _ hc,T.fW,T.pP,sT _ _ _ _ _,tt,vs,0,SqT.of (S3 _ _ ht),5];refine JT (xs:=vs) (λk σ H'=>Ex3 λws o7 o8=>σ=[some (.ref l),some (.ref fl),some (.int r.num),some (.ref ca),some (.int r.keeper),some (.int r.came),some (.ref tm),o7,o8]/\H' fl=some (.lst ws)/\All2 (ChT H') ws ((rs.take i).flatMap chs++chAt r 0 ((crd r).rules.take k))/\Same H H') #[ws,_,1,ef3,by rw[Fo];show All2 _ _ (_++[]);rw[ci];exact CH,S3] ?_ ?_ ?_
  .rintro k σ H' _ ⟨ws',o7',o8',rfl,_,_,S⟩;exact SqT.of (S _ _ ht)
  .rintro k v σ H4 p hv ⟨ws4,o7',o8',rfl,ef4,CH4,S4⟩ hp;obtain⟨qr,eq,ir⟩:=IR.get hv;have k3:k<vs.length:=(br.mp hv).1;have vl:=IR.length;have few:=cok.few;have qk:=cok.rules qr (bq eq);ext hp H5 S5 ep;refine#[p,1,SqT.of ep,0,_,145];have S45:=S4.trans S5;have ef5:=S5 _ _ ef4;have CH5:All2 (ChT H5) ws4 _:=CH4.imp λz=>z.same S5;have take:=Lz r 0 (crd r).rules eq;cases qr with
   | hold wd hv' y =>
    obtain⟨b,x',u',rfl,eb,_⟩:=ir;have eb5:=S45 _ _ eb;refine#[1,b,_,4,SqT.of eb5,901,iteT ?_];refine#[1,.inl #[0,_,SqL.of ef5],1,b,_,4,SqT.of eb5,aI (j:=1) rfl,wd,10,lay_of (y:=y) qk.1,111,sz4,λt ht'=>?_];ext ht' H6 S6 et6;have ef6:=S6 _ _ ef5;have cl:=CH4.len;rw[aS] at cl;have cl2:=mO r 0 ((crd r).rules.take k);rw[bQ] at cl2;refine#[fl,4,ef6,df (by lk),5];refine#[ws4++[.ref t],_,1,aB,5,fg (S45.trans S6) hfl _];rw[take,<- fV];refine All2.snoc #[t,050] (CH5.imp λz=>(z.same S6).put ef6);rw[aF (cw et6 ef6 (by intro y;cases y)),et6,xL];rfl
   | wen kd y d =>
    obtain⟨b,x',u',rfl,eb,_⟩:=ir;refine#[1,b,_,4,SqT.of (S45 _ _ eb),906];refine#[ws4,_,1,ef5,5,S45];rw[take];show All2 _ _ (_++(_++[]))
    rw[ci];exact CH5
   | instead kd y wd z =>
    obtain⟨b,x',rfl,eb,_⟩:=ir;refine#[1,b,_,4,SqT.of (S45 _ _ eb),906];refine#[ws4,_,1,ef5,5,S45];rw[take];show All2 _ _ (_++(_++[]))
    rw[ci];exact CH5
   | may c d =>
    obtain⟨b,u',rfl,eb,_⟩:=ir;refine#[1,b,_,4,SqT.of (S45 _ _ eb),906];refine#[ws4,_,1,ef5,5,S45];rw[take];show All2 _ _ (_++(_++[]))
    rw[ci];exact CH5
  .rintro σ H4 ⟨ws4,o7',o8',rfl,ef4,CH4,S4⟩;refine#[ws4,_,_,_,_,_,_,1,ef4,5,S4];have et:(crd r).rules.take vs.length=(crd r).rules:=bX (by rw[IR.length];exact az _);rw[et,IE] at CH4;rw[bU,er,List.flatMap_append];show All2 _ _ (_++(chs r++[]))
   rw[ci];exact CH4
 .rintro σ H3 ⟨ws,o2,o3,o4,o5,o6,o7,o8,rfl,ef3,CH,S3⟩;rw[bX (by lk)] at CH;have tl:=wL rls;have cl:=CH.len;refine#[1,fl,ws,chG H3,(4),0,SqL.of ef3,37,λu hu=>?_,5,λp out hp po so=>?_]
  .obtain⟨c,_,ch⟩:=CH.mem hu;have ek:=ch.key;obtain⟨a,rfl,e,l4⟩:=ch;exact#[a,c,[],0,by rw[ci];exact SqT.of e,ek,l4]
  .rw[xF CH];exact Ol rnd
  .obtain⟨cs,h1,h2⟩:=CH.perm po;rw[xF h1] at so;ext hp H4 S4 e4;exact q p out cs H4 (S3.trans S4) (none_of S3 hp) e4 (h1.imp λz=>z.same S4) h2 so
noncomputable def rowF (r:R8):Row:=#[r.num,r.keeper,r.marks,r.force,false]
theorem BZ {H:Hp}{us:List V}{ss:List R8}(z:All2 (SgT H) us ss):bJ H us (ss.map rowF):=by
 induction z with
 | nil=>exact .nil
 | cons h _ ih=>exact .cons h ih
noncomputable def mV (rs:List R8)(c:List Int):Option (R8×Str×Hv×Wh):=match c with
 | [_,_,n,k]=>(rs.find? λr=>decide (r.num=n)).bind λr=>match (crd r).rules[k.toNat]? with
  | some (.hold wd h y)=>some (r,wd,h,y)
  | _=>none
 | _=>none
theorem FI {rs:List R8}{i:Nat}{r:R8}(nd:(rs.map (·.num)).Nodup)(h:rs[i]?=some r):(rs.find? λz=>decide (z.num=r.num))=some r:=by
 cases q:rs.find? λz=>decide (z.num=r.num) with
 | none =>
  have z:=HW.mp q r (bq h);simp at z
 | some r2 =>
  have h1:=List.find?_some q;obtain⟨j,hj⟩:=lD (Pu q);have e:=oK nd hj h (of_decide_eq_true h1);subst e;rw[h] at hj;cases hj;rfl
theorem ChOf.sQ {rs:List R8}{c:List Int}{i k:Nat}{r:R8}{wd:Str}{h:Hv}{y:Wh}{a b:Int}(C:ChOf rs c i k r wd h y a b)(nd:(rs.map (·.num)).Nodup):mV rs c=some (r,wd,h,y):=by
 rw[C.is_];show ((rs.find? λz=>decide (z.num=r.num)).bind λr=>match (crd r).rules[(k:Int).toNat]? with
  | some (.hold wd h y)=>some (r,wd,h,y)
  | _=>none)=_
 rw[FI nd C.at_,Option.bind_some,cS];show (match (crd r).rules[k]? with
  | some (.hold wd h y)=>some (r,wd,h,y)
  | _=>none)=_
 rw[C.full]
noncomputable def behF (r0:Row)(wd:Str)(am:V)(y:Wh)(ss:List Row):List Row:=open Classical in if h:∃ts,All2 (BehR r0 wd am y) ss ts then h.choose else ss
theorem Kj {r0:Row}{wd:Str}{am:V}{y:Wh}{ss ts:List Row}(h:All2 (BehR r0 wd am y) ss ts):behF r0 wd am y ss=ts:=by
 unfold behF;have e:∃ts,All2 (BehR r0 wd am y) ss ts:=#[ts,h];rw[dif_pos e];exact DQ e.choose_spec h
noncomputable def eL (rs:List R8)(ss:List Row)(c:List Int):List (Int×V):=match mV rs c with
 | some (r,wd,h,y)=>match rowOf ss r.num with
  | some r0=>gX ss r0 wd h y
  | none=>[]
 | none=>[]
noncomputable def behC (rs:List R8)(ss:List Row)(c:List Int):List Row:=match mV rs c with
 | some (r,wd,h,y)=>match rowOf ss r.num with
  | some r0=>behF r0 wd (d8 ss r0 wd h) y ss
  | none=>ss
 | none=>ss
theorem ChOf.rR {rs:List R8}{ss:List Row}{c:List Int}{i k:Nat}{r:R8}{r0:Row}{wd:Str}{h:Hv}{y:Wh}{a b:Int}(C:ChOf rs c i k r wd h y a b)(nd:(rs.map (·.num)).Nodup)(e:rowOf ss r.num=some r0):eL rs ss c=gX ss r0 wd h y:=by
 unfold eL;rw[C.sQ nd];dsimp only;rw[e]
theorem ChOf.oI {rs:List R8}{ss ts:List Row}{c:List Int}{i k:Nat}{r:R8}{r0:Row}{wd:Str}{h:Hv}{y:Wh}{a b:Int}(C:ChOf rs c i k r wd h y a b)(nd:(rs.map (·.num)).Nodup)(e:rowOf ss r.num=some r0)(B:All2 (BehR r0 wd (d8 ss r0 wd h) y) ss ts):behC rs ss c=ts:=by
 unfold behC;rw[C.sQ nd];dsimp only;rw[e];exact Kj B
noncomputable def encV:V->PyData
 | .int i=>.int i
 | .str u=>.str u
 | _=>.none
noncomputable def encR (x:Int×V):PyData:=.tuple [.int x.1,encV x.2]
noncomputable def encL (xs:List (Int×V)):PyData:=.list (xs.map encR)
noncomputable def AmOk (v:V):Prop:=(∃i,v = .int i)∨∃n,v = .str n/\cC n
theorem NS {ss:List Row}{r0:Row}{wd:Str}{h:Hv}(hok:cj wd h):AmOk (d8 ss r0 wd h):=by
 cases hok
 .exact .inl #[1]
 .exact .inl #[1]
 .rename_i n hn;exact .inr #[1,hn]
 .rename_i n hn;exact .inr #[1,hn]
 .exact .inl #[1]
 .exact .inl #[1]
 .exact .inl #[1]
 .exact .inl #[1]
theorem pT {ss:List Row}{r0:Row}{wd:Str}{h:Hv}{y:Wh}(hok:cj wd h):∀p∈gX ss r0 wd h y,AmOk p.2:=λp hp=>by
 unfold gX at hp
 split at hp
 .cases hp
 .obtain⟨r,_,rfl⟩:=bT.mp hp;exact NS hok
theorem wT {K:ah}{H:Hp}{us:List V}{xs:List (Int×V)}(ok:∀p∈xs,AmOk p.2)(z:All2 (iC H) us xs):DVs K H us (xs.map encR):=by
 induction z with
 | nil=>exact .nil
 | cons h _ ih =>
  obtain⟨a,rfl,h⟩:=h;refine .cons (.tup (SqT.of h) (.cons (.int _) (.cons ?_ .nil))) (ih λp hp=>ok p (bx _ hp))
  rcases ok _ bb with⟨i,e⟩|⟨n,e,_⟩
  .rw[e];exact .int i
  .rw[e];exact .str n
theorem vL:∀{xs:List (Int×V)},(∀p∈xs,AmOk p.2)->jh (xs.map encR)=true/\gB (xs.map encR)<=1
 | [],_=>#[0,ba _]
 | x::r,ok=>by
  obtain⟨h1,h2⟩:=vL (xs:=r) λp hp=>ok p (bx _ hp);have a1:fR (encV x.2)=true/\gm (encV x.2)=0:=by
   rcases ok x bb with⟨i,e⟩|⟨n,e,hn⟩
   .rw[e];exact#[by simp[encV,fR],by simp[encV,gm]]
   .rw[e];exact#[mK hn,by simp[encV,gm]]
  refine#[by simp[jh,fR,encR,h1,a1.1],5];have h2':gB (List.map encR r)<=1:=h2;simp only[bp,gB,gm,encR,a1.2];unfold encR at h2';lk
theorem SW {xs:List (Int×V)}(ok:∀p∈xs,AmOk p.2):dO (encL xs)=true:=by
 obtain⟨h1,h2⟩:=vL ok;unfold dO encL;rw[fR,h1,gm];simp;lk
noncomputable def gx (rs:List R8)(ss:List Row)(c d:List Int):Bool:=!PyData.eqv (encL (eL rs (behC rs ss d) c)) (encL (eL rs ss c))
theorem Em (c:List Int):dO (chD c)=true:=by
 obtain⟨h1,h2⟩:=lay_ints c;unfold dO chD;rw[fR,h1,gm,h2];rfl
theorem pI {K:ah}{H:Hp}{u:V}{c:List Int}(h:ChT H u c):DV K H u (chD c):=by
 obtain⟨a,rfl,e,_⟩:=h;exact .tup (SqT.of e) (nE _)
theorem u6:∀(c d:List Int),jE (c.map .int) (d.map .int)=decide (c=d)
 | [],[]=>by simp[jE]
 | [],_::_=>by simp[jE]
 | _::_,[]=>by simp[jE]
 | x::c,y::d=>by
  simp only[bp,jE,u6 c d]
  by_cases e:x=y
  .by_cases e2:c=d<;>simp[fX,e,e2]
  .simp[fX,e]
theorem mP (c d:List Int):fX (chD c) (chD d)=decide (c=d):=by
 unfold chD;rw[fX];exact u6 c d
noncomputable def layI (c:List Int):Int:=c.headD 0
noncomputable def othB (c d:List Int):Bool:=!decide (d=c)&&decide (V.int (layI d)=V.int (layI c))
noncomputable def iB (rs:List R8)(ss:List Row)(c d:List Int):Bool:=gx rs ss c d&&othB c d
noncomputable def HasC (rs:List R8)(c:List Int):Prop:=Ex8 λ(i k:Nat) (r:R8) (wd:Str) (h:Hv) (y:Wh) (a b:Int)=>ChOf rs c i k r wd h y a b
noncomputable def fD (rs:List R8)(ss:List Row)(H:Hp)(u:V)(c:List Int):Prop:=Ex4 λa sb v wb=>u = .ref a/\H a=some (.tup [v,.ref sb])/\ChT H v c/\H sb=some (.lst wb)/\bJ H wb (behC rs ss c)/\(behC rs ss c).map (·.num)=ss.map (·.num)
theorem fD.same {rs:List R8}{ss:List Row}{H H':Hp}(s:Same H H'){u:V}{c:List Int}(h:fD rs ss H u c):fD rs ss H' u c:=by
 obtain⟨a,sb,v,wb,e,h1,h2,h3,h4,h5⟩:=h;exact#[a,sb,v,wb,e,s _ _ h1,h2.same s,s _ _ h3,h4.map λ_ _ z=>z.same s,h5]
theorem ChT.putD {H:Hp}{x:Addr}{o o':HO}{u:V}{c:List Int}(e:H x=some o)(n:∀xs,o ≠ .tup xs)(h:ChT H u c):ChT (upd H x o') u c:=by
 obtain⟨a,rfl,e1,l⟩:=h;exact#[a,0,by rw[aF (cw e1 e (λz=>n _ z.symm))];exact e1,l]
theorem vY {p:List Int->Bool}{d:List Int}(h:p d=true):[d].filter p=[d]:=by simp[h]
theorem rZ {p:List Int->Bool}{d:List Int}(h:¬ p d=true):[d].filter p=[]:=by simp[h]
noncomputable def Ent (rs:List R8)(ss:List Row)(cs:List (List Int))(H:Hp)(kvs:List (List Key×V))(c:List Int):Prop:=Ex2 λa out=>L2.valV kvs (c.map Sum.inl)=some (.ref a)/\H a=some (.lst out)/\All2 (ChT H) out (cs.filter (iB rs ss c))
theorem oC:∀{c d:List Int},(c.map Sum.inl:List Key)=d.map Sum.inl->c=d
 | [],[],_=>rfl
 | [],_::_,h=>by cases h
 | _::_,[],h=>by cases h
 | x::c,y::d,h=>by
  rw[bp,bp] at h;injection h with h1 h2
  injection h1 with h1
  rw[h1,oC h2]
theorem qN (c:List Int):(c.map V.int)=(c.map Sum.inl:List Key).map kV:=by
 rw[cW];rfl
noncomputable def GR (B D:Addr):Sp:=λvs H Q _=>Ex9 λll sl ml us ws ms rs ss cs=>vs=[.ref ll,.ref sl,.ref ml]/\H ll=some (.lst us)/\All2 (LyT B D H) us rs/\rs.length<=16/\(rs.map (·.num)).Nodup/\H sl=some (.lst ws)/\bJ H ws ss/\(ss.map (·.num)).Perm (rs.map (·.num))/\(∀s∈ss,hV 60 s)/\H ml=some (.lst ms)/\All2 (ChT H) ms cs/\cs.length<=40/\(∀c∈cs,HasC rs c)/\∀p (kvs:List (List Key×V)) H',Same H H'->H p=none->H' p=some (.dT kvs)->(∀c∈cs,Ent rs ss cs H' kvs c)->Q (.ref p) H'
theorem G7 (T:Tx K mg):FnOk P w K mg base CX0 25 T.qK.f T.qK.d FM (GR T.b9 T.aT):=by
 refine T.qK.ok rG ?_;rintro f c A o s H vs Q E hr ⟨ll,sl,ml,us,ws,ms,rs,ss,cs,rfl,el,LY,h16,nd,es,R,pp,inv,em,CH,c40,has,q⟩ X;have tn:∀{ts:List Row},(ts.map (·.num)).Perm (rs.map (·.num))->ts.length<=16/\(ts.map (·.num)).Nodup:=λ{ts} p=>by
  have l:=p.length_eq;rw[aw,aw] at l;exact#[3,p.nodup_iff.mpr nd]
 have rowt:∀{ts:List Row} {i:Nat} {r:R8},(ts.map (·.num)).Perm (rs.map (·.num))->rs[i]?=some r->∃r0,rowOf ts r.num=some r0:=λ{ts i r} p e=>Oj (p.mem_iff.mpr (bT.mpr #[r,bq e,0]));have tns:=tn pp;have ml0:=CH.len;refine#[_,(ae (i5 (i:=3) rG.nd rfl (.inl rfl) (own:=["other"]) (cap:=["lying","sight"]) rfl (bI.chk rfl rfl) (.cons (j:=0) rfl (.inl rfl) (.inl rfl) (.cons (j:=1) rfl (.inl rfl) (.inl rfl) .nil)) (cI (pv 2)) (λ_ _ _ _=>(aZ (i:=0) (show bG (["other","lying","sight"]:List Str) by lia) rfl (.inl rfl))) (λ_ _ _ _=>cF) (λ_ _ _ _=>by exact (bc (aa (pv 0) (aa (T.pV.c (wg T) hr (tQ T) (aa (pv 1) (aa (pv 2) (aa (pv 0) ab)))) ab)))))
  (ae (aA (i:=4) rG.nd rfl (.inl rfl) wF)
  (ae (gG eZ rfl (cI (pv 2)) (aZ (i:=5) rG.nd rfl (.inr rfl))
   (ae (aA (i:=6) rG.nd rfl (.inr rfl) (T.kT.c (Ay T).up hr (kD T) (aa (pv 0) (aa (pv 1) (aa (pv 5) ab)))))
   (ae (i5 (i:=7) rG.nd rfl (.inl rfl) (own:=["pair"]) (cap:=["one"]) rfl (bI.chk rfl rfl) (.cons (j:=5) rfl (.inl rfl) (.inl rfl) .nil) (cI (pv 3)) (λ_ _ _ _=>(aZ (i:=0) (show bG (["pair","one"]:List Str) by lia) rfl (.inl rfl))) (λ_ _ _ _=>iK (PW.pt (iu (aL (xb K hr.units) (ao (fS K) (pv 0) ad) (pv 1) (aH _)) (xT (aL a6 (ao (fS K) (ao (fS K) (pv 0) ad) ad) (ao (fS K) (pv 1) ad) (aH _)))))) (λ_ _ _ _=>by exact (pv 0)))
   (ag (yx (eJ hr.units) (pv 4) (pv 5) (cB (own:=["other","then"]) (cap:=["now","lying","one"]) rfl (bI.chk rfl rfl) (.cons (j:=6) rfl (.inl rfl) (.inl rfl) (.cons (j:=0) rfl (.inl rfl) (.inl rfl) (.cons (j:=5) rfl (.inl rfl) (.inl rfl) .nil))) (cI (pv 7)) (λ_ _ _ _=>(px K (n:=2) rfl (dC (aZ (i:=0) (show bG (["other","then","now","lying","one"]:List Str) by lia) rfl (.inl rfl)) (dC (aZ (i:=1) (show bG (["other","then","now","lying","one"]:List Str) by lia) rfl (.inl rfl)) mR)))) (λ_ _ _ _=>iK (aL (xb K hr.units) (T.kT.c (Ay T).up hr (kD T) (aa (pv 3) (aa (pv 1) (aa (pv 4) ab)))) (pv 2) (aH _))) (λ_ _ _ _=>by exact (pv 0))) rfl)))))
  (ag (aD (pv 4)))))),5]
 k_ne
 refine#[1,ml,0,#[_,SqL.of em],5];refine cZ (xs:=ms) (λj ys H'=>Same H H'/\j<=ms.length/\All2 (fD rs ss H') ys (cs.take j)) (λj ys H' z=>SqL.of (z.1 _ _ em)) #[Same.refl _,ba _,.nil] ?_ ?_ ?_
 .rintro j ys H' ⟨_,hj,hy⟩;have:=hy.len;rw[bQ] at this;exact small (by lk)
 .rintro j u ys H1 hu ⟨S1,_,hy⟩;have hj:j<ms.length:=(br.mp hu).1;obtain⟨c,ec,cu⟩:=CH.get hu;obtain⟨i,k,r,wd,hv,y,a,b,C⟩:=has c (bq ec);obtain⟨r0,hr0⟩:=rowt pp C.at_;have cu1:=cu.same S1;have cu2:=cu1;rw[C.is_] at cu2;refine#[01111,ll,sl,us,ws,rs,ss,u,i,_,r,r0,wd,hv,y,a,b,0,S1 _ _ el,LY.imp λz=>z.same S1,h16,nd,S1 _ _ es,R.map λ_ _ z=>z.same S1,tns.2,inv,tns.1,C.at_,C.full,C.hok,C.yd,C.zd,hr0,cu2,λp out ts H2 S2 np ep RT B=>#[sz2,λt ht=>?_]];ext ht H3 S3 e3;refine#[S1.trans (S2.trans S3),hj,5];rw[bU,ec,dF];refine All2.snoc #[t,p,u,out,0,e3,cu1.same (S2.trans S3),S3 _ _ ep,55] (hy.imp λz=>z.same (S2.trans S3))
  .rw[C.oI nd hr0 B];exact RT.map λ_ _ z=>z.same S3
  .rw[C.oI nd hr0 B];exact yB B
 rintro sv H1 ⟨S1,_,hsv⟩ pl hpl;rw[bX (by lk)] at hsv
 k_ne
 ext hpl H2 S2 e2;refine λfd hfd=>?_
 k_ne
 ext hfd H3 S3 e3;have S02:=S1.trans S2;have S03:=S02.trans S3;have nfd:H fd=none:=none_of S02 hfd;have sv2:All2 (fD rs ss H2) sv cs:=hsv.imp λz=>z.same S2;have svl:=sv2.len
 k_ne
 refine#[1,ml,0,#[_,SqL.of (S03 _ _ em)],5];refine oW (xs:=ms) (λj σ H'=>Ex4 λ(kvs:List (List Key×V)) o5 o6 o7=>σ=[some (.ref ll),some (.ref sl),some (.ref ml),some (.ref pl),some (.ref fd),o5,o6,o7]/\H' fd=some (.dT kvs)/\kvs.length<=j/\(∀c∈cs.take j,Ent rs ss cs H' kvs c)/\Same H2 H') #[[],_,_,1,e3,az _,by simp,S3] (λj σ H' _ z=>by obtain⟨_,_,_,_,_,_,_,_,S⟩:=z;exact SqL.of ((S02.trans S) _ _ em)) ?_ ?_
 .rintro j u σ H4 hu ⟨kvs,o5,o6,o7,rfl,ed,kl,ent,S4⟩;have S04:=S02.trans S4;have hj:j<ms.length:=(br.mp hu).1;obtain⟨c,ec,cu⟩:=CH.get hu;obtain⟨i,k,r,wd,hv,y,a,b,C⟩:=has c (bq ec);obtain⟨r0,hr0⟩:=rowt pp C.at_;have cu4:=cu.same S04;have cu5:=cu4;rw[C.is_] at cu5
  k_ne
  refine#[111,ll,sl,us,ws,rs,ss,u,i,_,r,r0,wd,hv,y,a,b,0,S04 _ _ el,LY.imp λz=>z.same S04,h16,nd,S04 _ _ es,R.map λ_ _ z=>z.same S04,tns.1,C.at_,C.full,C.hok,C.yd,C.zd,hr0,cu5,λnp nout H5 S5 nnp enp P0=>?_];rw[<- C.rR nd hr0] at P0;have okP:∀p∈eL rs ss c,AmOk p.2:=by
   rw[C.rR nd hr0];exact pT C.hok
  have sv5:All2 (fD rs ss H5) sv cs:=sv2.imp λz=>z.same (S4.trans S5);have cu6:=cu4.same S5;obtain⟨ct,rfl,ect,_⟩:=id cu6;have e25:=(S4.trans S5) _ _ e2
  k_ne
  refine#[1,pl,0,#[_,SqL.of e25],5];refine cZ (xs:=sv) (λj2 ys H'=>H'=H5/\j2<=sv.length/\All2 (fD rs ss H5) ys ((cs.take j2).filter (othB c))) (λj2 ys H' z=>by rw[z.1];exact SqL.of e25) #[0,ba _,.nil] ?_ ?_ ?_
  .rintro j2 ys H' ⟨_,hj2,hy⟩;have l1:=hy.len;have l2:=fY (othB c) (cs.take j2);rw[bQ] at l2;exact small (by lk)
  .rintro j2 u2 ys H' hu2 ⟨rfl,_,hy⟩;have hj2:j2<sv.length:=(br.mp hu2).1;obtain⟨d,ed2,ps⟩:=sv5.get hu2;obtain⟨pa,sb,v2,wb,rfl,epa,cd,esb,RB,h5⟩:=id ps;obtain⟨vt,rfl,evt,_⟩:=id cd;obtain⟨_,_,_,_,_,_,a',b',D⟩:=has d (bq ed2);have evt2:=evt;rw[D.is_] at evt2;have ect2:=ect;rw[C.is_] at ect2;have ld:layI d=a':=(by rw[D.is_];rfl);have lc:layI c=a:=(by rw[C.is_];rfl);refine#[01,pa,_,4,SqT.of epa,91,chD d,chD c,pI cd,pI cu6,Em d,Em c,15];rw[mP,bU,ed2,dF,lH]
   by_cases e1:d=c
   .rw[decide_eq_true e1];refine iteF (iteF ?_);refine#[0,hj2,5];rw[rZ (by unfold othB;rw[decide_eq_true e1];simp),ci];exact hy
   .rw[decide_eq_false e1];refine iteT #[1,pa,_,4,SqT.of epa,9,vt,_,4,SqT.of evt2,91,ct,_,4,SqT.of ect2,9015];refine ite2 (λe3=>?_) (λe3=>?_)
    .refine#[10,hj2,5];rw[vY (by unfold othB;rw[decide_eq_false e1,ld,lc];simpa using e3)];exact All2.snoc ps hy
    .refine#[0,hj2,5];rw[rZ (by unfold othB;rw[decide_eq_false e1,ld,lc];simpa using e3),ci];exact hy
  rintro ov H' ⟨rfl,_,hov⟩ ol2 hol2;rw[bX (by lk)] at hov;ext hol2 H6 S6 e6;have ovl:=hov.len;have fl0:=fY (othB c) cs;refine#[1,ol2,0,#[_,SqL.of e6],5];refine cZ (xs:=ov) (λj3 ys H'=>Same H6 H'/\j3<=ov.length/\All2 (ChT H') ys (((cs.filter (othB c)).take j3).filter (gx rs ss c))) (λj3 ys H' z=>SqL.of (z.1 _ _ e6)) #[Same.refl _,ba _,.nil] ?_ ?_ ?_
  .rintro j3 ys H' ⟨_,hj3,hy⟩;have l1:=hy.len;have l2:=fY (gx rs ss c) ((cs.filter (othB c)).take j3);rw[bQ] at l2;exact small (by lk)
  .rintro j3 u3 ys H7 hu3 ⟨S7,_,hy⟩;have hj3:j3<ov.length:=(br.mp hu3).1;obtain⟨d,ed3,ps⟩:=hov.get hu3;obtain⟨pa,sb,v2,wb,rfl,epa,cd,esb,RB,h5⟩:=ps.same (S6.trans S7);have pb:((behC rs ss d).map (·.num)).Perm (rs.map (·.num)):=(by rw[h5];exact pp);obtain⟨r1,hr1⟩:=rowt pb C.at_;have S07:=S04.trans (S5.trans (S6.trans S7));have cu7:=cu5.same (S5.trans (S6.trans S7));refine#[pa,1,SqT.of epa,0,_,1405];refine#[111,ll,sb,us,wb,rs,behC rs ss d,.ref ct,i,_,r,r1,wd,hv,y,a,b,0,S07 _ _ el,LY.imp λz=>z.same S07,h16,nd,esb,RB,(tn pb).1,C.at_,C.full,C.hok,C.yd,C.zd,hr1,cu7,λtp tout H8 S8 ntp etp P1=>?_];rw[<- C.rR nd hr1] at P1;have okP1:∀p∈eL rs (behC rs ss d) c,AmOk p.2:=by
    rw[C.rR nd hr1];exact pT C.hok
   have S58:=S6.trans (S7.trans S8);refine#[1,encL (eL rs (behC rs ss d) c),encL (eL rs ss c),.lst (SqL.of etp) (wT okP1 P1),.lst (SqL.of (S58 _ _ enp)) (wT okP (P0.imp λz=>z.same S58)),SW okP1,SW okP,15];rw[bU,ed3,dF,lH];have hy8:=hy.imp (λz=>z.same S8:∀{u c},ChT H7 u c->ChT H8 u c);refine ite2 (λe=>?_) (λe=>?_)
   .refine#[1,S7.trans S8,hj3,5];rw[vY (p:=gx rs ss c) e];exact All2.snoc (cd.same S8) hy8
   .refine#[S7.trans S8,hj3,5];rw[rZ (p:=gx rs ss c) e,ci];exact hy8
  rintro fv H7 ⟨S7,_,hfv⟩ lf hlf;rw[ovl,bX (az _),List.filter_filter] at hfv;ext hlf H8 S8 e8;have S58:=S6.trans (S7.trans S8);have S48:=S5.trans S58;have ed8:=S48 _ _ ed;have ect8:H8 ct=some (.tup ((c.map Sum.inl:List Key).map kV)):=by
   rw[<- qN];exact S58 _ _ ect
  refine#[11,fd,1,DPut.t ed8 ect8 (OA (aV kl (show j<=40 by lk)) (by decide)),5];have nt:∀xs,(HO.dT kvs) ≠ .tup xs:=λxs z=>by cases z
  have pl1:=AQ kvs (c.map Sum.inl:List Key) (.ref lf);refine#[_,_,_,1,aB,(by lk),5,fg (S4.trans S48) hfd _];intro c' hc';rw[bU,ec,dF] at hc'
  by_cases e:c'=c
  .subst e;exact#[lf,fv,by rw[mf,if_pos rfl],by rw[aF (cw e8 ed8 (by intro z;cases z))];exact e8,(hfv.imp λz=>z.same S8).imp λz=>z.putD ed8 nt]
  .have m:c'∈cs.take j:=by
    rcases bM.mp hc' with z|z
    .exact z
    .exact absurd (aX.mp z) e
   obtain⟨a2,out2,v1,e22,al2⟩:=ent c' m;have e28:=S48 _ _ e22;exact#[a2,out2,by rw[mf,if_neg (λz=>e (oC z))];exact v1,by rw[aF (cw e28 ed8 (by intro z;cases z))];exact e28,(al2.imp λz=>z.same S48).imp λz=>z.putD ed8 nt]
 .rintro σ H' ⟨kvs,o5,o6,o7,rfl,ed,kl,ent,S⟩;rw[bX (by lk)] at ent;exact#[1,q fd kvs H' (S02.trans S) nfd ed ent]
inductive Led (G:List Int->List (List Int))(c:List Int):List Int->Prop where
 | one {d:List Int}:d∈G c->Led G c d
 | more {d e:List Int}:Led G c d->e∈G d->Led G c e
theorem vV {G:List Int->List (List Int)}{c:List Int}{S:List (List Int)}(h0:∀d∈G c,d∈S)(h1:∀f∈S,∀d∈G f,d∈S):∀{d:List Int},Led G c d->d∈S
 | _,.one h=>h0 _ h
 | _,.more h g=>h1 _ (vV h0 h1 h) _ g
noncomputable def TabG (G:List Int->List (List Int))(cs:List (List Int))(H:Hp)(a:Addr):Prop:=∃kvs:List (List Key×V),Rd H a (.dT kvs)/\∀c∈cs,Ex2 λb out=>L2.valV kvs (c.map Sum.inl)=some (.ref b)/\H b=some (.lst out)/\All2 (ChT H) out (G c)
theorem TabG.same {G:List Int->List (List Int)}{cs:List (List Int)}{H H':Hp}(s:Same H H'){a:Addr}(h:TabG G cs H a):TabG G cs H' a:=by
 obtain⟨kvs,h1,h2⟩:=h;refine#[kvs,5,λc hc=>?_]
 .rcases h1 with z|⟨o,z⟩
  .exact .inl (s _ _ z)
  .exact .inr #[o,s _ _ z]
 .obtain⟨b,out,e1,e2,e3⟩:=h2 c hc;exact#[b,out,e1,s _ _ e2,e3.imp λz=>z.same s]
theorem TabG.get {G:List Int->List (List Int)}{cs:List (List Int)}{H:Hp}{a:Addr}(h:TabG G cs H a){u:V}{c:List Int}(hc:c∈cs)(cu:ChT H u c):Ex2 λb out=>DGet H a u (some (.ref b))/\H b=some (.lst out)/\All2 (ChT H) out (G c):=by
 obtain⟨kvs,h1,h2⟩:=h;obtain⟨b,out,e1,e2,e3⟩:=h2 c hc;obtain⟨t,rfl,et,_⟩:=cu;refine#[b,out,5,e2,e3];rw[<- e1];exact .inr #[kvs,c.map Sum.inl,t,h1,0,by rw[<- qN];exact et,0]
noncomputable def seen (ks:List (List Int)):List (List Key×V):=ks.map λd=>(d.map Sum.inl,.bl true)
theorem oZ (ks:List (List Int))(d:List Int):L2.valV (seen ks) (d.map Sum.inl)=if d∈ks then some (.bl true) else none:=by
 induction ks with
 | nil=>rfl
 | cons k r ih =>
  by_cases e:d=k
  .subst e;rw[if_pos bb];exact hX rfl
  .have z:L2.valV (seen (k::r)) (d.map Sum.inl)=L2.valV (seen r) (d.map Sum.inl):=hJ (λz=>e (oC z).symm);rw[z,ih]
   by_cases m:d∈r
   .rw[if_pos m,if_pos (bx _ m)]
   .rw[if_neg m,if_neg (λy=>by rcases aM.mp y with y|y<;>contradiction)]
theorem DR {ks:List (List Int)}{d:List Int}(h:d∉ks):putK (seen ks) (d.map Sum.inl) (.bl true)=seen (ks++[d]):=by
 rw[CK _ (by rw[oZ,if_neg h])];unfold seen;rw[bE];rfl
noncomputable def Jf:Sp:=λvs H Q _=>Ex5 λa u (c:List Int) (G:List Int->List (List Int)) cs=>vs=[.ref a,u]/\TabG G cs H a/\ChT H u c/\c∈cs/\cs.length<=40/\(∀d∈cs,(G d).length<=40/\∀e∈G d,e∈cs)/\∀p ks H',Same H H'->H p=none->H' p=some (.dT (seen ks))->ks.Nodup->(∀d∈ks,d∈cs)->(∀d,d∈ks↔Led G c d)->Q (.ref p) H'
theorem Ow {α β:Type}{R:α->β->Prop}{as:List α}{bs:List β}{cs:List α}{ds:List β}(z:All2 R as bs)(g:All2 R cs ds):All2 R (as++cs) (bs++ds):=by
 induction z with
 | nil=>exact g
 | cons h _ ih=>exact .cons h ih
theorem tZ {α β:Type}{R:α->β->Prop}:∀{as:List α} {bs:List β} {a:α},All2 R (as++[a]) bs->Ex2 λcs b=>bs=cs++[b]/\All2 R as cs/\R a b
 | [],_,_,.cons h .nil=>#[[],1,.nil,h]
 | _::_,_,_,.cons h t=>by
  obtain⟨cs,b,e,h1,h2⟩:=tZ t;exact#[_::cs,b,by rw[e];rfl,.cons h h1,h2]
theorem sub_len {ks cs:List (List Int)}(nd:ks.Nodup)(h:∀d∈ks,d∈cs):ks.length<=cs.length:=TV nd λd hd=>h d hd
theorem sV (T:Tx K mg):FnOk P w K mg base CX0 2 T.m7.f T.m7.d pL Jf:=by
 refine T.m7.ok A0 ?_;rintro f c A o s H vs Q E hr ⟨a,u,c,G,cs,rfl,TB,cu,hc,c40,gin,q⟩ X;refine#[_,(ae (aA (i:=2) A0.nd rfl (.inl rfl) wF)
  (ae (aA (i:=3) A0.nd rfl (.inl rfl) (bV zO rfl T.gZ kh (aa (mB (eJ hr.units) (pv 0) (pv 1) (λ_ _=>rfl)) ab)))
  (ae (nI eZ (rh (pv 3) (λ_=>rfl))
   (ae (aA (i:=4) A0.nd rfl (.inl rfl) (uH cO PU SY M7 (pv 3)))
   (ag (aJ (mC (vZ (eJ hr.units) (pv 4) (pv 2)))
    (ae (yx (eJ hr.units) (pv 2) (pv 4) fK rfl)
    (ag (cz (bR cO SX Qh yo (pv 3) (aa (mB (eJ hr.units) (pv 0) (pv 4) (λ_ _=>rfl)) ab)))))
    aO))))
  (ag (aD (pv 2)))))),5]
 refine λfd hfd=>?_
 k_ne
 ext hfd H1 S1 e1;obtain⟨b0,o0,dg,eb,al⟩:=(TB.same S1).get hc (cu.same S1)
 k_ne
 refine#[11,a,1,dg,b0,1,.inl (SqL.of eb),λll hll=>?_]
 k_ne
 ext hll H2 S2 e2;have nfl:fd≠ll:=a9 e1 hll;have S02:=S1.trans S2;have nll:H ll=none:=none_of S1 hll;obtain⟨W,hW⟩:∃W:Nat->L2.St->Hp->Prop,W=λm σ H'=>Ex4 λks ls wv o4=>m=(40-ks.length)*41+ls.length/\σ=[some (.ref a),some u,some (.ref fd),some (.ref ll),o4]/\H' fd=some (.dT (seen ks))/\H' ll=some (.lst wv)/\All2 (ChT H') wv ls/\Same H H'/\ks.Nodup/\(∀d∈ks,d∈cs)/\(∀d∈ls,d∈cs)/\(∀d∈ks,Led G c d)/\(∀d∈ls,Led G c d)/\(∀d∈G c,d∈ks∨d∈ls)/\(∀f∈ks,∀d∈G f,d∈ks∨d∈ls)/\ls.length<=40*ks.length+40:=#[1]
 k_ne
 refine#[W,#[_,by rw[hW];exact#[[],G c,o0,10,S2 _ _ e1,e2,al.imp λz=>z.same S2,S02,.nil,by simp,λd hd=>(gin c hc).2 d hd,by simp,λd hd=>.one hd,λd hd=>.inr hd,by simp,by have:=(gin c hc).1;lk]],5];intro m σ H3 hw;rw[hW] at hw;obtain⟨ks,ls,wv,o4,rfl,rfl,ed,ew,AL,S3,nd,kin,lin,kled,lled,first,closed,lb⟩:=hw;have kl:=sub_len nd kin;have wl:=AL.len;refine#[1,_,.inl #[_,SqL.of ew,0],5];refine ite2 (λne=>?_) (λne=>?_)
 .
  have wne:wv≠[]:=λz=>by rw[z] at ne;cases ne
  obtain⟨wi,x,rfl⟩:Ex2 λwi x=>wv=wi++[x]:=#[wv.dropLast,wv.getLast wne,(List.dropLast_concat_getLast wne).symm];obtain⟨li,d,rfl,AI,cd⟩:Ex2 λli d=>ls=li++[d]/\All2 (ChT H3) wi li/\ChT H3 x d:=tZ AL;have dm:d∈li++[d]:=fG _ bb;have dcs:=lin d dm;have nlf:ll≠fd:=a8 nfl;rw[aS,fH] at lb;refine#[fun σ' H'=>∃m',m'<(40-ks.length)*41+(li++[d]).length/\W m' σ' H',λ_ _ z=>z,5];rw[aS,fH]
  k_ne
  refine#[1,.inl #[0,_,SqL.of ew],ll,_,x,00,ew,(by rw[aS,fH,Nat.add_sub_cancel,eh (az _),lZ];rfl),5];rw[List.dropLast_concat];have S4:Same H (upd H3 ll (.lst wi)):=fg S3 nll _;have ed4:upd H3 ll (.lst wi) fd=some (.dT (seen ks)):=by rw[aF nfl];exact ed
  have ew4:upd H3 ll (.lst wi) ll=some (.lst wi):=aB;have AI4:All2 (ChT (upd H3 ll (.lst wi))) wi li:=AI.imp λz=>z.put ew;have cd4:ChT (upd H3 ll (.lst wi)) x d:=cd.put ew;generalize upd H3 ll (.lst wi)=H4 at S4 ed4 ew4 AI4 cd4 ⊢;obtain⟨xt,rfl,ext,_⟩:=id cd4;have dg:=DGet.t ed4 (b:=xt) (k:=d.map Sum.inl) (by rw[<- qN];exact ext);rw[oZ] at dg
  by_cases hin:d∈ks
  .rw[if_pos hin] at dg;refine#[11,fd,1,dg,6];refine#[(40-ks.length)*41+li.length,35];rw[hW];refine#[ks,li,wi,10,ed4,ew4,AI4,S4,nd,kin,λe he=>lin e (fL _ he),kled,λe he=>lled e (fL _ he),λe he=>?_,λf hf e he=>?_,3]
   .rcases first e he with z|z
    .exact .inl z
    .rcases bM.mp z with y|y
     .exact .inr y
     .rw[aX.mp y];exact .inl hin
   .rcases closed f hf e he with z|z
    .exact .inl z
    .rcases bM.mp z with y|y
     .exact .inr y
     .rw[aX.mp y];exact .inl hin
  .rw[if_neg hin] at dg;refine#[11,fd,1,dg,1,iteT ?_];have nd2:(ks++[d]).Nodup:=by
    rw[qw];refine#[nd,vA _ _,λa ha b hb z=>?_];rw[aX.mp hb] at z;rw[z] at ha;exact hin ha
   have kin2:∀e∈ks++[d],e∈cs:=λe he=>by
    rcases bM.mp he with z|z
    .exact kin e z
    .rw[aX.mp z];exact dcs
   have kl2:=sub_len nd2 kin2;rw[aS,fH] at kl2;have sl:(seen ks).length=ks.length:=aw _
   k_ne
   refine#[11,fd,1,DPut.t ed4 (b:=xt) (k:=d.map Sum.inl) (by rw[<- qN];exact ext) (by rw[sl];exact OA (show ks.length<=40 by lk) (by decide)),5];rw[DR hin];have nt:∀xs,(HO.dT (seen ks)) ≠ .tup xs:=λxs z=>by cases z
   have S5:Same H (upd H4 fd (.dT (seen (ks++[d])))):=fg S4 hfd _;have ed5:upd H4 fd (.dT (seen (ks++[d]))) fd=some (.dT (seen (ks++[d]))):=aB;have ew5:upd H4 fd (.dT (seen (ks++[d]))) ll=some (.lst wi):=(by rw[aF nlf];exact ew4);have AI5:All2 (ChT (upd H4 fd (.dT (seen (ks++[d]))))) wi li:=AI4.imp λz=>z.putD ed4 nt;have cd5:ChT (upd H4 fd (.dT (seen (ks++[d])))) (.ref xt) d:=cd4.putD ed4 nt;generalize upd H4 fd (.dT (seen (ks++[d])))=H5 at S5 ed5 ew5 AI5 cd5 ⊢;obtain⟨b,bo,bg,ebo,bal⟩:=(TB.same S5).get dcs cd5;have gl:=(gin d dcs).1;have bl:=bal.len;have il:=AI5.len;refine#[1,.inl #[0,_,SqL.of ew5],11,a,1,bg,ll,b,4,ew5,ebo,(by exact aV (show wi.length+bo.length<=4000 by lk) (by decide)),5];refine#[(40-(ks.length+1))*41+(li++G d).length,by rw[aS];lk,5];rw[hW];refine#[ks++[d],li++G d,wi++bo,_,by simp only[aS,fH],0,by rw[aF nfl];exact ed5,aB,5,fg S5 nll _,nd2,kin2,λe he=>?_,λe he=>?_,λe he=>?_,λe he=>?_,λf hf e he=>?_,by rw[aS,aS,fH];lk]
   .exact (Ow AI5 bal).imp λz=>z.put ew5
   .rcases bM.mp he with z|z
    .exact lin e (fL _ z)
    .exact (gin d dcs).2 e z
   .rcases bM.mp he with z|z
    .exact kled e z
    .rw[aX.mp z];exact lled d dm
   .rcases bM.mp he with z|z
    .exact lled e (fL _ z)
    .exact .more (lled d dm) z
   .rcases first e he with z|z
    .exact .inl (fL _ z)
    .rcases bM.mp z with y|y
     .exact .inr (fL _ y)
     .exact .inl (fG _ y)
   .rcases bM.mp hf with z|z
    .rcases closed f z e he with y|y
     .exact .inl (fL _ y)
     .rcases bM.mp y with x|x
      .exact .inr (fL _ x)
      .exact .inl (fG _ x)
    .rw[aX.mp z] at he;exact .inr (fG _ he)
 .have we:wv=[]:=by
   cases wv with
   | nil=>rfl
   | cons x r=>exact absurd rfl ne
  subst we;cases AL;refine#[1,q fd ks H3 S3 hfd ed nd kin λd=>#[kled d,λz=>?_]];refine vV (λd hd=>?_) (λf hf d hd=>?_) z
  .exact (first d hd).resolve_right (by simp)
  .exact (closed f hf d hd).resolve_right (by simp)
noncomputable def ledB (G:List Int->List (List Int))(c d:List Int):Bool:=open Classical in decide (Led G c d)
theorem rn {G:List Int->List (List Int)}{c d:List Int}:ledB G c d=true↔Led G c d:=by
 unfold ledB;exact @decide_eq_true_iff (Led G c d) (Pm _)
noncomputable def Pe:Sp:=λvs H Q _=>Ex5 λa u (c:List Int) (G:List Int->List (List Int)) cs=>vs=[.ref a,u]/\TabG G cs H a/\ChT H u c/\c∈cs/\cs.length<=40/\(∀d∈cs,(G d).length<=40/\∀e∈G d,e∈cs)/\(∀d∈cs,d.length=4)/\∀p out ds H',Same H H'->H p=none->H' p=some (.lst out)->All2 (ChT H') out ds->ds.Pairwise (· < ·)->(∀d,d∈ds↔Led G c d/\¬ Led G d c)->Q (.ref p) H'
theorem Jj (T:Tx K mg):FnOk P w K mg base CX0 3 T.qv.f T.qv.d F4 Pe:=by
 refine T.qv.ok Og ?_;rintro f c A o s H vs Q E hr ⟨a,u,c,G,cs,rfl,TB,cu,hc,c40,gin,l4,q⟩ X;refine#[_,(ag (aD (bh LZ rfl T.jk pC (aa (cB (own:=["other"]) (cap:=["one","leaned"]) rfl (bI.chk rfl rfl) (.cons (j:=1) rfl (.inl rfl) (.inl rfl) (.cons (j:=0) rfl (.inl rfl) (.inl rfl) .nil)) (EN (T.m7.c (sV T) hr (yH T) (aa (pv 0) (aa (pv 1) ab)))) (λ_ _ _ _=>(aZ (i:=0) (show bG (["other","one","leaned"]:List Str) by lia) rfl (.inl rfl))) (λ_ _ _ _=>iK (mC (vZ (eJ hr.units) (pv 1) (T.m7.c (sV T) hr (yH T) (aa (pv 2) (aa (pv 0) ab)))))) (λ_ _ _ _=>by exact (pv 0))) ab)))),5];refine#[11,a,u,c,G,cs,0,TB,cu,hc,c40,gin,λp ks H1 S1 np ep nd kin kled=>#[p,seen ks,0,ep,λo keys kl kt=>?_]];have skl:(seen ks).length=ks.length:=aw _;have k40:=sub_len nd kin;have S2:Same H (upd H1 p (.frz o (.dT (seen ks)))):=fg S1 np _;have e2:upd H1 p (.frz o (.dT (seen ks))) p=some (.frz o (.dT (seen ks))):=aB;have kt2:∀(i:Nat) b (d:List Int),keys[i]?=some b->ks[i]?=some d->upd H1 p (.frz o (.dT (seen ks))) b=some (.tup (d.map V.int)):=λi b d hb hd=>by
  have z:=kt i b (d.map Sum.inl,.bl true) hb (by unfold seen;rw[bH,hd];rfl);rw[aF (cw z ep (by intro y;cases y)),z,qN]
 generalize upd H1 p (.frz o (.dT (seen ks)))=H2 at S2 e2 kt2 ⊢;refine Lk (λi ys H'=>Same H2 H'/\i<=keys.length/\All2 (ChT H') ys ((ks.take i).filter λd=>!ledB G d c)) (λi ys H' z=>z.1 _ _ e2) #[Same.refl _,ba _,.nil] ?_ ?_ ?_
 .rintro i ys H' ⟨_,hi,hy⟩;have l1:=hy.len;have l2:=fY (λd=>!ledB G d c) (ks.take i);rw[bQ] at l2;exact small (by lk)
 .rintro i b ys H3 hb ⟨S3,_,hy⟩;have hi:i<keys.length:=(br.mp hb).1;obtain⟨d,hd⟩:∃d,ks[i]?=some d:=#[_,cA (by lk)];have dk:=bq hd;have S03:=S2.trans S3;have cd:ChT H3 (.ref b) d:=#[b,0,S3 _ _ (kt2 i b d hb hd),l4 d (kin d dk)];refine#[0111,a,.ref b,d,G,cs,0,TB.same S03,cd,kin d dk,c40,gin,λp2 ks2 H4 S4 np2 ep2 nd2 kin2 kled2=>?_];have S04:=S03.trans S4;obtain⟨ut,rfl,eut,_⟩:=cu.same S04;have dg:=DGet.t ep2 (b:=ut) (k:=c.map Sum.inl) (by rw[<- qN];exact eut);rw[oZ] at dg;refine#[p2,1,dg,15];rw[bU,hd,dF,lH];have hy4:=hy.imp (λz=>z.same S4:∀{u c},ChT H3 u c->ChT H4 u c)
  by_cases hin:c∈ks2
  .rw[if_pos hin];refine iteF ?_;refine#[S3.trans S4,hi,5];rw[rZ (p:=λd=>!ledB G d c) (by rw[rn.mpr ((kled2 c).mp hin)];simp),ci];exact hy4
  .rw[if_neg hin];refine iteT ?_;refine#[1,S3.trans S4,hi,5];have nl:ledB G d c=false:=by
    cases e:ledB G d c with
    | false=>rfl
    | true=>exact absurd ((kled2 c).mpr (rn.mp e)) hin
   rw[vY (p:=λd=>!ledB G d c) (by rw[nl];rfl)];exact All2.snoc (cd.same S4) hy4
 .rintro ys H3 ⟨S3,_,hy⟩ p3 hp3;rw[bX (by lk)] at hy;ext hp3 H4 S4 e4;have hy4:All2 (ChT H4) ys (ks.filter λd=>!ledB G d c):=hy.imp λz=>z.same S4;have yl:=hy4.len;have fl:=fY (λd=>!ledB G d c) ks;refine#[p3,ys,chG H4,(4),0,SqL.of e4,37,λv hv=>?_,5,λp5 out hp5 po so=>?_]
  .obtain⟨d,_,cd⟩:=hy4.mem hv;have ek:=cd.key;obtain⟨t,rfl,et,l⟩:=cd;exact#[t,d,[],0,SqT.of (by rw[ci];exact et),ek,l]
  .rw[xF hy4];exact nd.filter _
  .obtain⟨ds,h1,h2⟩:=hy4.perm po;have S04:=S2.trans (S3.trans S4);ext hp5 H5 S5 e5;refine q p5 out ds H5 (S04.trans S5) (none_of S04 hp5) e5 (h1.imp λz=>z.same S5) (by rw[xF h1] at so;exact so) λd=>?_;rw[h2.mem_iff,h7,kled]
   constructor
   .rintro⟨x,y⟩;refine#[x,λz=>?_];rw[rn.mpr z] at y;cases y
   .rintro⟨x,y⟩;refine#[x,5];cases e:ledB G d c with
    | false=>rfl
    | true=>exact absurd (rn.mp e) y
noncomputable def grG (rs:List R8)(ss:List Row)(cs:List (List Int))(c:List Int):List (List Int):=cs.filter (iB rs ss c)
theorem HasC.four {rs:List R8}{c:List Int}(h:HasC rs c):c.length=4:=by
 obtain⟨i,k,r,wd,hv,y,a,b,C⟩:=h;rw[C.is_];rfl
theorem Fp (rs:List R8)(ss:List Row){cs:List (List Int)}(h:cs.length<=40)(P:List Int->List Int->Bool):∀d∈cs,(cs.filter (P d)).length<=40/\∀e∈cs.filter (P d),e∈cs:=λd _=>#[aV (fY _ _) h,λe he=>(h7.mp he).1]
noncomputable def oF (rs:List R8)(ss:List Row)(c d:List Int):Bool:=gx rs ss c d && !decide (d=c)
theorem HZ {rs:List R8}{ss:List Row}{cs:List (List Int)}(h:∀c∈cs,∀d∈cs,layI c=layI d):∀c∈cs,cs.filter (iB rs ss c)=cs.filter (oF rs ss c):=λc hc=>by
 refine RC λd hd=>?_;unfold iB othB oF;rw[decide_eq_true (show V.int (layI d)=V.int (layI c) by rw[h c hc d hd]),Bool.and_true]
theorem ChT.but {H H':Hp}{x:Addr}{us:List V}{u:V}{c:List Int}(b:But x H H')(e:H x=some (.lst us))(h:ChT H u c):ChT H' u c:=by
 obtain⟨a,rfl,e1,l⟩:=h;exact#[a,0,b _ _ (cw e1 e (by intro y;cases y)) e1,l]
theorem IT (d:List Int):(chD d).depth<=8:=by
 obtain⟨_,h2⟩:=lay_ints d;show (PyData.tuple (d.map .int)).depth<=8
 rw[gm,h2];decide
theorem zc {G F:List Int->List (List Int)}{cs:List (List Int)}(e:∀c∈cs,G c=F c)(gin:∀c∈cs,∀d∈G c,d∈cs){c:List Int}(hc:c∈cs):∀{d:List Int},Led G c d->Led F c d/\d∈cs
 | _,.one h=>#[.one (by rw[<- e c hc];exact h),gin c hc _ h]
 | _,.more h g=>by
  obtain⟨h1,h2⟩:=zc e gin hc h;exact#[.more h1 (by rw[<- e _ h2];exact g),gin _ h2 _ g]
theorem kW {G F:List Int->List (List Int)}{cs:List (List Int)}(e:∀c∈cs,G c=F c)(gin:∀c∈cs,∀d∈G c,d∈cs){c:List Int}(hc:c∈cs){d:List Int}:Led G c d↔Led F c d :=
 #[λh=>(zc e gin hc h).1,λh=>(zc (λx hx=>(e x hx).symm) (λx hx y hy=>gin x hx y (by rw[e x hx];exact hy)) hc h).1]
theorem nM {G:List Int->List (List Int)}{cs:List (List Int)}(gin:∀c∈cs,∀d∈G c,d∈cs){c:List Int}(hc:c∈cs){d:List Int}(h:Led G c d):d∈cs:=(zc (F:=G) (λ_ _=>rfl) gin hc h).2
noncomputable def Free (G:List Int->List (List Int))(c:List Int):Prop:=∀d,Led G c d->Led G d c
noncomputable def dW (G:List Int->List (List Int))(c:List Int):Bool:=open Classical in decide (Free G c)
theorem vq {G:List Int->List (List Int)}{c:List Int}:dW G c=true↔Free G c:=by
 unfold dW;exact @decide_eq_true_iff (Free G c) (Pm _)
theorem Led.trans {G:List Int->List (List Int)}{c d:List Int}(h:Led G c d):∀{e:List Int},Led G d e->Led G c e
 | _,.one g=>.more h g
 | _,.more g k=>.more (Led.trans h g) k
theorem vx {α:Type}{p q:α->Bool}:∀{l:List α},(∀x∈l,p x=true->q x=true)->(∃c∈l,q c=true/\p c=false)->(l.filter p).length<(l.filter q).length
 | [],_,h=>by
  obtain⟨c,hc,_⟩:=h;cases hc
 | x::r,h,⟨c,hc,h1,h2⟩=>by
  have le:(r.filter p).length<=(r.filter q).length:=by
   rw[<- P7,<- P7];exact List.countP_mono_left λy hy=>h y (bx _ hy)
  rcases aM.mp hc with z|z
  .subst z;rw[sw (by rw[h2];simp),oE h1,aK];lk
  .have ih:=vx (l:=r) (λy hy=>h y (bx _ hy)) #[c,z,h1,h2];cases hp:p x with
   | true =>
    rw[oE hp,oE (h x bb hp),aK,aK];lk
   | false =>
    rw[sw (by rw[hp];simp)];have l2:(r.filter q).length<=((x::r).filter q).length:=by
     rw[rB]
     split
     .rw[aK];lk
     .exact az _
    lk
theorem yi {G:List Int->List (List Int)}{cs:List (List Int)}(gin:∀c∈cs,∀d∈G c,d∈cs):∀(n:Nat) (c:List Int),c∈cs->(cs.filter λx=>decide (x=c)||ledB G c x).length<=n->∃d∈cs,Free G d
 | n,c,hc,hn=>by
  by_cases f:Free G c
  .exact#[c,hc,f]
  .obtain⟨d,h1,h2⟩:∃d,Led G c d/\¬ Led G d c:=by
    unfold Free at f;obtain⟨d,hd⟩:=Classical.not_forall.mp f;exact#[d,(Q2.mp hd).1,(Q2.mp hd).2]
   have hd:=nM gin hc h1;have lt:=vx (l:=cs) (p:=λx=>decide (x=d)||ledB G d x) (q:=λx=>decide (x=c)||ledB G c x) (λx _ hx=>by
    rw[Bool.or_eq_true,rn] at hx ⊢
    rcases hx with z|z
    .rw[of_decide_eq_true z];exact .inr h1
    .exact .inr (h1.trans z)) #[c,hc,by rw[decide_eq_true rfl];rfl,by
    have n1:¬ c=d:=λz=>by
     subst z;exact h2 h1
    have n2:ledB G d c=false:=lu.mpr λz=>h2 (rn.mp z);rw[decide_eq_false n1,n2];rfl]
   match n,hn with
   | 0,hn=>lk
   | n+1,hn=>exact yi gin n d hd (by lk)
noncomputable def grL (rs:List R8)(ss:List Row)(cs:List (List Int))(c:List Int):List (List Int):=cs.filter (oF rs ss c)
noncomputable def fM (rs:List R8)(ss:List Row)(cs:List (List Int)):Option (List Int):=cs.find? (dW (grL rs ss cs))
theorem E3 {rs:List R8}{ss:List Row}{cs:List (List Int)}(ne:cs≠[]):∃c∈cs,dW (grL rs ss cs) c=true:=by
 obtain⟨c,hc⟩:=List.exists_mem_of_ne_nil cs ne;obtain⟨d,hd,f⟩:=yi (G:=grL rs ss cs) (cs:=cs) (λc _ d hd=>(h7.mp hd).1) _ c hc (az _);exact#[d,hd,vq.mpr f]
theorem pX {rs:List R8}{ss:List Row}{cs:List (List Int)}{c:List Int}(h:fM rs ss cs=some c):c∈cs:=Pu h
theorem On {rs:List R8}{ss:List Row}{cs:List (List Int)}{c:List Int}(so:cs.Pairwise (· < ·))(hc:c∈cs.filter (dW (grL rs ss cs)))(low:∀d∈cs.filter (dW (grL rs ss cs)),d≠c->c<d):fM rs ss cs=some c:=by
 unfold fM;rw[<- List.head?_filter];have so2:=so.filter (dW (grL rs ss cs));generalize cs.filter (dW (grL rs ss cs))=fs at *;cases fs with
 | nil=>cases hc
 | cons x r =>
  by_cases e:x=c
  .rw[e];rfl
  .rcases aM.mp hc with z|z
   .exact absurd z.symm e
   .have h1:=low x bb e;have h2:=(lv.mp so2).1 c z;exact absurd (mJ h1 h2) (lJ _)
noncomputable abbrev Od:=List Int×List (Int×V)
noncomputable def runC (rs:List R8):Nat->List Row->List (List Int)->List Row×List Od
 | 0,ss,_=>(ss,[])
 | n+1,ss,cs=>match fM rs ss cs with
  | none=>(ss,[])
  | some c=>((runC rs n (behC rs ss c) (cs.filter λd=>!decide (d=c))).1,(c,eL rs ss c)::(runC rs n (behC rs ss c) (cs.filter λd=>!decide (d=c))).2)
theorem Di {rs:List R8}{n:Nat}{ss:List Row}{cs:List (List Int)}{c:List Int}(h:fM rs ss cs=some c):runC rs (n+1) ss cs=((runC rs n (behC rs ss c) (cs.filter λd=>!decide (d=c))).1,(c,eL rs ss c)::(runC rs n (behC rs ss c) (cs.filter λd=>!decide (d=c))).2):=by
 rw[runC,h]
noncomputable def inL (i:Nat)(c:List Int):Bool:=decide (V.int (layI c)=V.int (0+(i:Int)))
noncomputable def layC (rs:List R8)(cs:List (List Int))(ss:List Row):Nat->List Row×List Od
 | 0=>(ss,[])
 | i+1=>((runC rs (cs.filter (inL i)).length (layC rs cs ss i).1 (cs.filter (inL i))).1,(layC rs cs ss i).2++(runC rs (cs.filter (inL i)).length (layC rs cs ss i).1 (cs.filter (inL i))).2)
noncomputable def below (i:Nat)(c:List Int):Bool:=decide (layI c<(i:Int))
theorem vv (i:Nat):∀cs:List (List Int),(cs.filter (below (i+1))).length=(cs.filter (below i)).length+(cs.filter (inL i)).length
 | []=>rfl
 | c::r=>by
  have ih:=vv i r;have e1:below (i+1) c=decide (layI c<(i:Int)+1):=by unfold below;rw[Int.natCast_add];rfl
  have e2:inL i c=decide (layI c=(i:Int)):=by
   unfold inL;rw[lV];exact decide_eq_decide.mpr #[λz=>by injection z,λz=>by rw[z]]
  rw[rB,rB,rB,e1,e2];unfold below at ih ⊢
  by_cases a:layI c<(i:Int)
  .rw[if_pos (decide_eq_true (by lk)),if_pos (decide_eq_true a),if_neg (by simp;lk),aK,aK];lk
  .by_cases b:layI c=(i:Int)
   .rw[if_pos (decide_eq_true (by lk)),if_neg (by simp;lk),if_pos (decide_eq_true b),aK,aK];lk
   .rw[if_neg (by simp;lk),if_neg (by simp;lk),if_neg (by simp;lk)];exact ih
structure RunI (rs:List R8)(cs:List (List Int))(s0:List Row)(i:Nat)(ss:List Row)(left:List (List Int))(od:List Od):Prop where
 sight:(runC rs left.length ss left).1=(layC rs cs s0 (i+1)).1
 order:od++(runC rs left.length ss left).2=(layC rs cs s0 (i+1)).2
 nums:(ss.map (·.num)).Perm (rs.map (·.num))
 inv:∀s∈ss,hV (20+od.length) s
 many:od.length+left.length<=(cs.filter (below (i+1))).length
 sub:∀c∈left,c∈cs/\layI c=(i:Int)
 rise:left.Pairwise (· < ·)
 am:∀x∈od,(∀p∈x.2,AmOk p.2)/\x.2.length<=16
theorem RunI.le {rs:List R8}{cs:List (List Int)}{s0:List Row}{i:Nat}{ss:List Row}{left:List (List Int)}{od:List Od}(h:RunI rs cs s0 i ss left od):od.length+left.length<=cs.length:=by
 exact aV h.many (fY _ _)
theorem RunI.x8 {rs:List R8}{cs:List (List Int)}{s0:List Row}{i:Nat}{ss:List Row}{left:List (List Int)}{od:List Od}(h:RunI rs cs s0 i ss left od)(c40:cs.length<=40):∀s∈ss,hV 60 s:=λs hs=>by
 have:=h.le;exact#[(h.inv s hs).nd,(h.inv s hs).so,aV (h.inv s hs).le (by lk)]
theorem pH {c:List Int}:∀{cs:List (List Int)},c∈cs->cs.Pairwise (· < ·)->(cs.filter λd=>!decide (d=c)).length+1=cs.length
 | x::r,hc,so=>by
  obtain⟨h1,h2⟩:=lv.mp so
  by_cases e:x=c
  .subst e;rw[sw (by simp),RK.mpr λd hd=>by
    have n:¬ d=x:=λz=>by
     have y:=h1 d hd;rw[z] at y;exact lJ _ y
    rw[decide_eq_false n];rfl,aK]
  .rw[oE (by rw[decide_eq_false e];rfl),aK,aK,pH ((aM.mp hc).resolve_left λz=>e z.symm) h2]
theorem RunI.step {rs:List R8}{cs:List (List Int)}{s0:List Row}{i:Nat}{ss:List Row}{left:List (List Int)}{od:List Od}{c:List Int}(h:RunI rs cs s0 i ss left od)(e:fM rs ss left=some c)
  (nm:(behC rs ss c).map (·.num)=ss.map (·.num)) (iv:∀s∈behC rs ss c,hV (20+od.length+1) s) (am:(∀p∈eL rs ss c,AmOk p.2)/\(eL rs ss c).length<=16) :
  RunI rs cs s0 i (behC rs ss c) (left.filter λd=>!decide (d=c)) (od++[(c,eL rs ss c)]):=by
 have l:=pH (pX e) h.rise;have st:=Di (n:=(left.filter λd=>!decide (d=c)).length) e;rw[l] at st;have h1:=h.sight;have h2:=h.order;rw[st] at h1 h2;refine#[h1,by rw[fV];exact h2,by rw[nm];exact h.nums,λs hs=>?_,5,λd hd=>h.sub d (h7.mp hd).1,h.rise.filter _,λx hx=>?_]
 .rw[aS,fH];exact iv s hs
 .have:=h.many;rw[aS,fH];lk
 .rcases bM.mp hx with z|z
  .exact h.am x z
  .rw[aX.mp z];exact am
theorem RunI.done {rs:List R8}{cs:List (List Int)}{s0:List Row}{i:Nat}{ss:List Row}{od:List Od}(h:RunI rs cs s0 i ss [] od):ss=(layC rs cs s0 (i+1)).1/\od=(layC rs cs s0 (i+1)).2:=#[h.sight,by rw[<- h.order];exact (ci _).symm]
structure LayI (rs:List R8)(cs:List (List Int))(s0:List Row)(i:Nat):Prop where
 nums:((layC rs cs s0 i).1.map (·.num)).Perm (rs.map (·.num))
 inv:∀s∈(layC rs cs s0 i).1,hV (20+(layC rs cs s0 i).2.length) s
 many:(layC rs cs s0 i).2.length<=(cs.filter (below i)).length
 am:∀x∈(layC rs cs s0 i).2,(∀p∈x.2,AmOk p.2)/\x.2.length<=16
theorem LayI.go {rs:List R8}{cs:List (List Int)}{s0:List Row}{i:Nat}(h:LayI rs cs s0 i)(so:cs.Pairwise (· < ·)):RunI rs cs s0 i (layC rs cs s0 i).1 (cs.filter (inL i)) (layC rs cs s0 i).2 :=
 #[00,h.nums,h.inv,by have:=h.many;rw[vv];lk,λc hc=>#[(h7.mp hc).1,by
  have z:=of_decide_eq_true (h7.mp hc).2;injection z with z
  rw[z,lV]],so.filter _,h.am]
theorem RunI.out {rs:List R8}{cs:List (List Int)}{s0:List Row}{i:Nat}{ss:List Row}{od:List Od}(h:RunI rs cs s0 i ss [] od):LayI rs cs s0 (i+1):=by
 obtain⟨e1,e2⟩:=h.done;refine#[by rw[<- e1];exact h.nums,by rw[<- e1,<- e2];exact h.inv,5,by rw[<- e2];exact h.am];rw[<- e2];have:=h.many;lk
theorem Eb {G F:List Int->List (List Int)}{cs:List (List Int)}(e:∀c∈cs,G c=F c)(gin:∀c∈cs,∀d∈G c,d∈cs){c:List Int}(hc:c∈cs):dW G c=dW F c:=by
 refine uq.mpr ?_;rw[vq,vq];have gin':∀c∈cs,∀d∈F c,d∈cs:=λc hc d hd=>gin c hc d (by rw[e c hc];exact hd)
 constructor
 .intro h d hd;have h1:=(kW e gin hc).mpr hd;exact (kW e gin (nM gin hc h1)).mp (h d h1)
 .intro h d hd;have h1:=(kW e gin hc).mp hd;exact (kW e gin (nM gin hc hd)).mpr (h d h1)
theorem KZ {rs:List R8}{ss:List Row}{cs:List (List Int)}(lay:∀c∈cs,∀d∈cs,layI c=layI d):cs.filter (dW (grG rs ss cs))=cs.filter (dW (grL rs ss cs)) :=
 RC λc hc=>Eb (HZ lay) (λc _ d hd=>(h7.mp hd).1) hc
theorem Ox {G:List Int->List (List Int)}{c:List Int}{ds:List (List Int)}(h:∀d,d∈ds↔Led G c d/\¬ Led G d c):dW G c=decide (ds.length=0):=by
 cases ds with
 | nil =>
  refine vq.mpr λd hd=>?_;refine Classical.byContradiction λn=>?_;cases (h d).mpr ⟨hd,n⟩
 | cons d r =>
  refine lu.mpr λz=>?_;obtain⟨h1,h2⟩:=(h d).mp bb;exact h2 (vq.mp z d h1)
noncomputable def Cv (B D:Addr):Sp:=λvs H Q _=>Ex9 λll sl ml us ws ms rs ss cs=>vs=[.ref ll,.ref sl,.ref ml]/\H ll=some (.lst us)/\All2 (LyT B D H) us rs/\rs.length<=16/\(rs.map (·.num)).Nodup/\H sl=some (.lst ws)/\bJ H ws ss/\(ss.map (·.num)).Perm (rs.map (·.num))/\(∀s∈ss,hV 60 s)/\H ml=some (.lst ms)/\All2 (ChT H) ms cs/\cs.length<=40/\(∀c∈cs,HasC rs c)/\cs≠[]/\cs.Pairwise (· < ·)/\(∀c∈cs,∀d∈cs,layI c=layI d)/\∀u (c:List Int) H',Same H H'->ChT H' u c->fM rs ss cs=some c->Q u H'
theorem GF (T:Tx K mg):FnOk P w K mg base CX0 26 T.rC.f T.rC.d EI (Cv T.b9 T.aT):=by
 refine T.rC.ok Pi ?_;rintro f c A o s H vs Q E hr ⟨ll,sl,ml,us,ws,ms,rs,ss,cs,rfl,el,LY,h16,nd,es,R,pp,inv,em,CH,c40,has,ne,so,lay,q⟩ X;refine#[_,(ae (aA (i:=3) Pi.nd rfl (.inr rfl) (T.qK.c (G7 T) hr (JE T) (aa (pv 0) (aa (pv 1) (aa (pv 2) ab)))))
  (ag (aD (bh (CY hr.units rfl) rfl T.jG boot_min (aa (cB (own:=["change"]) (cap:=["leaned"]) rfl (bI.chk rfl rfl) (.cons (j:=3) rfl (.inl rfl) (.inl rfl) .nil) (cI (pv 2)) (λ_ _ _ _=>(aZ (i:=0) (show bG (["change","leaned"]:List Str) by lia) rfl (.inl rfl))) (λ_ _ _ _=>iK (fj (Dp K (T.qv.c (Jj T).up hr (CV T) (aa (pv 1) (aa (pv 0) ab))) (λ_=>rfl)))) (λ_ _ _ _=>by exact (pv 0))) ab))))),5]
 k_ne
 refine#[111,ll,sl,ml,us,ws,ms,rs,ss,cs,0,el,LY,h16,nd,es,R,pp,inv,em,CH,c40,has,λp kvs H1 S1 np ep ent=>?_];have TB:TabG (grG rs ss cs) cs H1 p:=#[kvs,.inl ep,ent];have em1:=S1 _ _ em;have CH1:All2 (ChT H1) ms cs:=CH.imp λz=>z.same S1;have ml0:=CH.len;refine#[1,ml,0,#[_,SqL.of em1],5];refine cZ (xs:=ms) (λi ys H'=>Same H1 H'/\i<=ms.length/\All2 (ChT H') ys ((cs.take i).filter (dW (grG rs ss cs)))) (λi ys H' z=>SqL.of (z.1 _ _ em1)) #[Same.refl _,ba _,.nil] ?_ ?_ ?_
 .rintro i ys H' ⟨_,hi,hy⟩;have l1:=hy.len;have l2:=fY (dW (grG rs ss cs)) (cs.take i);rw[bQ] at l2;exact small (by lk)
 .rintro i u ys H2 hu ⟨S2,_,hy⟩;have hi:i<ms.length:=(br.mp hu).1;obtain⟨c,ec,cu⟩:=CH1.get hu;have hc:=bq ec;refine#[011,p,u,c,grG rs ss cs,cs,0,TB.same S2,cu.same S2,hc,c40,Fp rs ss c40 (iB rs ss),λd hd=>(has d hd).four,λp2 out ds H3 S3 np2 ep2 al so2 iff=>?_];have fr:=Ox iff;have ol:=al.len;have hy3:All2 (ChT H3) ys _:=hy.imp λz=>z.same S3;rw[bU,ec,dF,lH];refine#[_,.inl #[_,SqL.of ep2,0],5];cases out with
  | nil =>
   refine iteT #[1,S2.trans S3,hi,5];rw[vY (p:=dW (grG rs ss cs)) (by rw[fr,<- ol];rfl)];exact All2.snoc (cu.same (S2.trans S3)) hy3
  | cons o r =>
   refine iteF #[S2.trans S3,hi,5];rw[rZ (p:=dW (grG rs ss cs)) (by rw[fr,<- ol];simp),ci];exact hy3
 .rintro ys H2 ⟨S2,_,hy⟩ p3 hp3;rw[bX (by lk),KZ lay] at hy;ext hp3 H3 S3 e3;have hy3:All2 (ChT H3) ys _:=hy.imp λz=>z.same S3;have so3:=so.filter (dW (grL rs ss cs));obtain⟨c0,m0,f0⟩:=E3 (rs:=rs) (ss:=ss) ne;refine#[p3,ys,chG H3,0,SqL.of e3,(λz=>?_),(λv hv=>?_),5,λu hu low=>?_]
  .rw[z] at hy3;have z1:=hy3.len;have z2:=List.length_pos_of_mem (h7.mpr #[m0,f0]);rw[<- z1] at z2;cases z2
  .obtain⟨d,_,cd⟩:=hy3.mem hv;have ek:=cd.key;obtain⟨t,rfl,et,l⟩:=cd;exact#[t,0,by rw[ek];exact SqT.of et]
  .rw[xF hy3];exact so3.imp λ{a b} z e=>by
    rw[e] at z;exact lJ _ z
  .obtain⟨c,hc,cu⟩:=hy3.mem hu;refine q u c H3 (S1.trans (S2.trans S3)) cu (On so hc λd hd nd=>?_);obtain⟨v,hv,cv⟩:=hy3.mem2 hd;have z:=low v hv (λe=>nd (by rw[e] at cv;exact cv.key.symm.trans cu.key));rw[cu.key,cv.key] at z;exact z
noncomputable def OdT (X:List Addr)(H:Hp)(u:V)(x:Od):Prop:=Ex4 λa p v out=>u = .ref a/\H a=some (.tup [v,.ref p])/\ChT H v x.1/\H p=some (.lst out)/\All2 (iC H) out x.2/\p∉X
theorem OdT.same {X:List Addr}{H H':Hp}(s:Same H H'){u:V}{x:Od}(h:OdT X H u x):OdT X H' u x:=by
 obtain⟨a,p,v,out,e,h1,h2,h3,h4,h5⟩:=h;exact#[a,p,v,out,e,s _ _ h1,h2.same s,s _ _ h3,h4.imp λz=>z.same s,h5]
theorem OdT.put {X:List Addr}{H:Hp}{y:Addr}{zs ws:List V}(e:H y=some (.lst zs))(my:y∈X){u:V}{x:Od}(h:OdT X H u x):OdT X (upd H y (.lst ws)) u x:=by
 obtain⟨a,p,v,out,eu,h1,h2,h3,h4,h5⟩:=h;refine#[a,p,v,out,eu,5,h2.put e,5,h4.imp λz=>z.put e,h5]
 .rw[aF (cw h1 e (by intro z;cases z))];exact h1
 .rw[aF (λz=>h5 (by rw[z];exact my))];exact h3
theorem OdT.more {X Y:List Addr}{H:Hp}(f:∀y∈Y,y∈X∨H y=none){u:V}{x:Od}(h:OdT X H u x):OdT Y H u x:=by
 obtain⟨a,p,v,out,eu,h1,h2,h3,h4,h5⟩:=h;refine#[a,p,v,out,eu,h1,h2,h3,h4,λz=>?_]
 rcases f p z with y|y
 .exact h5 y
 .rw[y] at h3;cases h3
theorem But.put3 {p y:Addr}{H H1:Hp}{o:HO}(b:But p H H1)(n:H y=none):But p H (upd H1 y o):=λa o' ne e=>by
 rw[aF (a9 e n)];exact b a o' ne e
theorem uR {c:List Int}:∀{cs:List (List Int)} {j:Nat},cs[j]?=some c->cs.Pairwise (· < ·)->cs.eraseIdx j=cs.filter λd=>!decide (d=c)
 | x::r,0,h,so=>by
  cases h;obtain⟨h1,_⟩:=lv.mp so;rw[sw (by simp)];refine (RK.mpr λd hd=>?_).symm;have n:¬ d=c:=λz=>by
   have y:=h1 d hd;rw[z] at y;exact lJ _ y
  rw[decide_eq_false n];rfl
 | x::r,j+1,h,so=>by
  obtain⟨h1,h2⟩:=lv.mp so;have hr:r[j]?=some c:=h;have n:¬ x=c:=λz=>by
   have y:=h1 c (bq hr);rw[z] at y;exact lJ _ y
  rw[oE (by rw[decide_eq_false n];rfl),QV,uR hr h2]
theorem wQ {α β:Type}{R:α->β->Prop}:∀{as:List α} {bs:List β} (j:Nat),All2 R as bs->All2 R (as.eraseIdx j) (bs.eraseIdx j)
 | _,_,_,.nil=>.nil
 | _,_,0,.cons _ t=>t
 | _,_,j+1,.cons h t=>.cons h (wQ j t)
theorem IY {cs:List (List Int)}(so:cs.Pairwise (· < ·)){m j:Nat}{c d:List Int}(lt:m<j)(hd:cs[m]?=some d)(hc:cs[j]?=some c):¬ d=c:=λz=>by
 obtain⟨h1,e1⟩:=br.mp hd;obtain⟨h2,e2⟩:=br.mp hc;have y:=yP.mp so m j h1 h2 lt;rw[e1,e2,z] at y;exact lJ _ y
noncomputable def MI (B D:Addr):Sp:=λvs H Q _=>Ex3 λl us rs=>vs=[.ref l]/\H l=some (.lst us)/\All2 (LyT B D H) us rs/\(∀r∈rs,r.ok)/\(∀r∈rs,∀q∈r.rules,q.ok)/\rs.length<=16/\(rs.flatMap chs).length<=40/\(rs.map (·.num)).Nodup/\(∀c∈rs.flatMap chs,HasC rs c)/\∀t s o ws os ss cs H',Same H H'->H s=none->H o=none->s≠o->H' t=some (.tup [.ref s,.ref o])->H' s=some (.lst ws)->H' o=some (.lst os)->ss.Perm rs->gN ss->cs.Perm (rs.flatMap chs)->cs.Pairwise (· < ·)->bJ H' ws (layC rs cs (ss.map rowF) 5).1->All2 (OdT [o,s] H') os (layC rs cs (ss.map rowF) 5).2->LayI rs cs (ss.map rowF) 5->Q (.ref t) H'
theorem Ij {rs:List R8}{ss:List Row}{c:List Int}(nd:(rs.map (·.num)).Nodup)(pp:(ss.map (·.num)).Perm (rs.map (·.num)))(h16:rs.length<=16)(h:HasC rs c):(∀p∈eL rs ss c,AmOk p.2)/\(eL rs ss c).length<=16:=by
 obtain⟨i,k,r,wd,hv,y,a,b,C⟩:=h;obtain⟨r0,hr0⟩:=Oj (pp.mem_iff.mpr (bT.mpr #[r,bq C.at_,0]));rw[C.rR nd hr0];refine#[pT C.hok,5];have l1:=xM ss r0 wd hv y;have l2:=pp.length_eq;rw[aw,aw] at l2;lk
theorem Ea (T:Tx K mg)(kb:K.In base):FnOk P w K mg base CX0 27 T.jO.f T.jO.d yT (MI T.b9 T.aT):=by
 refine T.jO.ok lK ?_;rintro f c A o s H vs Q E hr ⟨l,us,rs,rfl,el,LY,rok,qok,h12,hch,nd,hasA,q⟩ X;have tn:∀{ts:List Row},(ts.map (·.num)).Perm (rs.map (·.num))->ts.length<=16/\(ts.map (·.num)).Nodup:=λ{ts} p=>by
  have l:=p.length_eq;rw[aw,aw] at l;exact#[3,p.nodup_iff.mpr nd]
 refine#[_,(ae (aA (i:=1) lK.nd rfl (.inl rfl) (T.rH.c (U7 T).up hr (Ix T) (aa (pv 0) ab)))
  (ae (aA (i:=2) lK.nd rfl (.inl rfl) (bj ab))
  (ae (aA (i:=3) lK.nd rfl (.inl rfl) (T.qP.c (Le T kb).up hr (DY T) (aa (pv 0) ab)))
  (ae (gG eZ rfl (gj rfl T.eC (aa (dR (v:=.int 5) rfl T.zI #[1]) ab)) (aZ (i:=4) lK.nd rfl (.inr rfl))
   (ae (i5 (i:=5) lK.nd rfl (.inl rfl) (own:=["change"]) (cap:=["layer"]) rfl (bI.chk rfl rfl) (.cons (j:=4) rfl (.inl rfl) (.inl rfl) .nil) (cI (pv 3)) (λ_ _ _ _=>(aZ (i:=0) (show bG (["change","layer"]:List Str) by lia) rfl (.inl rfl))) (λ_ _ _ _=>iK (aL a6 (ao (fS K) (pv 0) ad) (pv 1) (aH _))) (λ_ _ _ _=>by exact (pv 0)))
   (ag (nI eZ (rh (pv 5) (λ_=>rfl))
    (ae (aA (i:=6) lK.nd rfl (.inl rfl) (T.rC.c (GF T) hr (Il T) (aa (pv 0) (aa (pv 1) (aa (pv 5) ab)))))
    (ae (cz (bR cO fQ fC fJ (pv 2) (aa (bc (aa (pv 6) (aa (T.kT.c (Ay T).up hr (kD T) (aa (pv 0) (aa (pv 1) (aa (pv 6) ab)))) ab))) ab)))
    (ae (aA (i:=1) lK.nd rfl (.inl rfl) (T.pV.c (wg T).up hr (tQ T) (aa (pv 0) (aa (pv 1) (aa (pv 6) ab)))))
    (ag (cz (bR cO PySem.F.slot_list_remove PySem.F.type_list_remove (Jp hr.units) (pv 5) (aa (pv 6) ab)))))))))))
  (ag (aD (bc (aa (pv 1) (aa (pv 2) ab))))))))),5]
 k_ne
 refine#[1,l,us,rs,0,el,LY,3,nd,λs0 w0 s8 H1 S1 ns0 es0 SG p0 r0=>?_]
 k_ne
 refine#[sz0,λol hol=>?_]
 k_ne
 ext hol H2 S2 eo2;have S02:=S1.trans S2;have nol:H ol=none:=none_of S1 hol
 k_ne
 refine#[1,l,us,rs,0,S02 _ _ el,LY.imp λz=>z.same S02,rok,qok,3,nd,λev evs cs H3 S3 nev eev CH pc so=>?_];have S03:=S02.trans S3;have has:∀c∈cs,HasC rs c:=λc hc=>hasA c (pc.mem_iff.mp hc);have c40:cs.length<=40:=by
  rw[pc.length_eq];exact hch
 have evl:=CH.len;have R0:bJ H3 w0 (s8.map rowF):=(BZ SG).map λ_ _ z=>z.same (S2.trans S3);have L0:LayI rs cs (s8.map rowF) 0:=by
  refine#[5,λt ht=>?_,5,λx hx=>by cases hx]
  .show ((s8.map rowF).map (·.num)).Perm _;rw[cW];exact p0.map _
  .obtain⟨r,hr,rfl⟩:=bT.mp ht;have ok:=rok r (p0.mem_iff.mp hr);exact#[ok.mks.nd,ok.mks.so,aV ok.mks.le (by show _<=20+0;decide)]
  .exact ba _
 k_ne
 refine#[1775];refine qI (lo:=0) (n:=(5:Int).toNat) (λi σ H'=>Ex6 λsl ws os o4 o5 o6=>σ=[some (.ref l),some (.ref sl),some (.ref ol),some (.ref ev),o4,o5,o6]/\But ol H3 H'/\sl≠ol/\H sl=none/\H' sl=some (.lst ws)/\bJ H' ws (layC rs cs (s8.map rowF) i).1/\H' ol=some (.lst os)/\All2 (OdT [ol,sl] H') os (layC rs cs (s8.map rowF) i).2/\LayI rs cs (s8.map rowF) i) #[s0,w0,[],_,_,1,But.refl _ _,a9 es0 hol,ns0,(S2.trans S3) _ _ es0,R0,S3 _ _ eo2,.nil,L0] ?_ ?_
 .rintro i σ H4 hi ⟨sl,ws,os,o4,o5,o6,rfl,B4,nso,nsl,es4,R4,eo4,OD4,LI⟩;have S04:Same H H4:=((But.same S03).trans B4).new nol;have nve:ev≠ol:=a8 (a9 eo2 nev);have eev4:=B4 _ _ nve eev;have CH4:All2 (ChT H4) evs cs:=CH.imp λz=>z.but B4 (S3 _ _ eo2)
  k_ne
  refine#[1,ev,0,#[_,SqL.of eev4],5];refine cZ (xs:=evs) (λj ys H'=>H'=H4/\All2 (ChT H4) ys ((cs.take j).filter (inL i))) (λj ys H' z=>by rw[z.1];exact SqL.of eev4) #[0,.nil] ?_ ?_ ?_
  .rintro j ys H' ⟨_,hy⟩;have l1:=hy.len;have l2:=fY (inL i) (cs.take j);rw[bQ] at l2;exact small (by lk)
  .rintro j u ys H' hu ⟨rfl,hy⟩;obtain⟨c,ec,cu⟩:=CH4.get hu;obtain⟨i2,k2,r,wd,hv2,y,a,b,C⟩:=has c (bq ec);have lc:layI c=a:=(by rw[C.is_];rfl);obtain⟨ct,rfl,ect,l4⟩:=id cu;have ect2:=ect;rw[C.is_] at ect2;refine#[01,ct,_,4,SqT.of ect2,91015];rw[bU,ec,dF,lH];refine ite2 (λn1=>?_) (λn1=>?_)
   .refine#[105];rw[vY (p:=inL i) (by unfold inL;rw[lc];exact n1)];exact All2.snoc cu hy
   .refine#[05];rw[rZ (p:=inL i) (by unfold inL;rw[lc];exact n1),ci];exact hy
  .rintro ys H' ⟨rfl,hy⟩ ml hml;rw[bX (by lk)] at hy;ext hml H5 S5 e5;have n3ml:H3 ml=none:=by
    cases z:H3 ml with
    | none=>rfl
    | some o =>
     by_cases zo:ml=ol
     .rw[zo,eo4] at hml;cases hml
     .rw[B4 _ _ zo z] at hml;cases hml
   have nml:H ml=none:=none_of S04 hml;have nmo:ol≠ml:=a9 eo4 hml;obtain⟨W,hW⟩:∃W:Nat->L2.St->Hp->Prop,W=λm σ H'=>Ex8 λss left (od:List Od) sl ws os ms o6=>m=left.length/\σ=[some (.ref l),some (.ref sl),some (.ref ol),some (.ref ev),some (.int (0+(i:Int))),some (.ref ml),o6]/\But ol H3 H'/\sl≠ol/\sl≠ml/\H sl=none/\H' sl=some (.lst ws)/\bJ H' ws ss/\H' ol=some (.lst os)/\All2 (OdT [ol,ml,sl] H') os od/\H' ml=some (.lst ms)/\All2 (ChT H') ms left/\RunI rs cs (s8.map rowF) i ss left od:=#[1];refine#[W,#[_,by rw[hW];exact#[_,_,_,sl,ws,os,ys,10,B4.trans (But.same S5),nso,a9 es4 hml,nsl,S5 _ _ es4,R4.map λ_ _ z=>z.same S5,S5 _ _ eo4,OD4.imp λz=>(z.more (Y:=[ol,ml,sl]) λy hy=>by
    simp only[aM,dN,or_false] at hy ⊢
    rcases hy with rfl|rfl|rfl
    .exact .inl (.inl rfl)
    .exact .inr hml
    .exact .inl (.inr rfl)).same S5,e5,hy.imp λz=>z.same S5,LI.go so]],5]
   intro m σ H6 hw;rw[hW] at hw;obtain⟨ss,left,od,sl,ws,os,ms,o6,rfl,rfl,B6,nso,nsm,nsl,es6,R6,eo6,OD6,em6,CM6,RI⟩:=hw;have S06:Same H H6:=((But.same S03).trans B6).new nol;have cml:=CM6.len;have ll40:=RI.le;refine#[1,_,.inl #[_,SqL.of em6,0],5];refine ite2 (λne=>?_) (λne=>?_)
   .have lne:left≠[]:=λz=>by
     rw[z] at CM6;cases CM6;cases ne
    have hasL:∀c∈left,HasC rs c:=λc hc=>has c (RI.sub c hc).1;refine#[fun σ' H'=>∃m',m'<left.length/\W m' σ' H',λ_ _ z=>z,5]
    k_ne
    refine#[111,l,sl,ml,us,ws,ms,rs,ss,left,0,S06 _ _ el,LY.imp λz=>z.same S06,3,nd,es6,R6,RI.nums,RI.x8 c40,em6,CM6,3,hasL,lne,RI.rise,(λc hc d hd=>by rw[(RI.sub c hc).2,(RI.sub d hd).2]),λu c H7 S7 cu enx=>?_];have hcl:=pX enx;obtain⟨i1,k1,r1,wd,hv,y,a,b,C⟩:=hasL c hcl;obtain⟨rr,hrr⟩:=Oj (RI.nums.mem_iff.mpr (bT.mpr #[r1,bq C.at_,0]));have am:=Ij nd RI.nums (by lk) (hasL c hcl);have cu':=cu;rw[C.is_] at cu';have S07:=S06.trans S7;have eo7:=S7 _ _ eo6;have es7:=S7 _ _ es6;have R7:bJ H7 ws ss:=R6.map λ_ _ z=>z.same S7
    k_ne
    refine#[1,.inl #[0,_,SqL.of eo7],1111,l,sl,us,ws,rs,ss,u,i1,_,r1,rr,wd,hv,y,a,b,0,S07 _ _ el,LY.imp λz=>z.same S07,3,nd,es7,R7,(tn RI.nums).1,C.at_,C.full,C.hok,C.yd,C.zd,hrr,cu',λnp nout H8 S8 nnp enp P0=>#[sz2,λt ht=>?_]];rw[<- C.rR nd hrr] at P0;ext ht H9 S9 et;have S79:=S8.trans S9;have eo9:=S79 _ _ eo7;have odl:=OD6.len;refine#[ol,4,eo9,df (by lk),5];have B10:But ol H3 (upd H9 ol (.lst (os++[.ref t]))):=(B6.trans (But.same (S7.trans S79))).put2;have npx:np∉[ol,ml,sl]:=by
     have em7:=S7 _ _ em6;simp only[aM,dN,or_false];rintro (z|z|z)
     .rw[z,eo7] at nnp;cases nnp
     .rw[z,em7] at nnp;cases nnp
     .rw[z,es7] at nnp;cases nnp
    have OD10:All2 (OdT [ol,ml,sl] (upd H9 ol (.lst (os++[.ref t])))) (os++[.ref t]) (od++[(c,eL rs ss c)]):=by
     refine (All2.snoc ?_ (OD6.imp λz=>(z.same (S7.trans S79)))).imp λz=>z.put eo9 bb;exact#[t,np,u,nout,0,et,cu.same S79,S9 _ _ enp,P0.imp λz=>z.same S9,npx]
    have em10:upd H9 ol (.lst (os++[.ref t])) ml=some (.lst ms):=by
     rw[aF (a8 nmo)];exact (S7.trans S79) _ _ em6
    have es10:upd H9 ol (.lst (os++[.ref t])) sl=some (.lst ws):=by
     rw[aF nso];exact S79 _ _ es7
    have eo10:upd H9 ol (.lst (os++[.ref t])) ol=some (.lst (os++[.ref t])):=aB;have R10:bJ (upd H9 ol (.lst (os++[.ref t]))) ws ss:=R7.map λ_ _ z=>(z.same S79).put eo9;have CM10:All2 (ChT (upd H9 ol (.lst (os++[.ref t])))) ms left:=CM6.imp λz=>(z.same (S7.trans S79)).put eo9;have cu10:ChT (upd H9 ol (.lst (os++[.ref t]))) u c:=(cu.same S79).put eo9;have S010:Same H (upd H9 ol (.lst (os++[.ref t]))):=fg (S07.trans S79) nol _;generalize upd H9 ol (.lst (os++[.ref t]))=HA at B10 OD10 em10 es10 eo10 R10 CM10 cu10 S010 ⊢;have cu10':=cu10;rw[C.is_] at cu10'
    k_ne
    refine#[111,l,sl,us,ws,rs,ss,u,i1,_,r1,rr,wd,hv,y,a,b,0,S010 _ _ el,LY.imp λz=>z.same S010,3,nd,es10,R10,(tn RI.nums).2,RI.x8 c40,(tn RI.nums).1,C.at_,C.full,C.hok,C.yd,C.zd,hrr,cu10',λbl bout ts HB SB nbl ebl RB BB=>?_];have eb:=C.oI nd hrr BB;subst eb;obtain⟨j,hj⟩:=lD hcl;have cuB:=cu10.same SB;have CMB:All2 (ChT HB) ms left:=CM10.imp λz=>z.same SB;have emB:=SB _ _ em10;have hjl:=(br.mp hj).1;refine#[1,.inl #[0,_,SqL.of emB],1,ml,ms,u,chD c,left.map chD,j,chD c,00,emB,.lst (SqL.of emB) (Ja CMB),pI cuB,Em c,L8 left,IT c,(by rw[bH,hj];rfl),(by rw[mP];exact decide_eq_true rfl),(λm dm lt em=>?_),5]
    .rw[bH] at em;obtain⟨d,hd,rfl⟩:=ko.mp em;rw[mP];exact decide_eq_false (IY RI.rise lt hd hj)
    have nbx:bl≠ol/\bl≠ml:=#[λz=>(by rw[z,eo10] at nbl;cases nbl),λz=>(by rw[z,em10] at nbl;cases nbl)];refine#[left.length-1,by have:=LK.mpr lne;lk,5];rw[hW];have bt:=pH hcl RI.rise;refine#[behC rs ss c,_,od++[(c,eL rs ss c)],bl,bout,_,ms.eraseIdx j,_,50,(B10.trans (But.same SB)).put3 n3ml,nbx.1,nbx.2,none_of S010 nbl,(by rw[aF nbx.2];exact ebl),RB.map λ_ _ z=>z.put emB,(by rw[aF nmo];exact SB _ _ eo10),(OD10.imp λz=>((z.more (Y:=[ol,ml,bl]) λy hy=>by
     simp only[aM,dN,or_false] at hy ⊢
     rcases hy with rfl|rfl|rfl
     .exact .inl (.inl rfl)
     .exact .inl (.inr (.inl rfl))
     .exact .inr nbl).same SB).put emB (bx _ bb)),aB,5,RI.step enx (yB BB) (BN BB RI.inv) am]
    .omega
    .rw[<- uR hj RI.rise];exact (wQ j CMB).imp λz=>z.put emB
   .have le:ms=[]:=by
     cases ms with
     | nil=>rfl
     | cons x r=>exact absurd rfl ne
    subst le;cases CM6;obtain⟨e1,e2⟩:=RI.done;refine#[sl,ws,os,_,_,1,B6,nso,nsl,es6,by rw[<- e1];exact R6,eo6,5,RI.out];rw[<- e2];exact OD6.imp λz=>z.more λy hy=>by
     simp only[aM,dN,or_false] at hy ⊢
     rcases hy with rfl|rfl
     .exact .inl (.inl rfl)
     .exact .inl (.inr (.inr rfl))
 .rintro σ H4 ⟨sl,ws,os,o4,o5,o6,rfl,B4,nso,nsl,es4,R4,eo4,OD4,LI⟩;have S04:Same H H4:=((But.same S03).trans B4).new nol;refine#[11,sz2,λt ht=>?_];ext ht H5 S5 e5;exact q t sl ol ws os s8 cs H5 (S04.trans S5) nsl nol nso e5 (S5 _ _ es4) (S5 _ _ eo4) p0 r0 pc so (R4.map λ_ _ z=>z.same S5) (OD4.imp λz=>z.same S5) LI
theorem zb {c:TT}{a rest:TS}{D:Ends}{σ:L2.St}{H:Hp}(M:L2.St->Hp->Prop)(hR:∀ σ' H',M σ' H'->rest D σ' H')(h:∀R:L2.St->Hp->Prop,(∀ σ' H',M σ' H'->R σ' H')->tIfS c a pD { D with nx:=R } σ H):tSeq (tIfS c a pD) rest D σ H:=h _ hR
noncomputable abbrev J (ws:List Str):Str:=aj " " ws
noncomputable def R28 (H:Hp)(v:V):Rule->Prop
 | .wen kd y d=>Ex3 λa x dv=>v = .ref a/\H a=some (.tup [.str "when",.str kd,x,dv])/\WT H x y/\DT H dv d/\kd∈nN/\plain y
 | .instead kd y w z=>Ex2 λa x=>v = .ref a/\H a=some (.tup [.str "instead",.str kd,x,.str w,valV z])/\WT H x y/\kd∈cQ/\plain y/\w∈turns kd/\TurnOk w z
 | .hold u hv y=>Ex2 λa x=>v = .ref a/\H a=some (.tup [.str "hold",.str (J (u::hv.words)),x])/\WT H x y/\plain y/\cj u hv
 | .may _ _=>False
theorem R28.kp {H H':Hp}(s:Kp H H'){v:V}{r:Rule}(h:R28 H v r):R28 H' v r:=by
 cases r with
 | wen kd y d =>
  obtain⟨a,x,dv,e,h1,h2,h3,h4⟩:=h;exact#[a,x,dv,e,s.t h1,h2.kp s,h3.kp s,h4]
 | instead kd y w z =>
  obtain⟨a,x,e,h1,h2,h3⟩:=h;exact#[a,x,e,s.t h1,h2.kp s,h3]
 | hold u hv y =>
  obtain⟨a,x,e,h1,h2,h3⟩:=h;exact#[a,x,e,s.t h1,h2.kp s,h3]
 | may c d=>exact h
theorem R28.ok {H:Hp}{v:V}{r:Rule}(h:R28 H v r):r.ok:=by
 cases r with
 | wen kd y d =>
  obtain⟨a,x,dv,e,h1,h2,⟨_,_,_,_,_,_,_,dok⟩,h4,h5⟩:=h;exact#[h4,h5,dok]
 | instead kd y w z =>
  obtain⟨a,x,e,h1,h2,h3,h4,h5,h6⟩:=h;exact#[h3,h4,h5,h6]
 | hold u hv y =>
  obtain⟨a,x,e,h1,h2,h3,h4⟩:=h;exact#[h4,h3]
 | may c d=>exact h.elim
noncomputable def isHd:Rule->Bool
 | .hold _ _ _=>true
 | _=>false
theorem jc:∀{a b:List Str},a≠[]->b≠[]->J a ++ " " ++ J b=J (a++b)
 | [],_,h,_=>absurd rfl h
 | _,[],_,h=>absurd rfl h
 | [x],y::r,_,_=>rfl
 | x::y::r,b::bs,_,hb=>by
  have ih:=jc (a:=y::r) (b:=b::bs) (by simp) hb;show (x ++ " " ++ J (y::r)) ++ " " ++ J (b::bs)=x ++ " " ++ J (y::r++b::bs)
  rw[<- ih,re,re,re,re,re]
theorem MJ {u:Str}{v:Hv}{y:Wh}:("hold ":Str)++J (u::v.words) ++ " " ++ J y.words=bF (.hold u v y):=by
 rw[show ("hold ":Str) = "hold" ++ " " by lia];have e1:("hold":Str) ++ " " ++ J (u::v.words)=J ("hold" :: u::v.words):=jc (a:=["hold"]) (b:=u::v.words) (by simp) (by simp);rw[e1,jc (by simp) y.dw];rfl
theorem Ml {u:Str}{v:Hv}(h:cj u v):(J (u::v.words)).length<=450:=by
 have a:=text_len (ws:=u::v.words) (λx hx=>((aM.mp hx).elim (λe=>by rw[e];exact dL (l:=changes) (by lia) h.word) (h.words x)).1);have b:=vM h;rw[aK] at a;show (aj " " (u::v.words)).length<=450
 lk
noncomputable def KA (K:ah):Sp:=λvs H Q _=>Ex6 λp nl kl (k:Int) (ns ks:List Str)=>vs=[.ref p,.ref nl,.ref kl]/\Tk K H p k/\k<=600000/\N4 H nl ns/\H kl=some (.lst (ks.map V.str))/\1<=ks.length/\(∀x∈ks,x∈nN)/\∀v (r:Rule) (k':Int) H',But p H H'->Tk K H' p k'->k'<=k+48->R28 H' v r->isHd r=false->Q v H'
noncomputable def Jm (K:ah):Sp:=λvs H Q _=>Ex6 λp nl kl (k:Int) (ns ks:List Str)=>vs=[.ref p,.ref nl,.ref kl]/\Tk K H p k/\k<=600000/\N4 H nl ns/\H kl=some (.lst (ks.map V.str))/\1<=ks.length/\ks.length<=10/\(∀x∈ks,x∈cQ)/\∀v (r:Rule) (k':Int) H',But p H H'->Tk K H' p k'->k'<=k+48->R28 H' v r->isHd r=false->Q v H'
noncomputable def Lo (K:ah):Sp:=λvs H Q _=>Ex4 λp nl (k:Int) (ns:List Str)=>vs=[.ref p,.ref nl]/\Tk K H p k/\k<=600000/\N4 H nl ns/\∀v (r:Rule) (k':Int) H',But p H H'->Tk K H' p k'->k'<=k+48->R28 H' v r->isHd r=true->Q v H'
noncomputable def Jk:Sp:=λvs H Q _=>Ex2 λv (r:Rule)=>vs=[v]/\R28 H v r/\∀H',Same H H'->Q (.str (bF r)) H'
theorem DU (T:Tx K mg):FnOk P w K mg base CX0 12 T.sA.f T.sA.d BG (KA K):=by
 refine T.sA.ok Rr ?_;rintro f c A o s H vs Q E hr ⟨p,nl,kl,k,ns,ks,rfl,TT,hk,N0,ek,k1,kw,q⟩ X;have nk:kl≠p:=TT.strs ek;have kle:((ks.map V.str).length:Int)=(ks.length:Int):=by rw[aw]
 refine#[_,(ae (aA (i:=3) Rr.nd rfl (.inl rfl) (ao bC (pv 2) (T.bw.c (bL T).up hr (bK T) (aa (pv 0) (aa (bh cT rfl T.cr cE (aa (pv 2) ab)) ab)))))
  (ag (aD (bc (aa ar (aa (pv 3) (aa (T.dZ.c (yO T 5).up hr (nP T) (aa (pv 0) (aa (pv 1) (aa (aN dM ad (T.bw.c (bL T).up hr (bK T) (aa (pv 0) (aa ad ab)))) ab)))) (aa (T.rp.c (MV T) hr (IS T) (aa (pv 0) (aa (pv 1) ab))) ab)))))))),5]
 k_ne
 refine#[111,kl,1,.inl (SqL.of ek),p,k,(ks.length:Int),(by rw[<- kle];rfl),TT,33,λr H1 r0 r1 B1 T1=>?_];obtain⟨kd,hkd,hm⟩:=ji (ss:=ks) r0 r1;refine#[kl,_,4,SqL.of (B1 _ _ nk ek),hkd,5];refine#[1111,p,k+1,(5),0,T1,37,λd0 H2 d1 d2 B2 T2=>#[45]];obtain⟨d,hd0⟩:∃d:Nat,1+d0=(d:Int):=#[(1+d0).toNat,3];have B02:=B1.trans B2;refine#[p,nl,_,ns,d,(by show [V.ref p,V.ref nl,V.int (1+d0)]=_;rw[hd0]),T2,3,N0.but TT B02,33,λwv y k3 H3 B3 T3 hk3 W3 ok3 y3=>?_];have B03:=B02.trans B3;refine#[11,p,nl,k3,ns,0,T3,3,N0.but TT B03,λdv dd k4 H4 B4 T4 hk4 D4=>#[sz4,λa ha=>?_]];ext ha H5 S5 e5;exact q (.ref a) (.wen kd y dd) k4 H5 (B03.trans (B4.trans (But.same S5))) (T4.same S5) (by lk) #[a,wv,dv,0,e5,(W3.but T3 B4).same S5,D4.kp (Kp.same S5),kw kd hm,ok3,3] rfl
theorem GG (T:Tx K mg):FnOk P w K mg base CX0 12 T.rD.f T.rD.d BF (Lo K):=by
 refine T.rD.ok L6 ?_;rintro f c A o s H vs Q E hr ⟨p,nl,k,ns,rfl,TT,hk,N0,q⟩ X;refine#[_,(ae (aA (i:=2) L6.nd rfl (.inl rfl) (bj (aa ar (aa ar (aa (aN oB ar (ao bC (pv 1) (T.bw.c (bL T).up hr (bK T) (aa (pv 0) (aa ad ab))))) (aa (aN oB ar (ao bC (pv 1) (T.bw.c (bL T).up hr (bK T) (aa (pv 0) (aa ad ab))))) (aa ar ab)))))))
  (ae (aA (i:=2) L6.nd rfl (.inl rfl) (aN hU (pv 2) (bj (aa ar (aa ar (aa ar ab))))))
  (ag (aD (bc (aa ar (aa (ao bC (pv 2) (T.bw.c (bL T).up hr (bK T) (aa (pv 0) (aa ad ab)))) (aa (T.dZ.c (yO T 5).up hr (nP T) (aa (pv 0) (aa (pv 1) (aa (aN dM ad (T.bw.c (bL T).up hr (bK T) (aa (pv 0) (aa ad ab)))) ab)))) ab)))))))),5]
 k_ne
 refine#[11,p,k,(4),0,TT,37,λr H1 r0 r1 B1 T1=>?_];have N1:=N0.but TT B1;obtain⟨nm,hnm,hm⟩:=ji (ss:=ns) r0 (by rw[N0.len];exact r1);have nok:=N0.ok nm hm;have n8:=nok.2.1;have l5:("gain ":Str).length=5:=by lia
 have l6:("lack ":Str).length=5:=by lia
 refine#[nl,_,4,SqL.of N1.at_,hnm,4,small (by lk),5];refine#[11,p,_,(4),0,T1,37,λr2 H2 r20 r21 B2 T2=>?_];have N2:=N1.but T1 B2;obtain⟨nm2,hnm2,hm2⟩:=ji (ss:=ns) r20 (by rw[N0.len];exact r21);have nok2:=N0.ok nm2 hm2;have n82:=nok2.2.1;refine#[nl,_,4,SqL.of N2.at_,hnm2,4,small (by lk),sz5,λl2 hl2=>?_]
 k_ne
 ext hl2 H3 S3 e3
 k_ne
 refine#[1,sz3,λl4 hl4=>?_];ext hl4 H4 S4 e4;refine#[l2,l4,4,S4 _ _ e3,e4,sz8,λc hc=>?_];have ncp:c≠p:=a8 ((T2.same (S3.trans S4)).ne hc);ext hc H5 S5 e5;have S25:=S3.trans (S4.trans S5);refine#[11,p,_,(8),0,T2.same S25,37,λr6 H6 r60 r61 B6 T6=>?_];obtain⟨u,hv,hok,hat⟩:Ex2 λ(u:Str) (hv:Hv)=>cj u hv/\atI [V.str "mute",V.str "steal",V.str ("gain " ++ nm),V.str ("lack " ++ nm2),V.str "more 2",V.str "less 3",V.str "be 1",V.str "per mine"] r6=some (.str (J (u::hv.words))):=by
  obtain⟨v,hv,hm⟩:=gF (xs:=[V.str "mute",V.str "steal",V.str ("gain " ++ nm),V.str ("lack " ++ nm2),V.str "more 2",V.str "less 3",V.str "be 1",V.str "per mine"]) r60 r61;rw[hv];simp only[aM,dN,or_false] at hm
  rcases hm with e|e|e|e|e|e|e|e<;>rw[e]
  .exact#["mute",.v .non,.mute,0]
  .exact#["steal",.v .non,.steal,0]
  .exact#["gain",.v (.name nm),.gain nok,by rw[show ("gain ":Str) = "gain" ++ " " by lia];rfl]
  .exact#["lack",.v (.name nm2),.lack nok2,by rw[show ("lack ":Str) = "lack" ++ " " by lia];rfl]
  .exact#["more",.v (.num 2),.more (by decide),by rw[show ("more 2":Str)=J ["more",(toString ((2:Nat):Int):Str)] by lia];rfl]
  .exact#["less",.v (.num 3),.less (by decide),by rw[show ("less 3":Str)=J ["less",(toString ((3:Nat):Int):Str)] by lia];rfl]
  .exact#["be",.v (.num 1),.be (by decide),by rw[show ("be 1":Str)=J ["be",(toString ((1:Nat):Int):Str)] by lia];rfl]
  .exact#["per",.w .mine,.per #[trivial,7],by rw[show ("per mine":Str)=J ["per","mine"] by lia];rfl]
 refine#[c,_,4,SqL.of (B6 _ _ ncp e5),hat,5];have B06:=((B1.trans B2).trans (But.same S25)).trans B6;refine#[111,p,_,(3),0,T6,37,λd0 H7 d1 d2 B7 T7=>#[45]];obtain⟨d,hd0⟩:∃d:Nat,1+d0=(d:Int):=#[(1+d0).toNat,3];have B07:=B06.trans B7;refine#[p,nl,_,ns,d,(by show [V.ref p,V.ref nl,V.int (1+d0)]=_;rw[hd0]),T7,3,N0.but TT B07,33,λwv y k8 H8 B8 T8 hk8 W8 ok8 y8=>#[sz3,λa ha=>?_]];ext ha H9 S9 e9;exact q (.ref a) (.hold u hv y) k8 H9 ((B07.trans B8).trans (But.same S9)) (T8.same S9) (by lk) #[a,wv,0,e9,W8.same S9,#[ok8,3],hok] rfl
theorem vz:∀kd∈cQ,∀a∈(["less","more"]:List Str),kd∈(["hurt","lose","score","draw"]:List Str)->a∈turns kd:=by lia
theorem NQ:∀kd∈cQ,kd∈(["lose","score","draw"]:List Str)->("as":Str)∈turns kd:=by lia
theorem Nz:∀kd∈cQ,("none":Str)∈turns kd:=by lia
theorem LM:∀kd∈cQ,kd∈(["leave","hurt","gain","lack"]:List Str)->("here":Str)∈turns kd:=by lia
noncomputable def TnV (H:Hp)(kd:Str)(u:V):Prop:=Ex3 λa (x:Str) (z:Wv)=>u = .ref a/\H a=some (.tup [.str x,valV z])/\x∈turns kd/\TurnOk x z
theorem TnV.kp {H H':Hp}(s:Kp H H'){kd:Str}{u:V}(h:TnV H kd u):TnV H' kd u:=by
 obtain⟨a,x,z,e,h1,h2⟩:=h;exact#[a,x,z,e,s.t h1,h2]
theorem Uw (T:Tx K mg):FnOk P w K mg base CX0 12 T.rm.f T.rm.d CG (Jm K):=by
 refine T.rm.ok lS ?_;rintro f c A o s H vs Q E hr ⟨p,nl,kl,k,ns,ks,rfl,TT,hk,N0,ek,k1,k10,kw,q⟩ X;have nk:kl≠p:=TT.strs ek;have kle:((ks.map V.str).length:Int)=(ks.length:Int):=by rw[aw]
 refine#[_,(ae (aA (i:=3) lS.nd rfl (.inl rfl) (ao bC (pv 2) (T.bw.c (bL T).up hr (bK T) (aa (pv 0) (aa (bh cT rfl T.cr cE (aa (pv 2) ab)) ab)))))
  (ae (aJ (aL a6 (pv 3) ar (aH _))
   (ag (aA (i:=3) lS.nd rfl (.inl rfl) ar))
   aO)
  (ae (aA (i:=4) lS.nd rfl (.inl rfl) (T.dZ.c (yO T 5).up hr (nP T) (aa (pv 0) (aa (pv 1) (aa (aN dM ad (T.bw.c (bL T).up hr (bK T) (aa (pv 0) (aa ad ab)))) ab)))))
  (ae (aA (i:=5) lS.nd rfl (.inl rfl) (bj (aa (bc (aa ar (aa gP ab))) ab)))
  (ae (aJ (aL kz (pv 3) (bc (aa ar (aa ar (aa ar (aa ar ab))))) rfl)
   (ag (aA (i:=5) lS.nd rfl (.inl rfl) (aN hU (pv 5) (bj (aa (bc (aa ar (aa gP ab))) (aa (bc (aa ar (aa gP ab))) ab))))))
   aO)
  (ae (aJ (aL kz (pv 3) (bc (aa ar (aa ar (aa ar (aa ar ab))))) rfl)
   (ag (aA (i:=5) lS.nd rfl (.inl rfl) (aN hU (pv 5) (bj (aa (bc (aa ar (aa ad ab))) (aa (bc (aa ar (aa (T.kP.c (zk T).up hr (zR T) (aa (pv 0) ab)) ab))) ab))))))
   aO)
  (ae (aJ (aL kz (pv 3) (bc (aa ar (aa ar (aa ar ab)))) rfl)
   (ag (aA (i:=5) lS.nd rfl (.inl rfl) (aN hU (pv 5) (aN BD (bj (aa (bc (aa ar (aa (ao bC (bj (aa ar (aa ar (aa ar ab)))) (T.bw.c (bL T).up hr (bK T) (aa (pv 0) (aa ad ab)))) ab))) ab)) ad))))
   aO)
  (ag (aD (aN fz (bc (aa ar (aa (pv 3) (aa (pv 4) ab)))) (ao bC (pv 5) (T.bw.c (bL T).up hr (bK T) (aa (pv 0) (aa (bh cT rfl T.cr cE (aa (pv 5) ab)) ab)))))))))))))),5]
 k_ne
 refine#[111,kl,1,.inl (SqL.of ek),p,k,(ks.length:Int),(by rw[<- kle];rfl),TT,33,λr H1 r0 r1 B1 T1=>?_];obtain⟨kd,hkd,hm⟩:=ji (ss:=ks) r0 r1;have mk:=kw kd hm;refine#[kl,_,4,SqL.of (B1 _ _ nk ek),hkd,5]
 try dsimp only[cL]
 k_ne
 refine#[1015];refine ite2 (λc=>?_) (λ_=>?_)
 .exfalso;have c':=of_decide_eq_true c;injection c' with c'
  rw[c'] at mk;exact absurd mk (by lia)
 refine#[111,p,k+1,(5),0,T1,37,λd0 H2 d1 d2 B2 T2=>#[45]];obtain⟨d,hd0⟩:∃d:Nat,1+d0=(d:Int):=#[(1+d0).toNat,3];have B02:=B1.trans B2;refine#[p,nl,_,ns,d,(by show [V.ref p,V.ref nl,V.int (1+d0)]=_;rw[hd0]),T2,3,N0.but TT B02,33,λwv y k3 H3 B3 T3 hk3 W3 ok3 y3=>?_];have B03:=B02.trans B3;have py:plain y:=#[ok3,3]
 k_ne
 refine#[sz2,λt4 ht4=>?_];ext ht4 H4 S4 e4;refine#[sz1,λl5 hl5=>?_];have n5:l5≠p:=a8 ((T3.same S4).ne hl5)
 k_ne
 ext hl5 H5 S5 e5;have S35:=S4.trans S5;have tv5:TnV H5 kd (.ref t4):=#[t4,"none",.non,0,S5 _ _ e4,Nz kd mk,.none]
 try dsimp only[cL]
 k_ne
 refine zb (fun σ' H'=>Ex2 λsl us=>σ'=[some (.ref p),some (.ref nl),some (.ref kl),some (.str kd),some wv,some (.ref sl)]/\H' sl=some (.lst us)/\sl≠p/\us≠[]/\us.length<=3/\(∀u∈us,TnV H' kd u)/\Same H3 H') ?_ ?_
 case refine_2 =>
  intro R hR;refine#[1,sz4,λtp htp=>#[tp,1,.inr (SqT.of aB),0015]];have S6:=aU htp (.tup [.str "leave",.str "hurt",.str "gain",.str "lack"]);generalize upd H5 tp (.tup [.str "leave",.str "hurt",.str "gain",.str "lack"])=H6 at *;refine ite2 (λc=>?_) (λc=>?_)
  .have m:=sj (ss:=["leave","hurt","gain","lack"]).mp c;refine#[1,sz2,λta hta=>?_];ext hta H7 S7 e7;refine#[sz2,λtb htb=>?_];ext htb H8 S8 e8;refine#[sz2,λl9 hl9=>?_];ext hl9 H9 S9 e9;have S59:=S6.trans (S7.trans (S8.trans S9));refine#[l5,l9,4,S59 _ _ e5,e9,sz3,λc hc=>?_];have ncp:c≠p:=a8 ((T3.same (S35.trans S59)).ne hc);ext hc H10 S10 e10;refine hR _ _ #[c,1,e10,ncp,by simp,by show 3<=3;decide,λu hu=>?_,S35.trans (S59.trans S10)];have hh:TurnOk "here" .non:=.here;have mh:=LM kd mk m
   rcases bM.mp hu with z|z
   .rw[aX.mp z];exact tv5.kp (Kp.same (S59.trans S10))
   .rcases aM.mp z with z|z
    .rw[z];exact#[ta,"here",.non,0,(S8.trans (S9.trans S10)) _ _ e7,mh,hh]
    .rw[aX.mp z];exact#[tb,"here",.non,0,(S9.trans S10) _ _ e8,mh,hh]
  .refine hR _ _ #[l5,1,S6 _ _ e5,n5,by simp,by show 1<=3;decide,λu hu=>?_,S35.trans S6];rw[aX.mp hu];exact tv5.kp (Kp.same S6)
 rintro σa Ha ⟨sa,ua,rfl,ea,nsa,una,ula,tva,Sa⟩;have Ta:=T3.same Sa;have Ba:=B03.trans (But.same Sa);have Wa:=W3.same Sa
 try dsimp only[cL]
 k_ne
 refine zb (fun σ' H'=>Ex3 λsl us (k':Int)=>σ'=[some (.ref p),some (.ref nl),some (.ref kl),some (.str kd),some wv,some (.ref sl)]/\H' sl=some (.lst us)/\sl≠p/\us≠[]/\us.length<=5/\(∀u∈us,TnV H' kd u)/\But p Ha H'/\Tk K H' p k'/\k'<=k3+2) ?_ ?_
 case refine_2 =>
  intro R hR;refine#[1,sz4,λtp htp=>#[tp,1,.inr (SqT.of aB),0015]];have S6:=aU htp (.tup [.str "hurt",.str "lose",.str "score",.str "draw"]);generalize upd Ha tp (.tup [.str "hurt",.str "lose",.str "score",.str "draw"])=H6 at *;refine ite2 (λc=>?_) (λc=>?_)
  .have m:=sj (ss:=["hurt","lose","score","draw"]).mp c;refine#[1,sz2,λta hta=>?_];ext hta H7 S7 e7;refine#[1,p,1,(Ta.same S6).same S7,3,λfi k8 H8 hfi B8 T8 hk8=>?_];refine#[sz2,λtb htb=>?_];ext htb H9 S9 e9;refine#[sz2,λl10 hl10=>?_];ext hl10 H10 S10 e10;have B610:But p H6 H10:=(But.same S7).trans (B8.trans (But.same (S9.trans S10)));have kpx:=Kp.but (Ta.same S6) B610;have ea10:=B610 _ _ nsa (S6 _ _ ea);refine#[sa,l10,4,ea10,e10,small (by show ua.length+2<=1000;lk),λc hc=>?_];have T10:=T8.same (S9.trans S10);have ncp:c≠p:=a8 (T10.ne hc);ext hc H11 S11 e11;refine hR _ _ #[c,_,k8,0,e11,ncp,by simp,by rw[aS];show ua.length+2<=5;lk,λu hu=>?_,((But.same S6).trans B610).trans (But.same S11),T10.same S11,hk8]
   rcases bM.mp hu with z|z
   .exact (tva u z).kp ((Kp.same S6).trans (kpx.trans (Kp.same S11)))
   .rcases aM.mp z with z|z
    .rw[z];have e7':=(Kp.but ((Ta.same S6).same S7) B8).t e7;exact#[ta,"less",.num 1,0,(S9.trans (S10.trans S11)) _ _ e7',vz kd mk "less" (by simp) m,.less (by decide)]
    .rw[aX.mp z];exact#[tb,"more",.num fi,0,(S10.trans S11) _ _ e9,vz kd mk "more" (by simp) m,.more hfi]
  .exact hR _ _ #[sa,ua,k3,0,S6 _ _ ea,nsa,una,3,λu hu=>(tva u hu).kp (Kp.same S6),But.same S6,Ta.same S6,3]
 rintro σb Hb ⟨sb,ub,kb,rfl,eb,nsb,unb,ulb,tvb,Bab,Tb,hkb⟩;have Wb:=Wa.but Ta Bab
 try dsimp only[cL]
 k_ne
 refine zb (fun σ' H'=>Ex3 λsl us (k':Int)=>σ'=[some (.ref p),some (.ref nl),some (.ref kl),some (.str kd),some wv,some (.ref sl)]/\H' sl=some (.lst us)/\sl≠p/\us≠[]/\us.length<=7/\(∀u∈us,TnV H' kd u)/\But p Hb H'/\Tk K H' p k'/\k'<=k3+3) ?_ ?_
 case refine_2 =>
  intro R hR;refine#[1,sz3,λtp htp=>#[tp,1,.inr (SqT.of aB),0015]];have S6:=aU htp (.tup [.str "lose",.str "score",.str "draw"]);generalize upd Hb tp (.tup [.str "lose",.str "score",.str "draw"])=H6 at *;refine ite2 (λc=>?_) (λc=>?_)
  .have m:=sj (ss:=["lose","score","draw"]).mp c;refine#[1,sz3,λl7 hl7=>?_];have n7:l7≠p:=a8 ((Tb.same S6).ne hl7);ext hl7 H7 S7 e7;refine#[1,p,_,(3),0,(Tb.same S6).same S7,37,λr8 H8 r80 r81 B8 T8=>?_];obtain⟨x,hat,hx⟩:=ji (ss:=zM) r80 r81;refine#[l7,_,4,SqL.of (B8 _ _ n7 e7),hat,sz2,λtb htb=>?_];ext htb H9 S9 e9;refine#[sz1,λl10 hl10=>?_];ext hl10 H10 S10 e10;refine#[l10,4,e10,(by decide),(by decide),(by show 1*(2:Int).toNat<=aE;decide),λl11 hl11=>?_];ext hl11 H11 S11 e11;have B611:But p H6 H11:=(But.same S7).trans (B8.trans (But.same (S9.trans (S10.trans S11))));have kpx:=Kp.but (Tb.same S6) B611;have eb11:=B611 _ _ nsb (S6 _ _ eb);refine#[sb,l11,4,eb11,e11,small (by show ub.length+2<=1000;lk),λc hc=>?_];have T11:=T8.same (S9.trans (S10.trans S11));have ncp:c≠p:=a8 (T11.ne hc);ext hc H12 S12 e12;refine hR _ _ #[c,_,1,e12,ncp,by simp[unb],by rw[aS];show ub.length+2<=7;lk,λu hu=>?_,((But.same S6).trans B611).trans (But.same S12),T11.same S12,3]
   rcases bM.mp hu with z|z
   .exact (tvb u z).kp ((Kp.same S6).trans (kpx.trans (Kp.same S12)))
   .have z':u∈[V.ref tb,V.ref tb]:=z;have eu:u=V.ref tb:=(by simpa using z');rw[eu];exact#[tb,"as",.name x,0,(S10.trans (S11.trans S12)) _ _ e9,NQ kd mk m,.as hx]
  .exact hR _ _ #[sb,ub,kb,0,S6 _ _ eb,nsb,unb,3,λu hu=>(tvb u hu).kp (Kp.same S6),But.same S6,Tb.same S6,3]
 rintro σc Hc ⟨sc,uc,kc,rfl,ec,nsc,unc,ulc,tvc,Bbc,Tc,hkc⟩;have Wc:=Wb.but Tb Bbc;have ul1:1<=uc.length:=LK.mpr unc;refine#[11,sz3,λt1 ht1=>?_];ext ht1 Hd Sd ed;have ec':=Sd _ _ ec;refine#[111,sc,1,.inl (SqL.of ec'),p,_,1,Tc.same Sd,33,λr He r0 r1 Be Te=>?_];obtain⟨v,hv,hmv⟩:=gF (xs:=uc) r0 r1;obtain⟨ta,x,z,rfl,eta,hx,hz⟩:=(tvc v hmv).kp ((Kp.same Sd).trans (Kp.but (Tc.same Sd) Be));refine#[sc,_,4,SqL.of (Be _ _ nsc ec'),hv,5];have ed':=(Kp.but (Tc.same Sd) Be).t ed;refine#[t1,ta,4,SqT.of ed',SqT.of eta,dS _ _,sz5,(λe=>by cases e),λ_ c hc=>?_];ext hc Hf Sf ef;exact q (.ref c) (.instead kd y x z) _ Hf (((Ba.trans Bab).trans Bbc).trans ((But.same Sd).trans (Be.trans (But.same Sf)))) (Te.same Sf) (by lk) #[c,wv,0,ef,((Wc.same Sd).but (Tc.same Sd) Be).same Sf,mk,py,hx,hz] rfl
theorem FQ (kd:Str)(y:Wh)(d:Deed):aj " " ["when",kd,whT y,"do",eI d]=bF (.wen kd y d):=tG kd y d
theorem Nh (kd:Str)(y:Wh)(u:Str)(z:Wv):aj " " ([("instead":Str),kd,whT y,"do",u]++z.words)=bF (.instead kd y u z):=Ut kd y u z
theorem UP (T:Tx K mg):FnOk P w K mg base CX0 13 T.qA.f T.qA.d Hn Jk:=by
 refine T.qA.ok Qz ?_;rintro f c A o s H vs Q E hr ⟨v,r,rfl,hR,q⟩ X;refine#[_,(ae (aJ (aL a6 (ao aP (pv 0) ad) ar (aH _))
   (ag (aD (bR eM gk gq im ar (aa (bj (aa ar (aa (ao aP (pv 0) ad) (aa (T.fk.c (xD T 9).up hr (wP T) (aa (ao aP (pv 0) ad) ab)) (aa ar (aa (T.qV.c (UQ T) hr (UI T) (aa (ao aP (pv 0) ad) ab)) ab)))))) ab))))
   aO)
  (ae (aJ (aL a6 (ao aP (pv 0) ad) ar (aH _))
   (ag (aD (aN oB (aN oB (aN oB ar (ao aP (pv 0) ad)) ar) (T.fk.c (xD T 9).up hr (wP T) (aa (ao aP (pv 0) ad) ab)))))
   aO)
  (ae (aA (i:=1) Qz.nd rfl (.inl rfl) (bj (aa ar (aa (ao aP (pv 0) ad) (aa (T.fk.c (xD T 9).up hr (wP T) (aa (ao aP (pv 0) ad) ab)) (aa ar (aa (ao aP (pv 0) ad) ab)))))))
  (ae (aJ (aL wR (ao aP (pv 0) ad) gP (aH _))
   (ag (cz (bR cO fQ fC fJ (pv 1) (aa (bV mo rfl T.fc gK (aa (ao aP (pv 0) ad) ab)) ab))))
   aO)
  (ag (aD (bR eM gk gq im ar (aa (pv 1) ab)))))))),5]
 cases r with
 | may c d=>exact hR.elim
 | wen kd y d =>
  obtain⟨a,x,dv,rfl,eA,W,D,hkd,py⟩:=hR;have w1:(whT y).length<=200:=jg py.1 py.2;have k8:kd.length<=8:=(dL (l:=nN) (by lia) hkd).1.2.2;have dl:(eI d).length<=250:=by
   obtain⟨_,_,_,_,_,_,_,dok⟩:=D;exact Mh dok
  have l1:(" ":Str).length=1:=rfl;have lw:("when":Str).length=4:=by decide
  have ld:("do":Str).length=2:=by decide
  k_ne
  refine#[1,a,_,4,SqT.of eA,901,iteT ?_];refine#[01,a,_,4,SqT.of eA,aI (j:=1) rfl,1,a,_,4,SqT.of eA,aI (j:=2) rfl,x,y,0,W,py.1,b8 (kI y) py.2,py.2,λH1 S1=>?_];refine#[1,a,_,4,SqT.of (S1 _ _ eA),aI (j:=3) rfl,dv,d,0,D.kp (Kp.same S1),λH2 S2=>#[sz5,λl hl=>?_]];ext hl H3 S3 e3;refine#[" ",l,["when",kd,whT y,"do",eI d],00,SqL.of e3,55]
  .simp only[bp,gU,d9,ou,aK,iq];lk
  .rw[FQ];exact q H3 (S1.trans (S2.trans S3))
 | hold u hv y =>
  obtain⟨a,x,rfl,eA,W,py,hok⟩:=hR;have w1:(whT y).length<=200:=jg py.1 py.2;have hl:=Ml hok;have l5:("hold ":Str).length=5:=by lia
  have l1:(" ":Str).length=1:=rfl
  k_ne
  refine#[1,a,_,4,SqT.of eA,906];refine#[1,a,_,4,SqT.of eA,901,iteT ?_];refine#[1,a,_,4,SqT.of eA,aI (j:=1) rfl,4,small (by lk),4,small (by rw[len_app];lk),1,a,_,4,SqT.of eA,aI (j:=2) rfl,x,y,0,W,py.1,b8 (kI y) py.2,py.2,λH1 S1=>?_];refine#[4,small (by rw[len_app,len_app];lk),5];rw[show ("hold ":Str)++J (u::hv.words) ++ " " ++ whT y=bF (.hold u hv y) from MJ];exact q H1 S1
 | instead kd y u z =>
  obtain⟨a,x,rfl,eA,W,hkd,py,hu,hz⟩:=hR;have w1:(whT y).length<=200:=jg py.1 py.2;have k8:kd.length<=8:=(dL (l:=cQ) (by lia) hkd).1.2.2;have u8:u.length<=8:=hz.word.1.2.2;have l1:(" ":Str).length=1:=rfl;have li:("instead":Str).length=7:=by decide
  have ld:("do":Str).length=2:=by decide
  k_ne
  refine#[1,a,_,4,SqT.of eA,906];refine#[1,a,_,4,SqT.of eA,906];refine#[1,a,_,4,SqT.of eA,aI (j:=1) rfl,1,a,_,4,SqT.of eA,aI (j:=2) rfl,x,y,0,W,py.1,b8 (kI y) py.2,py.2,λH1 S1=>?_];refine#[1,a,_,4,SqT.of (S1 _ _ eA),aI (j:=3) rfl,sz5,λl hl=>?_]
  k_ne
  ext hl H2 S2 e2;have eA2:=(S1.trans S2) _ _ eA;have fin:∀{H3:Hp} (ws:List Str),Same H H3->H3 l=some (.lst (([("instead":Str),kd,whT y,"do",u]++ws).map V.str))->ws=z.words->(∀x∈ws,x.length<=8)->ws.length<=1->Ex3 λsep a ys=>V.str " " = .str sep/\[V.ref l]=[.ref a]/\SqL K H3 a (ys.map V.str)/\(ys.map (·.length)).sum+ys.length*sep.length<=16777216/\Q (.str (aj sep ys)) H3:=λ{H3} ws S3 e3 ew h8 h1=>by
   refine#[" ",l,[("instead":Str),kd,whT y,"do",u]++ws,00,SqL.of e3,55]
   .have z:=gY (us:=ws) (m:=8) h8;simp only[bE,zx,aS,bp,gU,d9,ou,aK,iq];rw[l1,Nat.mul_one];lk
   .rw[ew,Nh];exact q H3 S3
  have hw8:∀x∈z.words,x.length<=8:=λx hx=>(hz.words x hx).1.2.2;cases z with
  | non =>
   k_ne
   refine#[1,a,_,4,SqT.of eA2,aI (j:=4) rfl,06];exact#[01,fin [] (S1.trans S2) e2 rfl (by simp) (by decide)]
  | name n =>
   k_ne
   refine#[1,a,_,4,SqT.of eA2,aI (j:=4) rfl,01,iteT ?_];refine#[1,.inl #[0,_,SqL.of e2],1,a,_,4,SqT.of eA2,aI (j:=4) rfl,5];refine qC (u:=n) (.inl rfl) _ _ ?_;refine#[l,4,e2,df (by show 5<=1000;decide),5];exact#[01,fin [n] (fg (S1.trans S2) (none_of S1 hl) _) aB rfl hw8 (az 1)]
  | num i =>
   have hi:i<1000:=by cases hz<;>assumption
   k_ne
   refine#[1,a,_,4,SqT.of eA2,aI (j:=4) rfl,01,iteT ?_];refine#[1,.inl #[0,_,SqL.of e2],1,a,_,4,SqT.of eA2,aI (j:=4) rfl,5];refine qC (u:=(toString (i:Int):Str)) (.inr #[i,hi,00]) _ _ ?_;refine#[l,4,e2,df (by show 5<=1000;decide),5];exact#[01,fin [(toString (i:Int):Str)] (fg (S1.trans S2) (none_of S1 hl) _) aB rfl hw8 (az 1)]
theorem uN {ns ms zs:List Str}(hs:ms.Sublist ns)(hl:ns.length=4)(hok:∀n∈ns,cC n)(hnd:ns.Nodup)(hp:zs.Perm ms)(so:cX zs=true):Marks zs where
 ok:=λm hm=>hok m (hs.subset (hp.mem_iff.mp hm))
 nd:=hp.nodup_iff.mpr (hs.nodup hnd)
 so:=so
 le:=by
  have a:=hs.length_le;have b:=hp.length_eq;lk
theorem HU {ms:List Str}(h:∀m∈ms,cC m):dO (.tuple (ms.map .str))=true:=by
 unfold dO;rw[fR,nL ms (λx hx=>mK (h x hx)),gm,nX];rfl
theorem OL (zs:List Str):fX (.tuple (zs.map .str)) (.tuple [])=decide (zs=[]):=by
 cases zs with
 | nil=>simp[fX,jE]
 | cons x r=>simp[fX,jE]
noncomputable def F6 (K:ah):Sp:=λvs H Q _=>Ex7 λp nl rl (k:Int) (ns:List Str) us (rs:List Rule)=>vs=[.ref p,.ref nl,.ref rl]/\Tk K H p k/\k<=600000/\N4 H nl ns/\H rl=some (.lst us)/\rl≠p/\All2 (R28 H) us rs/\rs.length<=3/\∀l m (c:Crd) (k':Int) H',But p H H'->Tk K H' p k'->k'<=k+8->H l=none->H' l=some (.lst [.str c.text,.ref m,.int (c.force:Int),.ref rl,.int (c.cost:Int)])->H' m=some (.tup (sM c.marks))->c.ok->c.rules=rs->c.marks.length<=4->Q (.ref l) H'
theorem Gh (T:Tx K mg):FnOk P w K mg base CX0 14 T.qm.f T.qm.d J7 (F6 K):=by
 refine T.qm.ok lR ?_;rintro f c A o s H vs Q E hr ⟨p,nl,rl,k,ns,us,rs,rfl,TT,hk,N0,er,nrp,al,r3,q⟩ X;refine#[_,(ae (aA (i:=3) lR.nd rfl (.inl rfl) (bV fF rfl T.cG db (aa (bh QK rfl T.jk pC (aa (cB (own:=["_law_name"]) (cap:=["_law_pen"]) rfl (bI.chk rfl rfl) (.cons (j:=0) rfl (.inl rfl) (.inl rfl) .nil) (cI (pv 1)) (λ_ _ _ _=>(aZ (i:=0) (show bG (["_law_name","_law_pen"]:List Str) by lia) rfl (.inl rfl))) (λ_ _ _ _=>iK (aL a6 (T.bw.c (bL T).up hr (bK T) (aa (pv 1) (aa ad ab))) ad (aH _))) (λ_ _ _ _=>by exact (pv 0))) ab)) ab)))
  (ae (aA (i:=4) lR.nd rfl (.inl rfl) (T.kP.c (zk T).up hr (zR T) (aa (pv 0) ab)))
  (ae (aA (i:=5) lR.nd rfl (.inl rfl) (T.bw.c (bL T).up hr (bK T) (aa (pv 0) (aa ad ab))))
  (ae (aA (i:=6) lR.nd rfl (.inl rfl) (bR eM gk gq uM ar (aa (pv 3) ab)))
  (ae (aJ (aL (Dh hr.units) (pv 3) (bc ab) (aH _))
   (ag (aA (i:=6) lR.nd rfl (.inl rfl) ar))
   aO)
  (ae (aA (i:=7) lR.nd rfl (.inl rfl) (bR eM gk gq im ar (aa (bj (aa (ao bC (pv 1) (T.bw.c (bL T).up hr (bK T) (aa (pv 0) (aa ad ab)))) (aa (bV uI rfl T.fc gK (aa (pv 4) ab)) (aa (bV uI rfl T.fc gK (aa (pv 5) ab)) (aa (pv 6) ab))))) ab)))
  (ae (aA (i:=8) lR.nd rfl (.inl rfl) (bR eM gk gq im ar (aa (aN hU (bj (aa (pv 7) ab)) (cB (own:=["_law_rule"]) (cap:=[]) rfl (bI.chk rfl rfl) .nil (cI (pv 2)) (λ_ _ _ _=>(aZ (i:=0) (show bG (["_law_rule"]:List Str) by lia) rfl (.inl rfl))) (λ_ _ _ _=>cF) (λ_ _ _ _=>by exact (T.qA.c (UP T) hr (Vo T) (aa (pv 0) ab))))) ab)))
  (ag (aD (bj (aa (pv 8) (aa (pv 3) (aa (pv 5) (aa (pv 2) (aa (pv 4) ab))))))))))))))),5]
 kd_p
 refine#[1,nl,0,#[_,SqL.of N0.at_],5];refine cZ (xs:=ns.map V.str) (λi ys H'=>Ex2 λ(ms:List Str) (k':Int)=>ys=ms.map V.str/\ms.Sublist (ns.take i)/\But p H H'/\Tk K H' p k'/\k'<=k+i/\i<=4) (λi ys H' #[ms,k',_,_,B,_]=>SqL.of (N0.but TT B).at_) #[[],k,0,Uc _,But.refl p H,TT,33] ?_ ?_ ?_
 .rintro i ys H' ⟨ms,k',rfl,hs,_,_,_,hi⟩;rw[aw];have:=hs.length_le;rw[bQ] at this;exact small (by lk)
 .rintro i v ys H' hv ⟨ms,k',rfl,hs,B',T',hk',_⟩;rw[bH] at hv;obtain⟨u,hu,rfl⟩:=ko.mp hv;have hi4:i<4:=by rw[<- N0.len];exact (br.mp hu).1
  refine#[01,p,k',(3),0,T',37,λr H5 a5 b5 B5 T5=>#[015]];refine ite2 (λ_=>?_) (λ_=>?_)
  .refine#[1,ms++[u],k'+1,by rw[bE];rfl,5,B'.trans B5,T5,33];rw[bU,hu];exact hs.append (Qc _)
  .refine#[ms,k'+1,05,B'.trans B5,T5,33];rw[bU,hu];exact hs.trans (Tq _ _)
 rintro ys H1 ⟨ms,k1,rfl,hs,B1,T1,hk1,_⟩ b hb;rw[aw,N0.len] at hk1;have ml4:=hs.length_le;rw[aw,bX (az _)] at hs;ext hb H2 S2 e2;have ml:=hs.length_le;rw[N0.len] at ml;refine#[b,ms,0,SqL.of e2,3,λso zs hso pz sz=>?_];ext hso H3 S3 e3;have MK:=uN hs N0.len N0.ok N0.nd pz sz;have zl:zs.length<=4:=by rw[pz.length_eq];exact ml
 refine#[so,1,.inl #[SqL.of e3,λtm htm=>?_]]
 kd_p
 ext htm H4 S4 e4;have S14:=S2.trans (S3.trans S4);have T4:=T1.same S14;have B4:=B1.trans (But.same S14)
 kd_p
 refine#[1,p,k1,0,T4,3,λco k5 H5 hco B5 T5 hk5=>?_]
 kd_p
 refine#[1,p,k5,(5),0,T5,37,λfo0 H6 f0 f1 B6 T6=>?_];obtain⟨fo,rfl⟩:∃f:Nat,fo0=(f:Int):=#[fo0.toNat,3];have hfo:fo<1000:=by lk
 have B46:=B5.trans B6;have e6:=(Kp.but T4 B46).t e4;have zz:(zs.map (·.length)).sum+zs.length*(",":Str).length<=16777216:=by
  have z:=gY (us:=zs) (m:=8) λu hu=>(MK.ok u hu).2.1;have l1:(",":Str).length=1:=rfl;rw[l1];lk
 kd_p
 refine#[01,",",tm,zs,00,SqT.of e6,zz,5]
 kd_p
 refine#[1,sz0,λem hem=>?_];ext hem H7 S7 e7;refine#[.tuple (zs.map .str),.tuple [],.tup (SqT.of (S7 _ _ e6)) (jU _),.tup (SqT.of e7) .nil,HU MK.ok,(by unfold dO;rw[fR,jh,gm,gB];rfl),15];rw[OL];refine' m6 (pre:=λv Hs=>Hs=H7/\v=V.str (cU zs)) (λkk=>?g1) ?k1
 case g1 =>
  refine ite2 (λc=>?a) (λc=>?b)
  case b =>
   have zn:aj "," zs=cU zs:=by
    cases zs with
    | nil=>exact absurd (decide_eq_true rfl) c
    | cons x r=>rfl
   obtain⟨v4,hv4⟩:∃x,x=V.str (aj "," zs):=#[1];obtain⟨Hz,hz⟩:∃h,h=H7:=#[1];rw[<- hv4,<- hz];exact kk v4 Hz #[hz,by rw[hv4,zn]]
  case a =>
   have z0:zs=[]:=of_decide_eq_true c;exact kk (.str "-") H7 #[0,by rw[z0];rfl]
 case k1 =>
 rintro _ _ ⟨rfl,rfl⟩;have T7:=T6.same S7;have B07:=B4.trans (B46.trans (But.same S7));refine#[011,p,_,(4),0,T7,37,λr H8 r0 r1 B8 T8=>?_];have B08:=B07.trans B8;have N8:=N0.but TT B08;obtain⟨nm,hnm,hm⟩:=ji (ss:=ns) r0 (by rw[N0.len];exact r1);have nok:=N0.ok nm hm;refine#[nl,_,4,SqL.of N8.at_,hnm,11,(by rw[mM];exact ng _ hco),11,(by rw[mM];exact ng _ hfo),1,sz4,λl9 hl9=>?_];ext hl9 H9 S9 e9;have mt:=(uW MK).2;have n8:=nok.2.1;have c8:=(gf hco).2.2;have f8:=(gf hfo).2.2;have l1:(" ":Str).length=1:=rfl;refine#[" ",l9,(Crd.mk nm co fo zs rs).head,00,SqL.of e9,55]
 .show ([nm,(toString (co:Int):Str),(toString (fo:Int):Str),cU zs].map (·.length)).sum+4*_<=_;simp only[bp,gU,d9,ou];lk
 have cok:(Crd.mk nm co fo zs rs).ok:=#[nok,hco,hfo,MK,(λr hr=>by
  obtain⟨v,_,z⟩:=al.mem2 hr;exact z.ok),r3]
 kd_p
 refine#[01,sz1,λl10 hl10=>?_];ext hl10 H10 S10 e10;have S810:=S9.trans S10;have B010:=B08.trans (But.same S810);have er10:=B010 _ _ nrp er;have al10:All2 (R28 H10) us rs:=al.imp λz=>z.kp (Kp.but TT B010);have ul:=al.len;refine#[1,rl,0,#[_,SqL.of er10],5];refine cZ (xs:=us) (λi ys H'=>Same H10 H'/\ys=(rs.take i).map λr=>V.str (bF r)) (λi ys H' z=>SqL.of (z.1 _ _ er10)) #[Same.refl _,0] ?_ ?_ ?_
 .rintro i ys H' ⟨_,rfl⟩;rw[aw,bQ];exact small (by lk)
 .rintro i v ys H' hv ⟨S,rfl⟩;obtain⟨r,hr,z⟩:=al10.get hv;refine#[01,v,r,0,z.kp (Kp.same S),λH'' S''=>#[S.trans S'',5]];rw[bU,hr,dF,bE];rfl
 rintro ys H11 ⟨S11,rfl⟩ l12 hl12;rw[ul,bX (az _)];ext hl12 H12 S12 e12;refine#[l10,l12,4,(S11.trans S12) _ _ e10,e12,5,λl13 hl13=>?_]
 .rw[aw];exact small (by show 1+rs.length<=1000;lk)
 ext hl13 H13 S13 e13;have e13':H13 l13=some (.lst ((aj " " (Crd.mk nm co fo zs rs).head::rs.map bF).map V.str)):=by
  rw[e13,bp,cW];rfl
 have hh:=Crd.zr cok;refine#[" / ",l13,10,SqL.of e13',55]
 .have z:=gY (us:=aj " " (Crd.mk nm co fo zs rs).head::rs.map bF) (m:=450) λu hu=>by
   rcases aM.mp hu with z|z
   .rw[z];lk
   .obtain⟨r,hr,rfl⟩:=bT.mp z;exact AA (cok.rules r hr)
  have l3:(" / ":Str).length=3:=by decide
  rw[aK,aw] at z;rw[aK,aw,l3];lk
 have S813:=S810.trans (S11.trans (S12.trans S13));refine#[11111,sz5,λl14 hl14=>?_];have B013:=B08.trans (But.same S813);have hl0:H l14=none:=by
  cases e:H l14 with
  | none=>rfl
  | some o =>
   by_cases z:l14=p
   .have T13:=T8.same S813;rw[z] at hl14;obtain⟨a,e2⟩:=T13.two;rw[e2] at hl14;cases hl14
   .have:=B013 _ _ z e;rw[this] at hl14;cases hl14
 ext hl14 H14 S14' e14;have S814:=S813.trans S14';refine q l14 tm (Crd.mk nm co fo zs rs) _ H14 (B08.trans (But.same S814)) (T8.same S814) (by lk) hl0 e14 ?_ cok rfl zl;exact S814 _ _ ((Kp.but T7 B8).t (S7 _ _ e6))
theorem w6 (K:ah):ce K (.type "str") (.type "bool")=some false:=by kernel_rfl
theorem BM (K:ah):ce K (.type "str") (.type "tuple")=some false:=by kernel_rfl
theorem JN (K:ah):ce K (.type "str") (.type "list")=some false:=by kernel_rfl
theorem OJ (K:ah):ce K (.type "str") (.type "int")=some false:=by kernel_rfl
theorem xx (K:ah):ce K (.type "int") (.type "bool")=some false:=by kernel_rfl
theorem MO (K:ah):ce K (.type "int") (.type "tuple")=some false:=by kernel_rfl
theorem ON (K:ah):ce K (.type "int") (.type "list")=some false:=by kernel_rfl
theorem sI (K:ah):ce K (.type "tuple") (.type "bool")=some false:=by kernel_rfl
theorem yE (K:ah):ce K (.type "tuple") (.type "list")=some false:=by kernel_rfl
theorem ka_t (K:ah):GD K (.type "tuple") (["list","tuple"].map Value.type)=some true:=by kernel_rfl
structure TOk (np nc:Nat)(t:Tab):Prop where
 pts:t.pts.length=np
 scs:t.scs.length=np
 gone:t.gone.length=np
 decks:t.decks.length=np
 hands:t.hands.length=np
 marks:t.marks.length=nc
 wnds:t.wnds.length=nc
 ly:t.lying.length<=16
 hp:t.heap.length<=16
 ms:∀m∈t.marks,m.length<=40
 ds:∀d∈t.decks,d.length<=16
 hs:∀d∈t.hands,d.length<=16
 np4:np<=4
 nc16:nc<=16
theorem uU (K:ah):ce K (.type "list") (.type "bool")=some false:=by kernel_rfl
theorem G5 (K:ah):ce K (.type "list") (.type "tuple")=some false:=by kernel_rfl
theorem ka_l (K:ah):GD K (.type "list") (["list","tuple"].map Value.type)=some true:=by kernel_rfl
mutual
inductive AL (H:Hp):Nat->V->V->Prop where
 | str {n:Nat} (u:Str):AL H n (.str u) (.str u)
 | bl {n:Nat} (b:Bool):AL H n (.bl b) (.bl b)
 | int {n:Nat} (i:Int):AL H n (.int i) (.int i)
 | tup {n:Nat} {a b:Addr} {xs ys:List V}:H a=some (.tup xs)->H b=some (.tup ys)->ys.length<=1000->ALs H n xs ys->AL H (n+1) (.ref a) (.ref b)
 | lst {n:Nat} {a b:Addr} {xs ys:List V}:H a=some (.lst xs)->H b=some (.lst ys)->ys.length<=1000->ALs H n xs ys->AL H (n+1) (.ref a) (.ref b)
inductive ALs (H:Hp):Nat->List V->List V->Prop where
 | nil {n:Nat}:ALs H n [] []
 | cons {n:Nat} {x y:V} {xs ys:List V}:AL H n x y->ALs H n xs ys->ALs H n (x::xs) (y::ys)
end
mutual
theorem AL.same {H H':Hp}(s:Same H H'):∀{n:Nat} {x y:V},AL H n x y->AL H' n x y
 | _,_,_,.str u=>.str u
 | _,_,_,.bl u=>.bl u
 | _,_,_,.int u=>.int u
 | _,_,_,.tup h g l t=>.tup (s _ _ h) (s _ _ g) l (t.same s)
 | _,_,_,.lst h g l t=>.lst (s _ _ h) (s _ _ g) l (t.same s)
theorem ALs.same {H H':Hp}(s:Same H H'):∀{n:Nat} {xs ys:List V},ALs H n xs ys->ALs H' n xs ys
 | _,_,_,.nil=>.nil
 | _,_,_,.cons h t=>.cons (h.same s) (t.same s)
end
theorem ALs.len {H:Hp}{n:Nat}:∀{xs ys:List V},ALs H n xs ys->xs.length=ys.length
 | _,_,.nil=>rfl
 | _,_,.cons _ t=>by rw[aK,aK,t.len]
theorem ALs.get {H:Hp}{n:Nat}:∀{xs ys:List V} {i:Nat},ALs H n xs ys->i<ys.length->Ex2 λx y=>xs[i]?=some x/\ys[i]?=some y/\AL H n x y
 | _,_,i,.nil,h=>absurd h (AS i)
 | _,_,0,.cons h t,_=>#[4,h]
 | _,_,i+1,.cons h t,l=>by
  obtain⟨x,y,e1,e2,z⟩:=t.get (i:=i) (by rw[aK] at l;lk);exact#[x,y,by rw[dX];exact e1,by rw[dX];exact e2,z]
theorem nJ {H:Hp}{n:Nat}:∀xs:List Str,ALs H n (sM xs) (sM xs)
 | []=>.nil
 | x::r=>.cons (.str x) (nJ r)
noncomputable def tX (n:Nat):Sp:=λvs H Q _=>Ex3 λ(m:Nat) x y=>vs=[x,y]/\m<n/\AL H m x y/\∀H',Same H H'->Q (.bl true) H'
theorem CL (T:Tx K mg){n:Nat}(zdib:FnOk P w K mg base CX0 (n+2) T.fI.f T.fI.d qX (tX n)):FnOk P w K mg base CX0 (n+3) T.fI.f T.fI.d qX (tX (n+1)):=by
 refine T.fI.ok Lf ?_;rintro f c A o s H vs Q E hr ⟨m,x,y,rfl,hm,al,q⟩ X;refine#[_,(ae (aJ (PW.pt (jd (cN (bh fu rfl T.dH eF (aa (pv 1) (aa (eG (v:=.ty "bool") rfl T.mj z5 rfl) ab)))) (lO (cN (bh fu rfl T.dH eF (aa (pv 0) (aa (eG (v:=.ty "bool") rfl T.mj z5 rfl) ab)))))))
   (ag (aD (m3 (bh fu rfl T.dH eF (aa (pv 1) (aa (eG (v:=.ty "bool") rfl T.mj z5 rfl) ab))) (m3 (bh fu rfl T.dH eF (aa (pv 0) (aa (eG (v:=.ty "bool") rfl T.mj z5 rfl) ab))) (lL (eY a6 (pv 0) (pv 1) (aH _)))))))
   aO)
  (ae (aJ (PW.pt (jd (cN (bh fu rfl T.dH eF (aa (pv 1) (aa (eG (v:=.ty "tuple") rfl T.cG db rfl) ab)))) (lO (cN (bh fu rfl T.dH eF (aa (pv 1) (aa (eG (v:=.ty "list") rfl T.gZ kh rfl) ab)))))))
   (ae (aJ (PW.pt (jd (fj (cN (bh IM rfl T.dH eF (aa (pv 0) (aa (bc (aa (eG (v:=.ty "list") rfl T.gZ kh rfl) (aa (eG (v:=.ty "tuple") rfl T.cG db rfl) ab))) ab))))) (lO (aL fO (bh fu rfl T.dH eF (aa (pv 0) (aa (eG (v:=.ty "list") rfl T.gZ kh rfl) ab))) (bh fu rfl T.dH eF (aa (pv 1) (aa (eG (v:=.ty "list") rfl T.gZ kh rfl) ab))) (aH _)))))
    (ag (aD fK))
    aO)
   (ae (aJ (aL fO (bh cT rfl T.cr cE (aa (pv 0) ab)) (bh cT rfl T.cr cE (aa (pv 1) ab)) (aH _))
    (ag (aD fK))
    aO)
   (ag (aD (eY a6 (bh cT rfl T.cr cE (aa (cB (own:=["_law_k"]) (cap:=["_law_found","_law_due"]) rfl (bI.chk rfl rfl) (.cons (j:=0) rfl (.inl rfl) (.inl rfl) (.cons (j:=1) rfl (.inl rfl) (.inl rfl) .nil)) (gj rfl T.eC (aa (bh cT rfl T.cr cE (aa (pv 1) ab)) ab)) (λ_ _ _ _=>(aZ (i:=0) (show bG (["_law_k","_law_found","_law_due"]:List Str) by lia) rfl (.inl rfl))) (λ_ _ _ _=>iK (fj (cN (T.fI.c zdib hr (Al T) (aa (ao (tY K) (pv 1) (pv 0)) (aa (ao (tY K) (pv 2) (pv 0)) ab)))))) (λ_ _ _ _=>by exact (pv 0))) ab)) ad (aH _))))))
   aO)
  (ae (aJ (cN (bh fu rfl T.dH eF (aa (pv 1) (aa (eG (v:=.ty "int") rfl T.gJ boot_int rfl) ab))))
   (ag (aD (m3 (bh fu rfl T.dH eF (aa (pv 0) (aa (eG (v:=.ty "int") rfl T.gJ boot_int rfl) ab))) (lL (eY a6 (pv 0) (pv 1) (aH _))))))
   aO)
  (ae (aJ (aL kU (pv 1) gP (aH _))
   (ag (aD (eY kU (pv 0) gP (aH _))))
   aO)
  (ag (aD (m3 (bh fu rfl T.dH eF (aa (pv 0) (aa (eG (v:=.ty "str") rfl T.fc gK rfl) ab))) (lL (eY a6 (pv 0) (pv 1) (aH _)))))))))),5]
 cases al with
 | str u =>
  k_ne
  refine#[1,_,_,_,false,0,TyOf.str _,.inl #["bool",0,w6 _],1,iteF #[1,_,_,_,false,0,TyOf.str _,.inl #["bool",0,w6 _],6]];refine#[1,_,_,_,false,0,TyOf.str _,.inl #["tuple",0,BM _],1,iteF #[1,_,_,_,false,0,TyOf.str _,.inl #["list",0,JN _],6]];refine#[1,_,_,_,false,0,TyOf.str _,.inl #["int",0,OJ _],6];refine#[106];exact#[1,_,_,_,true,0,TyOf.str _,.inl #["str",00],1,iteT #[110,by rw[decide_eq_true rfl];exact q H (Same.refl _)]]
 | bl u =>
  k_ne
  refine#[1,_,_,_,true,0,TyOf.bl _,.inl #["bool",00],1,iteT (iteT ?_)];exact#[1,_,_,_,true,0,TyOf.bl _,.inl #["bool",00],1,iteT #[1,_,_,_,true,0,TyOf.bl _,.inl #["bool",00],1,iteT #[110,by rw[decide_eq_true rfl];exact q H (Same.refl _)]]]
 | int u =>
  k_ne
  refine#[1,_,_,_,false,0,TyOf.int _,.inl #["bool",0,xx _],1,iteF #[1,_,_,_,false,0,TyOf.int _,.inl #["bool",0,xx _],6]];refine#[1,_,_,_,false,0,TyOf.int _,.inl #["tuple",0,MO _],1,iteF #[1,_,_,_,false,0,TyOf.int _,.inl #["list",0,ON _],6]];refine#[1,_,_,_,true,0,TyOf.int _,.inl #["int",00],1,iteT ?_];exact#[1,_,_,_,true,0,TyOf.int _,.inl #["int",00],1,iteT #[110,by rw[decide_eq_true rfl];exact q H (Same.refl _)]]
 | @tup m a b xs ys ea eb yl als =>
  k_ne
  refine#[1,_,_,_,false,0,TyOf.tup eb,.inl #["bool",0,sI _],1,iteF #[1,_,_,_,false,0,TyOf.tup ea,.inl #["bool",0,sI _],6]];refine#[1,_,_,_,true,0,TyOf.tup eb,.inl #["tuple",00],1,iteT (iteT ?_)]
  k_ne
  refine#[1,sz2,λt1 ht1=>?_];ext ht1 H1 S1 e1;have ea1:=S1 _ _ ea;have eb1:=S1 _ _ eb;refine#[_,t1,_,["list","tuple"],true,0,TyB.tup (SqT.of ea1),SqT.of e1,ka_t _,6];refine#[1,_,_,_,false,0,TyOf.tup ea1,.inl #["list",0,yE _],1,_,_,_,false,0,TyOf.tup eb1,.inl #["list",0,yE _],06];refine#[1,a,1,.inr (SqT.of ea1),1,b,1,.inr (SqT.of eb1),015];rw[als.len,decide_eq_true rfl];refine iteF #[1,b,1,.inr (SqT.of eb1),1335];rw[cS];refine jZ (λj zs Hx=>Same H1 Hx/\zs=[]) #[Same.refl _,0] ?_ ?_ ?_
  .rintro j zs Hx ⟨_,rfl⟩;exact ba _
  .rintro j zs Hx hj ⟨Sx,rfl⟩;obtain⟨x',y',ex,ey,al'⟩:=als.get hj;have ax:atI xs (0+(j:Int))=some x':=(by rw[lV];exact aI ex);have ay:atI ys (0+(j:Int))=some y':=(by rw[lV];exact aI ey);refine#[011,.inr (.inl #[a,_,4,SqT.of (Sx _ _ ea1),ax,5])];refine#[11,.inr (.inl #[b,_,4,SqT.of (Sx _ _ eb1),ay,5])];refine#[m,x',y',03,(al'.same S1).same Sx,λHy Sy=>#[1,iteF #[Sx.trans Sy,0]]]
  .rintro zs Hx ⟨Sx,rfl⟩ l hl;ext hl H3 S3 e3;refine#[l,1,.inl (SqL.of e3),05];have zq:=q H3 (S1.trans (Sx.trans S3));rw[<- decide_eq_true (p:=V.int ((([]:List V).length:Nat):Int)=V.int 0) rfl] at zq;exact zq
 | @lst m a b xs ys ea eb yl als =>
  k_ne
  refine#[1,_,_,_,false,0,TyOf.lst eb,.inl #["bool",0,uU _],1,iteF #[1,_,_,_,false,0,TyOf.lst ea,.inl #["bool",0,uU _],6]];refine#[1,_,_,_,false,0,TyOf.lst eb,.inl #["tuple",0,G5 _],1,iteF #[1,_,_,_,true,0,TyOf.lst eb,.inl #["list",00],1,iteT ?_]]
  k_ne
  refine#[1,sz2,λt1 ht1=>?_];ext ht1 H1 S1 e1;have ea1:=S1 _ _ ea;have eb1:=S1 _ _ eb;refine#[_,t1,_,["list","tuple"],true,0,TyB.lst (SqL.of ea1),SqT.of e1,ka_l _,6];refine#[1,_,_,_,true,0,TyOf.lst ea1,.inl #["list",00],1,_,_,_,true,0,TyOf.lst eb1,.inl #["list",00],06];refine#[1,a,1,.inl (SqL.of ea1),1,b,1,.inl (SqL.of eb1),015];rw[als.len,decide_eq_true rfl];refine iteF #[1,b,1,.inl (SqL.of eb1),1335];rw[cS];refine jZ (λj zs Hx=>Same H1 Hx/\zs=[]) #[Same.refl _,0] ?_ ?_ ?_
  .rintro j zs Hx ⟨_,rfl⟩;exact ba _
  .rintro j zs Hx hj ⟨Sx,rfl⟩;obtain⟨x',y',ex,ey,al'⟩:=als.get hj;have ax:atI xs (0+(j:Int))=some x':=(by rw[lV];exact aI ex);have ay:atI ys (0+(j:Int))=some y':=(by rw[lV];exact aI ey);refine#[011,.inl #[a,_,4,SqL.of (Sx _ _ ea1),ax,5]];refine#[11,.inl #[b,_,4,SqL.of (Sx _ _ eb1),ay,5]];refine#[m,x',y',03,(al'.same S1).same Sx,λHy Sy=>#[1,iteF #[Sx.trans Sy,0]]]
  .rintro zs Hx ⟨Sx,rfl⟩ l hl;ext hl H3 S3 e3;refine#[l,1,.inl (SqL.of e3),05];have zq:=q H3 (S1.trans (Sx.trans S3));rw[<- decide_eq_true (p:=V.int ((([]:List V).length:Nat):Int)=V.int 0) rfl] at zq;exact zq
theorem IH (T:Tx K mg):FnOk P w K mg base CX0 2 T.fI.f T.fI.d qX (tX 0):=by
 have no:∀vs H Q E,¬ tX 0 vs H Q E:=λvs H Q E h=>by
  obtain⟨m,x,y,_,hd,_⟩:=h;lk
 exact#[λvs H Q E h=>absurd h (no vs H Q E),λA outer s H args us vs Q E _ _ _ _ h=>absurd h (no vs H Q E)]
theorem Ai (T:Tx K mg):∀n:Nat,FnOk P w K mg base CX0 (n+2) T.fI.f T.fI.d qX (tX n)
 | 0=>IH T
 | n+1=>CL T (Ai T n)
noncomputable def Bo (K:ah):Sp:=λvs H Q _=>Ex3 λp (k:Int) (np:Nat)=>vs=[.ref p,.int (np:Int)]/\Tk K H p k/\k<=600000/\np<=4/\∀l b0 b1 b2 (pts scs:List Int) (gone:List Bool) (k':Int) H',But p H H'->Tk K H' p k'->k'<=k+12->H l=none->H' l=some (.lst [.ref b0,.ref b1,.ref b2])->H' b0=some (.tup (iM pts))->H' b1=some (.tup (iM scs))->H' b2=some (.tup (gone.map V.bl))->pts.length=np->scs.length=np->gone.length=np->Q (.ref l) H'
theorem Nb (T:Tx K mg):FnOk P w K mg base CX0 4 T.rA.f T.rA.d L5 (Bo K):=by
 refine T.rA.ok Er ?_;rintro f c A o s H vs Q E hr ⟨p,k,np,rfl,T0,hk,h4,q⟩ X;refine#[_,(ae (aA (i:=2) Er.nd rfl (.inl rfl) (bV fF rfl T.cG db (aa (cB (own:=["_law_k"]) (cap:=["_law_pen"]) rfl (bI.chk rfl rfl) (.cons (j:=0) rfl (.inl rfl) (.inl rfl) .nil) (gj rfl T.eC (aa (pv 1) ab)) (λ_ _ _ _=>(aZ (i:=0) (show bG (["_law_k","_law_pen"]:List Str) by lia) rfl (.inl rfl))) (λ_ _ _ _=>cF) (λ_ _ _ _=>by exact (aN jF (T.bw.c (bL T) hr (bK T) (aa (pv 1) (aa ad ab))) ad))) ab)))
  (ae (aA (i:=3) Er.nd rfl (.inl rfl) (bV fF rfl T.cG db (aa (cB (own:=["_law_k"]) (cap:=["_law_pen"]) rfl (bI.chk rfl rfl) (.cons (j:=0) rfl (.inl rfl) (.inl rfl) .nil) (gj rfl T.eC (aa (pv 1) ab)) (λ_ _ _ _=>(aZ (i:=0) (show bG (["_law_k","_law_pen"]:List Str) by lia) rfl (.inl rfl))) (λ_ _ _ _=>cF) (λ_ _ _ _=>by exact (T.bw.c (bL T) hr (bK T) (aa (pv 1) (aa ad ab))))) ab)))
  (ag (aD (bj (aa (pv 2) (aa (pv 3) (aa (bV fF rfl T.cG db (aa (cB (own:=["_law_k"]) (cap:=["_law_pen"]) rfl (bI.chk rfl rfl) (.cons (j:=0) rfl (.inl rfl) (.inl rfl) .nil) (gj rfl T.eC (aa (pv 1) ab)) (λ_ _ _ _=>(aZ (i:=0) (show bG (["_law_k","_law_pen"]:List Str) by lia) rfl (.inl rfl))) (λ_ _ _ _=>cF) (λ_ _ _ _=>by exact (eY a6 (T.bw.c (bL T) hr (bK T) (aa (pv 1) (aa ad ab))) ad (aH _)))) ab)) ab)))))))),5]
 k_ne
 refine#[1,(np:Int),0335];rw[cS];refine jZ (λj ys Hy=>Ex2 λ(zs:List Int) (k2:Int)=>ys=zs.map V.int/\zs.length=j/\But p H Hy/\Tk K Hy p k2/\k2<=k+(j:Int)/\j<=np) #[[],10,But.refl _ _,T0,3,ba _] ?_ ?_ ?_
 .rintro j ys Hy ⟨zs,k2,rfl,zl,_,_,_,hj⟩;rw[aw,zl];exact small (by lk)
 .rintro j ys Hy hj ⟨zs,k2,rfl,zl,b,Ty,hk2,_⟩;refine#[01,p,k2,(30),0,Ty,37,λx Hz x0 x1 bz Tz=>#[45]];exact#[zs++[x-4],_,by rw[bE];rfl,by rw[aS,zl];rfl,b.trans bz,Tz,3,hj]
 rintro ys H1 ⟨pts,k1,rfl,pl,B1,T1,hk1,_⟩ l1 hl1;ext hl1 H2 S2 e2;refine#[l1,1,.inl #[SqL.of e2,λb0 hb0=>?_]]
 k_ne
 ext hb0 H3 S3 e3;have B3:=B1.trans (But.same (S2.trans S3));have T3:=T1.same (S2.trans S3)
 k_ne
 refine#[1,(np:Int),0335];rw[cS];refine jZ (λj ys Hy=>Ex2 λ(zs:List Int) (k2:Int)=>ys=zs.map V.int/\zs.length=j/\But p H3 Hy/\Tk K Hy p k2/\k2<=k1+(j:Int)/\j<=np) #[[],10,But.refl _ _,T3,3,ba _] ?_ ?_ ?_
 .rintro j ys Hy ⟨zs,k2,rfl,zl,_,_,_,hj⟩;rw[aw,zl];exact small (by lk)
 .rintro j ys Hy hj ⟨zs,k2,rfl,zl,b,Ty,hk2,_⟩;refine#[01,p,k2,(50),0,Ty,37,λx Hz x0 x1 bz Tz=>?_];exact#[zs++[x],_,by rw[bE];rfl,by rw[aS,zl];rfl,b.trans bz,Tz,3,hj]
 rintro ys H4 ⟨scs,k4,rfl,sl,B4,T4,hk4,_⟩ l4 hl4;ext hl4 H5 S5 e5;refine#[l4,1,.inl #[SqL.of e5,λb1 hb1=>?_]];ext hb1 H6 S6 e6;have B46:=B4.trans (But.same (S5.trans S6));have T6:=T4.same (S5.trans S6);refine#[111,(np:Int),0335];rw[cS];refine jZ (λj ys Hy=>Ex2 λ(zs:List Bool) (k2:Int)=>ys=zs.map V.bl/\zs.length=j/\But p H6 Hy/\Tk K Hy p k2/\k2<=k4+(j:Int)/\j<=np) #[[],10,But.refl _ _,T6,3,ba _] ?_ ?_ ?_
 .rintro j ys Hy ⟨zs,k2,rfl,zl,_,_,_,hj⟩;rw[aw,zl];exact small (by lk)
 .rintro j ys Hy hj ⟨zs,k2,rfl,zl,b,Ty,hk2,_⟩;refine#[01,p,k2,(5),0,Ty,37,λx Hz x0 x1 bz Tz=>#[05]];exact#[zs++[_],_,by rw[bE];rfl,by rw[aS,zl];rfl,b.trans bz,Tz,3,hj]
 rintro ys H7 ⟨gone,k7,rfl,gl,B7,T7,hk7,_⟩ l7 hl7;ext hl7 H8 S8 e8;refine#[l7,1,.inl #[SqL.of e8,λb2 hb2=>?_]];ext hb2 H9 S9 e9;have B69:=B7.trans (But.same (S8.trans S9));have T9:=T7.same (S8.trans S9);refine#[sz3,λl hl=>?_];have nl:H l=none:=by
  cases e:H l with
  | none=>rfl
  | some o =>
   by_cases c:l=p
   .have z:=T9.ne hl;exact absurd c.symm z
   .have z:=B69 l o c (B46 l o c (B3 l o c e));rw[z] at hl;cases hl
 ext hl HA SA eA;have B6A:=B69.trans (But.same SA);have n0:b0≠p:=a8 ((T1.same S2).ne hb0);have n1:b1≠p:=a8 ((T4.same S5).ne hb1);exact q l b0 b1 b2 pts scs gone k7 HA (B3.trans (B46.trans B6A)) (T9.same SA) (by lk) nl eA (B6A _ _ n0 (B46 _ _ n0 e3)) (B6A _ _ n1 e6) (SA _ _ e9) pl sl gl
noncomputable def CT (H:Hp)(v:V)(c:Crd):Prop:=Ex5 λl m x2 x3 x4=>v = .ref l/\H l=some (.lst [.str c.text,.ref m,x2,x3,x4])/\H m=some (.tup (sM c.marks))/\c.ok
theorem CT.cok {H:Hp}{v:V}{c:Crd}(h:CT H v c):c.ok:=by
 obtain⟨l,m,x2,x3,x4,e,h1,h2,h3⟩:=h;exact h3
theorem CT.ref {H:Hp}{v:V}{c:Crd}(h:CT H v c):∃l,v = .ref l:=by
 obtain⟨l,_,_,_,_,e,_⟩:=h;exact#[l,e]
theorem CT.same {H H':Hp}(s:Same H H'){v:V}{c:Crd}(h:CT H v c):CT H' v c:=by
 obtain⟨l,m,x2,x3,x4,e,h1,h2,h3⟩:=h;exact#[l,m,x2,x3,x4,e,s _ _ h1,s _ _ h2,h3]
theorem CT.but {K:ah}{H H':Hp}{p:Addr}{k:Int}(t:Tk K H p k)(b:But p H H'){v:V}{c:Crd}(h:CT H v c):CT H' v c:=by
 obtain⟨l,m,x2,x3,x4,e,h1,h2,h3⟩:=h;refine#[l,m,x2,x3,x4,e,b _ _ (λz=>?_) h1,(Kp.but t b).t h2,h3];obtain⟨a,ep⟩:=t.two;rw[z,ep] at h1;injection h1 with h1
 injection h1 with h1
 cases h1
theorem CT.put {H:Hp}{d:Addr}{us ws:List V}(e:H d=some (.lst us))(hr:∀u∈us,∃l,u=V.ref l){v:V}{c:Crd}(h:CT H v c):CT (upd H d (.lst ws)) v c:=by
 obtain⟨l,m,x2,x3,x4,e1,h1,h2,h3⟩:=h;refine#[l,m,x2,x3,x4,e1,5,(Kp.put e).t h2,h3];rw[aF λz=>?_]
 .exact h1
 .rw[z,e] at h1;injection h1 with h1
  injection h1 with h1
  obtain⟨y,hy⟩:=hr (.str c.text) (by rw[h1];exact bb);cases hy
theorem CTs.ref {H:Hp}{vs:List V}{cs:List Crd}(h:All2 (CT H) vs cs):∀u∈vs,∃l,u=V.ref l:=λu hu=>by
 obtain⟨c,_,z⟩:=h.mem hu;exact z.ref
theorem Mb {X:Cx}{tg l:Expr}{tl:TE}(K:ah)(hl:PE X l tl)(hK:autoParam (X.K=K) aUB._auto_1):PI X tg l (vK K tl):=hK▸cI hl
noncomputable def EE (K:ah):Sp:=λvs H Q _=>Ex11 λp nl cl ol (k:Int) (np nc:Nat) (ns:List Str) cvs (cs:List Crd) (os:List Int)=>vs=[.ref p,.ref nl,.ref cl,.ref ol,.int (np:Int)]/\Tk K H p k/\k<=500000/\N4 H nl ns/\H cl=some (.lst cvs)/\All2 (CT H) cvs cs/\cs.length=nc/\nc<=16/\H ol=some (.lst (iM os))/\os.length=nc/\(∀o∈os,0<=o/\o<np)/\2<=np/\np<=4/\cl≠p/\ol≠p /\
 ∀v (t:Tab) (k':Int) H',But p H H'->Tk K H' p k'->k'<=k+150->TabT H' v t->t.marks.length=nc->t.lying.Nodup->(∀x∈t.lying,0<=x/\x<nc)->(∀m∈t.marks,Marks m)->Q v H'
theorem vP {α:Type}(xs:List α)(x:α)(i:Nat):(xs.take i++x::xs.drop i).Perm (x::xs):=by
 have h:(xs.take i++x::xs.drop i).Perm (x::(xs.take i++xs.drop i)):=List.perm_middle;rw[JA] at h;exact h
theorem sD {α:Type}{xss:List (List α)}{o:Nat}{ys:List α}(h:o<xss.length)(p:Nat):(xss.set o ys).getD p []=if p=o then ys else xss.getD p []:=by
 rw[cJ,cJ]
 split
 .rename_i e;subst e;rw[zu h];rfl
 .rename_i e;rw[xV (λz=>e z.symm)]
noncomputable def dI (ds hs:List (List Int))(ly hp:List Int)(us:List V)(ws:List Int):List (List V):=ds.map iM++(hs.map iM++[iM ly,iM hp,us,iM ws])
section
variable {ds hs:List (List Int)}{ly hp ws:List Int}{us:List V}{np:Nat}
theorem pF (h:ds.length=np){o:Nat}{d:List Int}(hd:ds[o]?=some d):(dI ds hs ly hp us ws)[o]?=some (iM d):=by
 unfold dI;rw[iU (by rw[aw];exact (br.mp hd).1),bH,hd];rfl
theorem vR (h:ds.length=np){o:Nat}{d:List Int}(hd:hs[o]?=some d):(dI ds hs ly hp us ws)[np+o]?=some (iM d):=by
 unfold dI;rw[eh (by rw[aw];lk),aw,h,wK,iU (by rw[aw];exact (br.mp hd).1),bH,hd];rfl
theorem jJ (h:ds.length=np)(h2:hs.length=np)(j:Nat):(dI ds hs ly hp us ws)[np+np+j]?=[iM ly,iM hp,us,iM ws][j]?:=by
 unfold dI;rw[eh (by rw[aw];lk),aw,eh (by rw[aw];lk),aw,h,h2]
 congr 1
 lk
theorem O3 {o:Nat}(h:o<ds.length)(d:List Int):(dI ds hs ly hp us ws).set o (iM d)=dI (ds.set o d) hs ly hp us ws:=by
 unfold dI;rw[PV _ _ (by rw[aw];exact h),AV]
theorem Cq (h:ds.length=np){o:Nat}(h2:o<hs.length)(d:List Int):(dI ds hs ly hp us ws).set (np+o) (iM d)=dI ds (hs.set o d) ly hp us ws:=by
 unfold dI;rw[K2 _ _ (by rw[aw];lk),aw,h,wK,PV _ _ (by rw[aw];exact h2),AV]
theorem ku (h:ds.length=np)(h2:hs.length=np)(j:Nat)(x:List V):(dI ds hs ly hp us ws).set (np+np+j) x=ds.map iM++(hs.map iM++[iM ly,iM hp,us,iM ws].set j x):=by
 unfold dI;rw[K2 _ _ (by rw[aw];lk),aw,K2 _ _ (by rw[aw];lk),aw,h,h2]
 congr 3
 lk
end
noncomputable def FarP (p:Addr)(as:List Addr)(H H':Hp):Prop:=∀b o,b≠p->b∉as->H b=some o->H' b=some o
theorem FarP.but {p:Addr}{as:List Addr}{H H1 H2:Hp}(x:FarP p as H H1)(b:But p H1 H2):FarP p as H H2:=λc o n m h=>b c o n (x c o n m h)
theorem FarP.same {p:Addr}{as:List Addr}{H H1 H2:Hp}(x:FarP p as H H1)(s:Same H1 H2):FarP p as H H2:=λc o n m h=>s c o (x c o n m h)
theorem FarP.put {p:Addr}{as:List Addr}{H H1:Hp}(x:FarP p as H H1){j:Nat}{a:Addr}(ha:as[j]?=some a)(o:HO):FarP p as H (upd H1 a o):=λc u n m h=>by
 rw[aF λz=>m (by rw[z];exact bq ha)];exact x c u n m h
theorem FarP.kp {K:ah}{p:Addr}{k:Int}{as:List Addr}{xss:List (List V)}{H H':Hp}(t:Tk K H p k)(r:Rw H as xss)(x:FarP p as H H'):Kp H H':=λc o n h=>by
 obtain⟨e,ep⟩:=t.two;refine x c o (λz=>?_) (λz=>?_) h
 .rw[z,ep] at h;injection h with h
  exact n _ h.symm
 .obtain⟨j,hj⟩:=lD z;obtain⟨zs,hz⟩:=getx (xs:=xss) (i:=j) (by rw[<- r.1];exact (br.mp hj).1);rw[r.2 j c zs hj hz] at h;injection h with h
  exact n _ h.symm
theorem Rw.but {p:Addr}{as:List Addr}{xss:List (List V)}{H H':Hp}(r:Rw H as xss)(n:p∉as)(b:But p H H'):Rw H' as xss:=#[r.1,λj a xs h1 h2=>b _ _ (λz=>n (by rw[<- z];exact bq h1)) (r.2 j a xs h1 h2)]
structure LT (np nc i:Nat)(ds hs:List (List Int))(ly he:List Int)(ms:List (List Str))(ws:List Int):Prop where
 d:ds.length=np
 h:hs.length=np
 m:ms.length=nc
 w:ws.length=nc
 dh:∀p:Nat,(ds.getD p []).length+(hs.getD p []).length<=i
 nd:(ly++he).Nodup
 rng:∀n∈ly++he,0<=n/\n<(i:Int)
 lh:ly.length+he.length<=i
 mks:∀m∈ms,Marks m
theorem LT.up {np nc i:Nat}{ds hs:List (List Int)}{ly he:List Int}{ms:List (List Str)}{ws:List Int}(h:LT np nc i ds hs ly he ms ws):LT np nc (i+1) ds hs ly he ms ws :=
 #[h.d,h.h,h.m,h.w,λp=>pk (h.dh p),h.nd,λn hn=>#[(h.rng n hn).1,by have:=(h.rng n hn).2;lk],pk h.lh,h.mks]
theorem wn (d:List Int)(x:Nat)(n:Int):(iM d).take x++V.int n::(iM d).drop x=iM (d.take x++n::d.drop x):=by
 unfold iM;rw[bE,bp,List.map_take,List.map_drop]
theorem Ji (T:Tx K mg):FnOk P w K mg base CX0 5 T.qO.f T.qO.d K8 (EE K):=by
 refine T.qO.ok hZ ?_;rintro f c A o s H vs Q E hr ⟨p,nl,cl,ol,k,np,nc,ns,cvs,cs,os,rfl,T0,hk,N0,ec,alc,csl,c7,eo,osl,orng,n2,n4,ncp,nop,q⟩ X;refine#[_,(ae (aA (i:=5) hZ.nd rfl (.inl rfl) (T.rA.c (Nb T) hr (NP T) (aa (pv 0) (aa (pv 4) ab))))
  (ae (i5 (i:=6) hZ.nd rfl (.inl rfl) (own:=["_law_k"]) (cap:=[]) rfl (bI.chk rfl rfl) .nil (gj rfl T.eC (aa (pv 4) ab)) (λ_ _ _ _=>(aZ (i:=0) (show bG (["_law_k"]:List Str) by lia) rfl (.inl rfl))) (λ_ _ _ _=>cF) (λ_ _ _ _=>by exact (bj ab)))
  (ae (i5 (i:=7) hZ.nd rfl (.inl rfl) (own:=["_law_k"]) (cap:=[]) rfl (bI.chk rfl rfl) .nil (gj rfl T.eC (aa (pv 4) ab)) (λ_ _ _ _=>(aZ (i:=0) (show bG (["_law_k"]:List Str) by lia) rfl (.inl rfl))) (λ_ _ _ _=>cF) (λ_ _ _ _=>by exact (bj ab)))
  (ae (aA (i:=8) hZ.nd rfl (.inl rfl) (bj ab))
  (ae (aA (i:=9) hZ.nd rfl (.inl rfl) (bj ab))
  (ae (i5 (i:=10) hZ.nd rfl (.inl rfl) (own:=["_law_card_here"]) (cap:=[]) rfl (bI.chk rfl rfl) .nil (cI (pv 2)) (λ_ _ _ _=>(aZ (i:=0) (show bG (["_law_card_here"]:List Str) by lia) rfl (.inl rfl))) (λ_ _ _ _=>cF) (λ_ _ _ _=>by exact (ao (Ak K) (pv 0) ad)))
  (ae (i5 (i:=11) hZ.nd rfl (.inl rfl) (own:=["_law_card_here"]) (cap:=[]) rfl (bI.chk rfl rfl) .nil (cI (pv 2)) (λ_ _ _ _=>(aZ (i:=0) (show bG (["_law_card_here"]:List Str) by lia) rfl (.inl rfl))) (λ_ _ _ _=>cF) (λ_ _ _ _=>by exact ad))
  (ae (gG eZ rfl (gj rfl T.eC (aa (bh cT rfl T.cr cE (aa (pv 2) ab)) ab)) (aZ (i:=12) hZ.nd rfl (.inl rfl))
   (ae (aA (i:=13) hZ.nd rfl (.inl rfl) (ao bC (pv 3) (pv 12)))
   (ae (aA (i:=14) hZ.nd rfl (.inl rfl) (T.bw.c (bL T).up hr (bK T) (aa (pv 0) (aa ad ab))))
   (ag (aJ (aL a6 (pv 14) ad (aH _))
    (ag (cz (bR cO Qg Po wE (ao bC (pv 6) (pv 13)) (aa (T.bw.c (bL T).up hr (bK T) (aa (pv 0) (aa (aN dM (bh cT rfl T.cr cE (aa (ao bC (pv 6) (pv 13)) ab)) ad) ab))) (aa (pv 12) ab)))))
    (ag (aJ (aL a6 (pv 14) ad (aH _))
     (ag (cz (bR cO fQ fC fJ (ao bC (pv 7) (pv 13)) (aa (pv 12) ab))))
     (ag (aJ (PW.pt (jd (aL a6 (pv 14) ad (aH _)) (lO (PW.pt (iu (aL fP (pv 14) ad (aH _)) (xT (cN (ao aP (ao bC (pv 5) ad) (pv 13)))))))))
      (ag (cz (bR cO fQ fC fJ (pv 9) (aa (pv 12) ab))))
      (ag (aJ (aL fP (pv 14) ad (aH _))
       (ae (cz (bR cO Qg Po wE (pv 8) (aa (T.bw.c (bL T).up hr (bK T) (aa (pv 0) (aa (aN dM (bh cT rfl T.cr cE (aa (pv 8) ab)) ad) ab))) (aa (pv 12) ab))))
       (ae (nZ (bV fF rfl T.cG db (aa (bh QK rfl T.jk pC (aa (cB (own:=["_law_name"]) (cap:=["_law_pen"]) rfl (bI.chk rfl rfl) (.cons (j:=0) rfl (.inl rfl) (.inl rfl) .nil) (cI (pv 1)) (λ_ _ _ _=>(aZ (i:=0) (show bG (["_law_name","_law_pen"]:List Str) by lia) rfl (.inl rfl))) (λ_ _ _ _=>iK (aL a6 (T.bw.c (bL T).up hr (bK T) (aa (pv 1) (aa ad ab))) ad (aH _))) (λ_ _ _ _=>by exact (pv 0))) ab)) ab)) (nu (pv 10) (pv 12) set_list))
       (ag (nZ (T.bw.c (bL T).up hr (bK T) (aa (pv 0) (aa ad ab))) (nu (pv 11) (pv 12) set_list)))))
       aO)))))))))))
  (ae (i5 (i:=15) hZ.nd rfl (.inl rfl) (own:=["_law_part"]) (cap:=[]) rfl (bI.chk rfl rfl) .nil (cI (bj (aa (pv 6) (aa (pv 7) ab)))) (λ_ _ _ _=>(aZ (i:=0) (show bG (["_law_part"]:List Str) by lia) rfl (.inl rfl))) (λ_ _ _ _=>cF) (λ_ _ _ _=>by exact (bV (F2 K) rfl T.cG db (aa (cB (own:=["_law_one"]) (cap:=[]) rfl (bI.chk rfl rfl) .nil (Mb K (pv 0)) (λ_ _ _ _=>(aZ (i:=0) (show bG (["_law_one"]:List Str) by lia) rfl (.inl rfl))) (λ_ _ _ _=>cF) (λ_ _ _ _=>by exact (bV (F2 K) rfl T.cG db (aa (pv 0) ab)))) ab))))
  (ag (aD (bc (aa (ao bC (pv 5) ad) (aa (ao bC (pv 5) ad) (aa (ao bC (pv 5) ad) (aa (ao bC (pv 15) ad) (aa (ao bC (pv 15) ad) (aa (bV fF rfl T.cG db (aa (pv 8) ab)) (aa (bV fF rfl T.cG db (aa (pv 9) ab)) (aa (bV fF rfl T.cG db (aa (pv 10) ab)) (aa (bV fF rfl T.cG db (aa (pv 11) ab)) ab))))))))))))))))))))),5]
 k_ne
 refine#[11,p,k,np,0,T0,3,n4,λhl b0 b1 b2 pts scs gone k1 H1 B1 TK1 hk1 nhl ehl eb0 eb1 eb2 pl scs_ gol=>?_];have nhp:hl≠p:=a8 (T0.ne nhl)
 k_ne
 refine#[1,(np:Int),0335];rw[cS];refine jZ (λj ys Hy=>∃as:List Addr,ys=as.map V.ref/\as.length=j/\j<=np/\Same H1 Hy/\Rw Hy as (bS j [])/\as.Nodup/\iT H1 as) #[[],00,ba _,Same.refl _,Rw.nil,Hl,λ_ h=>nomatch h] ?_ ?_ ?_
 .rintro j ys Hy ⟨as,rfl,al,hj,_⟩;rw[aw,al];exact small (by lk)
 .rintro j ys Hy hj ⟨as,rfl,al,_,S,R,nd,fr⟩;refine#[0,sz0,λl hl'=>?_];have nl:l∉as:=R.off hl';ext hl' H2 S2 e2;refine#[as++[l],by rw[bE];rfl,by rw[aS,al];rfl,hj,S.trans S2,5,qD nd nl,fr.snoc (none_of S hl')];rw[Js];exact (R.same S2).snoc e2
 rintro ys H2 ⟨das,rfl,dal,_,S2,R2,nd2,fr2⟩ dl hdl
 k_ne
 ext hdl H3 S3 edl;have S13:=S2.trans S3
 k_ne
 refine#[1,(np:Int),0335];rw[cS];refine jZ (λj ys Hy=>∃as:List Addr,ys=as.map V.ref/\as.length=j/\j<=np/\Same H3 Hy/\Rw Hy (das++as) (bS np []++bS j [])/\(das++as).Nodup/\iT H3 as) #[[],00,ba _,Same.refl _,by rw[ci];show Rw H3 das (bS np []++[]);rw[ci];exact R2.same S3,by rw[ci];exact nd2,λ_ h=>nomatch h] ?_ ?_ ?_
 .rintro j ys Hy ⟨as,rfl,al,hj,_⟩;rw[aw,al];exact small (by lk)
 .rintro j ys Hy hj ⟨as,rfl,al,_,S,R,nd,fr⟩;refine#[0,sz0,λl hl'=>?_];have nl:l∉das++as:=R.off hl';ext hl' H4 S4 e4;refine#[as++[l],by rw[bE];rfl,by rw[aS,al];rfl,hj,S.trans S4,5,by rw[<- fV];exact qD nd nl,fr.snoc (none_of S hl')];rw[Js,<- fV,<- fV];exact (R.same S4).snoc e4
 rintro ys H4 ⟨has,rfl,hal,_,S4,R4,nd4,fr4⟩ gl hgl
 k_ne
 ext hgl H5 S5 egl
 k_ne
 refine#[sz0,λly hly=>?_]
 k_ne
 ext hly H6 S6 ely
 k_ne
 refine#[sz0,λhe hhe=>?_]
 k_ne
 ext hhe H7 S7 ehe;have S17:=S13.trans (S4.trans (S5.trans (S6.trans S7)));have R7:=((((R4.same S5).same S6).snoc ely).same S7).snoc ehe;have nd7:=qD (qD nd4 ((R4.same S5).off hly)) ((((R4.same S5).same S6).snoc ely).off hhe);have ec7:H7 cl=some (.lst cvs):=S17 _ _ (B1 _ _ ncp ec);have alc7:All2 (CT H7) cvs cs:=(alc.imp λz=>z.but T0 B1).imp λz=>z.same S17
 k_ne
 refine#[1,cl,0,#[_,SqL.of ec7],5];refine cZ (xs:=cvs) (λj ys Hy=>Hy=H7/\All2 (T1 H7) ys ((cs.take j).map λc=>sM c.marks)) (λj ys Hy z=>by rw[z.1];exact SqL.of ec7) #[0,.nil] ?_ ?_ ?_
 .rintro j ys Hy ⟨_,al⟩;have:=al.len;rw[aw,bQ] at this;exact small (by lk)
 .rintro j v ys Hy hv ⟨rfl,al⟩;obtain⟨c,hc,lc,m,x2,x3,x4,rfl,elc,emc,_⟩:=alc7.get hv;refine#[01,lc,_,4,SqL.of elc,aI (j:=1) rfl,05];rw[bU,hc,dF,bE];exact All2.snoc #[m,0,emc] al
 rintro us H8 ⟨rfl,alu⟩ mk hmk;rw[alc.len,bX (az _)] at alu
 k_ne
 ext hmk H8 S8 emk
 k_ne
 refine#[1,cl,0,#[_,SqL.of (S8 _ _ ec7)],5];refine cZ (xs:=cvs) (λj ys Hy=>Hy=H8/\ys=iM (bS j 0)/\j<=16) (λj ys Hy z=>by rw[z.1];exact SqL.of (S8 _ _ ec7)) #[007] ?_ ?_ ?_
 .rintro j ys Hy ⟨_,rfl,hj⟩;unfold iM;rw[aw,lW];exact small (by lk)
 .rintro j v ys Hy hv ⟨rfl,rfl,_⟩;have jl:=(br.mp hv).1;rw[alc.len,csl] at jl;refine#[0053];rw[Js];unfold iM;rw[bE];rfl
 rintro ys H9 ⟨rfl,rfl,_⟩ wd hwd
 k_ne
 ext hwd HB S9 ewd;rw[alc.len,csl] at ewd;have S1B:=S17.trans (S8.trans S9);have TB:=TK1.same S1B;obtain⟨as,has_⟩:∃as:List Addr,as=das++(has++[ly,he,mk,wd]):=#[1];have R9:Rw HB as (dI (bS np []) (bS np []) [] [] us (bS nc 0)):=by
  have R:=(((R7.same S8).snoc emk).same S9).snoc ewd;have e1:das++has++[ly]++[he]++[mk]++[wd]=as:=by rw[has_];simp
  have e2:bS np ([]:List V)++bS np []++[[]]++[[]]++[us]++[iM (bS nc 0)]=dI (bS np []) (bS np []) [] [] us (bS nc 0):=by
   unfold dI;rw[List.map_replicate];show bS np ([]:List V)++bS np []++[[]]++[[]]++[us]++[iM (bS nc 0)]=bS np []++(bS np []++[[],[],us,iM (bS nc 0)])
   simp only[fV,lQ,sB]
  rw[e1,e2] at R;exact R
 have nd9:as.Nodup:=by
  have z:=qD (qD nd7 (R7.off hmk)) (((R7.same S8).snoc emk).off hwd);have e1:das++has++[ly]++[he]++[mk]++[wd]=as:=by rw[has_];simp
  rw[e1] at z;exact z
 have mem:∀{x:Addr},x∈as->x∈das∨x∈has∨x=ly∨x=he∨x=mk∨x=wd:=λ{x} h=>by
  rw[has_] at h
  simpa using h
 have S67:=S6.trans S7;have old:∀{x:Addr} {o:HO},H1 x=some o->x∉as:=λ{x o} h z=>by
  have no:H1 x≠none:=by rw[h];intro y;cases y
  rcases mem z with y|y|y|y|y|y
  .exact no (fr2 x y)
  .exact no (none_of S13 (fr4 x y))
  .rw[y] at no;exact no (none_of (S13.trans (S4.trans S5)) hly)
  .rw[y] at no;exact no (none_of (S13.trans (S4.trans (S5.trans S6))) hhe)
  .rw[y] at no;exact no (none_of S17 hmk)
  .rw[y] at no;exact no (none_of (S17.trans S8) hwd)
 have S3B:Same H3 HB:=S4.trans (S5.trans (S67.trans (S8.trans S9)));have S5B:Same H5 HB:=S67.trans (S8.trans S9);have late:∀{x:Addr} {o:HO},H5 x=some o->x≠ly/\x≠he/\x≠mk/\x≠wd:=λh=>#[a9 h hly,a9 (S6 _ _ h) hhe,a9 (S67 _ _ h) hmk,a9 ((S67.trans S8) _ _ h) hwd];have ndl:dl∉as:=λz=>by
  obtain⟨l1,l2,l3,l4⟩:=late ((S4.trans S5) _ _ edl)
  rcases mem z with y|y|y|y|y|y
  .exact R2.off hdl y
  .have:=fr4 dl y;rw[edl] at this;cases this
  .exact l1 y
  .exact l2 y
  .exact l3 y
  .exact l4 y
 have ngl:gl∉as:=λz=>by
  obtain⟨l1,l2,l3,l4⟩:=late egl;have o4:=R4.off hgl
  rcases mem z with y|y|y|y|y|y
  .exact o4 (fL _ y)
  .exact o4 (fG _ y)
  .exact l1 y
  .exact l2 y
  .exact l3 y
  .exact l4 y
 have ndp:dl≠p:=a8 ((TK1.same S2).ne hdl);have ngp:gl≠p:=a8 ((TK1.same (S13.trans S4)).ne hgl);have npa:p∉as:=by
  obtain⟨e,ep⟩:=TK1.two;exact old ep
 have eolB:HB ol=some (.lst (iM os)):=S1B _ _ (B1 _ _ nop eo);have nla:nl∉as:=old (N0.but T0 B1).at_;have ola:ol∉as:=old (B1 _ _ nop eo);have hla:hl∉as:=old ehl;have NB:=(N0.but T0 B1).same S1B;have nlp:=N0.ne T0;have a_d:∀{o:Nat} {a:Addr},das[o]?=some a->as[o]?=some a:=λ{o a} h=>by
  rw[has_,iU (br.mp h).1];exact h
 have a_h:∀{o:Nat} {a:Addr},has[o]?=some a->as[np+o]?=some a:=λ{o a} h=>by
  rw[has_,eh (by lk),dal,wK,iU (br.mp h).1];exact h
 have a_r:∀j:Nat,as[np+np+j]?=[ly,he,mk,wd][j]?:=λj=>by
  rw[has_,eh (by lk),eh (by lk)]
  congr 1
  lk
 have LT0:LT np nc 0 (bS np []) (bS np []) [] [] (cs.map (·.marks)) (bS nc 0):=by
  have z:∀p:Nat,((bS np ([]:List Int)).getD p []).length=0:=λp=>by
   rw[cJ,IV]
   split<;>rfl
  refine#[by rw[lW],by rw[lW],by rw[aw,csl],by rw[lW],λp=>by rw[z];lk,Hl,(λn hn=>nomatch hn),ba _,λm hm=>?_];obtain⟨c,hc,rfl⟩:=bT.mp hm;obtain⟨_,_,h⟩:=alc.mem2 hc;exact h.cok.marks
 have alu0:All2 (T1 HB) us ((cs.map (·.marks)).map sM):=by
  rw[cW];exact T1s.kp (Kp.same (S8.trans S9)) alu
 k_ne
 refine#[1,cl,1,.inl (SqL.of ((S8.trans S9) _ _ ec7)),(nc:Int),(by rw[<- csl,<- alc.len]),335];rw[cS];refine qI (lo:=0) (n:=nc) (λi σ Hx=>Ex12 λds hs (lyi hei:List Int) us (ms:List (List Str)) (ws:List Int) (k':Int) o12 o13 o14 o15=>σ=[some (.ref p),some (.ref nl),some (.ref cl),some (.ref ol),some (.int (np:Int)),some (.ref hl),some (.ref dl),some (.ref gl),some (.ref ly),some (.ref he),some (.ref mk),some (.ref wd),o12,o13,o14,o15]/\Rw Hx as (dI ds hs lyi hei us ws)/\All2 (T1 Hx) us (ms.map sM)/\FarP p as HB Hx/\Tk K Hx p k'/\k'<=k1+7*(i:Int)/\LT np nc i ds hs lyi hei ms ws) #[_,_,_,_,_,_,_,_,_,_,_,1,R9,alu0,(λ_ _ _ _ h=>h),TB,3,LT0] ?_ ?_
 .rintro i σ Hx hi ⟨ds,hs,lyi,hei,us,ms,ws,k',o12,o13,o14,o15,rfl,R,AM,F,TX,hk',L⟩;obtain⟨o0,ho0⟩:=getx (xs:=os) (i:=i) (by rw[osl];exact hi);obtain⟨oz,oy⟩:=orng o0 (bq ho0);obtain⟨o,hoo⟩:∃o:Nat,o0=(o:Int):=#[o0.toNat,3];have on:o<np:=by lk
  have zi:(0:Int)+(i:Int)=(i:Int):=by lk
  k_ne
  refine#[11,ol,_,4,SqL.of (F _ _ nop ola eolB),(by rw[zi];exact lT ho0),5];rw[hoo]
  k_ne
  refine#[1,p,k',(8),0,TX,37,λw0 Ha w1 w2 Ba Ta=>?_];have Ra:=R.but npa Ba;have Fa:=F.but Ba;have AMa:=T1s.kp (Kp.but TX Ba) AM;obtain⟨da,hda⟩:=getx (xs:=das) (i:=o) (by rw[dal];exact on);obtain⟨ga,hga⟩:=getx (xs:=has) (i:=o) (by rw[hal];exact on);obtain⟨d,hd⟩:=getx (xs:=ds) (i:=o) (by rw[L.d];exact on);obtain⟨h,hh⟩:=getx (xs:=hs) (i:=o) (by rw[L.h];exact on);have eda:=Ra.2 o da _ (a_d hda) (pF L.d hd);have ega:=Ra.2 (np+o) ga _ (a_h hga) (vR L.d hh);have ely':=Ra.2 (np+np+0) ly _ (a_r 0) ((jJ L.d L.h 0).trans rfl);have ehe':=Ra.2 (np+np+1) he _ (a_r 1) ((jJ L.d L.h 1).trans rfl);have dg:ds.getD o []=d:=by rw[cJ,hd];rfl
  have hg:hs.getD o []=h:=by rw[cJ,hh];rfl
  have dho:=L.dh o;rw[dg,hg] at dho;have lh:=L.lh;have nin:(i:Int)∉lyi++hei:=λz=>by have:=(L.rng _ z).2;lk
  have LT2:∀{ly2 he2:List Int} {ms2:List (List Str)} {ws2:List Int},(ly2++he2).Perm ((i:Int)::(lyi++hei))->ms2.length=nc->ws2.length=nc->(∀m∈ms2,Marks m)->LT np nc (i+1) ds hs ly2 he2 ms2 ws2:=λ{ly2 he2 ms2 ws2} pm l1 l2 l3=>by
   refine#[L.d,L.h,l1,l2,λp=>pk (L.dh p),pm.nodup_iff.mpr (rV.mpr #[nin,L.nd]),λn hn=>?_,5,l3]
   .rcases aM.mp (pm.mem_iff.mp hn) with z|z
    .omega
    .have:=L.rng n z;lk
   .have:=pm.length_eq;rw[aS,aK,aS] at this;lk
  refine#[101,ite2 (λc0=>?_) (λc0=>?_)]
  .refine#[11,dl,_,4,SqL.of (Fa _ _ ndp ndl (S3B _ _ edl)),lT hda,.inl #[0,_,SqL.of eda],111,dl,_,4,SqL.of (Fa _ _ ndp ndl (S3B _ _ edl)),lT hda,da,1,.inl (SqL.of eda),4,p,k'+1,(d.length:Int)+1,(by rw[show (iM d).length=d.length from aw _];rfl),Ta,33,λx Hb x0 x1 Bb Tb=>?_];have Rb:=Ra.but npa Bb;have edb:=Rb.2 o da _ (a_d hda) (pF L.d hd);have il:(iM d).length=d.length:=aw _;refine#[1,da,_,x,10,edb,x0,by rw[il];lk,by rw[il];lk,5];rw[zi,wn];have np':da≠p:=λz=>npa (by rw[<- z];exact bq (a_d hda));have Rc:=Rb.put nd9 (a_d hda) (iM (d.take x.toNat++(i:Int)::d.drop x.toNat));rw[O3 (by rw[L.d];exact on)] at Rc;refine#[ds.set o (d.take x.toNat++(i:Int)::d.drop x.toNat),hs,lyi,hei,us,ms,ws,_,_,_,_,1,Rc,T1s.kp ((Kp.but Ta Bb).trans (Kp.put edb)) AMa,(Fa.but Bb).put (a_d hda) _,Tb.other edb (a8 np'),35];refine { L.up with d:=by rw[rT];exact L.d,dh:=λq=>?_ };rw[sD (by rw[L.d];exact on)];have:=L.dh q
   split
   .rename_i e;rw[e,hg,(vP d (i:Int) x.toNat).length_eq,aK];lk
   .omega
  refine#[101,ite2 (λc1=>?_) (λc1=>?_)]
  .have gl':(iM h).length=h.length:=aw _;refine#[11,gl,_,4,SqL.of (Fa _ _ ngp ngl (S5B _ _ egl)),lT hga,.inl #[0,_,SqL.of ega],1,ga,4,ega,df (by rw[gl'];lk),5];rw[zi,show iM h++[V.int (i:Int)]=iM (h++[(i:Int)]) by unfold iM;rw[bE];rfl];have np':ga≠p:=λz=>npa (by rw[<- z];exact bq (a_h hga));have Rc:=Ra.put nd9 (a_h hga) (iM (h++[(i:Int)]));rw[Cq L.d (by rw[L.h];exact on)] at Rc;refine#[ds,hs.set o (h++[(i:Int)]),lyi,hei,us,ms,ws,_,_,_,_,1,Rc,T1s.kp (Kp.put ega) AMa,Fa.put (a_h hga) _,Ta.other ega (a8 np'),35];refine { L.up with h:=by rw[rT];exact L.h,dh:=λq=>?_ };rw[sD (by rw[L.h];exact on)];have:=L.dh q
   split
   .rename_i e;rw[e,dg,aS,fH];lk
   .omega
  obtain⟨g,hgo⟩:=getx (xs:=gone) (i:=o) (by rw[gol];exact on);have ehlA:=Fa _ _ nhp hla (S1B _ _ ehl);have eb2A:Ha b2=some (.tup (gone.map V.bl)):=(FarP.kp TB R9 Fa).t (S1B _ _ eb2);have nhe:he≠p:=λz=>npa (by rw[<- z];exact bq (a_r 1));have nly:ly≠p:=λz=>npa (by rw[<- z];exact bq (a_r 0));have hpe:iM hei++[V.int (0+(i:Int))]=iM (hei++[(i:Int)]):=by unfold iM;rw[bE,zi];rfl
  have RH:=Ra.put nd9 (a_r 1) (iM (hei++[(i:Int)]));rw[ku L.d L.h] at RH;have LH:=LT2 (ly2:=lyi) (he2:=hei++[(i:Int)]) (by rw[<- fV];exact List.perm_append_comm (l₁:=lyi++hei) (l₂:=[(i:Int)])) L.m L.w L.mks;refine#[101,ite2 (λc2=>iteT ?h1) (λc2=>?_)]
  case h1=>exact#[1,.inl #[0,_,SqL.of ehe'],1,he,4,ehe',df (by unfold iM;rw[aw];lk),by rw[hpe];exact#[ds,hs,lyi,hei++[(i:Int)],us,ms,ws,_,_,_,_,1,RH,T1s.kp (Kp.put ehe') AMa,Fa.put (a_r 1) _,Ta.other ehe' (a8 nhe),3,LH]]
  refine#[141,ite2 (λc3=>?_) (λc3=>?skp)]
  case skp =>
   refine iteF #[141,ifF c3 ?_];exact#[ds,hs,lyi,hei,us,ms,ws,_,_,_,_,1,Ra,AMa,Fa,Ta,3,L.up]
  refine#[1,hl,_,4,SqL.of ehlA,aI (j:=2) rfl,1,b2,_,4,SqT.of eb2A,lT hgo,1,ite2 (λc4=>?h2) (λc4=>?_)]
  case h2=>exact#[1,.inl #[0,_,SqL.of ehe'],1,he,4,ehe',df (by unfold iM;rw[aw];lk),by rw[hpe];exact#[ds,hs,lyi,hei++[(i:Int)],us,ms,ws,_,_,_,_,1,RH,T1s.kp (Kp.put ehe') AMa,Fa.put (a_r 1) _,Ta.other ehe' (a8 nhe),3,LH]]
  refine#[141,ifT c3 ?_];have ll:(iM lyi).length=lyi.length:=aw _
  k_ne
  refine#[1,.inl #[0,_,SqL.of ely'],11,ly,1,.inl (SqL.of ely'),4,p,k'+1,(lyi.length:Int)+1,(by rw[ll];rfl),Ta,33,λx Hb x0 x1 Bb Tb=>?_];have Rb:=Ra.but npa Bb;have elyb:=Rb.2 (np+np+0) ly _ (a_r 0) ((jJ L.d L.h 0).trans rfl);refine#[1,ly,_,x,10,elyb,x0,by rw[ll];lk,by rw[ll];lk,5];rw[zi,wn];have Rc:=Rb.put nd9 (a_r 0) (iM (lyi.take x.toNat++(i:Int)::lyi.drop x.toNat));rw[ku L.d L.h] at Rc;have Rc':Rw _ as (dI ds hs (lyi.take x.toNat++(i:Int)::lyi.drop x.toNat) hei us ws):=Rc;have Tc:=Tb.other (vs:=iM (lyi.take x.toNat++(i:Int)::lyi.drop x.toNat)) elyb (a8 nly);have Fc:=(Fa.but Bb).put (a_r 0) (.lst (iM (lyi.take x.toNat++(i:Int)::lyi.drop x.toNat)));have AMc:=T1s.kp ((Kp.but Ta Bb).trans (Kp.put (vs:=iM (lyi.take x.toNat++(i:Int)::lyi.drop x.toNat)) elyb)) AMa;generalize upd Hb ly (.lst (iM (lyi.take x.toNat++(i:Int)::lyi.drop x.toNat)))=Hc at Rc' Tc Fc AMc ⊢;clear Rc Rb elyb RH;have Nc:N4 Hc nl ns:=#[Fc _ _ nlp nla NB.at_,NB.len,NB.ok,NB.nd]
  k_ne
  refine#[1,nl,0,#[_,SqL.of Nc.at_],5];refine cZ (xs:=ns.map V.str) (λj ys H'=>Ex2 λ(zs:List Str) (k2:Int)=>ys=zs.map V.str/\zs.Sublist (ns.take j)/\But p Hc H'/\Tk K H' p k2/\k2<=k'+2+j/\j<=4) (λj ys H' #[zs,k2,_,_,B,_]=>SqL.of (Nc.but Tc B).at_) #[[],1,Uc _,But.refl p Hc,Tc,33] ?_ ?_ ?_
  .rintro j ys H' ⟨zs,k2,rfl,zl,_,_,_,hj⟩;have:=zl.length_le;rw[bQ] at this;rw[aw];exact small (by lk)
  .rintro j v ys H' hv ⟨zs,k2,rfl,zl,B',T',hk2,_⟩;rw[bH] at hv;obtain⟨u,hu,rfl⟩:=ko.mp hv;have hi4:j<4:=(by rw[<- Nc.len];exact (br.mp hu).1);refine#[01,p,k2,(3),0,T',37,λr H5 a5 b5 B5 T5=>#[015]];refine ite2 (λ_=>?_) (λ_=>?_)
   .exact#[1,zs++[u],k2+1,by rw[bE];rfl,by rw[bU,hu];exact zl.append (Qc _),B'.trans B5,T5,33]
   .exact#[zs,k2+1,0,by rw[bU];exact zl.trans (Tq _ _),B'.trans B5,T5,33]
  rintro ys Hd ⟨zs,kd,rfl,zl,Bd,Td,hkd,_⟩ b hb;rw[aw,Nc.len] at hkd;have zs4:zs.Sublist ns:=zl.trans (Qi _ _);have zle:=zs4.length_le;rw[Nc.len] at zle;ext hb He Se ee;refine#[b,zs,0,SqL.of ee,3,λso ms2 hso pz sz=>?_];ext hso Hf Sf ef;refine#[so,1,.inl #[SqL.of ef,λtm htm=>?_]];ext htm Hg Sg eg;have Scg:=Se.trans (Sf.trans Sg);have Rg:=(Rc'.but npa Bd).same Scg;have Fg:=(Fc.but Bd).same Scg;have Tg:=Td.same Scg;have AMg:=T1s.kp ((Kp.but Tc Bd).trans (Kp.same Scg)) AMc;have emg:=Rg.2 (np+np+2) mk _ (a_r 2) ((jJ L.d L.h 2).trans rfl);have ul:=AM.len;rw[aw,L.m] at ul;have nmk:mk≠p:=λz=>npa (by rw[<- z];exact bq (a_r 2));have nwd:wd≠p:=λz=>npa (by rw[<- z];exact bq (a_r 3));refine#[11,mk,_,_,i,00,emg,(show ixN us.length (0+(i:Int))=some i by rw[zi];exact yk (by rw[ul];exact hi)),5];have Rh:=Rg.put nd9 (a_r 2) (us.set i (.ref tm));rw[ku L.d L.h] at Rh;have Rh':Rw _ as (dI ds hs (lyi.take x.toNat++(i:Int)::lyi.drop x.toNat) hei (us.set i (.ref tm)) ws):=Rh;have Th:=Tg.other (vs:=us.set i (.ref tm)) emg (a8 nmk);have Fh:=Fg.put (a_r 2) (.lst (us.set i (.ref tm)));have AMh:All2 (T1 (upd Hg mk (.lst (us.set i (.ref tm))))) (us.set i (.ref tm)) ((ms.set i ms2).map sM):=by
   rw[AV];exact T1s.kp (Kp.put emg) (AMg.set #[tm,0,eg] i)
  generalize upd Hg mk (.lst (us.set i (.ref tm)))=Hh at Rh' Th Fh AMh ⊢;refine#[1,p,_,(4),0,Th,37,λy Hi y0 y1 Bi Ti=>?_];have Ri:=Rh'.but npa Bi;have ewi:=Ri.2 (np+np+3) wd _ (a_r 3) ((jJ L.d L.h 3).trans rfl);refine#[11,wd,_,_,i,00,ewi,(show ixN (iM ws).length (0+(i:Int))=some i by rw[zi];exact yk (by unfold iM;rw[aw,L.w];exact hi)),5];have Rj:=Ri.put nd9 (a_r 3) ((iM ws).set i (.int y));rw[ku L.d L.h] at Rj;have wse:(iM ws).set i (V.int y)=iM (ws.set i y):=by unfold iM;rw[AV]
  refine#[ds,hs,lyi.take x.toNat++(i:Int)::lyi.drop x.toNat,hei,us.set i (.ref tm),ms.set i ms2,ws.set i y,_,_,_,_,15,T1s.kp ((Kp.but Th Bi).trans (Kp.put ewi)) AMh,(Fh.but Bi).put (a_r 3) _,Ti.other ewi (a8 nwd),3,LT2 ((vP lyi (i:Int) x.toNat).append_right hei) (by rw[rT];exact L.m) (by rw[rT];exact L.w) λm hm=>?_]
  .have Rj':Rw (upd Hi wd (.lst ((iM ws).set i (V.int y)))) as (ds.map iM++(hs.map iM++[iM (lyi.take x.toNat++(i:Int)::lyi.drop x.toNat),iM hei,us.set i (.ref tm),(iM ws).set i (V.int y)])):=Rj;rw[wse] at Rj' ⊢;exact Rj'
  .rcases List.mem_or_eq_of_mem_set hm with z|z
   .exact L.mks m z
   .rw[z];exact uN zs4 N0.len N0.ok N0.nd pz sz
 .rintro σ Hx ⟨ds,hs,lyi,hei,us,ms,ws,k',o12,o13,o14,o15,rfl,R,AM,F,TX,hk',L⟩;have RD:Rw Hx das (ds.map iM):=#[by rw[dal,aw,L.d],λj a xs h1 h2=>by
   rw[bH] at h2;obtain⟨d,hd,rfl⟩:=ko.mp h2;exact R.2 j a _ (a_d h1) (pF L.d hd)]
  have RH:Rw Hx has (hs.map iM):=#[by rw[hal,aw,L.h],λj a xs h1 h2=>by
   rw[bH] at h2;obtain⟨d,hd,rfl⟩:=ko.mp h2;exact R.2 (np+j) a _ (a_h h1) (vR L.d hd)]
  have ely':=R.2 (np+np+0) ly _ (a_r 0) ((jJ L.d L.h 0).trans rfl);have ehe':=R.2 (np+np+1) he _ (a_r 1) ((jJ L.d L.h 1).trans rfl);have emk':=R.2 (np+np+2) mk _ (a_r 2) ((jJ L.d L.h 2).trans rfl);have ewd':=R.2 (np+np+3) wd _ (a_r 3) ((jJ L.d L.h 3).trans rfl);have edlx:=F _ _ ndp ndl (S3B _ _ edl);have eglx:=F _ _ ngp ngl (S5B _ _ egl);have ehlx:=F _ _ nhp hla (S1B _ _ ehl);have kx:=FarP.kp TB R9 F;have rows:∀{j:Nat} {v:V},[V.ref dl,V.ref gl][j]?=some v->Ex3 λla (ads:List Addr) xss=>v = .ref la/\Hx la=some (.lst (ads.map V.ref))/\Rw Hx ads (xss.map iM)/\[ds,hs][j]?=some xss/\ads.length<=4:=λ{j v} h=>by
   match j,h with
   | 0,h=>cases h;exact#[dl,das,ds,0,edlx,RD,03]
   | 1,h=>cases h;exact#[gl,has,hs,0,eglx,RH,03]
   | j+2,h=>simp at h
  k_ne
  refine#[11,sz2,λq1 hq1=>?_];ext hq1 Hq Sq eq1;refine#[q1,0,#[_,SqL.of eq1],5];refine cZ (xs:=[V.ref dl,V.ref gl]) (λj ys Hy=>Same Hq Hy/\All2 (T2 Hy) ys (([ds,hs].take j).map λxss=>xss.map iM)/\j<=2) (λj ys Hy z=>SqL.of (z.1 _ _ eq1)) #[Same.refl _,.nil,7] ?_ ?_ ?_
  .rintro j ys Hy ⟨_,al,hj⟩;have:=al.len;rw[aw,bQ] at this;have e2:[ds,hs].length=2:=rfl;exact small (by lk)
  .rintro j v ys Hy hv ⟨S,al,_⟩;have j2:j<2:=(br.mp hv).1;obtain⟨la,ads,xss,rfl,ela,RA,hx,al4⟩:=rows hv;have SxY:=Sq.trans S;refine#[01,la,0,#[_,SqL.of (SxY _ _ ela)],5];refine cZ (xs:=ads.map V.ref) (λi zs Hz=>Same Hy Hz/\All2 (T1 Hz) zs ((xss.map iM).take i)) (λi zs Hz z=>SqL.of (z.1 _ _ (SxY _ _ ela))) #[Same.refl _,.nil] ?_ ?_ ?_
   .rintro i zs Hz ⟨_,al⟩;have a1:=al.len;have a2:=RA.1;rw[bQ] at a1;exact small (by lk)
   .rintro i v zs Hz hv ⟨S',al⟩;rw[bH] at hv;obtain⟨b,hb,rfl⟩:=ko.mp hv;obtain⟨xs,hxs⟩:=getx (xs:=xss.map iM) (i:=i) (by rw[<- RA.1];exact (br.mp hb).1);refine#[01,b,1,.inl #[SqL.of ((SxY.trans S') _ _ (RA.2 i b xs hb hxs)),λl hl'=>?_]];refine laid hl' λH5 S5 f5=>#[S'.trans S5,5];rw[bU,hxs,dF];exact All2.snoc #[l,0,f5] (T1s.kp (Kp.same S5) al)
   rintro zs Hz ⟨Sz,alz⟩ l hl';rw[aw,RA.1,bX (az _)] at alz;ext hl' H5 S5 f5;refine#[l,1,.inl #[SqL.of f5,λtm htm=>?_]];ext htm H6 S6 f6;have SyH:=Sz.trans (S5.trans S6);refine#[S.trans SyH,5,j2];rw[bU,hx,dF,bE];exact All2.snoc #[tm,zs,0,f6,T1s.kp (Kp.same (S5.trans S6)) alz] (al.imp λz=>z.kp (Kp.same SyH))
  rintro ys Hy ⟨Sy,al,_⟩ cl2 hcl2;have al':All2 (T2 Hy) ys [ds.map iM,hs.map iM]:=al;ext hcl2 Hz Sz ecl2;cases al' with | @cons y0 _ _ _ g0 al' =>
  cases al' with | @cons y1 _ _ _ g1 al' =>
  cases al';have SxZ:=Sq.trans (Sy.trans Sz);refine#[1,hl,_,4,SqL.of (SxZ _ _ ehlx),91,hl,_,4,SqL.of (SxZ _ _ ehlx),aI (j:=1) rfl,1,hl,_,4,SqL.of (SxZ _ _ ehlx),aI (j:=2) rfl,1,cl2,_,4,SqL.of ecl2,91,cl2,_,4,SqL.of ecl2,aI (j:=1) rfl,1,ly,1,.inl #[SqL.of (SxZ _ _ ely'),λt5 ht5=>?_]];ext ht5 H5 S5 f5;have Sx5:=SxZ.trans S5;refine#[1,he,1,.inl #[SqL.of (Sx5 _ _ ehe'),λt6 ht6=>?_]];ext ht6 H6 S6 f6;have Sx6:=Sx5.trans S6;refine#[1,mk,1,.inl #[SqL.of (Sx6 _ _ emk'),λt7 ht7=>?_]];ext ht7 H7 S7 f7;have Sx7:=Sx6.trans S7;refine#[1,wd,1,.inl #[SqL.of (Sx7 _ _ ewd'),λt8 ht8=>?_]];ext ht8 H8 S8 f8;refine#[(by show 9<=aE;decide),λtv htv=>?_];ext htv H9 S9 f9;have Sx9:=Sx7.trans (S8.trans S9);have k9:=kx.trans (Kp.same Sx9);have Sy9:=Sz.trans (S5.trans (S6.trans (S7.trans (S8.trans S9))));have BX:But p H H9:=λb o nb hb=>Sx9 _ _ (F b o nb (old (B1 b o nb hb)) (S1B _ _ (B1 b o nb hb)));refine q (.ref tv) #[pts,scs,gone,ds,hs,lyi,hei,ms,ws] k' H9 BX (TX.same Sx9) (by lk) #[tv,_,_,_,_,_,_,_,_,1,f9,#[#[b0,0,k9.t (S1B _ _ eb0)],#[b1,0,k9.t (S1B _ _ eb1)],#[b2,0,k9.t (S1B _ _ eb2)],g0.kp (Kp.same Sy9),g1.kp (Kp.same Sy9),#[t5,0,(S6.trans (S7.trans (S8.trans S9))) _ _ f5],#[t6,0,(S7.trans (S8.trans S9)) _ _ f6],#[t7,1,(S8.trans S9) _ _ f7,T1s.kp (Kp.same Sx9) AM],#[t8,0,S9 _ _ f8]]] L.m (qw.mp L.nd).1 (λn hn=>L.rng n (fL _ hn)) L.mks
theorem Nd {K:ah}{a:Addr}{xs:List V}{H1:Hp}{g:TG}{tt:TT}{te:TE}{n:Nat}{js:List Nat}{σ:L2.St}{Q:VK}(Pv:Nat->List V->Hp->Prop)(hl:∀i ys H,Pv i ys H->SqT K H a xs)(h0:Pv 0 [] H1)(hz:∀i ys H,Pv i ys H->ys.length<=aE)
  (hs:∀i x ys H p,xs[i]?=some x->Pv i ys H->H p=none->g (.ref p) (cb n js σ) (upd H p (.tup [.int (i:Int),x])) fun σ2 H2=>σ2.drop n=(cb n js σ).drop n/\tt σ2 H2 λb H3=>if b=true then te σ2 H3 λy H4=>Pv (i+1) (ys++[y]) H4 else Pv (i+1) ys H3)
  (hd:∀ys H,Pv xs.length ys H->∀p,H p=none->Q (.ref p) (upd H p (.lst ys))):dP (Ite K a) H1 g tt te n js σ Q:=by
 refine#[λi m ys H=>m=xs.length-i/\i<=xs.length/\Pv i ys H,#[xs.length,0,ba _,h0],5];rintro i m ys H ⟨rfl,hi,pv⟩;have sq:=hl i ys H pv
 by_cases lt:i<xs.length
 .have ex:xs[i]?=some xs[i]:=cA lt;refine .inr #[#[xs,xs[i],sq,ex],hz i ys H pv,Pv (i+1),λys' H' z=>#[xs.length-(i+1),30,lt,z],λx H' y=>?_];obtain⟨p,v,hp,rfl,rfl,hv⟩:=y;exact hs i v ys H p (hv xs sq) pv hp
 .obtain rfl:i=xs.length:=by lk
  exact .inl #[#[xs,sq,az _],hz _ ys H pv,hd ys H pv]
theorem few {ns:List Int}{nc:Nat}(nd:ns.Nodup)(h:∀n∈ns,0<=n/\n<nc):ns.length<=nc:=by
 have y:=TV (l₂:=(gM nc).map λi=>((i:Nat):Int)) nd λn hn=>by
  obtain⟨h0,h1⟩:=h n hn;exact bT.mpr #[n.toNat,OG.mpr (by lk),3]
 rw[aw,yy] at y;exact y
noncomputable def nH (c:Crd):Nat:=(c.rules.filter eB).length
theorem xk (r:R8):∀(k:Nat) (xs:List Rule),(chAt r k xs).length=(xs.filter eB).length
 | _,[]=>rfl
 | k,x::xs=>by
  show ((if eB x then [[lay x,r.came,r.num,(k:Int)]] else [])++chAt r (k+1) xs).length=_
  rw[aS,xk r (k+1) xs,rB];cases eB x
  .exact xL _
  .exact Nat.add_comm 1 _
theorem vF (r:R8){c:List Int}:∀{k:Nat} {xs:List Rule},c∈chAt r k xs->Ex4 λ(j:Nat) (wd:Str) (h:Hv) (y:Wh)=>xs[j]?=some (.hold wd h y)/\c=[layW wd,r.came,r.num,((k+j:Nat):Int)]
 | _,[],h=>by cases h
 | k,x::xs,h=>by
  rcases bM.mp h with z|z
  .cases x with
   | hold wd hv y=>exact#[(0),wd,hv,y,0,aX.mp z]
   | wen=>cases z
   | instead=>cases z
   | may=>cases z
  .obtain⟨j,wd,hv,y,h1,h2⟩:=vF r z;exact#[j+1,wd,hv,y,h1,by rw[h2,show k+1+j=k+(j+1) by lk]]
theorem sum_set:∀(W:List Nat) (i:Nat),(W.set i 0).sum+W.getD i 0=W.sum
 | [],_=>rfl
 | w::W,0=>by
  show (0::W).sum+w=(w::W).sum
  rw[d9,d9];lk
 | w::W,i+1=>by
  have e:=sum_set W i;show (w::W.set i 0).sum+W.getD i 0=(w::W).sum
  rw[d9,d9];lk
theorem wA:∀(ns W:List Nat),ns.Nodup->(ns.map λn=>W.getD n 0).sum<=W.sum
 | [],_,_=>ba _
 | n::r,W,h=>by
  obtain⟨h1,h2⟩:=rV.mp h;have ih:=wA r (W.set n 0) h2;have e:(r.map λm=>(W.set n 0).getD m 0)=r.map λm=>W.getD m 0:=z6 λm hm=>by
   rw[cJ,cJ,xV (λz=>h1 (by rw[z];exact hm))]
  rw[e] at ih;have:=sum_set W n;rw[bp,d9];lk
theorem FJ {cs ds es:List (List Int)}(h1:cs.Pairwise (· < ·))(h2:ds.Pairwise (· < ·))(p1:cs.Perm es)(p2:ds.Perm es):cs=ds :=
 Gb (le:=λa b:List Int=>a<b) (λa b _ _ x y=>absurd (mJ x y) (lJ _)) h1 h2 (p1.trans p2.symm)
noncomputable def c0:Crd:=#["",(0),(0),[],[]]
noncomputable def rwF (cs:List Crd)(os:List Int)(ms:List (List Str))(i:Nat)(x:Int):R8:=#[x,os.getD x.toNat 0,(i:Int),ms.getD x.toNat [],cs.getD x.toNat c0]
noncomputable def rsOf (cs:List Crd)(os:List Int)(ms:List (List Str))(ly:List Int):List R8:=ly.mapIdx (rwF cs os ms)
theorem jQ {cs:List Crd}{os:List Int}{ms:List (List Str)}{ly:List Int}(i:Nat):(rsOf cs os ms ly)[i]?=(ly[i]?).map (rwF cs os ms i):=List.getElem?_mapIdx
theorem wW {α:Type}{cs:List Crd}{os:List Int}{ms:List (List Str)}{ly:List Int}{f:R8->α}{g:Int->α}(h:∀i x,f (rwF cs os ms i x)=g x):(rsOf cs os ms ly).map f=ly.map g:=QI λi=>by
 rw[bH,jQ,bH];cases ly[i]? with
 | none=>rfl
 | some x=>exact congrArg some (h i x)
structure Rs (rs:List R8):Prop where
 ok:∀r∈rs,r.ok
 len:rs.length<=16
 ch:(rs.flatMap chs).length<=40
 nd:(rs.map (·.num)).Nodup
theorem Rs.has {rs:List R8}(h:Rs rs){c:List Int}(hc:c∈rs.flatMap chs):HasC rs c:=by
 obtain⟨r,hr,hc2⟩:=List.mem_flatMap.mp hc;obtain⟨j,wd,hv,y,h1,h2⟩:=vF r hc2;obtain⟨i,hi⟩:=lD hr;obtain⟨hok,py⟩:=(h.ok r hr).cok.rules _ (bq h1);rw[xL] at h2;refine#[i,j,r,wd,hv,y,_,_,hi,h1,h1,h2,hok,aV y.pR py.2,λz hz=>?_];subst hz;cases hok with
 | per hp=>exact aV z.pR hp.2
structure Ok23 (cs:List Crd)(os:List Int)(t:Tab):Prop where
 l:os.length=cs.length
 n:cs.length<=16
 ok:∀c∈cs,c.ok
 og:∀o∈os,0<=o/\o<4
 hs:(cs.map nH).sum<=3
 ml:t.marks.length=cs.length
 nd:t.lying.Nodup
 rg:∀x∈t.lying,0<=x/\x<cs.length
 mks:∀m∈t.marks,Marks m
theorem Ok23.ly {cs:List Crd}{os:List Int}{t:Tab}(h:Ok23 cs os t):t.lying.length<=16:=aV (few h.nd h.rg) h.n
theorem jo {α:Type}{xs:List α}{i:Nat}{x d:α}(h:xs[i]?=some x):xs.getD i d=x:=by
 rw[cJ,h];rfl
theorem Ok23.rs {cs:List Crd}{os:List Int}{t:Tab}(h:Ok23 cs os t):Rs (rsOf cs os t.marks t.lying):=by
 have n16:=h.n;refine#[λr hr=>?_,555]
 .obtain⟨i,hi⟩:=lD hr;rw[jQ] at hi;obtain⟨x,hx,rfl⟩:=ko.mp hi;obtain⟨x0,x1⟩:=h.rg x (bq hx);obtain⟨c,hc⟩:=getx (xs:=cs) (i:=x.toNat) (by lk);obtain⟨o,ho⟩:=getx (xs:=os) (i:=x.toNat) (by rw[h.l];lk);obtain⟨m,hm⟩:=getx (xs:=t.marks) (i:=x.toNat) (by rw[h.ml];lk);obtain⟨o0,o4⟩:=h.og o (bq ho);refine#[x0,by show x<16;lk,5555]
  .show 0<=os.getD x.toNat 0;rw[jo ho];exact o0
  .show os.getD x.toNat 0<4;rw[jo ho];exact o4
  .show Marks (t.marks.getD x.toNat []);rw[jo hm];exact h.mks m (bq hm)
  .show (cs.getD x.toNat c0).ok;rw[jo hc];exact h.ok c (bq hc)
 .show (t.lying.mapIdx _).length<=16;rw[CU];exact h.ly
 .have a:((t.lying.map Int.toNat).map λn=>(cs.map nH).getD n 0).sum<=(cs.map nH).sum:=wA _ _ (A5.mpr (h.nd.imp_of_mem λ{x y} hx hy n z=>n (by have:=h.rg x hx;have:=h.rg y hy;lk)));have b:=h.hs;rw[List.length_flatMap,wW (g:=λx=>(cs.map nH).getD x.toNat 0) λi x=>?_]
  .rw[cW] at a;exact aV a (aV b (by decide))
  .show (chAt _ 0 (cs.getD x.toNat c0).rules).length=_;rw[xk,cJ,cJ,bH];cases cs[x.toNat]?<;>rfl
 .rw[wW (g:=id) λ_ _=>rfl,Jb];exact h.nd
noncomputable def SgL (rs:List R8)(out:List Row):Prop:=Ex2 λss cs=>ss.Perm rs/\gN ss/\cs.Perm (rs.flatMap chs)/\cs.Pairwise (· < ·)/\out=(layC rs cs (ss.map rowF) 5).1/\(∀r∈out,r.marks.length<=60)/\out.length<=16
theorem SgL.lim {rs:List R8}{out:List Row}(h:SgL rs out):(∀r∈out,r.marks.length<=60)/\out.length<=16:=by
 obtain⟨ss,cs,_,_,_,_,_,h⟩:=h;exact h
theorem SgL.one {rs:List R8}{a b:List Row}(h:SgL rs a)(g:SgL rs b):a=b:=by
 obtain⟨ss,cs,p1,r1,c1,s1,rfl,_⟩:=h;obtain⟨st,ct,p2,r2,c2,s2,rfl,_⟩:=g;rw[MX r1 r2 p1 p2,FJ s1 s2 c1 c2]
noncomputable def CdO (B D:Addr)(H:Hp)(ca oa:Addr)(cs:List Crd)(os:List Int):Prop:=∃cvs:List V,H ca=some (.lst cvs)/\All2 (gr B D H) cvs cs/\H oa=some (.lst (iM os))
theorem CdO.same {B D:Addr}{H H':Hp}(s:Same H H'){ca oa:Addr}{cs:List Crd}{os:List Int}(h:CdO B D H ca oa cs os):CdO B D H' ca oa cs os:=by
 obtain⟨cvs,h1,h2,h3⟩:=h;exact#[cvs,s _ _ h1,h2.imp λz=>z.same s,s _ _ h3]
noncomputable def Me (B D:Addr):Sp:=λvs H Q _=>Ex3 λl us rs=>vs=[.ref l]/\H l=some (.lst us)/\All2 (LyT B D H) us rs/\Rs rs/\∀t s o ws out H',Same H H'->H s=none->H' t=some (.tup [.ref s,.ref o])->H' s=some (.lst ws)->bJ H' ws out->SgL rs out->Q (.ref t) H'
noncomputable def Cg (B D:Addr):Sp:=λvs H Q _=>Ex6 λca oa tv (t:Tab) (cs:List Crd) (os:List Int)=>vs=[.ref ca,.ref oa,tv]/\CdO B D H ca oa cs os/\TabT H tv t/\Ok23 cs os t/\∀p us H',Same H H'->H p=none->H' p=some (.lst us)->All2 (LyT B D H') us (rsOf cs os t.marks t.lying)->Q (.ref p) H'
noncomputable def GI (B D:Addr):Sp:=λvs H Q _=>Ex6 λca oa tv (t:Tab) (cs:List Crd) (os:List Int)=>vs=[.ref ca,.ref oa,tv]/\CdO B D H ca oa cs os/\TabT H tv t/\Ok23 cs os t/\∀s ws out H',Same H H'->H s=none->H' s=some (.lst ws)->bJ H' ws out->SgL (rsOf cs os t.marks t.lying) out->Q (.ref s) H'
theorem PQ (T:Tx K mg)(kb:K.In base):FnOk P w K mg base CX0 27 T.jO.f T.jO.d yT (Me T.b9 T.aT):=by
 refine (Ea (P:=P) (w:=w) (base:=base) T kb).imp λvs H Q E h=>?_;obtain⟨l,us,rs,rfl,el,al,R,q⟩:=h;refine#[l,us,rs,0,el,al,R.ok,λr hr=>(R.ok r hr).cok.rules,R.len,R.ch,R.nd,λc hc=>R.has hc,λt s o ws os ss cs H' S n1 _ _ h1 h2 _ p1 r1 c1 s1 RA _ LI=>q t s o ws _ H' S n1 h1 h2 RA #[ss,cs,p1,r1,c1,s1,0,λr hr=>?_,5]]
 .have c40:cs.length<=40:=by
   rw[c1.length_eq];exact R.ch
  have o40:=aV LI.many (aV (fY _ _) c40);have:=(LI.inv r hr).le;lk
 .have:=LI.nums.length_eq;rw[aw,aw] at this;rw[this];exact R.len
theorem LA (T:Tx K mg):FnOk P w K mg base CX0 2 T.lA.f T.lA.d Jq (Cg T.b9 T.aT):=by
 refine T.lA.ok Pp ?_;rintro f c A o s H vs Q E hr ⟨ca,oa,tv,t,cs,os,rfl,⟨cvs,ec,alc,eo⟩,TT,OK,q⟩ X;obtain⟨a,v0,v1,v2,v3,v4,v5,v6,v7,v8,rfl,ea,TP⟩:=TT;obtain⟨b5,rfl,e5⟩:=TP.p5;obtain⟨b7,u7,rfl,e7,al7⟩:=TP.p7;have ly:=OK.ly;refine#[_,(ae (aA (i:=3) Pp.nd rfl (.inr rfl) (ao aP (pv 2) (dR (v:=.int 7) rfl T.kF #[1])))
  (ag (aD (cB (own:=["came","number"]) (cap:=["cards","owners","marks"]) rfl (bI.chk rfl rfl) (.cons (j:=0) rfl (.inl rfl) (.inl rfl) (.cons (j:=1) rfl (.inl rfl) (.inl rfl) (.cons (j:=3) rfl (.inl rfl) (.inl rfl) .nil))) (ug rfl T.uD (aa (ao aP (pv 2) (dR (v:=.int 5) rfl T.j5 #[1])) ab)) (λ_ _ _ _=>(px K (n:=2) rfl (dC (aZ (i:=0) (show bG (["came","number","cards","owners","marks"]:List Str) by lia) rfl (.inl rfl)) (dC (aZ (i:=1) (show bG (["came","number","cards","owners","marks"]:List Str) by lia) rfl (.inl rfl)) mR)))) (λ_ _ _ _=>cF) (λ_ _ _ _=>by exact (bc (aa (pv 1) (aa (ao (Ak K) (pv 2) (pv 1)) (aa (ao (Ak K) (pv 3) (pv 1)) (aa (pv 0) (aa (ao (fS K) (pv 4) (pv 1)) ab))))))))))),5]
 k_ne
 refine#[1,a,_,4,SqT.of ea,aI (j:=7) rfl,5];refine#[1,a,_,4,SqT.of ea,aI (j:=5) rfl,b5,1,SqT.of e5,5];refine Nd (xs:=iM t.lying) (λi ys H'=>Same H H'/\i<=t.lying.length/\All2 (LyT T.b9 T.aT H') ys ((rsOf cs os t.marks t.lying).take i)) (λi ys H' z=>SqT.of (z.1 _ _ e5)) #[Same.refl _,ba _,.nil] ?_ ?_ ?_
 .rintro i ys H' ⟨_,hi,hy⟩;have:=hy.len;rw[bQ] at this;exact small (by lk)
 .rintro i v ys H' pp hv ⟨S,_,hy⟩ hp;unfold iM at hv;rw[bH] at hv;obtain⟨x,hx,rfl⟩:=ko.mp hv;have hi:i<t.lying.length:=(br.mp hx).1;obtain⟨x0,x1⟩:=OK.rg x (bq hx);have hrw:(rsOf cs os t.marks t.lying)[i]?=some (rwF cs os t.marks i x):=by rw[jQ,hx];rfl
  obtain⟨c,hcc⟩:=getx (xs:=cs) (i:=x.toNat) (by lk);obtain⟨o,ho⟩:=getx (xs:=os) (i:=x.toNat) (by rw[OK.l];lk);obtain⟨mm,hm⟩:=getx (xs:=t.marks) (i:=x.toNat) (by rw[OK.ml];lk);obtain⟨cv,hcv,pc⟩:=alc.get2 hcc;obtain⟨_,hmv,mb,rfl,emb⟩:=al7.get2 (b:=sM mm) (by rw[bH,hm];rfl);have er:rwF cs os t.marks i x=#[x,o,(i:Int),mm,c]:=by
   unfold rwF;rw[jo ho,jo hm,jo hcc]
  have xe:x=(x.toNat:Int):=by lk
  ext hp H1 S1 e1;have S01:=S.trans S1;refine#[pp,1,SqT.of e1,0,_,1405];refine#[111,ca,_,4,SqL.of (S01 _ _ ec),(by rw[xe];exact aI hcv),11,oa,_,4,SqL.of (S01 _ _ eo),(by rw[xe];exact lT ho),111,b7,_,4,SqT.of (S01 _ _ e7),(by rw[xe];exact aI hmv),sz5,λr hr'=>?_];ext hr' H2 S2 e2;refine#[S01.trans S2,hi,5];have S02:=S01.trans S2;rw[bU,hrw,er];exact All2.snoc #[r,mb,cv,0,e2,S02 _ _ emb,pc.same S02] (hy.imp λz=>z.same (S1.trans S2))
 .rintro ys H' ⟨S,_,hy⟩ p hp;have e:((rsOf cs os t.marks t.lying).take (iM t.lying).length)=rsOf cs os t.marks t.lying:=by
   unfold iM rsOf;rw[aw,bX (by rw[CU];exact az _)]
  rw[e] at hy;ext hp H2 S2 e2;exact q p ys H2 (S.trans S2) (none_of S hp) e2 (hy.imp λz=>z.same S2)
theorem TQ (T:Tx K mg)(kb:K.In base):FnOk P w K mg base CX0 28 T.pd.f T.pd.d Cr (GI T.b9 T.aT):=by
 refine T.pd.ok Oi ?_;rintro f c A o s H vs Q E hr ⟨ca,oa,tv,t,cs,os,rfl,CO,TT,OK,q⟩ X;refine#[_,(ag (aD (ao aP (T.jO.c (PQ T kb) hr (u9 T) (aa (T.lA.c (LA T).up hr (F3 T) (aa (pv 0) (aa (pv 1) (aa (pv 2) ab)))) ab)) ad))),5];refine#[111,ca,oa,tv,t,cs,os,0,CO,TT,OK,λp us H1 S1 np e1 al=>?_];refine#[p,us,1,e1,al,OK.rs,λtt s o ws out H2 S2 ns et es RA SL=>?_];exact#[tt,_,4,SqT.of et,9,q s ws out H2 (S1.trans S2) (none_of S1 ns) es RA SL]
theorem MH (r:Rule):eB r=isHd r:=by cases r<;>rfl
theorem uS {H Hx:Hp}{p l:Addr}{us:List V}(e:H l=none)(B:But p H Hx):But p H (upd Hx l (.lst us)):=λb o nb hb=>by
 rw[aF (a9 hb e)];exact B b o nb hb
theorem Bh {rs:List Rule}{r:Rule}:((rs++[r]).filter eB).length=(rs.filter eB).length+(if isHd r=true then 1 else 0):=by
 rw[lH,aS,<- MH,rB];cases eB r<;>rfl
noncomputable def Gm (K:ah):Sp:=λvs H Q _=>Ex5 λp nl kl (k:Int) (ns:List Str)=>vs=[.ref p,.ref nl,.ref kl]/\Tk K H p k/\k<=400000/\N4 H nl ns/\H kl=some (.lst ((["leave","hurt","lose"]:List Str).map V.str))/\∀cl cvs (cs:List Crd) (k':Int) H',But p H H'->Tk K H' p k'->k'<=k+5000->H cl=none->H' cl=some (.lst cvs)->All2 (CT H') cvs cs->cs.length<=16->(cs.map nH).sum<=3->Q (.ref cl) H'
theorem Cb (T:Tx K mg):FnOk P w K mg base CX0 16 T.qH.f T.qH.d Gq (Gm K):=by
 refine T.qH.ok je ?_;rintro f c A o s H vs Q E hr ⟨p,nl,kl,k,ns,rfl,TT,hk,N0,ek,q⟩ X;have nkp:kl≠p:=TT.strs ek;refine#[_,(ae (aA (i:=3) je.nd rfl (.inl rfl) (bj ab))
  (ae (aA (i:=4) je.nd rfl (.inl rfl) ad)
  (ae (aA (i:=5) je.nd rfl (.inl rfl) (aN dM ad (T.bw.c (bL T).up hr (bK T) (aa (pv 0) (aa ad ab)))))
  (ae (aJ (aL a6 (T.bw.c (bL T).up hr (bK T) (aa (pv 0) (aa ad ab))) ad (aH _))
   (ag (aA (i:=5) je.nd rfl (.inl rfl) (aN dM ad (T.bw.c (bL T).up hr (bK T) (aa (pv 0) (aa ad ab))))))
   aO)
  (ae (gG eZ rfl (gj rfl T.eC (aa (pv 5) ab)) (aZ (i:=6) je.nd rfl (.inl rfl))
   (ae (aA (i:=7) je.nd rfl (.inl rfl) (bj ab))
   (ae (gG eZ rfl (gj rfl T.eC (aa (T.bw.c (bL T).up hr (bK T) (aa (pv 0) (aa ad ab))) ab)) (aZ (i:=8) je.nd rfl (.inl rfl))
    (ae (aA (i:=9) je.nd rfl (.inl rfl) (T.bw.c (bL T).up hr (bK T) (aa (pv 0) (aa ad ab))))
    (ag (aJ (PW.pt (iu (aL fP (pv 9) ad (aH _)) (xT (aL fP (pv 4) ad (aH _)))))
     (ae (cz (bR cO fQ fC fJ (pv 7) (aa (T.rD.c (GG T).up hr (Gs T) (aa (pv 0) (aa (pv 1) ab))) ab)))
     (ag (aA (i:=4) je.nd rfl (.inl rfl) (aN dM (pv 4) ad))))
     (ag (aJ (aL fP (pv 9) ad (aH _))
      (ag (cz (bR cO fQ fC fJ (pv 7) (aa (T.sA.c (DU T).up hr (O9 T) (aa (pv 0) (aa (pv 1) (aa (pv 2) ab)))) ab))))
      (ag (cz (bR cO fQ fC fJ (pv 7) (aa (T.rm.c (Uw T).up hr (UW T) (aa (pv 0) (aa (pv 1) (aa (pv 2) ab)))) ab))))))))))
   (ag (cz (bR cO fQ fC fJ (pv 3) (aa (T.qm.c (Gh T).up hr (NM T) (aa (pv 0) (aa (pv 1) (aa (pv 7) ab)))) ab)))))))
  (ag (aD (pv 3)))))))),5]
 k_ne
 refine#[sz0,λcl hcl=>?_]
 k_ne
 ext hcl H1 S1 e1;have ncp:cl≠p:=a8 (TT.ne hcl)
 k_ne
 refine#[1,p,k,(7),0,TT.same S1,37,λr0 H2 r1 r2 B2 T2=>#[45]]
 try dsimp only[cL]
 k_ne
 refine zb (fun σ' H'=>Ex2 λ(n:Nat) (k':Int)=>σ'=[some (.ref p),some (.ref nl),some (.ref kl),some (.ref cl),some (.int 0),some (.int (n:Int)),none,none,none,none]/\n<=16/\But p H2 H'/\Tk K H' p k'/\k'<=k+3) ?_ ?_
 case refine_2 =>
  intro R hR;refine#[1,p,_,(4),0,T2,37,λr3 H3 r30 r31 B3 T3=>#[015]];refine ite2 (λ_=>?_) (λ_=>?_)
  .refine#[1,p,_,(9),0,T3,37,λr4 H4 r40 r41 B4 T4=>#[45]];obtain⟨m,hm⟩:∃m:Nat,8+r4=(m:Int):=#[(8+r4).toNat,3];exact hR _ _ #[m,_,(by rw[<- hm];rfl),3,B3.trans B4,T4,3]
  .obtain⟨m,hm⟩:∃m:Nat,1+r0=(m:Int):=#[(1+r0).toNat,3];exact hR _ _ #[m,_,(by rw[<- hm];rfl),3,B3,T3,3]
 rintro σ3 H3 ⟨n,k3,rfl,n16,B23,T3,hk3⟩;have B03:But p H H3:=(But.same S1).trans (B2.trans B23)
 k_ne
 refine#[1,(n:Int),0335];rw[cS];refine qI (lo:=0) (n:=n) (λi σ Hz=>Ex8 λcvs (cs:List Crd) (hN:Nat) (k4:Int) o6 o7 o8 o9=>σ=[some (.ref p),some (.ref nl),some (.ref kl),some (.ref cl),some (.int (hN:Int)),some (.int (n:Int)),o6,o7,o8,o9]/\Hz cl=some (.lst cvs)/\All2 (CT Hz) cvs cs/\cs.length=i/\i<=n/\(cs.map nH).sum=hN/\hN<=3/\But p H Hz/\Tk K Hz p k4/\k4<=k+3+200*(i:Int)) #[[],[],(0),_,_,_,_,1,B23 _ _ ncp (B2 _ _ ncp e1),.nil,0,ba _,07,B03,T3,3] ?_ ?_
 .rintro i σ Hz hi ⟨cvs,cs,hN,k4,o6,o7,o8,o9,rfl,ec,alc,csl,_,hsum,h3,Bz,Tz,hk4⟩
  k_ne
  refine#[sz0,λrl hrl=>?_];have nrp:rl≠p:=a8 (Tz.ne hrl);have nrc:cl≠rl:=a9 ec hrl
  k_ne
  ext hrl H4 S4 e4
  k_ne
  refine#[1,p,k4,(4),0,Tz.same S4,37,λr5 H5 r50 r51 B5 T5=>?_];obtain⟨r,rfl⟩:∃r:Nat,r5=(r:Int):=#[r5.toNat,3];refine#[1335];rw[cS];have Bz5:But p Hz H5:=(But.same S4).trans B5;refine qI (lo:=0) (n:=r) (λj σ Hy=>Ex6 λus (rs:List Rule) (hM:Nat) (k6:Int) o8 o9=>σ=[some (.ref p),some (.ref nl),some (.ref kl),some (.ref cl),some (.int (hM:Int)),some (.int (n:Int)),some (.int (0+(i:Int))),some (.ref rl),o8,o9]/\Hy rl=some (.lst us)/\All2 (R28 Hy) us rs/\rs.length=j/\j<=r/\hN+(rs.filter eB).length=hM/\hM<=3/\But p Hz Hy/\Tk K Hy p k6/\k6<=k4+1+50*(j:Int)) #[[],[],hN,_,_,1,B5 _ _ nrp e4,.nil,0,ba _,0,h3,Bz5,T5,3] ?_ ?_
  .rintro j σ Hy hj ⟨us,rs,hM,k6,o8,o9,rfl,eu,alu,rll,_,hm,hm3,By,Ty,hk6⟩;have ul:=alu.len
   k_ne
   refine#[1,p,k6,(6),0,Ty,37,λway H6 w0 w1 B6 T6=>?_];have eu6:=B6 _ _ nrp eu;have B06:=By.trans B6;have N6:=(N0.but TT Bz).but Tz B06;have ek6:=B06 _ _ nkp (Bz _ _ nkp ek);have put:∀{H8:Hp} {v:V} {rr:Rule} {ky:Int} {hM':Nat},But p H6 H8->Tk K H8 p ky->ky<=k6+50->R28 H8 v rr->hM+(if isHd rr=true then 1 else 0)=hM'->hM'<=3->Ex6 λus' (rs':List Rule) (hM2:Nat) (k6':Int) o8 o9=>([some (.ref p),some (.ref nl),some (.ref kl),some (.ref cl),some (.int (hM':Int)),some (.int (n:Int)),some (.int (0+(i:Int))),some (.ref rl),some (.int (0+(j:Int))),some (.int way)]:L2.St)=[some (.ref p),some (.ref nl),some (.ref kl),some (.ref cl),some (.int (hM2:Int)),some (.int (n:Int)),some (.int (0+(i:Int))),some (.ref rl),o8,o9]/\upd H8 rl (.lst (us++[v])) rl=some (.lst us')/\All2 (R28 (upd H8 rl (.lst (us++[v])))) us' rs'/\rs'.length=j+1/\j+1<=r/\hN+(rs'.filter eB).length=hM2/\hM2<=3/\But p Hz (upd H8 rl (.lst (us++[v])))/\Tk K (upd H8 rl (.lst (us++[v]))) p k6'/\k6'<=k4+1+50*((j+1:Nat):Int):=λ{H8 v rr ky hM'} B8 T8 hk8 R8 hh h3'=>by
    have eu8:=B8 _ _ nrp eu6;have kpp:Kp H8 (upd H8 rl (.lst (us++[v]))):=Kp.put eu8;exact#[us++[v],rs++[rr],hM',ky,_,1,aB,All2.snoc (R8.kp kpp) (alu.imp λz=>z.kp ((Kp.but Ty B6).trans ((Kp.but T6 B8).trans kpp))),by rw[aS,rll];rfl,hj,by rw[Bh];lk,h3',uS hrl (B06.trans B8),T8.other eu8 (a8 nrp),3]
   refine#[141,ite2 (λc1=>?_) (λc1=>?_)]
   .refine#[141,ite2 (λc2=>?_) (λc2=>?_)]
    .have c2':(hM:Int)<3:=of_decide_eq_true c2
     k_ne
     exact#[1,.inl #[0,_,SqL.of eu6],11,p,nl,_,ns,0,T6,3,N6,λv rr k7 H8 B8 T8 hk7 R8 hd=>#[rl,4,B8 _ _ nrp eu6,df (by lk),#[14,put (hM':=hM+1) B8 T8 (by lk) R8 (by rw[if_pos hd]) (by lk)]]]
    .refine#[141,ite2 (λc3=>?_) (λc3=>?_)]
     .exact#[1,.inl #[0,_,SqL.of eu6],111,p,nl,kl,_,ns,["leave","hurt","lose"],0,T6,3,N6,ek6,7,by lia,λv rr k7 H8 B8 T8 hk7 R8 hd=>#[rl,4,B8 _ _ nrp eu6,df (by lk),put (hM':=hM) B8 T8 (by lk) R8 (by rw[hd];rfl) hm3]]
     .exact#[1,.inl #[0,_,SqL.of eu6],111,p,nl,kl,_,ns,["leave","hurt","lose"],0,T6,3,N6,ek6,77,by lia,λv rr k7 H8 B8 T8 hk7 R8 hd=>#[rl,4,B8 _ _ nrp eu6,df (by lk),put (hM':=hM) B8 T8 (by lk) R8 (by rw[hd];rfl) hm3]]
   .refine iteF ?_;refine#[141,ite2 (λc3=>?_) (λc3=>?_)]
    .exact#[1,.inl #[0,_,SqL.of eu6],111,p,nl,kl,_,ns,["leave","hurt","lose"],0,T6,3,N6,ek6,7,by lia,λv rr k7 H8 B8 T8 hk7 R8 hd=>#[rl,4,B8 _ _ nrp eu6,df (by lk),put (hM':=hM) B8 T8 (by lk) R8 (by rw[hd];rfl) hm3]]
    .exact#[1,.inl #[0,_,SqL.of eu6],111,p,nl,kl,_,ns,["leave","hurt","lose"],0,T6,3,N6,ek6,77,by lia,λv rr k7 H8 B8 T8 hk7 R8 hd=>#[rl,4,B8 _ _ nrp eu6,df (by lk),put (hM':=hM) B8 T8 (by lk) R8 (by rw[hd];rfl) hm3]]
  .rintro σ Hy ⟨us,rs,hM,k6,o8,o9,rfl,eu,alu,rll,_,hm,hm3,By,Ty,hk6⟩;have ecy:=By _ _ ncp ec;have aly:All2 (CT Hy) cvs cs:=alc.imp λz=>z.but Tz By;have cvl:=alc.len;refine#[1,.inl #[0,_,SqL.of ecy],111,p,nl,rl,k6,ns,us,rs,0,Ty,3,(N0.but TT Bz).but Tz By,eu,nrp,alu,3,λl mm c k7 H8 B8 T8 hk7 hl8 e8 em8 cok crs cm4=>?_];have ec8:=B8 _ _ ncp ecy;refine#[cl,4,ec8,df (by lk),5];have hr8:=CTs.ref alc;refine#[cvs++[.ref l],cs++[c],hM,k7,_,_,_,1,aB,All2.snoc #[l,mm,_,_,1,(aF (a8 (a9 ecy hl8))).trans e8,(Kp.put ec8).t em8,cok] (aly.imp λz=>(z.but Ty B8).put ec8 hr8),by rw[aS,csl];rfl,hi,5,hm3,uS hcl ((Bz.trans By).trans B8),T8.other ec8 (a8 ncp),3];rw[bE,zx,hsum,<- hm,<- crs];rfl
 .rintro σ Hz ⟨cvs,cs,hN,k4,o6,o7,o8,o9,rfl,ec,alc,csl,_,hsum,h3,Bz,Tz,hk4⟩;exact#[1,q cl cvs cs k4 Hz Bz Tz (by lk) hcl ec alc (by lk) (by lk)]
noncomputable def DF (B D:Addr):Sp:=λvs H Q _=>Ex5 λf d us ws rs=>vs=[.ref f,.ref d]/\H f=some (.lst us)/\H d=some (.lst ws)/\All2 (LyT B D H) us rs/\All2 (LyT B D H) ws rs/\Rs rs/\∀H',Same H H'->Q (.bl true) H'
theorem RW (T:Tx K mg):FnOk P w K mg base CX0 15 T.pJ.f T.pJ.d NL (DF T.b9 T.aT):=by
 refine T.pJ.ok Co ?_;rintro f c A o s H vs Q E hr ⟨f,d,us,ws,rs,rfl,ef,ed,alf,ald,R,q⟩ X;have l1:=alf.len;have l2:=ald.len;have l16:=R.len;refine#[_,(ae (aJ (PW.pt (jd (fj (cN (bh fu rfl T.dH eF (aa (pv 0) (aa (eG (v:=.ty "list") rfl T.gZ kh rfl) ab))))) (lO (aL fO (bh cT rfl T.cr cE (aa (pv 0) ab)) (bh cT rfl T.cr cE (aa (pv 1) ab)) (aH _)))))
   (ag (aD fK))
   aO)
  (ae (gG eZ rfl (Jd rfl T.jK (aa (pv 0) (aa (pv 1) ab))) (iN (n:=2) rfl (dC (aZ (i:=2) Co.nd rfl (.inl rfl)) (dC (aZ (i:=3) Co.nd rfl (.inl rfl)) mR)))
   (ae (aJ (PW.pt (jd (fj (cN (bh fu rfl T.dH eF (aa (pv 2) (aa (eG (v:=.ty "tuple") rfl T.cG db rfl) ab))))) (jd (aL fO (bh cT rfl T.cr cE (aa (pv 2) ab)) ad (aH _)) (lO (aL fO (T.pi.c (TZ T) hr (P2 T) (aa (ao aP (pv 2) ad) ab)) (T.pi.c (TZ T) hr (P2 T) (aa (ao aP (pv 3) ad) ab)) (aH _))))))
    (ag (aD fK))
    aO)
   (ag (aJ (fj (cN (T.fI.c (Ai T 4).up hr (Al T) (aa (aN fz (de fh (pv 2) dq (cY ad)) (de fh (pv 2) (cY ad) dq)) (aa (aN fz (de fh (pv 3) dq (cY ad)) (de fh (pv 3) (cY ad) dq)) ab)))))
    (ag (aD fK))
    aO))))
  (ag (aD fK)))),5]
 k_ne
 refine#[1,_,_,_,true,0,TyOf.lst ef,.inl #["list",00],6];refine#[1,f,1,.inl (SqL.of ef),1,d,1,.inl (SqL.of ed),015];rw[show us.length=ws.length by lk,decide_eq_true rfl];refine iteF ?_;refine#[11,f,d,us,ws,0,SqL.of ef,SqL.of ed,5];refine NF (λi σ Hx=>Ex2 λ(o2 o3:Option V)=>σ=[some (.ref f),some (.ref d),o2,o3]/\Same H Hx) (by lk) #[_,1,Same.refl _] (λi σ Hx _ #[_,_,_,S]=>#[SqL.of (S _ _ ef),SqL.of (S _ _ ed)]) ?_ ?_
 .rintro i x y σ Hx p hx hy ⟨o2,o3,rfl,S⟩ hp;obtain⟨r,hr1,a1,t1,c1,rfl,ea,et,IC⟩:=alf.get hx;obtain⟨r2,hr2,a2,t2,c2,rfl,ea2,et2,IC2⟩:=ald.get hy;rw[hr1] at hr2;cases hr2;have cok:=(R.ok r (bq hr1)).cok;have mle:=(R.ok r (bq hr1)).mks.le;ext hp H1 S1 e1;have S':=S.trans S1;refine#[p,1,SqT.of e1,0,_,145]
  k_ne
  refine#[1,_,_,_,true,0,TyOf.tup (S' _ _ ea),.inl #["tuple",00],6];refine#[1,a1,1,.inr (SqT.of (S' _ _ ea)),06];refine#[1,a1,_,4,SqT.of (S' _ _ ea),aI (j:=1) rfl,c1,r.card,0,IC.same S',cok,λH2 S2=>?_];have Sb:=S'.trans S2;refine#[1,a2,_,4,SqT.of (Sb _ _ ea2),aI (j:=1) rfl,c2,r.card,0,IC2.same Sb,cok,λH3 S3=>#[015]];rw[decide_eq_true rfl];refine iteF ?_;have Sc:=Sb.trans S3;refine#[11,a1,1,SqT.of (Sc _ _ ea),(by show ¬ (HT.sIx 5 0 none=0/\HT.sIx 5 5 (some 1)=5);decide),λp4 hp4=>?_];ext hp4 H4 S4 e4;have S04:=Sc.trans S4;refine#[11,a1,1,SqT.of (S04 _ _ ea),(by show ¬ (HT.sIx 5 0 (some 2)=0/\HT.sIx 5 5 none=5);decide),λp5 hp5=>?_];ext hp5 H5 S5 e5;refine#[p4,p5,4,SqT.of (S5 _ _ e4),SqT.of e5,(by intro z;cases z),sz4,λz=>(by cases z),λ_ p6 hp6=>?_];ext hp6 H6 S6 e6;have S06:=S04.trans (S5.trans S6);refine#[11,a2,1,SqT.of (S06 _ _ ea2),(by show ¬ (HT.sIx 5 0 none=0/\HT.sIx 5 5 (some 1)=5);decide),λp7 hp7=>?_];ext hp7 H7 S7 e7;have S07:=S06.trans S7;refine#[11,a2,1,SqT.of (S07 _ _ ea2),(by show ¬ (HT.sIx 5 0 (some 2)=0/\HT.sIx 5 5 none=5);decide),λp8 hp8=>?_];ext hp8 H8 S8 e8;refine#[p7,p8,4,SqT.of (S8 _ _ e7),SqT.of e8,(by intro z;cases z),sz4,λz=>(by cases z),λ_ p9 hp9=>?_];ext hp9 H9 S9 e9;have S09:=S07.trans (S8.trans S9);refine#[(2),.ref p6,.ref p9,07,.tup ((S7.trans (S8.trans S9)) _ _ e6) e9 (by show 4<=1000;decide) (.cons (.int _) (.cons (.int _) (.cons (.int _) (.cons (.tup (S09 _ _ et) (S09 _ _ et2) (by rw[aw];lk) (nJ _)) .nil)))),λHA SA=>#[6]];exact#[_,1,S09.trans SA]
 .rintro σ Hx ⟨o2,o3,rfl,S⟩;exact q Hx S
mutual
theorem IsW.kp {D:Addr}{H H':Hp}(s:Kp H H'):∀{v:V} {w:Wh},IsW D H v w->IsW D H' v w
 | _,_,.mk h1 h2 h3=>.mk (s _ _ (λ_ z=>by cases z) h1) (s.t h2) (h3.kp s)
theorem IsWs.kp {D:Addr}{H H':Hp}(s:Kp H H'):∀{vs:List V} {ws:List Wh},IsWs D H vs ws->IsWs D H' vs ws
 | _,_,.nil=>.nil
 | _,_,.cons h t=>.cons (h.kp s) (t.kp s)
end
theorem jC.kp {D:Addr}{H H':Hp}(s:Kp H H'){v:V}{d:Deed}(h:jC D H v d):jC D H' v d:=by
 obtain⟨a,x,e,h1,h2⟩:=h;exact#[a,x,e,s.t h1,h2.kp s]
theorem fU.kp {D:Addr}{H H':Hp}(s:Kp H H'){v:V}:∀{r:Rule},fU D H v r->fU D H' v r
 | .hold w y z,⟨a,x,u,e,h,p,q⟩=>#[a,x,u,e,s.t h,(match y,p with
  | .v _,p=>p
  | .w _,p=>IsW.kp s p),q.kp s]
 | .wen k y d,⟨a,x,u,e,h,p,q⟩=>#[a,x,u,e,s.t h,p.kp s,q.kp s]
 | .instead k y w z,⟨a,x,e,h,p⟩=>#[a,x,e,s.t h,p.kp s]
 | .may c d,⟨a,u,e,h,p⟩=>#[a,u,e,s.t h,p.kp s]
theorem IsRules.kp {D:Addr}{H H':Hp}(s:Kp H H'){vs:List V}{rs:List Rule}(z:IsRules D H vs rs):IsRules D H' vs rs:=by
 induction z with
 | nil=>exact .nil
 | cons h _ ih=>exact .cons (h.kp s) ih
theorem gr.kp {B D:Addr}{H H':Hp}(s:Kp H H'){v:V}{c:Crd}(h:gr B D H v c):gr B D H' v c:=by
 obtain⟨a,dx,m,t,vs,e,h1,h2,h3,h4⟩:=h;exact#[a,dx,m,t,vs,e,s _ _ (λ_ z=>by cases z) h1,s.t h2,s.t h3,h4.kp s]
theorem uX {H:Hp}{ws us:List V}{ss:List Row}(h:bJ H ws ss)(g:bJ H us ss)(m:∀r∈ss,r.marks.length<=60):ALs H 2 ws us:=by
 induction h generalizing us with
 | nil=>cases g;exact .nil
 | cons h _ ih =>
  cases g with
  | cons g gs =>
   obtain⟨a,t,rfl,ea,et⟩:=h;obtain⟨b,t2,rfl,eb,et2⟩:=g;have:=m _ bb;exact .cons (.tup ea eb (by show 5<=1000;decide) (.cons (.int _) (.cons (.int _) (.cons (.tup et et2 (by rw[aw];lk) (nJ _)) (.cons (.int _) (.cons (.bl _) .nil)))))) (ih gs λr hr=>m r (bx _ hr))
theorem uC {H:Hp}{ws:List V}{ss:List Row}(h:bJ H ws ss):ws.length=ss.length:=by
 induction h with
 | nil=>rfl
 | cons _ _ ih=>rw[aK,aK,ih]
theorem Id (T:Tx K mg)(kb:K.In base):FnOk P w K mg base CX0 29 T.iZ.f T.iZ.d sC (kn K):=by
 refine T.iZ.ok eU ?_;rintro f c A o s H vs Q E hr ⟨sa,sc,rfl,hS,h63,q⟩ X;refine#[_,(ae (aA (i:=1) eU.nd rfl (.inr rfl) (bj (aa (pv 0) (aa ad ab))))
  (ae (aA (i:=2) eU.nd rfl (.inl rfl) (T.r9.c (Ff T).up hr (Pb T) (aa (pv 1) ab)))
  (ae (aA (i:=3) eU.nd rfl (.inr rfl) (aN dM ad (T.bw.c (bL T).up hr (bK T) (aa (pv 1) (aa ad ab)))))
  (ae (aA (i:=4) eU.nd rfl (.inl rfl) (T.qH.c (Cb T).up hr (ED T) (aa (pv 1) (aa (pv 2) (aa (bj (aa ar (aa ar (aa ar ab)))) ab)))))
  (ae (i5 (i:=5) eU.nd rfl (.inl rfl) (own:=["_law_card_here"]) (cap:=["_law_pen","_law_many"]) rfl (bI.chk rfl rfl) (.cons (j:=1) rfl (.inl rfl) (.inl rfl) (.cons (j:=3) rfl (.inl rfl) (.inl rfl) .nil)) (cI (pv 4)) (λ_ _ _ _=>(aZ (i:=0) (show bG (["_law_card_here","_law_pen","_law_many"]:List Str) by lia) rfl (.inl rfl))) (λ_ _ _ _=>cF) (λ_ _ _ _=>by exact (T.bw.c (bL T).up hr (bK T) (aa (pv 1) (aa (pv 2) ab)))))
  (ae (i5 (i:=6) eU.nd rfl (.inl rfl) (own:=["_law_card_here"]) (cap:=[]) rfl (bI.chk rfl rfl) .nil (cI (pv 4)) (λ_ _ _ _=>(aZ (i:=0) (show bG (["_law_card_here"]:List Str) by lia) rfl (.inl rfl))) (λ_ _ _ _=>cF) (λ_ _ _ _=>by exact (T.qa.c (Ep T kb).up hr (JO T) (aa (ao (Ak K) (pv 0) ad) ab))))
  (ae (gG eZ rfl (gj rfl T.eC (aa ad ab)) (aZ (i:=7) eU.nd rfl (.inl rfl))
   (ae (aA (i:=8) eU.nd rfl (.inl rfl) (T.qO.c (Ji T).up hr (Ka T) (aa (pv 1) (aa (pv 2) (aa (pv 4) (aa (pv 5) (aa (pv 3) ab)))))))
   (ae (aA (i:=9) eU.nd rfl (.inl rfl) (bj ab))
   (ae (gG eZ rfl (gj rfl T.eC (aa (bh cT rfl T.cr cE (aa (ao aP (pv 8) ad) ab)) ab)) (aZ (i:=10) eU.nd rfl (.inl rfl))
    (ae (aA (i:=11) eU.nd rfl (.inl rfl) (ao aP (ao aP (pv 8) ad) (pv 10)))
    (ag (cz (bR cO fQ fC fJ (pv 9) (aa (bc (aa (pv 11) (aa (ao bC (pv 6) (pv 11)) (aa (ao bC (pv 5) (pv 11)) (aa (pv 10) (aa (ao aP (ao aP (pv 8) ad) (pv 11)) ab)))))) ab))))))
   (ae (aA (i:=12) eU.nd rfl (.inl rfl) (ao aP (T.jO.c (PQ T kb).up hr (u9 T) (aa (bV zO rfl T.gZ kh (aa (pv 9) ab)) ab)) ad))
   (ae (aA (i:=13) eU.nd rfl (.inl rfl) (bj (aa (bV zO rfl T.gZ kh (aa (pv 6) ab)) (aa (bV zO rfl T.gZ kh (aa (pv 5) ab)) ab))))
   (ae (aA (i:=14) eU.nd rfl (.inl rfl) (T.lA.c (LA T).up hr (F3 T) (aa (ao bC (pv 13) ad) (aa (ao bC (pv 13) ad) (aa (pv 8) ab)))))
   (ae (aA (i:=15) eU.nd rfl (.inl rfl) (T.pd.c (TQ T kb) hr (uh T) (aa (ao bC (pv 13) ad) (aa (ao bC (pv 13) ad) (aa (pv 8) ab)))))
   (ae (aJ (PW.pt (jd (fj (cN (T.pJ.c (RW T).up hr (RZ T) (aa (pv 14) (aa (pv 9) ab))))) (jd (fj (cN (T.fI.c (Ai T 4).up hr (Al T) (aa (pv 15) (aa (pv 12) ab))))) (lO (aL (NO hr.units) (pv 13) (bj (aa (pv 6) (aa (pv 5) ab))) (aH _))))))
    (ag (aD fK))
    aO)
   (ae (cz (uH cO PySem.F.slot_list_clear PySem.F.type_list_clear IF (pv 14)))
   (ae (cz (bR cO fQ fC fJ (pv 15) (aa (bc ab) ab)))
   (ae (aJ (fj (cN (T.pJ.c (RW T).up hr (RZ T) (aa (T.lA.c (LA T).up hr (F3 T) (aa (ao bC (pv 13) ad) (aa (ao bC (pv 13) ad) (aa (pv 8) ab)))) (aa (pv 9) ab)))))
    (ag (aD fK))
    aO)
   (ag (aJ (fj (cN (T.fI.c (Ai T 4).up hr (Al T) (aa (T.pd.c (TQ T kb) hr (uh T) (aa (ao bC (pv 13) ad) (aa (ao bC (pv 13) ad) (aa (pv 8) ab)))) (aa (pv 12) ab)))))
    (ag (aD fK))
    aO))))))))))))))
  (ag (aD fK))))))))),5]
 k_ne
 refine#[1,sz2,λp hp=>?_];have T1:=Tk.begin hp hS h63;generalize upd H p (.lst [.ref sa,.int 0])=H1 at T1 ⊢
 k_ne
 refine#[1,p,(0),0,T1,7,λnl ns k2 H2 B2 T2 hk2 _ N2=>?_]
 k_ne
 refine#[1,p,k2,(3),0,T2,37,λm0 H3 m1 m2 B3 T3=>#[45]];obtain⟨np,hnp⟩:∃m:Nat,2+m0=(m:Int):=#[(2+m0).toNat,3];dsimp only;rw[hnp];have N3:=N2.but T2 B3
 k_ne
 refine#[11,sz3,λkl hkl=>?_];ext hkl H4 S4 e4;refine#[p,nl,kl,_,ns,0,T3.same S4,3,N3.same S4,e4,λcl cvs cs k5 H5 B5 T5 hk5 hcl ec alc c16 hsum=>?_];have ncp:cl≠p:=a8 ((T3.same S4).ne hcl);have cvl:=alc.len;have N5:=(N3.same S4).but (T3.same S4) B5;have cok:∀c∈cs,c.ok:=λc hc=>by
  obtain⟨_,_,h⟩:=alc.mem2 hc;exact h.cok
 k_ne
 refine#[1,cl,0,#[_,SqL.of ec],5];refine cZ (xs:=cvs) (λj ys Hy=>Ex2 λ(os:List Int) (k':Int)=>ys=iM os/\os.length=j/\(∀o∈os,0<=o/\o<np)/\But p H5 Hy/\Tk K Hy p k'/\k'<=k5+(j:Int)/\j<=16) (λj ys Hy #[_,_,_,_,_,B,_]=>SqL.of (B _ _ ncp ec)) #[[],10,(λ_ h=>nomatch h),But.refl _ _,T5,37] ?_ ?_ ?_
 .rintro j ys Hy ⟨os,k',rfl,ol,_,_,_,_,hj⟩;unfold iM;rw[aw,ol];exact small (by lk)
 .rintro j v ys Hy hv ⟨os,k',rfl,ol,hr',B,TY,hk',_⟩;have jl:=(br.mp hv).1;refine#[011,p,k',(np:Int),0,TY,33,λx Hz x0 x1 Bz Tz=>?_];refine#[os++[x],_,by unfold iM;rw[bE];rfl,by rw[aS,ol];rfl,λo ho=>?_,B.trans Bz,Tz,33]
  rcases bM.mp ho with y|y
  .exact hr' o y
  .rw[aX.mp y];exact#[x0,x1]
 rintro ys H7 ⟨os,k7,rfl,osl,orng,B7,T7,hk7,_⟩ ol hol;have nop:ol≠p:=a8 (T7.ne hol)
 k_ne
 ext hol H8 S8 eo;have B58:=B7.trans (But.same S8);have ec8:=B58 _ _ ncp ec;have alc8:All2 (CT H8) cvs cs:=alc.imp λz=>z.but T5 B58
 k_ne
 refine#[1,cl,0,#[_,SqL.of ec8],5];refine cZ (xs:=cvs) (λj ys Hy=>Same H8 Hy/\All2 (gr T.b9 T.aT Hy) ys (cs.take j)) (λj ys Hy z=>SqL.of (z.1 _ _ ec8)) #[Same.refl _,.nil] ?_ ?_ ?_
 .rintro j ys Hy ⟨_,al⟩;have:=al.len;rw[bQ] at this;exact small (by lk)
 .rintro j v ys Hy hv ⟨S,al⟩;obtain⟨c,hc,lc,m,x2,x3,x4,rfl,elc,emc,ck⟩:=alc8.get hv;refine#[01,lc,_,4,SqL.of (S _ _ elc),9,c,0,ck,λv H' S' ic=>#[S.trans S',5]];rw[bU,hc,dF];exact All2.snoc ic (al.imp λz=>z.same S')
 rintro rvs H9 ⟨S9,alr⟩ ra hra;rw[cvl,bX (az _)] at alr;have nrp:ra≠p:=a8 (((T7.same S8).same S9).ne hra)
 k_ne
 ext hra HA SA er;have S8A:=S9.trans SA;have TA:=(T7.same S8).same S8A;have NA:=(N5.but T5 B58).same S8A;have ecA:=S8A _ _ ec8;have eoA:=S8A _ _ eo;have alcA:All2 (CT HA) cvs cs:=alc8.imp λz=>z.same S8A;have alrA:All2 (gr T.b9 T.aT HA) rvs cs:=alr.imp λz=>z.same SA;clear alc alc8 ec ec8 eo alr
 k_ne
 refine#[(2),0775];refine qI (lo:=0) (n:=2) (λi σ Hx=>Ex10 λ(k':Int) o7 o8 o9 o10 o11 o12 o13 o14 o15=>σ=[some (.ref sa),some (.ref p),some (.ref nl),some (.int (np:Int)),some (.ref cl),some (.ref ol),some (.ref ra),o7,o8,o9,o10,o11,o12,o13,o14,o15]/\But p HA Hx/\Tk K Hx p k'/\k'<=k7+200*(i:Int)) #[_,_,_,_,_,_,_,_,_,1,But.refl _ _,TA,3] ?_ ?_
 .rintro i σ Hx hi ⟨k',o7,o8,o9,o10,o11,o12,o13,o14,o15,rfl,B,TX,hk'⟩
  k_ne
  refine#[11111,p,nl,cl,ol,k',np,cs.length,ns,cvs,cs,os,0,TX,3,NA.but TA B,B _ _ ncp ecA,alcA.imp λz=>z.but TA B,0,c16,B _ _ nop eoA,3,orng,33,ncp,nop,λtv t kB HB BB TB hkB TT ml nd rg mks=>?_];have OK:Ok23 cs os t:=#[3,c16,cok,λo ho=>#[(orng o ho).1,by have:=(orng o ho).2;lk],hsum,ml,nd,rg,mks];have BA:=B.trans BB;have ly:=OK.ly;have eoB:=BA _ _ nop eoA;have erB:=BA _ _ nrp er;have alrB:All2 (gr T.b9 T.aT HB) rvs cs:=alrA.imp λz=>z.kp (Kp.but TA BA);obtain⟨rs,hrs⟩:∃rs,rs=rsOf cs os t.marks t.lying:=#[1];have RS:Rs rs:=by rw[hrs];exact OK.rs
  have rsl:rs.length=t.lying.length:=by rw[hrs];exact CU
  k_ne
  refine#[sz0,λdu hdu=>?_]
  k_ne
  ext hdu HC SC edu;obtain⟨ta,v0,v1,v2,v3,v4,v5,v6,v7,v8,rfl,eta,TP⟩:=id TT;obtain⟨b5,rfl,e5⟩:=TP.p5;obtain⟨b7,u7,rfl,e7,al7⟩:=TP.p7;have il:((iM t.lying).length:Int)=(t.lying.length:Int):=by unfold iM;rw[aw]
  k_ne
  refine#[1,ta,_,4,SqT.of (SC _ _ eta),aI (j:=5) rfl,b5,1,.inr (SqT.of (SC _ _ e5)),(t.lying.length:Int),(by rw[<- il]),335];rw[cS];refine qI (lo:=0) (n:=t.lying.length) (λj σ Hy=>Ex3 λdvs o10 o11=>σ=[some (.ref sa),some (.ref p),some (.ref nl),some (.int (np:Int)),some (.ref cl),some (.ref ol),some (.ref ra),some (.int (0+(i:Int))),some (.ref ta),some (.ref du),o10,o11,o12,o13,o14,o15]/\Same HB Hy/\Hy du=some (.lst dvs)/\All2 (LyT T.b9 T.aT Hy) dvs (rs.take j)/\j<=t.lying.length) #[[],_,1,SC,edu,.nil,ba _] ?_ ?_
  .rintro j σ Hy hj ⟨dvs,o10,o11,rfl,S,ed,ald,_⟩;obtain⟨x,hx⟩:=getx (xs:=t.lying) (i:=j) hj;obtain⟨x0,x1⟩:=OK.rg x (bq hx);have hrw:rs[j]?=some (rwF cs os t.marks j x):=(by rw[hrs,jQ,hx];rfl);obtain⟨c,hcc⟩:=getx (xs:=cs) (i:=x.toNat) (by lk);obtain⟨o,ho⟩:=getx (xs:=os) (i:=x.toNat) (by lk);obtain⟨mm,hm⟩:=getx (xs:=t.marks) (i:=x.toNat) (by rw[ml];lk);obtain⟨cv,hcv,pc⟩:=alrB.get2 hcc;obtain⟨_,hmv,mb,rfl,emb⟩:=al7.get2 (b:=sM mm) (by rw[bH,hm];rfl);have er':rwF cs os t.marks j x=#[x,o,(j:Int),mm,c]:=by
    unfold rwF;rw[jo ho,jo hm,jo hcc]
   have xe:x=(x.toNat:Int):=(by lk);have dl:=ald.len;rw[bQ] at dl
   k_ne
   refine#[1,ta,_,4,SqT.of (S _ _ eta),aI (j:=5) rfl,1,b5,_,4,SqT.of (S _ _ e5),(by rw[lV];exact lT hx),5];refine#[1,.inl #[0,_,SqL.of ed],111,ra,_,4,SqL.of (S _ _ erB),(by rw[xe];exact aI hcv),11,ol,_,4,SqL.of (S _ _ eoB),(by rw[xe];exact lT ho),11,ta,_,4,SqT.of (S _ _ eta),aI (j:=7) rfl,1,b7,_,4,SqT.of (S _ _ e7),(by rw[xe];exact aI hmv),sz5,λr hr'=>?_];ext hr' H2 S2 e2;have ed2:=S2 _ _ ed;refine#[du,4,ed2,df (by lk),5];have S02:=S.trans S2;have Sp:Same HB (upd H2 du (.lst (dvs++[.ref r]))):=fg S02 hdu _;have kp:Kp H2 (upd H2 du (.lst (dvs++[.ref r]))):=Kp.put ed2;refine#[dvs++[.ref r],_,1,Sp,aB,5,hj];rw[bU,hrw,er'];refine All2.snoc #[r,mb,cv,0,kp.t (by rw[lV] at e2;exact e2),Sp _ _ emb,pc.same Sp] (ald.imp λz=>?_);obtain⟨a,tm,c,rfl,h1,h2,h3⟩:=z;exact#[a,tm,c,0,kp.t (S2 _ _ h1),kp.t (S2 _ _ h2),(h3.same S2).kp kp]
  rintro σ HD ⟨dvs,o10,o11,rfl,SD,ed,ald,_⟩;rw[<- rsl,bX (az _)] at ald
  k_ne
  refine#[1,du,1,.inl (SqL.of ed),λl1 hl1=>?_];ext hl1 H1 S1 e1;refine#[l1,dvs,rs,0,e1,ald.imp λz=>z.same S1,RS,λtt sg og ws out H2 S2 nsg ett esg RA SL=>#[tt,_,4,SqT.of ett,95]];have SD2:=S1.trans S2;have SB2:=SD.trans SD2
  k_ne
  refine#[1,ra,1,.inl (SqL.of (SB2 _ _ erB)),λh0 hh0=>?_];ext hh0 H3 S3 e3;refine#[1,ol,1,.inl (SqL.of ((SB2.trans S3) _ _ eoB)),λh1 hh1=>?_];ext hh1 H4 S4 e4;refine#[sz2,λhd hhd=>?_]
  k_ne
  ext hhd HE SE5 ehd;have S2E:=S3.trans (S4.trans SE5);have SBE:=SB2.trans S2E;have SDE:=SD2.trans S2E;have CO:CdO T.b9 T.aT HE h0 h1 cs os:=#[rvs,(S4.trans SE5) _ _ e3,alrB.imp λz=>z.same SBE,SE5 _ _ e4];have edE:=SDE _ _ ed;have aldE:All2 (LyT T.b9 T.aT HE) dvs rs:=ald.imp λz=>z.same SDE;have esE:=S2E _ _ esg;have RAE:bJ HE ws out:=RA.map λ_ _ z=>z.same S2E;have TTE:=TT.kp (Kp.same SBE);obtain⟨m60,o16⟩:=SL.lim;have wl:ws.length<=1000:=by
   rw[uC RAE];lk
  have rf1:∀u∈rvs,RefI u:=λu hu=>by
   obtain⟨c,_,a,_,_,_,_,e,_⟩:=alrB.mem hu;exact .inl #[a,e]
  have rf2:∀u∈iM os,RefI u:=λu hu=>by
   obtain⟨z,_,rfl⟩:=bT.mp hu;exact .inr #[z,0]
  k_ne
  refine#[1,hd,_,4,SqL.of ehd,91,hd,_,4,SqL.of ehd,aI (j:=1) rfl,1,h0,h1,.ref ta,t,cs,os,0,CO,TTE,OK,λfp fus HF SF nf ef alf=>?_];rw[<- hrs] at alf
  k_ne
  refine#[1,hd,_,4,SqL.of (SF _ _ ehd),91,hd,_,4,SqL.of (SF _ _ ehd),aI (j:=1) rfl,1,h0,h1,.ref ta,t,cs,os,0,CO.same SF,TTE.kp (Kp.same SF),OK,λsn sws sout HG SG nsn esn RG SLG=>?_];rw[<- hrs] at SLG;obtain rfl:sout=out:=SLG.one SL;have SEG:=SF.trans SG;have nfs:fp≠sn:=a9 ef nsn
  k_ne
  refine#[11,fp,du,fus,dvs,rs,0,SG _ _ ef,SEG _ _ edE,alf.imp λz=>z.same SG,aldE.imp λz=>z.same SEG,RS,λHH SH=>#[6]];have SEH:=SEG.trans SH;refine#[11,(3),.ref sn,.ref sg,07,.lst (SH _ _ esn) (SEH _ _ esE) wl (uX (RG.map λ_ _ z=>z.same SH) (RAE.map λ_ _ z=>z.same SEH) m60),λHI SI=>#[6]];have SEI:=SEH.trans SI;refine#[111,sz2,λpr hpr=>?_];ext hpr HJ SJ epr;have SEJ:=SEI.trans SJ;have SBJ:=SBE.trans SEJ;have SGJ:=SH.trans (SI.trans SJ);refine#[hd,pr,[h0,h1],[ra,ol],00,SqL.of (SEJ _ _ ehd),SqL.of epr,.cons #[rvs,SqL.of (((S4.trans SE5).trans SEJ) _ _ e3),SqL.of (SBJ _ _ erB),rf1] (.cons #[iM os,SqL.of ((SE5.trans SEJ) _ _ e4),SqL.of (SBJ _ _ eoB),rf2] .nil),6];have efJ:=(SG.trans SGJ) _ _ ef;refine#[1,.inl #[0,_,SqL.of efJ],fp,10,efJ,5];have SEK:Same HE (upd HJ fp (.lst [])):=fg SEJ nf _;have esK:upd HJ fp (.lst []) sn=some (.lst sws):=(aF (a8 nfs)).trans (SGJ _ _ esn);generalize upd HJ fp (.lst [])=HK at SEK esK ⊢
  k_ne
  refine#[1,.inl #[0,_,SqL.of esK],sz0,λe0 he0=>?_];refine laid he0 λHL SL0 _=>?_;have swl:=uC RG;refine#[sn,4,SL0 _ _ esK,df (by lk),5];have SEM:Same HE (upd HL sn (.lst (sws++[.ref e0]))):=fg (SEK.trans SL0) (none_of SF nsn) _;generalize upd HL sn (.lst (sws++[.ref e0]))=HM at SEM ⊢;have ehM:=SEM _ _ ehd
  k_ne
  refine#[1,hd,_,4,SqL.of ehM,91,hd,_,4,SqL.of ehM,aI (j:=1) rfl,1,h0,h1,.ref ta,t,cs,os,0,CO.same SEM,TTE.kp (Kp.same SEM),OK,λfp2 fus2 HN SN nf2 ef2 alf2=>?_];rw[<- hrs] at alf2;have SEN:=SEM.trans SN;refine#[1,fp2,du,fus2,dvs,rs,0,ef2,SEN _ _ edE,alf2,aldE.imp λz=>z.same SEN,RS,λHO SO=>#[6]];have SEO:=SEN.trans SO;have ehO:=SEO _ _ ehd;refine#[1,hd,_,4,SqL.of ehO,91,hd,_,4,SqL.of ehO,aI (j:=1) rfl,1,h0,h1,.ref ta,t,cs,os,0,CO.same SEO,TTE.kp (Kp.same SEO),OK,λsn2 sws2 sout2 HP SP nsn2 esn2 RP SLP=>?_];rw[<- hrs] at SLP;obtain rfl:sout2=sout:=SLP.one SLG;have SEP:=SEO.trans SP;refine#[1,(3),.ref sn2,.ref sg,07,.lst esn2 (SEP _ _ esE) wl (uX RP (RAE.map λ_ _ z=>z.same SEP) m60),λHQ SQ=>#[6]];have SBQ:=SBE.trans (SEP.trans SQ);exact#[kB,_,_,_,_,_,_,_,_,1,BA.trans (But.same SBQ),TB.same SBQ,3]
 .rintro σ Hx ⟨k',o7,o8,o9,o10,o11,o12,o13,o14,o15,rfl,B,TX,hk'⟩;exact q Hx
end
noncomputable def mkT {K:ah}{h:Heap}{mg:Str->Option Value}(X:K.In h)(G:h.Ns bv mg){C_Words:Addr}{C_Whom:Addr}{C_Card:Addr}{t_LETTERS:Tok}{t_FIGURES:Tok}{t_MOST_WORDS:Tok}{A_PARTS:Addr}{t_MOST_RULES:Tok}{A_SORTS:Addr}{A_CHANGES:Addr}{A_WHEN_KINDS:Addr}{A_DEED_KINDS:Addr}{A_PLAYER_KINDS:Addr}{A_TURNS:Addr}{A_LAYERS:Addr}{t_MANY_LAYERS:Tok}{t_LYING:Tok}{t_MARKS:Tok}(tf:Tf K mg)
  (zczb:bW K bv "Words" = some (some (.ref C_Words)))
  (zjxb:pW K C_Words zS=true)
  (zjyb:qU K C_Words=true)
  (zexb:vU K C_Words=true)
  (zuwb:cm K (.ref C_Words) "__setattr__" = some (some (.builtin "object.__setattr__")))
  (y_Words___init__:If K C_Words "__init__" "Words.__init__" GA)
  (y_Words_take:Mf K C_Words "take" "Words.take" MN)
  (y_Words_take_one_of:Mf K C_Words "take_one_of" "Words.take_one_of" G9)
  (y_Words_take_name:Mf K C_Words "take_name" "Words.take_name" LN)
  (y_Words_take_number:Mf K C_Words "take_number" "Words.take_number" Jv)
  (y_Words_finish:Mf K C_Words "finish" "Words.finish" JX)
  (mE:cm K (.ref C_Words) "words" = some none)
  (lP:cm K (.ref C_Words) "place" = some none)
  (zzdc:bW K bv "Whom" = some (some (.ref C_Whom)))
  (zicc:pW K C_Whom zS=true)
  (zadc:qU K C_Whom=true)
  (zdcc:vU K C_Whom=true)
  (zsbc:cm K (.ref C_Whom) "__setattr__" = some (some (.builtin "object.__setattr__")))
  (y_Whom___init__:If K C_Whom "__init__" "Whom.__init__" K3)
  (y_Whom_told:Mf K C_Whom "told" "Whom.told" Ma)
  (y_Whom_fits_row:Mf K C_Whom "fits_row" "Whom.fits_row" Nv)
  (y_Whom_fits_parts:Mf K C_Whom "fits_parts" "Whom.fits_parts" Fy)
  (uK:cm K (.ref C_Whom) "word" = some none)
  (lE:cm K (.ref C_Whom) "value" = some none)
  (iy:cm K (.ref C_Whom) "parts" = some none)
  (q1_Whom:cm K (.ref C_Whom) "__class__" = some (some (.builtin "object.__class__")))
  (q2_Whom:A2 K (.builtin "object.__class__") "__get__" = some (some (.builtin "getset_descriptor.__get__")))
  (q3_Whom:Nt K (.builtin "object.__class__")=some true)
  (q4_Whom:Os K C_Whom (.type "object")=some true)
  (q5_Whom:ce K (.ref C_Whom) (.type "str")=some false)
  (q6_Whom:ce K (.ref C_Whom) (.type "int")=some false)
  (q7_Whom:ce K (.ref C_Whom) (.type "tuple")=some false)
  (q8_Whom:ce K (.ref C_Whom) (.type "list")=some false)
  (q9_Whom:ce K (.type "str") (.ref C_Whom)=some false)
  (q10_Whom:ce K (.type "int") (.ref C_Whom)=some false)
  (zaec:bW K bv "Card" = some (some (.ref C_Card)))
  (zjcc:pW K C_Card zS=true)
  (zbdc:qU K C_Card=true)
  (zecc:vU K C_Card=true)
  (ztbc:cm K (.ref C_Card) "__setattr__" = some (some (.builtin "object.__setattr__")))
  (y_Card___init__:If K C_Card "__init__" "Card.__init__" Cd)
  (vE:cm K (.ref C_Card) "name" = some none)
  (xo:cm K (.ref C_Card) "cost" = some none)
  (qB:cm K (.ref C_Card) "force" = some none)
  (uz:cm K (.ref C_Card) "marks" = some none)
  (pP:cm K (.ref C_Card) "rules" = some none)
  (gT:bW K bv "all" = some none)
  (mj:bW K bv "bool" = some none)
  (j8:bW K bv "dict" = some none)
  (uD:bW K bv "enumerate" = some none)
  (gJ:bW K bv "int" = some none)
  (dH:bW K bv "isinstance" = some none)
  (cr:bW K bv "len" = some none)
  (gZ:bW K bv "list" = some none)
  (jG:bW K bv "min" = some none)
  (eC:bW K bv "range" = some none)
  (zX:bW K bv "reversed" = some none)
  (i3:bW K bv "set" = some none)
  (jk:bW K bv "sorted" = some none)
  (fc:bW K bv "str" = some none)
  (cG:bW K bv "tuple" = some none)
  (jK:bW K bv "zip" = some none)
  (zJ:bW K bv "LETTERS" = some (some (.str GJ t_LETTERS)))
  (AJ:bW K bv "FIGURES" = some (some (.str C0 t_FIGURES)))
  (yR:bW K bv "MOST_WORDS" = some (some (.int 9 t_MOST_WORDS)))
  (qf:bW K bv "PARTS" = some (some (.ref A_PARTS)))
  (jW:wq (jP λb=>K.lookup b) (λb=>K.lookup b) A_PARTS vp=true)
  (As:bW K bv "MOST_RULES" = some (some (.int 3 t_MOST_RULES)))
  (j7:bW K bv "SORTS" = some (some (.ref A_SORTS)))
  (kE:TupK K A_SORTS ["hold","when","instead","may"])
  (Aa:bW K bv "CHANGES" = some (some (.ref A_CHANGES)))
  (y7:TupK K A_CHANGES ["mute","steal","gain","lack","be","more","less","per"])
  (Ap:bW K bv "WHEN_KINDS" = some (some (.ref A_WHEN_KINDS)))
  (zY:TupK K A_WHEN_KINDS ["come","leave","hurt","gain","lack","lose","score","draw"])
  (xu:bW K bv "DEED_KINDS" = some (some (.ref A_DEED_KINDS)))
  (xn:TupK K A_DEED_KINDS ["leave","hurt","gain","lack","lose","score","draw"])
  (zK:bW K bv "PLAYER_KINDS" = some (some (.ref A_PLAYER_KINDS)))
  (zF:TupK K A_PLAYER_KINDS ["lose","score","draw"])
  (kJ:bW K bv "TURNS" = some (some (.ref A_TURNS)))
  (km:TabK K A_TURNS nh)
  (AH:bW K bv "LAYERS" = some (some (.ref A_LAYERS)))
  (AO:wq (jP λb=>K.lookup b) (λb=>K.lookup b) A_LAYERS tR=true)
  (zI:bW K bv "MANY_LAYERS" = some (some (.int 5 t_MANY_LAYERS)))
  (j5:bW K bv "LYING" = some (some (.int 5 t_LYING)))
  (kF:bW K bv "MARKS" = some (some (.int 7 t_MARKS))):Tx K mg :=
 { tf with bP:=C_Words,oi:=dJ X G zczb,bN:=#[zjxb,zjyb,zexb,zuwb],lm:=y_Words___init__,iJ:=y_Words_take,eE:=y_Words_take_one_of,jt:=y_Words_take_name,gy:=y_Words_take_number,lF:=y_Words_finish,mE:=mE,lP:=lP,aT:=C_Whom,oV:=dJ X G zzdc,cx:=#[zicc,zadc,zdcc,zsbc],oU:=y_Whom___init__,dY:=y_Whom_told,fb:=y_Whom_fits_row,kA:=y_Whom_fits_parts,uK:=uK,lE:=lE,iy:=iy,iH:=#[q1_Whom,q2_Whom,q3_Whom,q4_Whom,q5_Whom,q6_Whom,q7_Whom,q8_Whom,q9_Whom,q10_Whom],b9:=C_Card,xJ:=dJ X G zaec,fW:=#[zjcc,zbdc,zecc,ztbc],oo:=y_Card___init__,vE:=vE,xo:=xo,qB:=qB,uz:=uz,pP:=pP,gT:=eO X G gT,mj:=eO X G mj,j8:=eO X G j8,uD:=eO X G uD,gJ:=eO X G gJ,dH:=eO X G dH,cr:=eO X G cr,gZ:=eO X G gZ,jG:=eO X G jG,eC:=eO X G eC,zX:=eO X G zX,i3:=eO X G i3,jk:=eO X G jk,fc:=eO X G fc,cG:=eO X G cG,jK:=eO X G jK,xS:=t_LETTERS,zJ:=dJ X G zJ,v9:=t_FIGURES,AJ:=dJ X G AJ,R5:=t_MOST_WORDS,yR:=dJ X G yR,mQ:=A_PARTS,qf:=dJ X G qf,jW:=jW,RY:=t_MOST_RULES,As:=dJ X G As,kL:=A_SORTS,j7:=dJ X G j7,kE:=kE,zL:=A_CHANGES,Aa:=dJ X G Aa,y7:=y7,AZ:=A_WHEN_KINDS,Ap:=dJ X G Ap,zY:=zY,xA:=A_DEED_KINDS,xu:=dJ X G xu,xn:=xn,zy:=A_PLAYER_KINDS,zK:=dJ X G zK,zF:=zF,jY:=A_TURNS,kJ:=dJ X G kJ,km:=km,ya:=A_LAYERS,AH:=dJ X G AH,AO:=AO,PP:=t_MANY_LAYERS,zI:=dJ X G zI,xU:=t_LYING,j5:=dJ X G j5,sF:=t_MARKS,kF:=dJ X G kF }
theorem all_mk {l:OR}{w:World}{K:ah}{mg:Str->Option Value}{fa:Addr}(hfa:mg "law" = some (.ref fa))(T:Tx K mg) :
  ∃fd:cP,(∀(s:Shared) (v:Value),mn s fd #[[v],[]] [("_law_script",v)])/\∀base:Heap,K.In base->base.Ns bv mg->FnOk l.prog w K mg base CX0 29 fa fd ["_law_script"] (kn K):=by
 cases JV T.iZ hfa;refine#[_,(λs v=>?_),λbase kb _=>Id T kb];obtain⟨oc,od,kV,doc,pm,an,cdv,ct,osl,e,lk,hcd⟩:=T.iZ.F.ex;rw[e];exact .of_eq rfl
theorem walk {l:OR}{q:aR}{loose:List Str}{XP:(Str->Option Value)->Heap->Prop}{YP:World->Heap->Prop}{d:DefRec}{K:Params->ah}(hn:l.most=some 63)(hdf:d.params.defaults=[])
  (hY:∀(w:World) (h:Heap),YP w h->(K w.params).In h)
  (F:∀(w:World) (mg:Str->Option Value) fa (h:Heap),(K w.params).In h->h.Ns bv mg->mg d.name=some (.ref fa) →
   ∃fd:cP,(∀(s:Shared) (u:Value),mn s fd #[[u],[]] [("_law_script",u)])/\∀base:Heap,(K w.params).In base->base.Ns bv mg->FnOk l.prog w (K w.params) mg base CX0 29 fa fd ["_law_script"] (kn (K w.params))) :
  RF q loose XP YP l.row.toRowW d [] (λf vs=>KH f vs) :=
 L2.CF (n:=63) (k:=29) (x:="_law_script") (CX:=λ_=>CX0) (sp:=λw=>kn (K w.params)) hn (by decide) hdf #[077] hY F (λ_ _ a ns hl hO hS=>#[a,ns,0,SqF.of hO hS,hl,λ_=>rfl]) λ_ _ _ _ _ z=>z
end K23
namespace PySem.W.Fast
noncomputable def tw956403720209685416:=()
noncomputable def tw5624176650395543085:=()
noncomputable def tw9433369329083819803:=()
noncomputable def tw17876213189920320694:=()
noncomputable def tw16106868935561460648:=()
noncomputable def tw16786731742435136571:=()
noncomputable def tw15979113563002211351:=()
noncomputable def tw17194579794018926573:=()
noncomputable def tw5599761258737426766:=()
noncomputable def tw6329662638952212968:=()
noncomputable def tw13541624370138559089:=()
noncomputable def tw761410716558290046:=()
noncomputable def tw7720767862871337158:=()
noncomputable def tw15574418273464497488:=()
noncomputable def tw17312237865580561051:=()
noncomputable def tw15110064647789775701:=()
noncomputable def tw11793698389272245206:=()
noncomputable def tw13401073833029819769:=()
noncomputable def tw15155145988344643073:=()
noncomputable def tw3760877958250412174:=()
noncomputable def tw10065929081584953465:=()
noncomputable def tw16928746417663611240:=()
noncomputable def tw4399940944519419405:=()
noncomputable def tw12254666712891356437:=()
noncomputable def tw17859168028311137957:=()
noncomputable def tw18362775924145423484:=()
noncomputable def tw16106905683531897981:=()
noncomputable def tw16013850865058865787:=()
noncomputable def tw2447777628782714985:=()
noncomputable def tw10085683485606119576:=()
noncomputable def tw18045220600653012278:=()
noncomputable def tw17829472055335712107:=()
noncomputable def tw1169072076320588780:=()
noncomputable def tw15434954200857307494:=()
noncomputable def tw10084654111182499072:=()
noncomputable def tw16664698753374253108:=()
noncomputable def tw1660009852782823171:=()
noncomputable def tw8985205203128046742:=()
noncomputable def tw18374987376570089506:=()
noncomputable def tw14746184689225059178:=()
noncomputable def tw6193903821602473183:=()
noncomputable def tw16908372225907408755:=()
noncomputable def tw11255458804638895169:=()
noncomputable def tw10698042633061396434:=()
noncomputable def tw14089795365857704775:=()
noncomputable def tw9571530840439148056:=()
noncomputable def tw11494632030985485487:=()
noncomputable def tw4757402974398029348:=()
noncomputable def tw17668318232594753257:=()
noncomputable def tw14127876842776590783:=()
noncomputable def tw11209056947195602222:=()
noncomputable def tw5629627724363161492:=()
noncomputable def tw16254154845362212872:=()
noncomputable def tw2010170631571274884:=()
noncomputable def tw16917979537745743248:=()
noncomputable def tw11932858652995160237:=()
noncomputable def tw5874209932619043926:=()
noncomputable def tw2065111880211818651:=()
noncomputable def tw6278792593571352746:=()
noncomputable def tw12768356029268472652:=()
noncomputable def tw3078521045404166814:=()
noncomputable def tw9756396012227265710:=()
noncomputable def tw12476263991641332522:=()
noncomputable def tw15125005677537013660:=()
noncomputable def tw9625065259535109312:=()
noncomputable def tw10125857607298067531:=()
noncomputable def tw9796861901148564748:=()
noncomputable def tw15616332273996989959:=()
noncomputable def tw3313405584355372382:=()
noncomputable def tw14423564213292393351:=()
noncomputable def tw8757170770818962705:=()
noncomputable def tw14859061625056481595:=()
noncomputable def tw16261601343768597249:=()
noncomputable def tw2036022060414778859:=()
noncomputable def tw8316412030561985255:=()
noncomputable def tw14933350722548020254:=()
noncomputable def tw14630781550569264874:=()
noncomputable def tw7336690588685717041:=()
noncomputable def tw10955820343567029311:=()
noncomputable def tw12173227616726927724:=()
noncomputable def tw7488646936937792127:=()
noncomputable def tw7367625440616537568:=()
noncomputable def tw4794570549353500750:=()
noncomputable def tw16297892129053479491:=()
noncomputable def tw11225052937667926330:=()
noncomputable def tw4609453091093763539:=()
noncomputable def tw6268827852649457996:=()
noncomputable def tw16644228564417528293:=()
noncomputable def tw11113624238367322320:=()
noncomputable def tw16594271688942926454:=()
noncomputable def tw1000317683507720382:=()
noncomputable def tw8379742203915136719:=()
noncomputable def tw14806498623067354337:=()
noncomputable def tw9539301465153254558:=()
noncomputable def tw6025007591596736429:=()
noncomputable def tw6446558632949111195:=()
noncomputable def tw11553879843912922813:=()
noncomputable def tw6440848126347345688:=()
noncomputable def tw11740982883828895044:=()
noncomputable def tw3489968309446392220:=()
noncomputable def tw14948038782081079544:=()
noncomputable def tw4415216965085667635:=()
noncomputable def tw441859765449210246:=()
noncomputable def tw17908938845088315327:=()
noncomputable def tw1179144738043629912:=()
noncomputable def tw17496749670087684340:=()
noncomputable def tw5450222359167808835:=()
noncomputable def tw5875907296378747399:=()
noncomputable def tw18092332449884579008:=()
noncomputable def tw4031935595379909553:=()
noncomputable def tw13886127537650455186:=()
noncomputable def tw872093487738327256:=()
noncomputable def tw9068768385376402020:=()
noncomputable def tw9503527133896721932:=()
noncomputable def tw924888963939891980:=()
noncomputable def tw1802143234441478410:=()
noncomputable def tw16164420669238134421:=()
noncomputable def tw7513512346791414942:=()
noncomputable def tw13936440745231961393:=()
noncomputable def tw14212400984736989685:=()
noncomputable def tw8354259702075384838:=()
noncomputable def tw4628892622150081057:=()
noncomputable def tw7318334979434994357:=()
noncomputable def tw10241702554693200605:=()
noncomputable def tw4825465851977656901:=()
noncomputable def tw2666881344799321953:=()
noncomputable def tw12314265402305827581:=()
noncomputable def tw4932734173874282211:=()
noncomputable def tw10791396495969545014:=()
noncomputable def tw13642633375125118487:=()
noncomputable def tw10373381985051980792:=()
noncomputable def tw15452251587472823431:=()
noncomputable def tw6354839936592588595:=()
noncomputable def tw7239894111940586054:=()
noncomputable def tw12119289374346093114:=()
noncomputable def tw11393351765706920773:=()
noncomputable def tw2682599452791189356:=()
noncomputable def tw13886377218672565965:=()
noncomputable def tw9036791067708129032:=()
noncomputable def tw12994010216262539398:=()
noncomputable def tw13911997478608945357:=()
noncomputable def tw7773561551547246003:=()
noncomputable def tw12967364775469509558:=()
noncomputable def tw6651306334464592811:=()
noncomputable def tw10990873999706223645:=()
noncomputable def tw6824277984895883397:=()
noncomputable def tw15008090892049981034:=()
noncomputable def tw16599776139336862918:=()
noncomputable def tw3584202795327807001:=()
noncomputable def tw308484114099973560:=()
noncomputable def tw18305145557986116943:=()
noncomputable def tw2599313157222929051:=()
noncomputable def tw297029402273392875:=()
noncomputable def tw2834462384114367041:=()
noncomputable def tw6205304532885529366:=()
noncomputable def tw17097312464846982444:=()
noncomputable def tw5818512918519496783:=()
noncomputable def tw14076445315909187769:=()
noncomputable def tw6635238617248490160:=()
noncomputable def tw12355738538276962178:=()
noncomputable def tw15451259212354121393:=()
noncomputable def tw12220090820744658856:=()
noncomputable def tw9628126173428763888:=()
noncomputable def tw12076174447990415081:=()
noncomputable def tw8199817703088815933:=()
noncomputable def tw10839029883710249450:=()
noncomputable def tw11210552258268244061:=()
noncomputable def tw13372459869596622013:=()
noncomputable def tw2012801293205928423:=()
noncomputable def tw14040733621088630005:=()
noncomputable def tw11455293254935820881:=()
noncomputable def tw4888423894877215993:=()
noncomputable def tw9009600399401508874:=()
noncomputable def tw12616307638575189810:=()
noncomputable def tw13457803748461132228:=()
noncomputable def tw4346022993624229969:=()
noncomputable def tw7965912977178963601:=()
noncomputable def tw13184883259886887571:=()
noncomputable def tw4517338048714333467:=()
noncomputable def tw1169553885470181634:=()
noncomputable def tw9098007181277813763:=()
noncomputable def tw9801459305658598998:=()
noncomputable def tw170882432775878687:=()
noncomputable def tw9967894466790371576:=()
noncomputable def tw2162286223312068049:=()
noncomputable def tw14205819340235723782:=()
noncomputable def tw12078863649094506541:=()
noncomputable def tw17060730230108477120:=()
noncomputable def tw1640022932862742198:=()
noncomputable def tw3501135396038685991:=()
noncomputable def tw2369979516731418424:=()
noncomputable def tw8086187330083155208:=()
noncomputable def tw10461142481332800959:=()
noncomputable def tw2630656930729328460:=()
noncomputable def tw12895386953683015856:=()
noncomputable def tw17406122249780905116:=()
noncomputable def tw11846908730458277481:=()
noncomputable def tw18370314306771409780:=()
noncomputable def tw12025837264655745690:=()
noncomputable def tw7637955551763121376:=()
noncomputable def tw11571341998044369270:=()
noncomputable def tw1307849583173337841:=()
noncomputable def tw16275121765481312243:=()
noncomputable def tw17047554007201429178:=()
noncomputable def tw10812949479357551280:=()
noncomputable def tw727801219575115369:=()
noncomputable def tw3660649609217178439:=()
noncomputable def tw7425285225453948017:=()
noncomputable def tw18389775892566334745:=()
noncomputable def tw17310099885742717441:=()
noncomputable def tw10279904370152689311:=()
noncomputable def tw12419493410130516834:=()
noncomputable def tw6044391511807604764:=()
noncomputable def tw8778776746342396678:=()
noncomputable def tw4170480527592264520:=()
noncomputable def tw5207153976253997442:=()
noncomputable def tw12564719472186651126:=()
noncomputable def tw693538761724182322:=()
noncomputable def tw9910688327046091041:=()
noncomputable def tw12206099246136164688:=()
noncomputable def tw1737768617355475709:=()
noncomputable def tw17092833909171965167:=()
noncomputable def tw11608121207206297279:=()
noncomputable def tw14570517212073982866:=()
noncomputable def tw13448682009100837918:=()
noncomputable def tw9629317965893333181:=()
noncomputable def tw3337919607305479029:=()
noncomputable def tw7840049827626966670:=()
noncomputable def tw12594155901895694332:=()
noncomputable def tw14837025436780989735:=()
noncomputable def tw17568866091622601506:=()
noncomputable def tw16355364204597280755:=()
noncomputable def tw11662167820332803091:=()
noncomputable def tw4242274282124785048:=()
noncomputable def tw932256291929582360:=()
noncomputable def tw5745812618620789449:=()
noncomputable def tw3057017927741007682:=()
noncomputable def tw15328002049414629270:=()
noncomputable def tw1732701080658359817:=()
noncomputable def tw1493313640365431458:=()
noncomputable def tw14039130524130376564:=()
noncomputable def tw8945908789910423096:=()
noncomputable def tw10810705647440096953:=()
noncomputable def tw12209795210121716743:=()
noncomputable def tw4717575347670068639:=()
noncomputable def tw16887711663422042907:=()
noncomputable def tw1727636904501488791:=()
noncomputable def tw14142512833925168933:=()
noncomputable def tw8131481433090162008:=()
noncomputable def tw10748180947309068345:=()
noncomputable def tw13191469890170304354:=()
noncomputable def tw3432232590816197643:=()
noncomputable def tw1460611305947436458:=()
noncomputable def tw17999665414703777470:=()
noncomputable def tw16890014468106898624:=()
noncomputable def tw16221460966213907850:=()
noncomputable def tw9387755970436123628:=()
noncomputable def tw6500785960338073451:=()
noncomputable def tw7879071444573148472:=()
noncomputable def tw4990594209377199593:=()
noncomputable def tw8095887760015490154:=()
noncomputable def tw3889407205079647742:=()
noncomputable def tw12570134641811422571:=()
noncomputable def tw732034391787486346:=()
noncomputable def tw18353516178047704189:=()
noncomputable def tw16672683146566744858:=()
noncomputable def tw9124791649993834219:=()
noncomputable def tw8447750927484377192:=()
noncomputable def tw8212687513568781882:=()
noncomputable def tw9976361266859135291:=()
noncomputable def tw17234878530884675782:=()
noncomputable def tw16916916895139644390:=()
noncomputable def tw1924857232748316166:=()
noncomputable def tw3487799225797516920:=()
noncomputable def tw3068872094222661018:=()
noncomputable def tw8766048869295724176:=()
noncomputable def tw14217730255167953568:=()
noncomputable def tw3113228831926225107:=()
noncomputable def tw3649842314799081450:=()
noncomputable def tw5552914378489057696:=()
noncomputable def tw2551806184545072939:=()
noncomputable def tw11948498736223122816:=()
noncomputable def tw15108991424007792911:=()
noncomputable def tw1843881642753657256:=()
noncomputable def tw14468482829290703268:=()
noncomputable def tw5870431442251586289:=()
noncomputable def tw12452157432599122810:=()
noncomputable def tw13984437005274227302:=()
noncomputable def tw13567372521058111915:=()
noncomputable def tw866057335936144748:=()
noncomputable def tw8754038566248481080:=()
noncomputable def tw5221403493720092365:=()
noncomputable def tw16283094556793161931:=()
noncomputable def tw13030266557666161451:=()
noncomputable def tw90853275438694119:=()
noncomputable def tw4367474100477407520:=()
noncomputable def tw7062812784788879554:=()
noncomputable def tw5541694706341390848:=()
noncomputable def tw18148610698852572149:=()
noncomputable def tw11406947393375222032:=()
noncomputable def tw12786851552375847371:=()
noncomputable def tw1190030181594344748:=()
noncomputable def tw17571095966867484960:=()
noncomputable def tw5725496585920126934:=()
noncomputable def tw1054038672281593189:=()
noncomputable def tw5612655968271681231:=()
noncomputable def tw14956693765220241437:=()
noncomputable def tw8357799857894334814:=()
noncomputable def tw560886323334868871:=()
noncomputable def tw1976173207036699630:=()
noncomputable def tw3637744790305562012:=()
noncomputable def tw8896203830466151981:=()
noncomputable def tw11602594929898766781:=()
noncomputable def tw11365124871254092304:=()
noncomputable def tw8257432474846544298:=()
noncomputable def tw13845571162154511502:=()
noncomputable def tw908943899301962608:=()
noncomputable def tw2419937838051477684:=()
noncomputable def tw8487799466710401765:=()
noncomputable def tw9797977205022715680:=()
noncomputable def tw17665075447455883895:=()
noncomputable def tw300410304401194010:=()
noncomputable def tw7051932276262857744:=()
noncomputable def tw11760148817814840774:=()
noncomputable def tw7414591389568954113:=()
noncomputable def tw9128933463314288843:=()
noncomputable def tw9663539514780514948:=()
noncomputable def tw10812131800001783374:=()
noncomputable def tw10428758429930152462:=()
noncomputable def tw8346249529884270258:=()
noncomputable def tw7979218882515377325:=()
noncomputable def tw6231463457815807501:=()
noncomputable def tw10337377113021762891:=()
noncomputable def tw2340534410312479351:=()
noncomputable def tw12490267778010349411:=()
end PySem.W.Fast
open PySem PySem.W PyProof.Rows
set_option maxRecDepth 100000 in
set_option maxHeartbeats 0 in
theorem PySem.Challenge.cw_turnstack_k23_the_sight_of_a_table_holds : PySem.Challenge.rw_turnstack_k23_the_sight_of_a_table.Holds := by
  w_on; o_law; k_head; (case hw => w_witness2)
  k_fill
  refine K23.walk (l := PySem.Challenge.rw_turnstack_k23_the_sight_of_a_table) rfl rfl (fun w h Y => PySem.W.kIn_of Y) ?F
  case F =>
    intro w mg fa h KX G hmg
    refine' K23.all_mk hmg (K23.mkT KX G ⟨L2.gf_of KX G ?qda ?qea ?qfa ?qga, L2.gf_of KX G ?qha ?qia ?qja ?qka, L2.gf_of KX G ?qla ?qma ?qna ?qoa, L2.gf_of KX G ?qnc ?qoc ?qpc ?qqc, L2.gf_of KX G ?qrc ?qsc ?qtc ?quc, L2.gf_of KX G ?qvc ?qwc ?qxc ?qyc, L2.gf_of KX G ?qzc ?qad ?qbd ?qcd, L2.gf_of KX G ?qid ?qjd ?qkd ?qld, L2.gf_of KX G ?qmd ?qnd ?qod ?qpd, L2.gf_of KX G ?qqd ?qrd ?qsd ?qtd, L2.gf_of KX G ?qud ?qvd ?qwd ?qxd, L2.gf_of KX G ?qyd ?qzd ?qae ?qbe, L2.gf_of KX G ?qce ?qde ?qee ?qfe, L2.gf_of KX G ?qge ?qhe ?qie ?qje, L2.gf_of KX G ?qke ?qle ?qme ?qne, L2.gf_of KX G ?qoe ?qpe ?qqe ?qre, L2.gf_of KX G ?qse ?qte ?que ?qve, L2.gf_of KX G ?qwe ?qxe ?qye ?qze, L2.gf_of KX G ?qaf ?qbf ?qcf ?qdf, L2.gf_of KX G ?qef ?qff ?qgf ?qhf, L2.gf_of KX G ?qif ?qjf ?qkf ?qlf, L2.gf_of KX G ?qmf ?qnf ?qof ?qpf, L2.gf_of KX G ?qqf ?qrf ?qsf ?qtf, L2.gf_of KX G ?quf ?qvf ?qwf ?qxf, L2.gf_of KX G ?qyf ?qzf ?qag ?qbg, L2.gf_of KX G ?qcg ?qdg ?qeg ?qfg, L2.gf_of KX G ?qgg ?qhg ?qig ?qjg, L2.gf_of KX G ?qkg ?qlg ?qmg ?qng, L2.gf_of KX G ?qog ?qpg ?qqg ?qrg, L2.gf_of KX G ?qsg ?qtg ?qug ?qvg, L2.gf_of KX G ?qwg ?qxg ?qyg ?qzg, L2.gf_of KX G ?qah ?qbh ?qch ?qdh, L2.gf_of KX G ?qeh ?qfh ?qgh ?qhh, L2.gf_of KX G ?qih ?qjh ?qkh ?qlh, L2.gf_of KX G ?qmh ?qnh ?qoh ?qph, L2.gf_of KX G ?qqh ?qrh ?qsh ?qth, L2.gf_of KX G ?quh ?qvh ?qwh ?qxh, L2.gf_of KX G ?qyh ?qzh ?qai ?qbi, L2.gf_of KX G ?qci ?qdi ?qei ?qfi, L2.gf_of KX G ?qgi ?qhi ?qii ?qji, L2.gf_of KX G ?qki ?qli ?qmi ?qni, L2.gf_of KX G ?qoi ?qpi ?qqi ?qri, L2.gf_of KX G ?qsi ?qti ?qui ?qvi, L2.gf_of KX G ?qwi ?qxi ?qyi ?qzi, L2.gf_of KX G ?qaj ?qbj ?qcj ?qdj, L2.gf_of KX G ?qej ?qfj ?qgj ?qhj, L2.gf_of KX G ?qij ?qjj ?qkj ?qlj, L2.gf_of KX G ?qmj ?qnj ?qoj ?qpj, L2.gf_of KX G ?qqj ?qrj ?qsj ?qtj, L2.gf_of KX G ?quj ?qvj ?qwj ?qxj, L2.gf_of KX G ?qyj ?qzj ?qak ?qbk, L2.gf_of KX G ?qck ?qdk ?qek ?qfk, L2.gf_of KX G ?qgk ?qhk ?qik ?qjk, L2.gf_of KX G ?qkk ?qlk ?qmk ?qnk, L2.gf_of KX G ?qok ?qpk ?qqk ?qrk, L2.gf_of KX G ?qsk ?qtk ?quk ?qvk, L2.gf_of KX G ?qwk ?qxk ?qyk ?qzk, L2.gf_of KX G ?qal ?qbl ?qcl ?qdl, L2.gf_of KX G ?qel ?qfl ?qgl ?qhl⟩ ?qaa ?qil ?qjl ?qkl ?qll (L2.if_of ?qpa ?qqa ?qra ?qsa ?qta ?qml ?qnl) (L2.mf_of ?qua ?qva ?qwa ?qxa ?qya) (L2.mf_of ?qza ?qab ?qbb ?qcb ?qdb) (L2.mf_of ?qeb ?qfb ?qgb ?qhb ?qib) (L2.mf_of ?qjb ?qkb ?qlb ?qmb ?qnb) (L2.mf_of ?qob ?qpb ?qqb ?qrb ?qsb) ?qol ?qpl ?qba ?qql ?qrl ?qsl ?qtl (L2.if_of ?qtb ?qub ?qvb ?qwb ?qxb ?qul ?qvl) (L2.mf_of ?qyb ?qzb ?qac ?qbc ?qcc) (L2.mf_of ?qdc ?qec ?qfc ?qgc ?qhc) (L2.mf_of ?qic ?qjc ?qkc ?qlc ?qmc) ?qwl ?qxl ?qyl ?qzl ?qam ?qbm ?qcm ?qdm ?qem ?qfm ?qgm ?qhm ?qim ?qca ?qjm ?qkm ?qlm ?qmm (L2.if_of ?qdd ?qed ?qfd ?qgd ?qhd ?qnm ?qom) ?qpm ?qqm ?qrm ?qsm ?qtm ?qum ?qvm ?qwm ?qxm ?qym ?qzm ?qan ?qbn ?qcn ?qdn ?qen ?qfn ?qgn ?qhn ?qin ?qjn ?qkn ?qln ?qmn ?qnn ?qon ?qpn ?qqn ?qrn ?qsn ?qtn ?qun ?qvn ?qwn ?qxn ?qyn ?qzn ?qao ?qbo ?qco ?qdo ?qeo ?qfo ?qgo)
    case qaa | qba | qca | qda | qea | qfa | qga | qha | qia | qja | qka | qla | qma | qna | qoa | qpa | qqa | qra | qsa | qta | qua | qva | qwa | qxa | qya | qza | qab | qbb | qcb | qdb | qeb | qfb | qgb | qhb | qib | qjb | qkb | qlb | qmb | qnb | qob | qpb | qqb | qrb | qsb | qtb | qub | qvb | qwb | qxb | qyb | qzb | qac | qbc | qcc | qdc | qec | qfc | qgc | qhc | qic | qjc | qkc | qlc | qmc | qnc | qoc | qpc | qqc | qrc | qsc | qtc | quc | qvc | qwc | qxc | qyc | qzc | qad | qbd | qcd | qdd | qed | qfd | qgd | qhd | qid | qjd | qkd | qld | qmd | qnd | qod | qpd | qqd | qrd | qsd | qtd | qud | qvd | qwd | qxd | qyd | qzd | qae | qbe | qce | qde | qee | qfe | qge | qhe | qie | qje | qke | qle | qme | qne | qoe | qpe | qqe | qre | qse | qte | que | qve | qwe | qxe | qye | qze | qaf | qbf | qcf | qdf | qef | qff | qgf | qhf | qif | qjf | qkf | qlf | qmf | qnf | qof | qpf | qqf | qrf | qsf | qtf | quf | qvf | qwf | qxf | qyf | qzf | qag | qbg | qcg | qdg | qeg | qfg | qgg | qhg | qig | qjg | qkg | qlg | qmg | qng | qog | qpg | qqg | qrg | qsg | qtg | qug | qvg | qwg | qxg | qyg | qzg | qah | qbh | qch | qdh | qeh | qfh | qgh | qhh | qih | qjh | qkh | qlh | qmh | qnh | qoh | qph | qqh | qrh | qsh | qth | quh | qvh | qwh | qxh | qyh | qzh | qai | qbi | qci | qdi | qei | qfi | qgi | qhi | qii | qji | qki | qli | qmi | qni | qoi | qpi | qqi | qri | qsi | qti | qui | qvi | qwi | qxi | qyi | qzi | qaj | qbj | qcj | qdj | qej | qfj | qgj | qhj | qij | qjj | qkj | qlj | qmj | qnj | qoj | qpj | qqj | qrj | qsj | qtj | quj | qvj | qwj | qxj | qyj | qzj | qak | qbk | qck | qdk | qek | qfk | qgk | qhk | qik | qjk | qkk | qlk | qmk | qnk | qok | qpk | qqk | qrk | qsk | qtk | quk | qvk | qwk | qxk | qyk | qzk | qal | qbl | qcl | qdl | qel | qfl | qgl | qhl | qil | qjl | qkl | qll | qml | qnl | qol | qpl | qql | qrl | qsl | qtl | qul | qvl | qwl | qxl | qyl => k_is
    case qzl | qam | qbm | qcm | qdm | qem | qfm | qgm | qhm | qim => first | k_is | kit_is | kernel_rfl
    case qjm | qkm | qlm | qmm | qnm | qom | qpm | qqm | qrm | qsm | qtm | qum | qvm | qwm | qxm | qym | qzm | qan | qbn | qcn | qdn | qen | qfn | qgn | qhn | qin | qjn | qkn | qln | qmn | qnn => k_is
    case qon => first | kernel_rfl | (unfold L2.TupK; kernel_rfl)
    case qpn | qqn => k_is
    case qrn => first | kernel_rfl | (unfold L2.TupK; kernel_rfl)
    case qsn => k_is
    case qtn => first | kernel_rfl | (unfold L2.TupK; kernel_rfl)
    case qun => k_is
    case qvn => first | kernel_rfl | (unfold L2.TupK; kernel_rfl)
    case qwn => k_is
    case qxn => first | kernel_rfl | (unfold L2.TupK; kernel_rfl)
    case qyn => k_is
    case qzn => first | kernel_rfl | (unfold L2.TupK; kernel_rfl)
    case qao => k_is
    case qbo => first | kernel_rfl | (unfold L2.TupK; kernel_rfl)
    case qco => k_is
    case qdo => first | kernel_rfl | (unfold L2.TupK; kernel_rfl)
    case qeo | qfo | qgo => k_is
