import PyProof.Rows.All
import Wide.All
import OpenK.AllK
import Wide.FinOn
import Lean
import PyProof.EqAt
import PyProof.EqKinds
import PyProof.TupleCall
import PyProof.StrLawsTight
import PyProof.StrLawsChain
import KE.KSortTup
import PyProof.EnumIter
import PyProof.EnumMake
import PyProof.EnumFor
import KE.KDictOf
import PyProof.AttrMissHeap
import PyProof.Walks
import PyProof.WalksMore
import PyProof.P3In
import PyProof.DictIter
import OpenK.KOwn
import PyProof.ExcClass3
import PyProof.ExcBaseAll.ValueError
import PyProof.RulesAs
import PyProof.RulesDel
import PyProof.Rows.Catch
import PyProof.ExcArgsOwn
import PyProof.IsiBase
import KE.KIsAll
import PyProof.FString
import PyProof.ReprStr
import PyProof.StrOps2
import PyProof.MeetsSeq
import PyProof.Rows.StrInSeq3
import PyProof.StrLawsIn
import PyProof.StrLawsTight
import PySem.Challenge.RW_turnstack_k05_no_whom
set_option Elab.async false
set_option linter.all false
set_option maxRecDepth 100000
inductive Ex2 {A1 A2 : Type} (p : A1 → A2 → Prop) : Prop
  | mk (a1 : A1) (a2 : A2) (h : p a1 a2) : Ex2 p
inductive Ex3 {A1 A2 A3 : Type} (p : A1 → A2 → A3 → Prop) : Prop
  | mk (a1 : A1) (a2 : A2) (a3 : A3) (h : p a1 a2 a3) : Ex3 p
inductive Ex4 {A1 A2 A3 A4 : Type} (p : A1 → A2 → A3 → A4 → Prop) : Prop
  | mk (a1 : A1) (a2 : A2) (a3 : A3) (a4 : A4) (h : p a1 a2 a3 a4) : Ex4 p
inductive Ex5 {A1 A2 A3 A4 A5 : Type} (p : A1 → A2 → A3 → A4 → A5 → Prop) : Prop
  | mk (a1 : A1) (a2 : A2) (a3 : A3) (a4 : A4) (a5 : A5) (h : p a1 a2 a3 a4 a5) : Ex5 p
inductive Ex6 {A1 A2 A3 A4 A5 A6 : Type} (p : A1 → A2 → A3 → A4 → A5 → A6 → Prop) : Prop
  | mk (a1 : A1) (a2 : A2) (a3 : A3) (a4 : A4) (a5 : A5) (a6 : A6) (h : p a1 a2 a3 a4 a5 a6) : Ex6 p
inductive Ex7 {A1 A2 A3 A4 A5 A6 A7 : Type} (p : A1 → A2 → A3 → A4 → A5 → A6 → A7 → Prop) : Prop
  | mk (a1 : A1) (a2 : A2) (a3 : A3) (a4 : A4) (a5 : A5) (a6 : A6) (a7 : A7) (h : p a1 a2 a3 a4 a5 a6 a7) : Ex7 p
inductive Ex8 {A1 A2 A3 A4 A5 A6 A7 A8 : Type} (p : A1 → A2 → A3 → A4 → A5 → A6 → A7 → A8 → Prop) : Prop
  | mk (a1 : A1) (a2 : A2) (a3 : A3) (a4 : A4) (a5 : A5) (a6 : A6) (a7 : A7) (a8 : A8) (h : p a1 a2 a3 a4 a5 a6 a7 a8) : Ex8 p
inductive Ex9 {A1 A2 A3 A4 A5 A6 A7 A8 A9 : Type} (p : A1 → A2 → A3 → A4 → A5 → A6 → A7 → A8 → A9 → Prop) : Prop
  | mk (a1 : A1) (a2 : A2) (a3 : A3) (a4 : A4) (a5 : A5) (a6 : A6) (a7 : A7) (a8 : A8) (a9 : A9) (h : p a1 a2 a3 a4 a5 a6 a7 a8 a9) : Ex9 p
set_option maxHeartbeats 0
noncomputable section
open PySem.W renaming Frag→yaa,findIn→yna,kitOne→ypa,nsIn→yib,kia_one→yvb,mg_none_of→ydc,mg_of→yfc,emptyDict→yjc,keepIn→yxc,instObj→yzc,hideAll_none→ydd,fnOf→ykd,plainGet→ypd,hasDictIn→ybe,looks_findIn→yfe,codeIn→yge,hideAll_get→yje,hideAll→yme,of_hideAll→yne,subIn→yre,funFrames_hide→yue,plainOver→yxe,clsIn→yif,plainGet_of→ymf,isFn→yxf,lookIn→yag,methodObj→yfg,specialIn→yjg,cellsFrom_some→ybh,takerIn→yhh,makesIn→yih,OpenLaw→ynh,looks_subIn→ydi,callWith_K→yji,kitx_list→yri,kitx_dict→ysi,handedIn→ylj,takesIn→yqj,Looks→yxj,mroIn→yyj,WalkO→yzj,excIn→ybk
open List renaming length_map→yba,length_append→yca,mem_cons_of_mem→yea,mem_cons→yga,mem_append→yia,size_toArray→yma,replicate→yoa,mem_singleton→yqa,mem_append_right→yra,length_cons→yta,mem_cons_self→yua,map_append→yza,getElem?_eq_some_iff→ydb,length_take→yeb,mem_of_getElem?→ygb,flatten_cons→ykb,map_cons→yob,getElem?_eq_getElem→ypb,length_singleton→ysb,mem_map→ytb,replicate_succ→yub,length_drop→ywb,not_mem_nil→yyb,mem_append_left→yzb,all_eq_true→yec,length_replicate→ykc,getElem?_append_right→ymc,take_of_length_le→ync,lookup→ypc,lookup_cons→yvc,mem_filterMap→ybd,getElem?_append_left→ycd,getElem?_cons_succ→ynd,getElem?_set_self→yqd,length→yvd,nil_append→ywd,getElem?_eq_none→yzd,getElem?_map→yce,getD_eq_getElem?_getD→yde,getElem?_set_ne→yee,cons_append→yie,flatten_append→yke,eq_of_mem_replicate→yle,getElem?_drop→yqe,sum_cons→yse,append_assoc→yze,drop_drop→ybf,mem_of_mem_take→yef,mem_of_mem_drop→yff,filterMap_cons→yjf,append_nil→ynf,nodup_cons→yof,mem_map_of_mem→ytf,drop_zero→yeg,take_add_one→yog,getElem?_replicate→ysg,getElem?_cons_zero→ytg,length_eq_zero_iff→yvg,of_mem_zip→ykh,foldl_cons→ylh,map_nil→ymh,map_map→yph,take_append_drop→ysh,range→yuh,map_take→ypi,map_drop→yqi,Nodup→ybj,foldl→yuj
open Nat renaming lt_of_lt_of_le→yda,le_refl→ywa,le_trans→yab,ne_of_lt→yfb,zero_le→ylc,lt_irrefl→yrc,lt_succ_self→yzg,le_of_lt→ygh,sub_self→yrh,ne_of_gt→ydj,le_of_eq→yej,add_comm→yhj,toDigits→ykj,add_mul→ytj
open PySem renaming sizeLine→yfa,mainGlobals→ysa,Program→yya,boot_len→ybb,wpAny_bind→yhb,NameKind→yrb,starEach→yac,wpAny_mono→yhc,wpAny_pure→yic,wpAny_truthy_bool→yoc,compareOp→ysc,FuncData→yuc,wpAny_loadPart_at→yyc,wpAny_passesOwn→yed,mem_of_lookup→ymd,wpAny_getItem_str_slice→yod,bootBuiltins→ytd,wpAny_execs_nil→yoe,wpAny_Call_Name_kw→ype,sliceBounds→yye,call_meets→yaf,binaryOp→ygf,attributeBase→yhf,letOwnedTupleGo→ykf,post_val_or_str→ypf,reprText→yzf,codeAny→ybg,intText?→ydg,assignEach→ygg,foldedSetIterable→yhg,typeIs_str→ykg,wpAny_comprehension_free→ylg,slot_dict_getitem→yng,wpAny_holding→yqg,behindInMarks→yrg,excClassObj→yug,Within→yfh,codeAny_mono→yjh,keywordEach→ybi,wpAny_standAt→yhi,strLen_append→ymi,BindsTo→yui,Keyword→yvi,callerA→yxi,relabel→yyi,Operator→yoj,swapsWith→ypj,notedBy→yrj,call→yvj
open PySem.Heap renaming get?_push_of_some→yha,lt_size→yja,get?_push_size→ycb,SameBut→ywf,get?_update_other→ydh,size_push→yai,FlyingW→yjj
open Bool renaming false_ne_true→yka,false_and→yqb,and_eq_true→yxb,eq_false_iff→ybc,true_and→ygc,and_false→yhe,eq_iff_iff→ylf,or_eq_false_iff→yzh,not_eq_true'→yzi
open PySem.Str renaming join→yla,empty→yig,length→yvh,length_append→yaj
open Option.some renaming inj→yva
open PySem.F renaming plainAttrs_str→yxa,slot_str_join→ymb,type_str_join→ynb,plainAttrs_list→ycc,slot_list_append→yhd,type_list_append→yid,slot_str_split→yve,type_str_split→ywe,typeOf_object_class→ydf,excBase_ValueError→yvf,args_str_split_2→yyf,entry_str_split→ymg,slot_list_count→yxg,type_list_count→yyg,slot_str_split→yah,excAttr_ValueError→yyh,slot_gs_get→yli
open PySem.Txt renaming split→yjb,slice_le→yoh,slice→yki
open PySem.Builtin.Str renaming occurrences→ylb,partsBetween→ygd,strKind→yci,tooLong→yei
open PySem.SeqAt renaming EqAt→yqc,shaped→ycf,canLay_of_shaped→yeh
open False renaming elim→ytc
open Ne renaming symm→ywc
open Array renaming length_toList→yad,getD_eq_getD_getElem?→yxd,toList_append→yqf,getElem?_eq_getElem→ycg,getElem?_toList→yqh,toList_inj→ynj
open PySem.Builtin.List renaming listTooLong→yfd
open PyProof.Rows renaming boot_isinstance→yjd,callWith_type1→yud,AllBare→ypg,subscriptTail_builtinR→ych
open PySem.StrLaws renaming join_split→yrd
open Int renaming emod_lt_of_pos→ysd,emod_nonneg→yte,toNat_of_nonneg→yrf,eq_ofNat_of_zero_le→ywg,natAbs_natCast→yni,toNat_natCast→ywi
open PyProof.Rows.KTD renaming datumAt→yyd,isSome_datumAt→yoi,datLooks→yij,TextTab→ysj,inKeys→ywj,Dat→yak
open PySem.PassesOwn renaming never→yae
open List.cons renaming injEq→ysf
open PySem.Calls renaming Name_function_global→yuf,evalArgs_plain→yxh,spliced_cons→yii,spliced_nil→yti
open Classical renaming em→yth
open PySem.Obj renaming mapSeq→ywh
open PySem.SeqAt.EqAt renaming int_str→yfi,str_int→ygi
open Function renaming comp_def→ycj
open PySem.Around renaming under→yfj
open PySem.Code renaming isFrame→ygj
open Option renaming getD_none→ymj
open Prod.mk renaming injEq→yck
namespace L2
open PySem PySem.Spec PyProof.Rows
abbrev Key:=Sum Int Str
def zxbb:Key->Value->Bool
 | .inl k,v=>Value.isInt k v
 | .inr x,v=>Value.isStrOf x v
def keyH (w:World):Key->Int
 | .inl k=>hashInt k
 | .inr x=>hashStr w x
theorem zdc:∀{k:Key} {v:Value},zxbb k v=true->(Ex2 λi t=>k=Sum.inl i∧v=Value.int i t)∨(Ex2 λx t=>k=Sum.inr x∧v=Value.str x t)
 | .inl i,v,h=>by
  obtain⟨t,e⟩:=Value.isInt_shape (k:=i) (v:=v) h;exact .inl ⟨i,t,rfl,e⟩
 | .inr x,v,h=>by
  obtain⟨t,e⟩:=Value.isStrOf_shape (x:=x) (v:=v) h;exact .inr ⟨x,t,rfl,e⟩
theorem zwbb (a b:Int):decide ((Sum.inl a:Key)=Sum.inl b)=(a==b):=by
 by_cases e:a=b
 ·subst e;simp
 ·have h:¬ (Sum.inl a:Key)=Sum.inl b:=λq=>e (Sum.inl.inj q);rw[decide_eq_false h];exact (beq_eq_false_iff_ne.mpr e).symm
theorem ztbb (a b:Str):decide ((Sum.inr a:Key)=Sum.inr b)=decide (a=b):=by
 by_cases e:a=b
 ·subst e;simp
 ·have h:¬ (Sum.inr a:Key)=Sum.inr b:=λq=>e (Sum.inr.inj q);rw[decide_eq_false h,decide_eq_false e]
theorem zvbb (a:Int)(b:Str):decide ((Sum.inl a:Key)=Sum.inr b)=false:=decide_eq_false (λq=>nomatch q)
theorem zubb (a:Str)(b:Int):decide ((Sum.inr a:Key)=Sum.inl b)=false:=decide_eq_false (λq=>nomatch q)
def zgu (prog:yya)(w:World):PySem.KeyKind prog w Key where
 is:=zxbb
 hash:=keyH w
 inj:=λv a b ha hb=>by
  rcases zdc ha with⟨i,t,rfl,rfl⟩|⟨x,t,rfl,rfl⟩
  ·rcases zdc hb with⟨j,u,rfl,e⟩|⟨y,u,rfl,e⟩
   ·injection e with e1 _;rw[e1]
   ·exact nomatch e
  ·rcases zdc hb with⟨j,u,rfl,e⟩|⟨y,u,rfl,e⟩
   ·exact nomatch e
   ·injection e with e1 _;rw[e1]
 byValue:=λk v h=>by
  rcases zdc h with⟨i,t,rfl,rfl⟩|⟨x,t,rfl,rfl⟩<;>rfl
 pyHash:=λhv h=>by
  rcases zdc hv with⟨i,t,rfl,rfl⟩|⟨x,t,rfl,rfl⟩
  ·exact wpAny_pyHash_int h
  ·exact wpAny_pyHash_str h
 eqBool:=λhu hv h=>by
  rcases zdc hu with⟨i,t,rfl,rfl⟩|⟨x,t,rfl,rfl⟩
  ·rcases zdc hv with⟨j,u,rfl,rfl⟩|⟨y,u,rfl,rfl⟩
   ·rw[zwbb] at h;exact wpAny_eqBool_int h
   ·rw[zvbb] at h;exact yfi i t y u _ _ _ _ h
  ·rcases zdc hv with⟨j,u,rfl,rfl⟩|⟨y,u,rfl,rfl⟩
   ·rw[zubb] at h;exact ygi x t j u _ _ _ _ h
   ·rw[ztbb] at h;exact wpAny_eqBool_str h
 «strs»:=λk x t v h=>by
  rcases zdc h with⟨i,u,rfl,e⟩|⟨y,u,rfl,e⟩
  ·exact nomatch e
  ·injection e with e1 _
   subst e1;cases v<;>rfl
end L2
namespace L2
open PySem PySem.Spec PyProof.Rows
inductive V where
 | non|bl (b:Bool)|int (i:Int)|str (x:Str)|byt (b:Array UInt8)|flt (b:UInt64)|ref (a:Addr)|ty (n:String)
 deriving DecidableEq
def RelV:V->Value->Prop
 | .non,u=>u=Value.none
 | .bl b,u=>u=Value.bool b
 | .int i,u=>∃t,u=Value.int i t
 | .str x,u=>∃t,u=Value.str x t
 | .byt b,u=>∃t,u=Value.bytes b t
 | .flt b,u=>∃t,u=Value.float b t
 | .ref a,u=>u=Value.ref a
 | .ty n,u=>u=Value.type n
abbrev Vals:List V->List Value->Prop:=Paired RelV
theorem Vals.length {xs:List V}{us:List Value}(r:Vals xs us):xs.length=us.length:=Paired.length r
theorem Vals.get:∀{xs:List V} {us:List Value} {i:Nat} {x:V},Vals xs us->xs[i]?=some x->∃u,us[i]?=some u∧RelV x u
 | _,_,_,_,.nil,e=>by simp at e
 | _,_,0,_,.cons r _,e=>by simp at e;subst e;exact⟨_,rfl,r⟩
 | _,_,i+1,x,.cons _ t,e=>by
  obtain⟨u,h1,h2⟩:=Vals.get (i:=i) (x:=x) t (by simpa using e);exact⟨u,by simpa using h1,h2⟩
theorem Vals.set {x:V}{u:Value}(r:RelV x u):∀{xs:List V} {us:List Value} (i:Nat),Vals xs us->Vals (xs.set i x) (us.set i u)
 | _,_,_,.nil=>.nil
 | _,_,0,.cons _ t=>.cons r t
 | _,_,i+1,.cons q t=>.cons q (Vals.set r i t)
theorem Vals.append:∀{xs ys:List V} {us ws:List Value},Vals xs us->Vals ys ws->Vals (xs++ys) (us++ws)
 | _,_,_,_,.nil,s=>s
 | _,_,_,_,.cons r t,s=>.cons r (Vals.append t s)
theorem Vals.take:∀{xs:List V} {us:List Value} (n:Nat),Vals xs us->Vals (xs.take n) (us.take n)
 | _,_,0,_=>.nil
 | _,_,_+1,.nil=>.nil
 | _,_,n+1,.cons r t=>.cons r (Vals.take n t)
theorem Vals.drop:∀{xs:List V} {us:List Value} (n:Nat),Vals xs us->Vals (xs.drop n) (us.drop n)
 | _,_,0,r=>r
 | _,_,_+1,.nil=>.nil
 | _,_,n+1,.cons _ t=>Vals.drop n t
def RelO:Option V->Option Value->Prop
 | some v,some u=>RelV v u
 | none,none=>True
 | _,_=>False
def KV {κ:Type}:List (κ×V)->List (κ×Value)->Prop:=Paired λ(p:κ×V) (q:κ×Value)=>p.1=q.1∧RelV p.2 q.2
def kV:Key->V
 | .inl i=>.int i
 | .inr x=>.str x
inductive HO where
 | lst (xs:List V)
 | tup (xs:List V)
 | dK (kvs:List (Key×V))|dT (kvs:List (List Key×V))
 | set (S:Int->Bool) (n:Nat)
 | ins (C dx:Addr) (fs:List (Str×V))
 | own (x:Addr)
 | xd (fs:List (Str×V))
 | met (f x:Addr)
 | rng (lo hi:Int)
 | frz (o:Obj) (u:HO)
 | tbl (ps:Array Value)
 | ext (φ:Heap->Prop)
abbrev Hp:=Addr->Option HO
def upd (H:Hp)(a:Addr)(o:HO):Hp:=λb=>if b=a then some o else H b
theorem zea {H:Hp}{a:Addr}{o:HO}:upd H a o a=some o:=by unfold upd;rw[if_pos rfl]
theorem zoa {H:Hp}{a b:Addr}{o:HO}(h:b≠a):upd H a o b=H b:=by unfold upd;rw[if_neg h]
theorem zdm {H:Hp}{a:Addr}{o u:HO}:upd (upd H a o) a u=upd H a u:=by
 funext b;unfold upd;split<;>rfl
theorem zbf {H:Hp}{a b:Addr}{o u:HO}(h:H a=some o)(h':H b=some u)(d:o≠u):a≠b:=by
 intro e;subst e;rw[h] at h';exact d (yva h')
theorem zka {H:Hp}{a b:Addr}{o:HO}(h:H a=some o)(h':H b=none):a≠b:=by
 intro e;subst e;rw[h] at h';cases h'
section
variable (P:yya)(w:World)
def zwe (H:Hp)(h:Heap)(a:Addr):HO->Prop
 | .lst xs=>xs.length≤yfa∧Ex2 λ(its:List Value) (n:Nat)=>Vals xs its∧h.get? a=some { cls:=.type "list",data:=.seq its.toArray n }
 | .tup xs=>xs.length≤yfa∧∃its:List Value,Vals xs its∧IsTup h a its.toArray
 | .dK kvs=>kvs.length≤yfa∧(a==sysModules)=false∧∃vs,KV kvs vs∧h.DictOf (zgu P w) a vs
 | .dT kvs=>kvs.length≤yfa∧(a==sysModules)=false∧∃xs:List (List Key×Addr×Value),
   Paired (λ(p:List Key×V) (q:List Key×Addr×Value)=>p.1=q.1∧H q.2.1=some (.tup (p.1.map kV))∧RelV p.2 q.2.2) kvs xs ∧
   Ex3 λo es ep=>h.get? a=some o∧o.ExactDict∧o.data = .dict es ep∧es.toList=xs.map (entryOfKey (tupleKind (zgu P w)))∧(xs.map (·.1)).Nodup
 | .set S n=>h.SetOf (intKind P w) a S n
 | .ins C dx fs=>H dx=some (.own a)∧fs.length≤1000∧dx≠a∧h.get? a=some (yzc C dx) ∧
   ∃mA,h.Ns1 dx mA∧(∀f,RelO (fs.lookup f) (mA f))∧yfh mA (fs.map (·.1))
 | .own _=>∃o,h.get? a=some o
 | .xd fs=>∃mA,h.Ns1 a mA∧∀f,RelO (fs.lookup f) (mA f)
 | .rng lo hi=>Ex3 λt u v=>h.get? a=some { cls:=.type "range",data:=.fields #[.int lo t,.int hi u,.int 1 v] }
 | .frz o u=>h.get? a=some o∧zwe H h a u
 | .tbl ps=>h.get? a=some { cls:=.none,data:=.fields ps }
 | .met f x=>h.get? a=some (yfg (.ref f) (.ref x))
 | .ext φ=>φ h∧(∃o,h.get? a=some o)∧∀h1 h2:Heap,φ h1->(∀o,h1.get? a=some o->h2.get? a=some o)->φ h2
def HOk (H:Hp)(h:Heap):Prop:=∀a o,H a=some o->zwe P w H h a o
end
section
variable {P:yya}{w:World}{H H':Hp}{h h':Heap}{a:Addr}{o:HO}
theorem zwe.lt (x:zwe P w H h a o):a<h.objs.size:=by
 cases o with
 | lst xs=>obtain⟨_,_,_,_,e⟩:=x;exact yja e
 | tup xs=>obtain⟨_,_,_,p⟩:=x;exact p.lt
 | dK kvs=>obtain⟨_,_,_,_,o,_,_,e,_⟩:=x;exact yja e
 | dT kvs=>obtain⟨_,_,_,_,o,_,_,e,_⟩:=x;exact yja e
 | set S n=>obtain⟨o,_,_,_,e,_⟩:=x;exact yja e
 | ins C dx fs=>obtain⟨_,_,_,e,_⟩:=x;exact yja e
 | own y=>obtain⟨_,e⟩:=x;exact yja e
 | xd fs=>obtain⟨_,⟨_,_,_,e,_⟩,_⟩:=x;exact yja e
 | rng lo hi=>obtain⟨_,_,_,e⟩:=x;exact yja e
 | frz ob u=>obtain⟨e,_⟩:=x;exact yja e
 | tbl ps=>exact yja (show h.get? a=some _ from x)
 | met f y=>exact yja (show h.get? a=some _ from x)
 | ext φ=>obtain⟨_,⟨_,e⟩,_⟩:=x;exact yja e
theorem Paired.mapP {α β:Type}{F G:α->β->Prop}:∀{l₁:List α} {l₂:List β},Paired F l₁ l₂->(∀a b,F a b->G a b)->Paired G l₁ l₂
 | _,_,.nil,_=>.nil
 | _,_,.cons r t,f=>.cons (f _ _ r) (Paired.mapP t f)
theorem zwe.stay (x:zwe P w H h a o)(k:∀b u,(b=a∨H b=some (.own a))->h.get? b=some u->h'.get? b=some u)
  (ho:∀b,H b=some (.own a)->H' b=some (.own a)) (ht:∀b xs,H b=some (.tup xs)->H' b=some (.tup xs)):zwe P w H' h' a o:=by
 induction o with
 | lst xs=>obtain⟨z,its,n,r,e⟩:=x;exact⟨z,its,n,r,k _ _ (.inl rfl) e⟩
 | tup xs=>obtain⟨z,its,r,ob,e,c⟩:=x;exact⟨z,its,r,ob,k _ _ (.inl rfl) e,c⟩
 | dK kvs=>obtain⟨z,y,vs,r,ob,es,ep,e,c⟩:=x;exact⟨z,y,vs,r,ob,es,ep,k _ _ (.inl rfl) e,c⟩
 | dT kvs =>
  obtain⟨z,y,xs,r,ob,es,ep,e,c⟩:=x;exact⟨z,y,xs,Paired.mapP r λp q z=>⟨z.1,ht _ _ z.2.1,z.2.2⟩,ob,es,ep,k _ _ (.inl rfl) e,c⟩
 | set S n=>obtain⟨ob,es,ep,t,e,c⟩:=x;exact⟨ob,es,ep,t,k _ _ (.inl rfl) e,c⟩
 | ins C dx fs =>
  obtain⟨d,z,ne,e,mA,⟨od,es,ep,e2,c⟩,r⟩:=x;exact⟨ho _ d,z,ne,k _ _ (.inl rfl) e,mA,⟨od,es,ep,k _ _ (.inr d) e2,c⟩,r⟩
 | own y=>obtain⟨ob,e⟩:=x;exact⟨ob,k _ _ (.inl rfl) e⟩
 | xd fs=>obtain⟨mA,⟨od,es,ep,e,c⟩,r⟩:=x;exact⟨mA,⟨od,es,ep,k _ _ (.inl rfl) e,c⟩,r⟩
 | rng lo hi=>obtain⟨t,u,v,e⟩:=x;exact⟨t,u,v,k _ _ (.inl rfl) e⟩
 | frz ob u ih=>obtain⟨e,q⟩:=x;exact⟨k _ _ (.inl rfl) e,ih q⟩
 | tbl ps =>
  have e:h.get? a=some { cls:=.none,data:=.fields ps }:=x;show h'.get? a=some { cls:=.none,data:=.fields ps }
  exact k a _ (.inl rfl) e
 | met f y =>
  have e:h.get? a=some (yfg (.ref f) (.ref y)):=x;show h'.get? a=some (yfg (.ref f) (.ref y))
  exact k a _ (.inl rfl) e
 | ext φ=>obtain⟨p,⟨o,e⟩,st⟩:=x;exact⟨st _ _ p λo q=>k _ _ (.inl rfl) q,⟨o,k _ _ (.inl rfl) e⟩,st⟩
theorem HOk.lt (x:HOk P w H h)(e:H a=some o):a<h.objs.size:=(x a o e).lt
theorem HOk.fresh (x:HOk P w H h)(e:h.objs.size≤a):H a=none:=by
 cases q:H a with
 | none=>rfl
 | some u=>exact absurd (yda (x.lt q) e) (yrc _)
theorem HOk.kept (x:HOk P w H h)(k:∀b u,h.get? b=some u->h'.get? b=some u):HOk P w H h':=λa o e =>
 (x a o e).stay (λb u _ q=>k b u q) (λ_ q=>q) λ_ _ q=>q
theorem HOk.laid (x:HOk P w H h)(k:∀b u,h.get? b=some u->h'.get? b=some u)(hp:h.objs.size≤a)(new:zwe P w (upd H a o) h' a o):HOk P w (upd H a o) h':=λb u e=>by
 have hn:=x.fresh hp
 by_cases hb:b=a
 ·subst hb;rw[zea] at e;cases e;exact new
 ·rw[zoa hb] at e;exact (x b u e).stay (λc v _ q=>k c v q) (λc q=>by rw[zoa (zka q hn)];exact q) λc xs q=>by rw[zoa (zka q hn)];exact q
end
def Rd (H:Hp)(a:Addr)(u:HO):Prop:=H a=some u∨∃o,H a=some (.frz o u)
theorem Rd.ok {P:yya}{w:World}{H:Hp}{h:Heap}{a:Addr}{u:HO}(r:Rd H a u)(x:HOk P w H h):zwe P w H h a u:=by
 rcases r with r|⟨o,r⟩
 ·exact x a u r
 ·obtain⟨_,q⟩:=x a _ r;exact q
def Mut:Option HO->Prop
 | some (.lst _)=>True
 | some (.dK _)=>True
 | some (.dT _)=>True
 | some (.set _ _)=>True
 | some (.ins _ _ _)=>True
 | some (.ext _)=>True
 | _=>False
section
variable {P:yya}{w:World}{H:Hp}{h h':Heap}{x e:Addr}{o':HO}
theorem HOk.write (ok:HOk P w H h)(mu:Mut (H x))(he:e=x∨H e=some (.own x))(k:∀b u,b≠e->h.get? b=some u->h'.get? b=some u)(heo:∃u,h'.get? e=some u)
  (new:zwe P w (upd H x o') h' x o'):HOk P w (upd H x o') h':=λb u q=>by
 have nown:∀c y,H c=some (.own y)->c≠x:=λc y r z=>by subst z;rw[r] at mu;exact mu
 have ntup:∀c xs,H c=some (.tup xs)->c≠x:=λc xs r z=>by subst z;rw[r] at mu;exact mu
 by_cases hb:b=x
 ·subst hb;rw[zea] at q;cases q;exact new
 ·rw[zoa hb] at q
  by_cases hbe:b=e
  ·have q':H b=some (.own x):=by
    rcases he with z|z
    ·exact absurd (hbe.trans z) hb
    ·rw[hbe];exact z
   rw[q] at q';cases q';obtain⟨v,hv⟩:=heo;exact⟨v,by rw[hbe];exact hv⟩
  ·refine (ok b u q).stay (λc v hc r=>k c v ?_ r) (λc r=>by rw[zoa (nown c b r)];exact r) λc xs r=>by rw[zoa (ntup c xs r)];exact r
   rcases hc with rfl|hc
   ·exact hbe
   ·rintro rfl
    rcases he with z|z
    ·exact nown c b hc z
    ·rw[hc] at z;cases z;exact hb rfl
end
structure Un (fs ex:List Addr)(H H':Hp)(h h':Heap):Prop where
 keep:∀b o,h.get? b=some o->H b=none->b∉fs->b∉ex->h'.get? b=some o
 slot:∀b o,h.get? b=some o->H b=none->b∈fs->b∉ex->∃sl,h'.get? b=some { o with slots:=sl }
 free:∀b o,h.get? b=some o->H b=none->b∉ex->H' b=none
 there:∀b o,h.get? b=some o->b∉ex->∃o',h'.get? b=some o'
 tups:∀b xs,H b=some (.tup xs)->H' b=some (.tup xs)
 frzs:∀b o u,H b=some (.frz o u)->H' b=some (.frz o u)
 tbls:∀b ps,H b=some (.tbl ps)->∃more,H' b=some (.tbl (ps++more))
section
variable {fs fs' ex ex':List Addr}{H H1 H2:Hp}{h h1 h2 h':Heap}{a x e:Addr}{o:HO}
theorem Un.any (u:Un fs ex H H1 h h1){b:Addr}{ob:Obj}(q:h.get? b=some ob)(n:H b=none)(hx:b∉ex):∃sl,h1.get? b=some { ob with slots:=sl }:=by
 by_cases hb:b∈fs
 ·exact u.slot b ob q n hb hx
 ·exact⟨ob.slots,u.keep b ob q n hb hx⟩
theorem Un.kept (k:∀b u,h.get? b=some u->h'.get? b=some u):Un fs ex H H h h' :=
 ⟨λb ob q _ _ _=>k b ob q,λb ob q _ _ _=>⟨ob.slots,k b ob q⟩,λ_ _ _ n _=>n,λb ob q _=>⟨ob,k b ob q⟩,λ_ _ q=>q,λ_ _ _ q=>q,λ_ ps q=>⟨#[],by rw[q];simp⟩⟩
theorem Un.refl:Un fs ex H H h h:=Un.kept λ_ _ q=>q
theorem Un.laid (k:∀b u,h.get? b=some u->h'.get? b=some u)(hp:h.objs.size≤a)(hn:H a=none):Un fs ex H (upd H a o) h h' where
 keep:=λb u q _ _ _=>k b u q
 slot:=λb u q _ _ _=>⟨u.slots,k b u q⟩
 free:=λb u q n _=>by rw[zoa (yfb (yda (yja q) hp))];exact n
 there:=λb u q _=>⟨u,k b u q⟩
 tups:=λb xs q=>by rw[zoa (zka q hn)];exact q
 frzs:=λb u xs q=>by rw[zoa (zka q hn)];exact q
 tbls:=λb ps q=>⟨#[],by rw[zoa (zka q hn),q];simp⟩
theorem Un.write (mu:Mut (H x))(he:e=x∨H e=some (.own x))(k:∀b u,b≠e->h.get? b=some u->h'.get? b=some u)(heo:∃u,h'.get? e=some u):Un fs ex H (upd H x o) h h':=by
 have hx:∀b,H b=none->b≠x:=λb n z=>by subst z;rw[n] at mu;exact mu
 have hb:∀b,H b=none->b≠e:=λb n z=>by
  subst z
  rcases he with r|r
  ·exact hx b n r
  ·rw[n] at r;cases r
 have hm:∀b u,H b=some u->¬ Mut (some u)->b≠x:=λb u q nm z=>by subst z;rw[q] at mu;exact nm mu
 refine⟨λb u q n _ _=>k b u (hb b n) q,λb u q n _ _=>⟨u.slots,k b u (hb b n) q⟩,λb u q n _=>by rw[zoa (hx b n)];exact n,λb u q _=>?_,
  λb xs q=>by rw[zoa (hm b _ q λz=>z)];exact q,λb u xs q=>by rw[zoa (hm b _ q λz=>z)];exact q,λb ps q=>⟨#[],by rw[zoa (hm b _ q λz=>z),q];simp⟩⟩
 by_cases hbe:b=e
 ·subst hbe;exact heo
 ·exact⟨u,k b u hbe q⟩
end
def trk (h:Heap)(H:Hp):List Addr:=(yuh h.objs.size).filter λa=>(H a).isSome
def hidT (h:Heap)(H:Hp):Heap:=yme h (trk h H)
theorem zqu (h:Heap)(H:Hp):(hidT h H).objs.size=h.objs.size:=PySem.W.hideAll_size _ _
theorem zsw {h:Heap}{H:Hp}{b:Addr}{o:Obj}(e:h.get? b=some o)(n:H b=none):(hidT h H).get? b=some o :=
 yje _ e λhm=>by
  have q:(H b).isSome=true:=(List.mem_filter.mp hm).2;rw[n] at q;simp at q
theorem zfz {h:Heap}{H:Hp}{b:Addr}{o:Obj}(e:(hidT h H).get? b=some o):h.get? b=some o∧H b=none:=by
 have e':h.get? b=some o:=yne (trk h H) e;refine⟨e',?_⟩;cases q:H b with
 | none=>rfl
 | some x =>
  have hm:b∈trk h H:=List.mem_filter.mpr ⟨List.mem_range.mpr (yja e'),by simp[q]⟩;have z:(hidT h H).get? b=none:=ydd (trk h H) hm;rw[z] at e;cases e
def zrz (g h:Heap)(L:Addr):List (Addr×Obj):=(yuh h.objs.size).filterMap λa=>if a=L∨(g.get? a).isSome=true then none else (h.get? a).map λo=>(a,o)
def rest (g h:Heap)(L d:Addr):List (Addr×Obj):=(zrz g h L).filter λp=>decide (p.1≠d)
end L2
namespace L2
open PySem PySem.Spec PyProof.Rows
structure Mod (K:yaa)(mg:Str->Option Value)(base:Heap):Prop where
 kin:K.In base
 glob:base.Ns ysa mg
 blt:∃mb,base.Ns builtinsNs mb∧∀x:Str,x ≠ "__name__"->mb x=ytd x
 nolimit:base.NoLimit
structure Cx where
 prog:yya
 w:World
 K:yaa
 mg:Str->Option Value
 base:Heap
 A:Around
 N:List Str
 s₀:Shared
 H₀:Hp
 env:Env
 outer:List Env
 stack:List Env
 ex:List Addr
 fn:Str->Bool
 calm:Bool
 pn:List (Addr×Obj)
 xe:Value->Shared->Prop
def frs (l:List Env):List Addr:=l.filterMap (·.frame)
abbrev Cx.fs (X:Cx):List Addr:=frs X.outer
def Vis (sc:Scope)(x:Str):Prop:=sc.names.lookup x=some .local∨sc.names.lookup x=some .cell∨sc.names.lookup x=some .free
def Loc (sc:Scope)(x:Str):Prop:=sc.names.lookup x=some .local∨sc.names.lookup x=some .cell
def Look (env:Env)(h:Heap)(m:Str->Option Value)(x:Str)(u:Value):Prop :=
 (env.kindOf x=some .local∧m x=some u)∨((env.kindOf x=some .cell∨env.kindOf x=some .free)∧∃c,env.cells.lookup x=some c∧h.IsCell c (some u))
structure Cx.Ok (X:Cx):Prop where
 mod:Mod X.K X.mg X.base
 kind:X.env.scope.kind = .function
 glob:X.env.globals=ysa
 blt:X.env.builtins=builtinsNs
 above:X.s₀.heap.objs.size≤X.env.locals
 inj:∀x y c,X.env.cells.lookup x=some c->X.env.cells.lookup y=some c->x=y
 has:∀x,(X.env.kindOf x=some .cell∨X.env.kindOf x=some .free)->∃c,X.env.cells.lookup x=some c
 cab:∀x c,X.fn x=true->X.env.cells.lookup x=some c->X.s₀.heap.objs.size≤c
 hd:X.calm=true->X.A.handled=none
 frames:X.A.frames=some X.stack
 stk:X.stack=X.outer∨(X.stack=X.env::X.outer∧X.env.frame=some X.env.locals)
 exf:∀b∈X.ex,b≠X.env.locals∧∀x c,X.env.cells.lookup x=some c->c≠b
 bs:∀b o,X.base.get? b=some o->X.s₀.heap.get? b=some o∧X.H₀ b=none
 bsz:X.base.objs.size≤X.s₀.heap.objs.size
 noex:∀b o,X.base.get? b=some o->b∉X.ex
 exfs:∀b∈X.ex,b∉X.fs
 funs:X.s₀.heap.FunFrames X.base X.outer
 frf:∀b∈X.fs,X.H₀ b=none
structure Inv (X:Cx)(pins:List (Addr×Obj))(σ:List (Option V))(H:Hp)(s:Shared):Prop where
 ok:X.Ok
 os:s.os=X.s₀.os
 bare:ypg s.gens
 base:Un X.fs X.ex X.H₀ H X.s₀.heap s.heap
 loc:∃m,s.heap.Ns X.env.locals m∧∀(i:Nat) (x:Str) (v:V),X.N[i]?=some x->σ[i]?=some (some v)->Vis X.env.scope x->∃u,RelV v u∧Look X.env s.heap m x u
 cell:∀x c,X.env.cells.lookup x=some c->∃v,s.heap.IsCell c v
 free:H X.env.locals=none
 freeC:∀x c,X.env.cells.lookup x=some c->H c=none
 pin:∀p∈X.pn++pins,s.heap.get? p.1=some p.2∧H p.1=none∧p.1≠X.env.locals∧p.1∉X.fs∧∀v,p.2.data ≠ .cell v
 hok:HOk X.prog X.w H s.heap
 len:σ.length=X.N.length
section
variable {X:Cx}{pins:List (Addr×Obj)}{σ:List (Option V)}{H H':Hp}{s:Shared}{h':Heap}
theorem Cx.Ok.nofr (ok:X.Ok){b:Addr}{o:Obj}(e:X.base.get? b=some o):b∉X.fs:=λhb=>by
 have:=(ok.funs.mem hb).1;rw[e] at this;cases this
theorem Inv.bs (I:Inv X pins σ H s):∀b o,X.base.get? b=some o->s.heap.get? b=some o∧H b=none:=λb o e =>
 ⟨I.base.keep b o (I.ok.bs b o e).1 (I.ok.bs b o e).2 (I.ok.nofr e) (I.ok.noex b o e),I.base.free b o (I.ok.bs b o e).1 (I.ok.bs b o e).2 (I.ok.noex b o e)⟩
theorem Inv.bk (I:Inv X pins σ H s):∀b o,X.base.get? b=some o->s.heap.get? b=some o:=λb o e=>(I.bs b o e).1
theorem Inv.mod (I:Inv X pins σ H s):Mod X.K X.mg X.base:=I.ok.mod
theorem Inv.kIn (I:Inv X pins σ H s):X.K.In s.heap:=I.ok.mod.kin.keeps I.bk
theorem Inv.lt (I:Inv X pins σ H s):X.env.locals<s.heap.objs.size:=let ⟨_,hn,_⟩:=I.loc;hn.lt
theorem Inv.sz (I:Inv X pins σ H s):X.s₀.heap.objs.size≤s.heap.objs.size:=yab I.ok.above (ygh I.lt)
theorem Inv.nofs (I:Inv X pins σ H s){a:Addr}(h:s.heap.objs.size≤a):a∉X.fs:=λhb=>by
 obtain⟨_,o,ho,_⟩:=I.ok.funs.mem hb;exact absurd (yda (yja ho) (yab I.sz h)) (yrc _)
theorem Inv.cne (I:Inv X pins σ H s):∀x c,X.env.cells.lookup x=some c->c≠X.env.locals:=λx c e z=>by
 obtain⟨v,o,ho,hd⟩:=I.cell x c e;obtain⟨m,⟨o',es,ep,ho',hd',_⟩,_⟩:=I.loc;rw[z,ho'] at ho;cases ho;rw[hd'] at hd;cases hd
theorem Inv.funs (I:Inv X pins σ H s):s.heap.FunFrames X.base X.outer:=by
 have all:∀(l:List Env),(∀b∈frs l,b∈X.fs)->X.s₀.heap.FunFrames X.base l->s.heap.FunFrames X.base l:=by
  intro l
  induction l with
  | nil=>intro _ _;trivial
  | cons env r ih =>
   intro hs hl;obtain⟨hk,⟨L,o,hf,hn,ho,hd⟩,hr⟩:=hl;have hL:L∈X.fs:=hs L (by unfold frs;rw[yjf,hf];exact yua);obtain⟨sl,e⟩:=I.base.slot L o ho (I.ok.frf L hL) hL λz=>I.ok.exfs L z hL;exact⟨hk,⟨L,_,hf,hn,e,hd⟩,ih (λb hb=>hs b (by unfold frs;rw[yjf,hf];exact yea _ hb)) hr⟩
 exact all X.outer (λ_ hb=>hb) I.ok.funs
theorem Inv.stack (I:Inv X pins σ H s):s.heap.FunFrames X.base X.stack:=by
 rcases I.ok.stk with e|⟨e,hf⟩
 ·rw[e];exact I.funs
 ·rw[e];obtain⟨m,hn,_⟩:=I.loc;refine .cons (by rw[I.ok.kind];decide) hf hn ?_ I.funs;exact Heap.get?_none_of_le (yab I.ok.bsz I.ok.above)
theorem Inv.zil (I:Inv X pins σ H s):∀b∈frs X.stack,b∈X.env.locals::X.fs:=λb hb=>by
 rcases I.ok.stk with e|⟨e,hf⟩
 ·rw[e] at hb;exact yea _ hb
 ·rw[e] at hb;unfold frs at hb;rw[yjf,hf] at hb;exact hb
theorem Inv.zsp (I:Inv X pins σ H s):∀b∈frs X.stack,H b=none:=λb hb=>by
 rcases yga.mp (I.zil b hb) with e|hb
 ·rw[e];exact I.free
 ·obtain⟨_,o,ho,_⟩:=I.ok.funs.mem hb;exact I.base.free b o ho (I.ok.frf b hb) λz=>I.ok.exfs b z hb
theorem Inv.step {g':Array GenState}{t':Nat}{d':Drawn}{ch:List Addr}(I:Inv X pins σ H s)
  (hch:∀b∈ch,(b∈X.ex∨X.s₀.heap.objs.size≤b)∧b≠X.env.locals∧(∀x c,X.env.cells.lookup x=some c->c≠b)∧∀p∈X.pn++pins,p.1≠b)
  (keep:∀b o,b≠X.env.locals->b∉X.fs->b∉ch->s.heap.get? b=some o->H b=none->h'.get? b=some o)
  (slot:∀b o,b≠X.env.locals->b∈X.fs->b∉ch->s.heap.get? b=some o->H b=none->∃sl,h'.get? b=some { o with slots:=sl }) (free:∀b o,b∉ch->s.heap.get? b=some o->H b=none->H' b=none)
  (there:∀b o,b∉ch->s.heap.get? b=some o->∃o',h'.get? b=some o')
  (tups:∀b xs,H b=some (.tup xs)->H' b=some (.tup xs)) (frzs:∀b o u,H b=some (.frz o u)->H' b=some (.frz o u)) (tbls:∀b ps,H b=some (.tbl ps)->∃more,H' b=some (.tbl (ps++more)))
  (ns:∀m,s.heap.Ns X.env.locals m->h'.Ns X.env.locals m) (hok:HOk X.prog X.w H' h') (hg:ypg g') :
  Inv X pins σ H' { s with heap:=h',gens:=g',drawn:=d',toks:=t' }:=by
 have neL:∀b o,X.s₀.heap.get? b=some o->b≠X.env.locals:=λb o e=>yfb (yda (yja e) I.ok.above);have neC:∀b o,X.s₀.heap.get? b=some o->b∉X.ex->b∉ch:=λb o e hx hb=>by
  rcases (hch b hb).1 with z|z
  ·exact hx z
  ·exact absurd (yda (yja e) z) (yrc _)
 have cellK:∀x c,X.env.cells.lookup x=some c->∀v,s.heap.IsCell c v->h'.IsCell c v:=λx c e v ⟨o,ho,hd⟩=>by
  have nch:c∉ch:=λz=>(hch c z).2.2.1 x c e rfl
  by_cases hc:c∈X.fs
  ·obtain⟨sl,q⟩:=slot c o (I.cne x c e) hc nch ho (I.freeC x c e);exact⟨_,q,hd⟩
  ·exact⟨o,keep c o (I.cne x c e) hc nch ho (I.freeC x c e),hd⟩
 refine⟨I.ok,I.os,hg,⟨λb o e n hb hx=>?_,λb o e n hb hx=>?_,λb o e n hx=>?_,λb o e hx=>?_,λb xs e=>tups b xs (I.base.tups b xs e),λb o xs e=>frzs b o xs (I.base.frzs b o xs e),λb ps e=>?_⟩,?_,λx c e=>?_,?_,λx c e=>?_,λp hp=>?_,hok,I.len⟩
 ·exact keep b o (neL b o e) hb (neC b o e hx) (I.base.keep b o e n hb hx) (I.base.free b o e n hx)
 ·obtain⟨sl,e1⟩:=I.base.slot b o e n hb hx;obtain⟨sl',e2⟩:=slot b _ (neL b o e) hb (neC b o e hx) e1 (I.base.free b o e n hx);exact⟨sl',e2⟩
 ·obtain⟨o',e1⟩:=I.base.there b o e hx;exact free b o' (neC b o e hx) e1 (I.base.free b o e n hx)
 ·obtain⟨o',e1⟩:=I.base.there b o e hx;exact there b o' (neC b o e hx) e1
 ·obtain⟨m1,e1⟩:=I.base.tbls b ps e;obtain⟨m2,e2⟩:=tbls b _ e1;exact⟨m1++m2,by rw[e2,Array.append_assoc]⟩
 ·obtain⟨m,hn,hl⟩:=I.loc;refine⟨m,ns m hn,λi x v e1 e2 e3=>?_⟩;obtain⟨u,r,l⟩:=hl i x v e1 e2 e3;refine⟨u,r,?_⟩
  rcases l with l|⟨k,c,e,z⟩
  ·exact .inl l
  ·exact .inr ⟨k,c,e,cellK x c e _ z⟩
 ·obtain⟨v,z⟩:=I.cell x c e;exact⟨v,cellK x c e v z⟩
 ·obtain⟨m,⟨o,_,_,ho,_⟩,_⟩:=I.loc;exact free _ o (λz=>(hch _ z).2.1 rfl) ho I.free
 ·obtain⟨v,o,ho,hd⟩:=I.cell x c e;exact free c o (λz=>(hch c z).2.2.1 x c e rfl) ho (I.freeC x c e)
 ·obtain⟨e,n,ne,nf,d⟩:=I.pin p hp;have nch:p.1∉ch:=λz=>(hch p.1 z).2.2.2 p hp rfl;exact⟨keep p.1 p.2 ne nf nch e n,free p.1 p.2 nch e n,ne,nf,d⟩
theorem Inv.un {t':Nat}(I:Inv X pins σ H s)(u:Un X.fs [] H H' s.heap h')(hok:HOk X.prog X.w H' h'):Inv X pins σ H' { s with heap:=h',toks:=t' }:=by
 obtain⟨m,⟨o,es,ep,ho,r⟩,_⟩:=id I.loc;obtain⟨sl,hL⟩:=u.any ho I.free (by simp);exact I.step (g':=s.gens) (d':=s.drawn) (ch:=[]) (λ_ z=>nomatch z) (λb o _ hb _ e n=>u.keep b o e n hb (by simp)) (λb o _ hb _ e n=>u.slot b o e n hb (by simp)) (λb o _ e n=>u.free b o e n (by simp)) (λb o _ e=>u.there b o e (by simp)) u.tups u.frzs u.tbls (λm' hm=>by
  obtain⟨o',es',ep',ho',r'⟩:=hm;rw[ho] at ho';cases ho';exact⟨_,es',ep',hL,r'⟩) hok I.bare
theorem Inv.call {g':Array GenState}{t':Nat}{d':Drawn}{ch:List Addr}(I:Inv X pins σ H s)(u:Un (frs X.stack) ch H H' s.heap h')(hok:HOk X.prog X.w H' h')(hg:ypg g')
  (hch:∀b∈ch,(b∈X.ex∨X.s₀.heap.objs.size≤b)∧b≠X.env.locals∧(∀x c,X.env.cells.lookup x=some c->c≠b)∧∀p∈X.pn++pins,p.1≠b) :
  Inv X pins σ H' { s with heap:=h',gens:=g',drawn:=d',toks:=t' }:=by
 obtain⟨m,⟨o,es,ep,ho,r⟩,_⟩:=id I.loc;obtain⟨sl,hL⟩:=u.any ho I.free λz=>(hch _ z).2.1 rfl;exact I.step (ch:=ch) hch (λb o hL hb hc e n=>u.keep b o e n (λz=>(yga.mp (I.zil b z)).elim hL hb) hc) (λb o _ _ hc e n=>u.any e n hc) (λb o hc e n=>u.free b o e n hc) (λb o hc e=>u.there b o e hc) u.tups u.frzs u.tbls (λm' hm=>by
  obtain⟨o',es',ep',ho',r'⟩:=hm;rw[ho] at ho';cases ho';exact⟨_,es',ep',hL,r'⟩) hok hg
theorem Inv.turned {t':Nat}{it:Addr}(I:Inv X pins σ H s)(k:∀b o,b≠it->s.heap.get? b=some o->h'.get? b=some o)(hn:H it=none)(hL:it≠X.env.locals)
  (h1:it∈X.ex∨X.s₀.heap.objs.size≤it) (h2:∀x c,X.env.cells.lookup x=some c->c≠it) (h3:∀p∈X.pn++pins,p.1≠it):Inv X pins σ H { s with heap:=h',toks:=t' }:=by
 have nit:∀b u,H b=some u->b≠it:=λb u e z=>by rw[z,hn] at e;cases e
 refine I.step (g':=s.gens) (d':=s.drawn) (ch:=[it]) (λb hb=>?_) (λb o _ _ hc e _=>k b o (λz=>hc (by simp[z])) e) (λb o _ _ hc e _=>⟨o.slots,k b o (λz=>hc (by simp[z])) e⟩) (λ_ _ _ _ n=>n)
  (λb o hc e=>⟨o,k b o (λz=>hc (by simp[z])) e⟩) (λ_ _ e=>e) (λ_ _ _ e=>e) (λb ps e=>⟨#[],by rw[e];simp⟩) (λm hm=>?_) (λb u e=>?_) I.bare
 ·have e:b=it:=by simpa using hb
  subst e;exact⟨h1,hL,h2,h3⟩
 ·obtain⟨o,es,ep,ho,r⟩:=hm;exact⟨o,es,ep,k _ o (ywc hL) ho,r⟩
 ·refine (I.hok b u e).stay (λc v hc q=>k c v ?_ q) (λ_ q=>q) λ_ _ q=>q
  rcases hc with z|z
  ·rw[z];exact nit b u e
  ·exact nit c _ z
theorem Inv.tok (I:Inv X pins σ H s)(t:Nat):Inv X pins σ H { s with toks:=t }:=I.un (h':=s.heap) (t':=t) Un.refl I.hok
theorem Inv.kept {t':Nat}(I:Inv X pins σ H s)(k:∀b u,s.heap.get? b=some u->h'.get? b=some u):Inv X pins σ H { s with heap:=h',toks:=t' }:=I.un (Un.kept k) (I.hok.kept k)
theorem Inv.laid {a:Addr}{o:HO}{t':Nat}(I:Inv X pins σ H s)(k:∀b u,s.heap.get? b=some u->h'.get? b=some u)(hp:s.heap.objs.size≤a)(new:zwe X.prog X.w (upd H a o) h' a o) :
  Inv X pins σ (upd H a o) { s with heap:=h',toks:=t' }:=I.un (Un.laid k hp (I.hok.fresh hp)) (I.hok.laid k hp new)
theorem Inv.write {x e:Addr}{o:HO}{t':Nat}(I:Inv X pins σ H s)(mu:Mut (H x))(he:e=x∨H e=some (.own x))(k:∀b u,b≠e->s.heap.get? b=some u->h'.get? b=some u)(heo:∃u,h'.get? e=some u)
  (new:zwe X.prog X.w (upd H x o) h' x o):Inv X pins σ (upd H x o) { s with heap:=h',toks:=t' }:=I.un (Un.write mu he k heo) (I.hok.write mu he k heo new)
theorem Inv.weak {σ':List (Option V)}(I:Inv X pins σ H s)(hl:σ'.length=σ.length)(w:∀(i:Nat) v,σ'[i]?=some (some v)->σ[i]?=some (some v)):Inv X pins σ' H s :=
 ⟨I.ok,I.os,I.bare,I.base,let ⟨m,hn,hl'⟩:=I.loc;⟨m,hn,λi x v e1 e2 e3=>hl' i x v e1 (w i v e2) e3⟩,I.cell,I.free,I.freeC,I.pin,I.hok,hl.trans I.len⟩
theorem Inv.zwj {pins':List (Addr×Obj)}(I:Inv X pins σ H s)(h:∀p∈pins',s.heap.get? p.1=some p.2∧H p.1=none∧p.1≠X.env.locals∧p.1∉X.fs∧∀v,p.2.data ≠ .cell v):Inv X pins' σ H s :=
 ⟨I.ok,I.os,I.bare,I.base,I.loc,I.cell,I.free,I.freeC,λp hp=>(yia.mp hp).elim (λz=>I.pin p (yzb _ z)) (h p),I.hok,I.len⟩
theorem zum {N:List Str}(hN:N.Nodup){i j:Nat}{x:Str}(a:N[i]?=some x)(b:N[j]?=some x):i=j:=by
 obtain⟨h1,e1⟩:=ydb.mp a;obtain⟨h2,e2⟩:=ydb.mp b;exact (List.getElem_inj hN).mp (e1.trans e2.symm)
theorem zpn {M:Model}{A:Around}{E:Value->Shared->Prop}{i:Nat}{x:Str}{v:V}{u:Value}{Q:Unit->Shared->Prop}(I:Inv X pins σ H s)(hN:X.N.Nodup)(hi:X.N[i]?=some x)(hx:Loc X.env.scope x)(r:RelV v u)
  (h:∀s',Inv X pins (σ.set i (some v)) H s'->(∃a,ywf a s.heap s'.heap∧(a=X.env.locals∨X.env.cells.lookup x=some a))->Q () s') (hf:X.fn x=true∨X.env.scope.names.lookup x=some .local:=by first|exact .inl rfl|exact .inr rfl|assumption):wpAny M A (storeName X.env x u) Q E s:=by
 obtain⟨m,hn,hl⟩:=id I.loc;have hcls:(X.env.scope.kind == .class||(X.env.scope.kind == .module&&X.env.locals != X.env.globals))=false:=by rw[I.ok.kind];rfl
 have hiσ:i<σ.length:=by rw[I.len];exact (ydb.mp hi).1
 have cne:=I.cne;have tracked:∀{a:Addr} {h':Heap},(∃o,s.heap.get? a=some o∧H a=none)->ywf a s.heap h'->HOk X.prog X.w H h':=λ{a h'} ha hs b ob e=>by
  obtain⟨_,_,hfree⟩:=ha;refine (I.hok b ob e).stay (λc w' hc q=>(hs.2 c ?_).trans q) (λ_ q=>q) λ_ _ q=>q;rintro rfl
  rcases hc with rfl|hc
  ·rw[hfree] at e;cases e
  ·rw[hfree] at hc;cases hc
 rcases hx with hk|hk
 ·refine wpAny_storeName_local hk hn (λh' hn' hs=>?_) hcls;obtain⟨oL,_,_,hoL,_⟩:=id hn;refine h _ ⟨I.ok,I.os,I.bare,⟨λb o e n hb hx=>?_,λb o e n hb hx=>?_,I.base.free,λb o e hx=>?_,I.base.tups,I.base.frzs,I.base.tbls⟩,⟨_,hn',λj y v' e1 e2 e3=>?_⟩,λy c e=>?_,I.free,I.freeC,λp hp=>?_,tracked ⟨oL,hoL,I.free⟩ hs,by simpa using I.len⟩ ⟨_,hs,.inl rfl⟩
  ·exact (hs.2 b (yfb (yda (yja e) I.ok.above))).trans (I.base.keep b o e n hb hx)
  ·obtain⟨sl,e1⟩:=I.base.slot b o e n hb hx;exact⟨sl,(hs.2 b (yfb (yda (yja e) I.ok.above))).trans e1⟩
  ·obtain⟨o',e1⟩:=I.base.there b o e hx;exact⟨o',(hs.2 b (yfb (yda (yja e) I.ok.above))).trans e1⟩
  ·by_cases hj:j=i
   ·subst hj;rw[hi] at e1;cases e1;rw[yqd hiσ] at e2;cases e2;exact⟨u,r,.inl ⟨hk,by simp⟩⟩
   ·rw[yee (ywc hj)] at e2;obtain⟨u',r',q⟩:=hl j y v' e1 e2 e3;refine⟨u',r',?_⟩
    rcases q with⟨k,e⟩|⟨k,c,e,z⟩
    ·refine .inl ⟨k,?_⟩;have:y≠x:=λe=>hj (zum hN e1 (e▸hi));simp[this,e]
    ·exact .inr ⟨k,c,e,z.sameBut hs (cne y c e)⟩
  ·obtain⟨w',z⟩:=I.cell y c e;exact⟨w',z.sameBut hs (cne y c e)⟩
  ·obtain⟨e,n,ne,nf,d⟩:=I.pin p hp;exact⟨(hs.2 p.1 ne).trans e,n,ne,nf,d⟩
 ·have hfn:X.fn x=true:=by
   rcases hf with z|z
   ·exact z
   ·rw[z] at hk;cases hk
  obtain⟨c,hc⟩:=I.ok.has x (.inl hk);obtain⟨w',z⟩:=I.cell x c hc;refine wpAny_storeName_cell I.ok.kind hk hc z (λh' hc' hs=>?_);obtain⟨oc,hoc,hocd⟩:=id z;refine h { s with heap:=h' } ⟨I.ok,I.os,I.bare,⟨λb o e n hb hx=>?_,λb o e n hb hx=>?_,I.base.free,λb o e hx=>?_,I.base.tups,I.base.frzs,I.base.tbls⟩,⟨m,hn.sameBut hs (ywc (cne x c hc)),λj y v' e1 e2 e3=>?_⟩,λy c' e=>?_,I.free,I.freeC,λp hp=>?_,tracked ⟨oc,hoc,I.freeC x c hc⟩ hs,by simpa using I.len⟩ ⟨c,hs,.inr hc⟩
  ·exact (hs.2 b (yfb (yda (yja e) (I.ok.cab x c hfn hc)))).trans (I.base.keep b o e n hb hx)
  ·obtain⟨sl,e1⟩:=I.base.slot b o e n hb hx;exact⟨sl,(hs.2 b (yfb (yda (yja e) (I.ok.cab x c hfn hc)))).trans e1⟩
  ·obtain⟨o',e1⟩:=I.base.there b o e hx;exact⟨o',(hs.2 b (yfb (yda (yja e) (I.ok.cab x c hfn hc)))).trans e1⟩
  ·by_cases hj:j=i
   ·subst hj;rw[hi] at e1;cases e1;rw[yqd hiσ] at e2;cases e2;exact⟨u,r,.inr ⟨.inl hk,c,hc,hc'⟩⟩
   ·rw[yee (ywc hj)] at e2;obtain⟨u',r',q⟩:=hl j y v' e1 e2 e3;refine⟨u',r',?_⟩
    rcases q with q|⟨k,c',e,z'⟩
    ·exact .inl q
    ·refine .inr ⟨k,c',e,z'.sameBut hs ?_⟩;rintro rfl;exact hj (zum hN e1 (I.ok.inj _ _ _ e hc▸hi))
  ·by_cases hcc:c'=c
   ·subst hcc;exact⟨_,hc'⟩
   ·obtain⟨w2,z2⟩:=I.cell y c' e;exact⟨w2,z2.sameBut hs hcc⟩
  ·obtain⟨e,n,ne,nf,d⟩:=I.pin p hp;refine⟨(hs.2 p.1 ?_).trans e,n,ne,nf,d⟩;intro q;rw[q,hoc] at e;have q':oc=p.2:=yva e;exact d w' (by rw[← q'];exact hocd)
theorem zxg {M:Model}{A:Around}{E:Value->Shared->Prop}{i:Nat}{x:Str}{v:V}{u:Value}{Q:Unit->Shared->Prop}(I:Inv X pins σ H s)(hN:X.N.Nodup)(hi:X.N[i]?=some x)(hx:Loc X.env.scope x)(r:RelV v u)
  (h:∀s',Inv X pins (σ.set i (some v)) H s'->Q () s') (hf:X.fn x=true∨X.env.scope.names.lookup x=some .local:=by first|exact .inl rfl|exact .inr rfl|assumption):wpAny M A (storeName X.env x u) Q E s :=
 zpn I hN hi hx r (λs' I' _=>h s' I') hf
theorem Inv.call' {s':Shared}{ch:List Addr}(I:Inv X pins σ H s)(ho:s'.os=s.os)(u:Un (frs X.stack) ch H H' s.heap s'.heap)(hok:HOk X.prog X.w H' s'.heap)(hg:ypg s'.gens)
  (hch:∀b∈ch,(b∈X.ex∨X.s₀.heap.objs.size≤b)∧b≠X.env.locals∧(∀x c,X.env.cells.lookup x=some c->c≠b)∧∀p∈X.pn++pins,p.1≠b):Inv X pins σ H' s':=by
 obtain⟨h',g',d',t',o'⟩:=s';have e:o'=s.os:=ho;subst e;exact I.call (g':=g') (t':=t') (d':=d') u hok hg hch
end
abbrev XK:=Value->Option Addr->Hp->Prop
abbrev St:=List (Option V)
abbrev VK:=V->Hp->Prop
abbrev TE:=St->Hp->VK->Prop
abbrev TT:=St->Hp->(Bool->Hp->Prop)->Prop
abbrev TA:=St->Hp->(List V->Hp->Prop)->Prop
structure Ends where
 nx:St->Hp->Prop
 rt:VK
 bk:St->Hp->Prop:=λ_ _=>False
 ct:St->Hp->Prop:=λ_ _=>False
abbrev TS:=Ends->St->Hp->Prop
def EP (X:Cx)(pins:List (Addr×Obj))(σ:St)(Q:VK)(u:Value)(s':Shared):Prop:=Ex2 λv H'=>Inv X pins σ H' s'∧RelV v u∧Q v H'
def TP (X:Cx)(pins:List (Addr×Obj))(σ:St)(Q:Bool->Hp->Prop)(b:Bool)(s':Shared):Prop:=∃H',Inv X pins σ H' s'∧Q b H'
def AP (X:Cx)(pins:List (Addr×Obj))(σ:St)(Q:List V->Hp->Prop)(us:List Value)(s':Shared):Prop:=Ex2 λvs H'=>Inv X pins σ H' s'∧Vals vs us∧Q vs H'
def SP (X:Cx)(pins:List (Addr×Obj))(D:Ends)(f:Flow)(s':Shared):Prop :=
 match f with
 | .next=>∃ σ' H',Inv X pins σ' H' s'∧D.nx σ' H'
 | .brk=>∃ σ' H',Inv X pins σ' H' s'∧D.bk σ' H'
 | .cont=>∃ σ' H',Inv X pins σ' H' s'∧D.ct σ' H'
 | .ret u=>∃v σ' H',Inv X pins σ' H' s'∧RelV v u∧D.rt v H'
def PE (X:Cx)(e:Expr)(t:TE):Prop :=
 ∀(pins:List (Addr×Obj)) (s:Shared) (σ:St) (H:Hp) (Q:VK),Inv X pins σ H s->t σ H Q->wpAny (model X.prog X.w) X.A (eval e X.env) (EP X pins σ Q) X.xe s
def PT (X:Cx)(e:Expr)(t:TT):Prop :=
 ∀(pins:List (Addr×Obj)) (s:Shared) (σ:St) (H:Hp) (Q:Bool->Hp->Prop),Inv X pins σ H s->t σ H Q->wpAny (model X.prog X.w) X.A (isTrue e X.env (eval e X.env)) (TP X pins σ Q) X.xe s
def PW (X:Cx)(e:Expr)(t:TT):Prop :=
 ∀(whole:Sem Value) (pins:List (Addr×Obj)) (s:Shared) (σ:St) (H:Hp) (Q:Bool->Hp->Prop),Inv X pins σ H s->t σ H Q->wpAny (model X.prog X.w) X.A (isTrue e X.env whole) (TP X pins σ Q) X.xe s
theorem PW.pt {X:Cx}{e:Expr}{t:TT}(h:PW X e t):PT X e t:=h _
def PA (X:Cx)(es:List Expr)(t:TA):Prop :=
 ∀(pos:Pos) (pins:List (Addr×Obj)) (s:Shared) (σ:St) (H:Hp) (Q:List V->Hp->Prop),Inv X pins σ H s->t σ H Q->wpAny (model X.prog X.w) X.A (spliced (backTo pos (yac es X.env))) (AP X pins σ Q) X.xe s
def PS (X:Cx)(st:Stmt)(t:TS):Prop :=
 ∀(pins:List (Addr×Obj)) (s:Shared) (σ:St) (H:Hp) (D:Ends),Inv X pins σ H s->t D σ H->wpAny (model X.prog X.w) X.A (exec st X.env) (SP X pins D) X.xe s
def PSs (X:Cx)(st:List Stmt)(t:TS):Prop :=
 ∀(pins:List (Addr×Obj)) (s:Shared) (σ:St) (H:Hp) (D:Ends),Inv X pins σ H s->t D σ H->wpAny (model X.prog X.w) X.A (execs st X.env) (SP X pins D) X.xe s
theorem thn {α:Type}{t:Sem α}{Q Q':α->Shared->Prop}{M:Model}{A:Around}{E:Value->Shared->Prop}{s:Shared}(h:wpAny M A t Q E s)(hQ:∀a s,Q a s->Q' a s):wpAny M A t Q' E s:=yhc h hQ λ_ _ x=>x
end L2
namespace L2
open PySem PySem.Spec PyProof.Rows
section
variable {X:Cx}
def tVar (i:Nat):TE:=fun σ H Q=>∃v,σ[i]?=some (some v)∧Q v H
def tC (v:V):TE:=λ_ H Q=>Q v H
theorem zcbb {i:Nat}{x:Str}{pos:Pos}(hN:X.N[i]?=some x)(hv:Vis X.env.scope x)(hd:(x==("__debug__":Str))=false:=by decide)(hcd:(x==("__classdict__":Str))=false:=by decide):PE X (.Name x pos) (tVar i):=by
 intro pins s σ H Q I h;obtain⟨v,e,h⟩:=h;obtain⟨m,hn,hl⟩:=I.loc;obtain⟨u,r,l⟩:=hl i x v hN e hv;have fin:EP X pins σ Q u s:=⟨v,H,I,r,h⟩
 rcases l with⟨hk,hm⟩|⟨hk,c,hc,hcell⟩
 ·exact wpAny_Name (wpAny_loadName_local I.ok.kind hk hn hm fin) hd
 ·rcases hk with hk|hk
  ·exact wpAny_Name (wpAny_loadName_cell I.ok.kind hk hc hcell fin) hd
  ·exact wpAny_Name (wpAny_loadName_free I.ok.kind hk hc hcell fin hcd) hd
theorem zga {i j pos}:PE X (.Constant (.int i) j pos) (tC (.int i)):=λ_ _ _ H _ I h=>wpAny_Constant_int ⟨.int i,H,I.tok _,⟨_,rfl⟩,h⟩
theorem zwf {b j pos}:PE X (.Constant (.bool b) j pos) (tC (.bl b)):=λ_ _ _ H _ I h=>Constant_bool ⟨.bl b,H,I,rfl,h⟩
theorem zyt {j pos}:PE X (.Constant .none j pos) (tC .non):=λ_ _ _ H _ I h=>Constant_none ⟨.non,H,I,rfl,h⟩
theorem zfa {x j pos}:PE X (.Constant (.str x) j pos) (tC (.str x)):=λ_ _ _ H _ I h=>Calls.Constant_str ⟨.str x,H,I.tok _,⟨_,rfl⟩,h⟩
def Gl (X:Cx)(x:Str):Prop:=X.env.kindOf x=some .globalImplicit
theorem zik {E:Value->Shared->Prop}{pins:List (Addr×Obj)}{s:Shared}{σ:St}{H:Hp}{x:Str}{u:Value}{pos:Pos}{Q:Value->Shared->Prop}(I:Inv X pins σ H s)(hg:Gl X x)(hm:X.mg x=some u)(h:Q u s)
  (hd:(x==("__debug__":Str))=false:=by decide):wpAny (model X.prog X.w) X.A (eval (.Name x pos) X.env) Q E s :=
 yuf I.ok.kind hg (Calls.loadGlobal_global (by rw[I.ok.glob];exact I.mod.glob.keeps I.bk) hm h) hd
theorem zpo {E:Value->Shared->Prop}{pins:List (Addr×Obj)}{s:Shared}{σ:St}{H:Hp}{x:Str}{u:Value}{pos:Pos}{Q:Value->Shared->Prop}(I:Inv X pins σ H s)(hg:Gl X x)(hm:X.mg x=none)(hv:ytd x=some u)(h:Q u s)
  (hn:x ≠ "__name__":=by decide) (hd:(x==("__debug__":Str))=false:=by decide):wpAny (model X.prog X.w) X.A (eval (.Name x pos) X.env) Q E s:=by
 obtain⟨mb,h1,h2⟩:=I.mod.blt;exact yuf I.ok.kind hg (Calls.loadGlobal_builtin (by rw[I.ok.glob];exact I.mod.glob.keeps I.bk) hm (by rw[I.ok.blt];exact h1.keeps I.bk) ((h2 x hn).trans hv) h) hd
theorem zce {x:Str}{v:V}{u:Value}{pos:Pos}(hg:Gl X x)(hm:X.mg x=some u)(r:RelV v u)(hd:(x==("__debug__":Str))=false:=by decide):PE X (.Name x pos) (tC v) :=
 λ_ _ _ H _ I h=>zik I hg hm ⟨v,H,I,r,h⟩ hd
theorem zau {x:Str}{v:V}{u:Value}{pos:Pos}(hg:Gl X x)(hm:X.mg x=none)(hv:ytd x=some u)(r:RelV v u)(hn:x ≠ "__name__":=by decide)(hd:(x==("__debug__":Str))=false:=by decide):PE X (.Name x pos) (tC v) :=
 λ_ _ _ H _ I h=>zpo I hg hm hv ⟨v,H,I,r,h⟩ hn hd
variable {a b:Expr}{ta tb:TE}{pos:Pos}
def tB (t:TE):TT:=fun σ H Q=>t σ H λx H1=>∃c,x = .bl c∧Q c H1
theorem zpl {e:Expr}{t:TE}(h:PE X e t)(he:∀whole,isTrue e X.env whole=(do let v ← whole;standAt e.pos;holding [v] (truthy v)):=by intro _;rfl):PT X e (tB t):=by
 intro pins s σ H Q I hw;refine isTrue_plain (thn (h pins s σ H _ I hw) λv s1 ⟨x,H1,I1,r1,q1⟩=>?_) (he _);obtain⟨d,rfl,q⟩:=q1;cases r1;exact yoc ⟨H1,I1,q⟩
variable {tA tB':TT}{rest:List Expr}
def tAnd (t u:TT):TT:=fun σ H Q=>t σ H λc H1=>if c=true then u σ H1 Q else Q false H1
def tOr (t u:TT):TT:=fun σ H Q=>t σ H λc H1=>if c=true then Q true H1 else u σ H1 Q
def tNot (t:TT):TT:=fun σ H Q=>t σ H λc H1=>Q (!c) H1
theorem zmm (ha:PT X a tA):PW X (.BoolOp .And [a] pos) tA:=by
 intro wh pins s σ H Q I h;refine isTrue_and (thn (ha pins s σ H Q I h) λc s1 e=>?_);cases c with
 | true=>exact isTrue_and_nil e
 | false=>exact e
theorem zst (ha:PT X a tA):PW X (.BoolOp .Or [a] pos) tA:=by
 intro wh pins s σ H Q I h;refine isTrue_or (thn (ha pins s σ H Q I h) λc s1 e=>?_);cases c with
 | false=>exact isTrue_or_nil e
 | true=>exact e
theorem zor (ha:PT X a tA)(hb:PW X (.BoolOp .And (b::rest) pos) tB'):PW X (.BoolOp .And (a::b::rest) pos) (tAnd tA tB'):=by
 intro wh pins s σ H Q I h;refine isTrue_and (thn (ha pins s σ H _ I h) λc s1 ⟨H1,I1,q1⟩=>?_);cases c with
 | true=>exact hb wh pins s1 σ H1 Q I1 q1
 | false=>exact⟨H1,I1,q1⟩
theorem zuy (ha:PT X a tA)(hb:PW X (.BoolOp .Or (b::rest) pos) tB'):PW X (.BoolOp .Or (a::b::rest) pos) (tOr tA tB'):=by
 intro wh pins s σ H Q I h;refine isTrue_or (thn (ha pins s σ H _ I h) λc s1 ⟨H1,I1,q1⟩=>?_);cases c with
 | true=>exact⟨H1,I1,q1⟩
 | false=>exact hb wh pins s1 σ H1 Q I1 q1
theorem zvj (ha:PT X a tA):PT X (.UnaryOp .Not a pos) (tNot tA):=by
 intro pins s σ H Q I h;exact isTrue_not (ha pins s σ H (λc H1=>Q (!c) H1) I h)
def zzcb (ta tb:TE):TE:=fun σ H Q=>ta σ H λx H1=>∃c,x = .bl c∧if c=true then tb σ H1 Q else Q (.bl false) H1
def tOrV (ta tb:TE):TE:=fun σ H Q=>ta σ H λx H1=>∃c,x = .bl c∧if c=true then Q (.bl true) H1 else tb σ H1 Q
theorem zzn {op}{t:TE}(h:PE X a t):PE X (.BoolOp op [a] pos) t:=λpins s σ H Q I hw=>BoolOp_one (h pins s σ H Q I hw)
theorem ztr (ha:PE X a ta)(hb:PE X (.BoolOp .And (b::rest) pos) tb):PE X (.BoolOp .And (a::b::rest) pos) (zzcb ta tb):=by
 intro pins s σ H Q I h;refine BoolOp_and (thn (ha pins s σ H _ I h) λv s1 ⟨x,H1,I1,r1,q1⟩=>?_);obtain⟨c,rfl,q1⟩:=q1;cases r1;refine yoc ?_;cases c with
 | true=>exact hb pins s1 σ H1 Q I1 q1
 | false=>exact⟨.bl false,H1,I1,rfl,q1⟩
theorem zdbb (ha:PE X a ta)(hb:PE X (.BoolOp .Or (b::rest) pos) tb):PE X (.BoolOp .Or (a::b::rest) pos) (tOrV ta tb):=by
 intro pins s σ H Q I h;refine BoolOp_or (thn (ha pins s σ H _ I h) λv s1 ⟨x,H1,I1,r1,q1⟩=>?_);obtain⟨c,rfl,q1⟩:=q1;cases r1;refine yoc ?_;cases c with
 | false=>exact hb pins s1 σ H1 Q I1 q1
 | true=>exact⟨.bl true,H1,I1,rfl,q1⟩
end
end L2
namespace L2
open PySem PySem.Spec PyProof.Rows
def SqL (K:yaa)(H:Hp)(a:Addr)(xs:List V):Prop :=
 Rd H a (.lst xs) ∨
  Ex3 λ(o:Obj) (its:Array Value) (n:Nat)=>K.lookup a=some o∧o.cls = .type "list" ∧ o.dict=none∧o.data = .seq its n∧its.size≤yfa∧Vals xs its.toList
def SqT (K:yaa)(H:Hp)(a:Addr)(xs:List V):Prop :=
 Rd H a (.tup xs) ∨
  Ex3 λ(o:Obj) (its:Array Value) (n:Nat)=>K.lookup a=some o∧o.cls = .type "tuple" ∧ o.data = .seq its n∧its.size≤yfa∧Vals xs its.toList
def absV:Value->Option V
 | .none=>some .non
 | .bool b=>some (.bl b)
 | .int i _=>some (.int i)
 | .str x _=>some (.str x)
 | .bytes b _=>some (.byt b)
 | .float b _=>some (.flt b)
 | .ref a=>some (.ref a)
 | .type n=>some (.ty n)
 | _=>none
theorem RelV.abs {x:V}{u:Value}(r:RelV x u):absV u=some x:=by
 cases x with
 | non=>cases r;rfl
 | bl _=>cases r;rfl
 | int _=>obtain⟨t,rfl⟩:=r;rfl
 | str _=>obtain⟨t,rfl⟩:=r;rfl
 | byt _=>obtain⟨t,rfl⟩:=r;rfl
 | flt _=>obtain⟨t,rfl⟩:=r;rfl
 | ref _=>cases r;rfl
 | ty _=>cases r;rfl
theorem RelV.inj {x y:V}{u:Value}(r:RelV x u)(q:RelV y u):x=y:=yva (r.abs.symm.trans q.abs)
theorem Vals.inj:∀{xs ys:List V} {us:List Value},Vals xs us->Vals ys us->xs=ys
 | _,_,_,.nil,.nil=>rfl
 | _,_,_,.cons r t,.cons r' t'=>by rw[r.inj r',Vals.inj t t']
section
variable {X:Cx}{pins:List (Addr×Obj)}{σ:St}{H:Hp}{s:Shared}{a:Addr}{xs ys:List V}
theorem SqL.of {K:yaa}(h:H a=some (.lst xs)):SqL K H a xs:=.inl (.inl h)
theorem SqT.of {K:yaa}(h:H a=some (.tup xs)):SqT K H a xs:=.inl (.inl h)
theorem Inv.list (I:Inv X pins σ H s)(h:SqL X.K H a xs):∃its:List Value,Vals xs its∧PlainL s.heap a its.toArray∧xs.length≤yfa:=by
 rcases h with h|⟨o,its,n,hk,hc,hd,hs,hz,r⟩
 ·obtain⟨z,its,n,r,e⟩:=h.ok I.hok;exact⟨its,r,⟨_,n,e,rfl,rfl,rfl⟩,z⟩
 ·refine⟨its.toList,r,⟨o,n,I.kIn a o hk,hc,hd,by simpa using hs⟩,?_⟩;have e:=r.length;simp only[yad] at e;omega
theorem Inv.tuple (I:Inv X pins σ H s)(h:SqT X.K H a xs):∃its:List Value,Vals xs its∧IsTup s.heap a its.toArray∧xs.length≤yfa:=by
 rcases h with h|⟨o,its,n,hk,hc,hs,hz,r⟩
 ·obtain⟨z,its,r,p⟩:=h.ok I.hok;exact⟨its,r,p,z⟩
 ·refine⟨its.toList,r,⟨o,I.kIn a o hk,hc,n,by simpa using hs⟩,?_⟩;have e:=r.length;simp only[yad] at e;omega
theorem Inv.zbt (I:Inv X pins σ H s)(h:SqT X.K H a xs)(h':SqT X.K H a ys):xs=ys:=by
 obtain⟨its,r,⟨o,e,_,n,d⟩,_⟩:=I.tuple h;obtain⟨its',r',⟨o',e',_,n',d'⟩,_⟩:=I.tuple h';rw[e] at e';cases e';rw[d] at d';injection d' with d1 _
 have:its=its':=by simpa using congrArg Array.toList d1
 subst this;exact r.inj r'
end
abbrev Cx.wish (X:Cx)(E:Value->Shared->Prop):Cx:={ X with xe:=E }
abbrev Cx.nox (X:Cx):Cx:=X.wish λ_ _=>False
theorem Cx.Ok.wish {X:Cx}(ok:X.Ok)(E:Value->Shared->Prop):(X.wish E).Ok :=
 ⟨ok.mod,ok.kind,ok.glob,ok.blt,ok.above,ok.inj,ok.has,ok.cab,ok.hd,ok.frames,ok.stk,ok.exf,ok.bs,ok.bsz,ok.noex,ok.exfs,ok.funs,ok.frf⟩
theorem Cx.Ok.zdi {X:Cx}{E:Value->Shared->Prop}(ok:(X.wish E).Ok):X.Ok :=
 ⟨ok.mod,ok.kind,ok.glob,ok.blt,ok.above,ok.inj,ok.has,ok.cab,ok.hd,ok.frames,ok.stk,ok.exf,ok.bs,ok.bsz,ok.noex,ok.exfs,ok.funs,ok.frf⟩
section
variable {X:Cx}{pins:List (Addr×Obj)}{σ:St}{H:Hp}{s:Shared}{E:Value->Shared->Prop}
theorem Inv.wish (I:Inv X pins σ H s)(E:Value->Shared->Prop):Inv (X.wish E) pins σ H s:=⟨I.ok.wish E,I.os,I.bare,I.base,I.loc,I.cell,I.free,I.freeC,I.pin,I.hok,I.len⟩
theorem Inv.zdi (I:Inv (X.wish E) pins σ H s):Inv X pins σ H s:=⟨I.ok.zdi,I.os,I.bare,I.base,I.loc,I.cell,I.free,I.freeC,I.pin,I.hok,I.len⟩
theorem SP.zdi {D:Ends}{f:Flow}{s':Shared}(h:SP (X.wish E) pins D f s'):SP X pins D f s':=by
 cases f with
 | next=>obtain⟨σ',H',I,q⟩:=h;exact⟨σ',H',I.zdi,q⟩
 | brk=>obtain⟨σ',H',I,q⟩:=h;exact⟨σ',H',I.zdi,q⟩
 | cont=>obtain⟨σ',H',I,q⟩:=h;exact⟨σ',H',I.zdi,q⟩
 | ret u=>obtain⟨v,σ',H',I,r,q⟩:=h;exact⟨v,σ',H',I.zdi,r,q⟩
theorem PSs.nox {st:List Stmt}{t:TS}(h:PSs X.nox st t):PSs X st t:=λpins s σ H D I hw =>
 yhc (h pins s σ H D (I.wish _) hw) (λ_ _ q=>q.zdi) λ_ _ z=>ytc z
end
section
variable {X:Cx}{st:Stmt}{rest:List Stmt}{t u:TS}{e:Expr}{te:TE}{pos:Pos}
def zby:TS:=λD σ H=>D.nx σ H
def tSeq (t u:TS):TS:=λD σ H=>t { D with nx:=u D } σ H
theorem zva:PSs X [] zby:=λ_ _ σ H _ I h=>yoe ⟨σ,H,I,h⟩
theorem zba (h1:PS X st t)(h2:PSs X rest u):PSs X (st::rest) (tSeq t u):=by
 intro pins s σ H D I h;refine wpAny_execs_cons (thn (h1 pins s σ H { D with nx:=u D } I h) λf s1 q=>?_);cases f with
 | next =>
  obtain⟨σ',H',I',q⟩:=q;exact h2 pins s1 σ' H' D I' q
 | ret v=>exact q
 | brk=>exact q
 | cont=>exact q
theorem zia (h1:PS X st t):PSs X [st] t:=by
 intro pins s σ H D I h;refine wpAny_execs_cons (thn (h1 pins s σ H D I h) λf s1 q=>?_);cases f with
 | next=>exact yoe q
 | ret v=>exact q
 | brk=>exact q
 | cont=>exact q
theorem Inv.quiet {pins:List (Addr×Obj)}{σ:St}{H:Hp}{s:Shared}(I:Inv X pins σ H s):interactive X.env=false:=by simp[interactive,I.ok.kind]
def zwcb (te:TE):TS:=λD σ H=>te σ H λ_ H1=>D.nx σ H1
theorem zth (he:PE X e te)(hs:ypj e none pos.line X.env=pure false:=by rfl):PS X (.Expr e pos) (zwcb te):=by
 intro pins s σ H D I h;exact wpAny_Expr_any (thn (he pins s σ H _ I h) λv s1 ⟨x,H1,I1,r1,q1⟩=>⟨σ,H1,I1,q1⟩) I.quiet hs
def tRet (te:TE):TS:=λD σ H=>te σ H D.rt
theorem zya (he:PE X e te):PS X (.Return (some e) pos) (tRet te):=by
 intro pins s σ H D I h;exact wpAny_Return_some (thn (he pins s σ H _ I h) λv s1 ⟨x,H1,I1,r1,q1⟩=>⟨x,σ,H1,I1,r1,q1⟩)
def tIfS (c:TT)(t u:TS):TS:=λD σ H=>c σ H λb H1=>if b=true then t D σ H1 else u D σ H1
theorem zgc {c:Expr}{a b:List Stmt}{tc:TT}(hc:PT X c tc)(ha:PSs X a t)(hb:PSs X b u):PS X (.If c a b pos) (tIfS tc t u):=by
 intro pins s σ H D I h;refine wpAny_If (thn (hc pins s σ H _ I h) λd s1 ⟨H1,I1,q1⟩=>?_);cases d with
 | true=>exact ha pins s1 σ H1 D I1 q1
 | false=>exact hb pins s1 σ H1 D I1 q1
end
abbrev TG:=V->St->Hp->(St->Hp->Prop)->Prop
abbrev TGs:=List V->St->Hp->(St->Hp->Prop)->Prop
def PG (X:Cx)(target:Expr)(t:TG):Prop :=
 ∀(pins:List (Addr×Obj)) (s:Shared) (σ:St) (H:Hp) (v:V) (u:Value) (Q:St->Hp->Prop),Inv X pins σ H s->RelV v u->t v σ H Q →
  wpAny (model X.prog X.w) X.A (assign target X.env u) (λ_ s'=>∃ σ' H',Inv X pins σ' H' s'∧Q σ' H') X.xe s
def PGs (X:Cx)(ts:List Expr)(t:TGs):Prop :=
 ∀(pins:List (Addr×Obj)) (s:Shared) (σ:St) (H:Hp) (vs:List V) (us:List Value) (Q:St->Hp->Prop),Inv X pins σ H s->Vals vs us->t vs σ H Q →
  wpAny (model X.prog X.w) X.A (assignInOrder ((ygg ts X.env).map (·.2)) us) (λ_ s'=>∃ σ' H',Inv X pins σ' H' s'∧Q σ' H') X.xe s
abbrev TSet:=V->V->V->Hp->(Hp->Prop)->Prop
def PSet (X:Cx)(t:TSet):Prop :=
 ∀(pins:List (Addr×Obj)) (s:Shared) (σ:St) (H:Hp) (o i v:V) (ov iv u:Value) (Q:Hp->Prop),Inv X pins σ H s->RelV o ov->RelV i iv->RelV v u->t o i v H Q →
  wpAny (model X.prog X.w) X.A (setItem ov iv u) (λ_ s'=>∃H',Inv X pins σ H' s'∧Q H') X.xe s
abbrev TIp:=V->V->Hp->VK->Prop
def PIp (X:Cx)(op:yoj)(t:TIp):Prop :=
 ∀(pins:List (Addr×Obj)) (s:Shared) (σ:St) (H:Hp) (x y:V) (v u:Value) (Q:VK),Inv X pins σ H s->RelV x v->RelV y u->t x y H Q →
  wpAny (model X.prog X.w) X.A (inplaceOp op v u) (EP X pins σ Q) X.xe s
section
variable {X:Cx}{pos:Pos}
def zcn (i:Nat):TG:=λv σ H Q=>Q (σ.set i (some v)) H
theorem znc {i:Nat}{x:Str}(hN:X.N.Nodup)(hi:X.N[i]?=some x)(hx:Loc X.env.scope x)(hf:X.fn x=true∨X.env.scope.names.lookup x=some .local:=by first|exact .inl rfl|exact .inr rfl|assumption):PG X (.Name x pos) (zcn i):=by
 intro pins s σ H v u Q I r h;exact wpAny_assign_Name (zxg I hN hi hx r (λs' I'=>⟨_,H,I',h⟩) hf)
def gNil:TGs:=λvs σ H Q=>vs=[]∧Q σ H
def zldb (t:TG)(u:TGs):TGs:=λvs σ H Q=>Ex2 λv r=>vs=v::r∧t v σ H fun σ' H'=>u r σ' H' Q
theorem zom:PGs X [] gNil:=by
 intro pins s σ H vs us Q I r h;obtain⟨e,h⟩:=h;subst e;cases r;exact assignInOrder_nil ⟨σ,H,I,h⟩
theorem zle {e:Expr}{es:List Expr}{t:TG}{u:TGs}(h1:PG X e t)(h2:PGs X es u)
  (hs:(ygg (e::es) X.env).map (·.2)=assign e X.env::(ygg es X.env).map (·.2):=by rfl):PGs X (e::es) (zldb t u):=by
 intro pins s σ H vs us Q I r h;obtain⟨v,vr,e1,h⟩:=h;subst e1;cases r with
 | cons r rr =>
  rw[hs];refine assignInOrder_cons (thn (h1 pins s σ H _ _ _ I r h) λ_ s1 ⟨σ1,H1,I1,q1⟩=>?_);exact h2 pins s1 σ1 H1 _ _ Q I1 rr q1
def gTup (K:yaa)(n:Nat)(t:TGs):TG:=λv σ H Q=>Ex2 λa xs=>v = .ref a∧SqT K H a xs∧xs.length=n∧t xs σ H Q
theorem zsr {es:List Expr}{k:Nat}{t:TGs}{n:Nat}(hc:X.calm=true)(h:PGs X es t)
  (hn:(ygg es X.env).length=n:=by rfl) (hst:(ygg es X.env).findIdx? (·.1)=none:=by rfl):PG X (.Tuple es k pos) (gTup X.K n t):=by
 intro pins s σ H v u Q I r hw;obtain⟨a,xs,e1,hq,hl,hw⟩:=hw;subst e1;cases r;obtain⟨its,rv,ht,hz⟩:=I.tuple hq;refine assign_Tuple_tuple (I.ok.hd hc) ht (by simp[hn,← hl,rv.length]) hst λh' hx=>?_;have I1:Inv X pins σ H { s with heap:=h' }:=I.kept (t':=s.toks) λb o e=>hx b o (yfb (yja e)) e;exact h pins _ σ H xs _ Q I1 (by simpa using rv) hw
def gSub (to ti:TE)(t:TSet):TG:=λv σ H Q=>to σ H λo H1=>ti σ H1 λi H2=>t o i v H2 λH3=>Q σ H3
theorem zbbb {o i:Expr}{to ti:TE}{t:TSet}(ho:PE X o to)(hi:PE X i ti)(hs:PSet X t)
  (ha:∀v,assign (.Subscript o i pos) X.env v=(do
   let ov ← holding [v] (eval o X.env)
   let iv ← holding [v,ov] (eval i X.env)
   standAt pos
   holding [v,ov,iv] (setItem ov iv v)
   release [v,ov,iv] []):=by intro _;rfl):PG X (.Subscript o i pos) (gSub to ti t):=by
 intro pins s σ H v u Q I r h;rw[ha];refine yhb (yqg (thn (ho pins s σ H _ I h) λov s1 ⟨x,H1,I1,r1,q1⟩=>?_));refine yhb (yqg (thn (hi pins s1 σ H1 _ I1 q1) λiv s2 ⟨y,H2,I2,r2,q2⟩=>?_));refine yhb (yhi (yhb (yqg (thn (hs pins s2 σ H2 x y v ov iv u _ I2 r1 r2 r q2) λ_ s3 ⟨H3,I3,q3⟩=>?_))));exact wpAny_release ⟨σ,H3,I3,q3⟩
def tAsg (te:TE)(g:TG):TS:=λD σ H=>te σ H λx H1=>g x σ H1 D.nx
theorem zqr {tg e:Expr}{te:TE}{g:TG}(he:PE X e te)(hg:PG X tg g)(hs:swapsWithSole [tg] e pos.line X.env=pure false:=by rfl)(hw:swappedStores [tg] e X.env=pure none:=by rfl)
  (h1:(ygg [tg] X.env).map (·.2)=[assign tg X.env]:=by rfl):PS X (.Assign [tg] e pos) (tAsg te g):=by
 intro pins s σ H D I h;refine wpAny_Assign_stores (thn (he pins s σ H _ I h) λv s1 ⟨x,H1,I1,r1,q1⟩=>?_) hs hw;rw[h1];exact thn (hg pins s1 σ H1 x v _ I1 r1 q1) λ_ s2 q=>q
theorem zqa {i:Nat}{x:Str}{e:Expr}{te:TE}{pos':Pos}(hN:X.N.Nodup)(hi:X.N[i]?=some x)(hx:Loc X.env.scope x)(he:PE X e te)(hs:ypj e (some (.Name x pos')) pos.line X.env=pure false:=by rfl)(hf:X.fn x=true∨X.env.scope.names.lookup x=some .local:=by first|exact .inl rfl|exact .inr rfl|assumption) :
  PS X (.Assign [.Name x pos'] e pos) (tAsg te (zcn i)):=by
 intro pins s σ H D I h;refine wpAny_Assign_Name (thn (he pins s σ H _ I h) λv s1 ⟨y,H1,I1,r1,q1⟩=>?_) hs;exact zxg I1 hN hi hx r1 (λs2 I2=>⟨_,H1,I2,q1⟩) hf
def tAug (i:Nat)(te:TE)(ti:TIp):TS:=λD σ H=>∃x,σ[i]?=some (some x)∧te σ H λy H1=>ti x y H1 λz H2=>D.nx (σ.set i (some z)) H2
theorem zzab {i:Nat}{x:Str}{e:Expr}{te:TE}{op:yoj}{ti:TIp}{pos':Pos}(hN:X.N.Nodup)(hi:X.N[i]?=some x)(hx:Loc X.env.scope x)(he:PE X e te)(ho:PIp X op ti)(hf:X.fn x=true∨X.env.scope.names.lookup x=some .local:=by first|exact .inl rfl|exact .inr rfl|assumption) :
  PS X (.AugAssign (.Name x pos') op e pos) (tAug i te ti):=by
 intro pins s σ H D I h;obtain⟨v,e1,h⟩:=h;obtain⟨m,hn,hl⟩:=I.loc;have vis:Vis X.env.scope x:=by rcases hx with k|k;exact .inl k;exact .inr (.inl k)
 obtain⟨u,r,l⟩:=hl i x v hi e1 vis;refine wpAny_AugAssign_Name ?_;have go:wpAny (model X.prog X.w) X.A (eval e X.env) (λw s₂=>wpAny (model X.prog X.w) X.A (inplaceOp op u w) (λr s₃=>wpAny (model X.prog X.w) X.A (storeName X.env x r) (λ_=>SP X pins D .next) X.xe s₃) X.xe s₂) X.xe s:=by
  refine thn (he pins s σ H _ I h) λw s1 ⟨y,H1,I1,r1,q1⟩=>?_;refine thn (ho pins s1 σ H1 v y u w _ I1 r r1 q1) λz s2 ⟨zv,H2,I2,r2,q2⟩=>?_;exact zxg I2 hN hi hx r2 (λs3 I3=>⟨_,H2,I3,q2⟩) hf
 rcases l with⟨hk,hm⟩|⟨hk,c,hc,hcell⟩
 ·exact wpAny_loadName_local I.ok.kind hk hn hm go
 ·rcases hk with hk|hk
  ·exact wpAny_loadName_cell I.ok.kind hk hc hcell go
  ·rcases hx with k|k
   ·have:X.env.scope.names.lookup x=some .free:=hk;rw[k] at this;cases this
   ·have:X.env.scope.names.lookup x=some .free:=hk;rw[k] at this;cases this
def ipI (f:Int->Int->Int):TIp:=λx y H Q=>Ex2 λi j=>x = .int i∧y = .int j∧Q (.int (f i j)) H
theorem zzbb:PIp X .Add (ipI λi j=>i+j):=by
 intro pins s σ H x y v u Q I r1 r2 h;obtain⟨i,j,e1,e2,q⟩:=h;subst e1;subst e2;obtain⟨t,rfl⟩:=r1;obtain⟨t',rfl⟩:=r2;exact iadd_int ⟨.int _,H,I.tok _,⟨_,rfl⟩,q⟩
end
section
variable {X:Cx}{pos:Pos}
def zcab (c:TT)(tb:TS):TS:=λD σ H=>∃W:Nat->St->Hp->Prop,(∃m,W m σ H)∧∀m σ H,W m σ H →
 c σ H λb H1=>if b=true then ∃N:St->Hp->Prop,(∀ σ' H',N σ' H'->∃m',m'<m∧W m' σ' H')∧tb { D with nx:=N,ct:=N,bk:=D.nx } σ H1 else D.nx σ H1
theorem zpr {c:Expr}{body:List Stmt}{tc:TT}{tb:TS}(hp:PassesOwn (model X.prog X.w) X.A X.env X.xe)(hc:PT X c tc)(hb:PSs X body tb):PS X (.While c body [] pos) (zcab tc tb):=by
 intro pins s σ H D I h;obtain⟨W,⟨m0,w0⟩,turn⟩:=h;refine wpAny_While (codeAny_whileLoop (λn s'=>∃ σ' H',Inv X pins σ' H' s'∧W n σ' H') ?_ m0 ⟨σ,H,I,w0⟩);rintro n s1 ⟨σ1,H1,I1,w1⟩;refine yed hp (thn (hc pins s1 σ1 H1 _ I1 (turn n σ1 H1 w1)) λb s2 ⟨H2,I2,q2⟩=>?_);cases b with
 | true =>
  obtain⟨N,hN,q2⟩:=q2;rw[if_pos rfl];refine yed hp (thn (hb pins s2 σ1 H2 _ I2 q2) λf s3 q3=>?_);cases f with
  | next =>
   obtain⟨σ3,H3,I3,n3⟩:=q3;obtain⟨m',hm,w3⟩:=hN σ3 H3 n3;exact⟨m',hm,σ3,H3,I3,w3⟩
  | cont =>
   obtain⟨σ3,H3,I3,n3⟩:=q3;obtain⟨m',hm,w3⟩:=hN σ3 H3 n3;exact⟨m',hm,σ3,H3,I3,w3⟩
  | brk=>exact q3
  | ret v=>exact q3
 | false =>
  rw[if_neg yka];exact yoe ⟨σ1,H2,I2,q2⟩
end
structure It where
 go:Nat->Hp->Prop
 yld:Nat->Hp->V->Hp->Prop
 stop:Nat->Hp->Prop
def FpOk (X:Cx)(pins:List (Addr×Obj))(H:Hp)(b:Addr):Prop :=
 H b=none∧b≠X.env.locals∧b∉X.fs∧(b∈X.ex∨X.s₀.heap.objs.size≤b)∧(∀x c,X.env.cells.lookup x=some c->c≠b)∧∀p∈X.pn++pins,p.1≠b
theorem Inv.fpOk {X:Cx}{pins:List (Addr×Obj)}{σ:St}{H H':Hp}{s:Shared}{b:Addr}(I:Inv X pins σ H s)(hb:s.heap.objs.size≤b)(hn:H' b=none):FpOk X pins H' b:=by
 refine⟨hn,ydj (yda I.lt hb),I.nofs hb,.inr (yab I.sz hb),λx c e z=>?_,λp hp z=>?_⟩
 ·obtain⟨v,q⟩:=I.cell x c e;exact absurd (yda q.lt (by rw[z];exact hb)) (yrc _)
 ·exact absurd (yda (yja (I.pin p hp).1) (by rw[z];exact hb)) (yrc _)
structure Turn (P:yya)(w:World)(K:yaa)(tg:Expr)(J:It)(fp:List Addr)(it:Addr)(tn:Nat->Heap->Prop):Prop where
 mem:it∈fp
 obj:∀i h,tn i h->∀b∈fp,∃o,h.get? b=some o∧∀v,o.data ≠ .cell v
 keep:∀i h h',tn i h->(∀b∈fp,∀o,h.get? b=some o->h'.get? b=some o)->tn i h'
 item:∀(X:Cx),X.prog=P->X.w=w->X.K=K->X.calm=true->∀(i:Nat) (pins:List (Addr×Obj)) (s:Shared) (σ:St) (H:Hp) (E:Value->Shared->Prop),Inv X pins σ H s->(∀b∈fp,FpOk X pins H b)->tn i s.heap->J.go i H →
  wpAny (model P w) X.A (pyNext (.ref it)) (λr s1=>∃u,r=some u ∧
   wpAny (model P w) X.A (ykf tg (.ref it) u) (λ_ s2=>Ex2 λx H'=>Inv X pins σ H' s2∧RelV x u∧J.yld i H x H'∧tn (i+1) s2.heap∧∀b∈fp,H' b=none) E s1) E s
 done:∀(X:Cx),X.prog=P->X.w=w->X.K=K->X.calm=true->∀(i:Nat) (pins:List (Addr×Obj)) (s:Shared) (σ:St) (H:Hp) (E:Value->Shared->Prop),Inv X pins σ H s->(∀b∈fp,FpOk X pins H b)->tn i s.heap->J.stop i H →
  wpAny (model P w) X.A (pyNext (.ref it)) (λr s1=>r=none∧Inv X pins σ H s1) E s
 self:∀(A:Around) (i:Nat) (s:Shared) (Q:Value->Shared->Prop) (E:Value->Shared->Prop),tn i s.heap->Q (.ref it) s->wpAny (model P w) A (pyIter (.ref it)) Q E s
abbrev TI:=St->Hp->(It->Hp->Prop)->Prop
def PIE (X:Cx)(pins:List (Addr×Obj))(σ:St)(tg:Expr)(R:It->Hp->Prop)(itv:Value)(s2:Shared):Prop :=
 Ex5 λ(it:Addr) (fp:List Addr) (tn:Nat->Heap->Prop) (J:It) (H':Hp)=>itv = .ref it∧Inv X pins σ H' s2∧Turn X.prog X.w X.K tg J fp it tn∧tn 0 s2.heap∧(∀b∈fp,FpOk X pins H' b)∧R J H'
def PI (X:Cx)(tg iter:Expr)(wi:TI):Prop :=
 ∀(pins:List (Addr×Obj)) (s:Shared) (σ:St) (H:Hp) (R:It->Hp->Prop),Inv X pins σ H s->wi σ H R →
  wpAny (model X.prog X.w) X.A (eval iter X.env) (λv s1=>wpAny (model X.prog X.w) X.A (pyIter v) (PIE X pins σ tg R) X.xe s1) X.xe s
theorem zww {M:Model}{A:Around}{E:Value->Shared->Prop}{s:Shared}{tg:Expr}{it:Addr}{u:Value}{o:Obj}{n:String}{vs:Array Value}{Q:Unit->Shared->Prop}(ho:s.heap.get? it=some o)(hc:o.cls = .type n)(hd:o.data = .fields vs)
  (hn:["enumerate","zip","dict_itemiterator","dict_reverseitemiterator","odict_iterator","itertools.zip_longest","itertools.pairwise"].contains n=false) (hQ:Q () s):wpAny M A (ykf tg (.ref it) u) Q E s:=by
 unfold ykf;cases tg<;>first
  | exact yic hQ
  | (cases u<;>first
    | exact yic hQ
    | (refine yhb (wpAny_load ho ?_)
       rw[hc,hd];show wpAny M A (if (["enumerate","zip","dict_itemiterator","dict_reverseitemiterator","odict_iterator","itertools.zip_longest","itertools.pairwise"].contains n&&vs[0]?==some (rawInt _))=true then _ else _) Q E s
       rw[if_neg (by intro h;rw[hn,yqb] at h;cases h)];exact yic hQ))
def Itt (K:yaa)(a:Addr):It :=
 ⟨λi H=>Ex2 λxs x=>SqT K H a xs∧xs[i]?=some x,λi H x H'=>H'=H∧∀xs,SqT K H a xs->xs[i]?=some x,λi H=>∃xs,SqT K H a xs∧xs.length≤i⟩
def Itr (lo:Int)(n:Nat):It:=⟨λi _=>i<n,λi H x H'=>H'=H∧x = .int (lo+i),λi _=>n≤i⟩
theorem zes {P:yya}{w:World}{K:yaa}{tg:Expr}(a it:Addr):Turn P w K tg (Itt K a) [it] it (λi h=>h.IsTupleIter it a i) where
 mem:=by simp
 obj:=λi h st b hb=>by
  have e:b=it:=by simpa using hb
  subst e;obtain⟨o,e,c,d⟩:=st;exact⟨o,e,λv z=>by rw[d] at z;cases z⟩
 keep:=λi h h' st k=>st.at λo e=>k it (by simp) o e
 item:=by
  intro X hP hw hK hc i pins s σ H E I hf st hg;subst hP hw hK;obtain⟨xs,x,hq,hx⟩:=hg;obtain⟨its,rv,p,hz⟩:=I.tuple hq;obtain⟨u,hu,ru⟩:=rv.get hx;obtain⟨f0,f1,f2,f3,f4,f5⟩:=hf it (by simp);refine wpAny_pyNext_tuple_item st (show s.heap.IsTuple a its.toArray from p) (x:=u) (by simpa using hu) λh' st' sb=>?_;have I1:Inv X pins σ H { s with heap:=h' }:=I.turned (t':=s.toks) (λb o hb e=>(sb.2 b hb).trans e) f0 f1 f3 f4 f5;obtain⟨o,e,c,d⟩:=id st';exact⟨u,rfl,zww (s:={ s with heap:=h' }) e c d (by decide) ⟨x,H,I1,ru,⟨rfl,λys hy=>by rw[I.zbt hy hq];exact hx⟩,st',λb hb=>(hf b hb).1⟩⟩
 done:=by
  intro X hP hw hK hc i pins s σ H E I hf st hg;subst hP hw hK;obtain⟨xs,hq,hx⟩:=hg;obtain⟨its,rv,p,hz⟩:=I.tuple hq;obtain⟨f0,f1,f2,f3,f4,f5⟩:=hf it (by simp);have hl:=rv.length;exact wpAny_pyNext_tuple_end (I.ok.hd hc) st (show s.heap.IsTuple a its.toArray from p) (by simp;omega) λh' eb=>⟨rfl,I.turned (t':=s.toks) (λb o hb e=>eb b o hb e) f0 f1 f3 f4 f5⟩
 self:=λ_ _ _ _ _ st h=>wpAny_pyIter_tupleiter st h
theorem zfs {P:yya}{w:World}{K:yaa}{tg:Expr}(it:Addr)(lo:Int)(n:Nat):Turn P w K tg (Itr lo n) [it] it (λi h=>IsRangeIter h it (lo+(i:Nat)*1) ((n:Int)-(i:Nat)) 1) where
 mem:=by simp
 obj:=λi h st b hb=>by
  have e:b=it:=by simpa using hb
  subst e;exact⟨_,st,λv z=>by
   have z':Data.fields _=Data.cell v:=z;cases z'⟩
 keep:=λi h h' st k=>k it (by simp) _ st
 item:=by
  intro X hP hw hK hc i pins s σ H E I hf st hg;subst hP hw hK;obtain⟨f0,f1,f2,f3,f4,f5⟩:=hf it (by simp);have W:=Walks.range (prog:=X.prog) (w:=X.w) (I.ok.hd hc) it lo 1 n;refine W.item i s _ _ hg st λv h' tk hv st' kk=>?_;obtain⟨t,rfl⟩:=hv;have I1:Inv X pins σ H { s with heap:=h',toks:=tk }:=I.turned (λb o hb e=>kk b o (by simpa using hb) e) f0 f1 f3 f4 f5;refine⟨_,rfl,zww (s:={ s with heap:=h',toks:=tk }) (n:="range_iterator") st' rfl rfl (by decide) ⟨.int (lo+i),H,I1,⟨t,?_⟩,⟨rfl,rfl⟩,st',λb hb=>(hf b hb).1⟩⟩;rw[Int.mul_one]
 done:=by
  intro X hP hw hK hc i pins s σ H E I hf st hg;subst hP hw hK;obtain⟨f0,f1,f2,f3,f4,f5⟩:=hf it (by simp);exact wpAny_pyNext_range_end (I.ok.hd hc) st (by have:n≤i:=hg;omega) λh' eb=>⟨rfl,I.turned (t':=s.toks) (λb o hb e=>eb b o hb e) f0 f1 f3 f4 f5⟩
 self:=λ_ _ _ _ _ st h=>wpAny_pyIter_rangeiter st h
end L2
namespace L2
open PySem PySem.Spec PyProof.Rows
section
variable {X:Cx}{tg:Expr}
def iTup (K:yaa)(tl:TE):TI:=fun σ H R=>tl σ H λx H1=>∃a,x = .ref a∧(∃xs,SqT K H1 a xs)∧R (Itt K a) H1
theorem zabb {l:Expr}{tl:TE}(hl:PE X l tl):PI X tg l (iTup X.K tl):=by
 intro pins s σ H R I h;refine thn (hl pins s σ H _ I h) λv s1 ⟨x,H1,I1,r1,q1⟩=>?_;obtain⟨a,e,⟨xs,hq⟩,q⟩:=q1;subst e;cases r1;obtain⟨its,rv,p,hz⟩:=I1.tuple hq;refine wpAny_pyIter_tuple (show s1.heap.IsTuple a its.toArray from p) ?_;refine⟨s1.heap.objs.size,[s1.heap.objs.size],_,_,H1,rfl,I1.kept (t':=s1.toks) λb o e=>yha _ e,zes a _,⟨_,ycb _ rfl,rfl,rfl⟩,λb hb=>?_,q⟩;have e:b=s1.heap.objs.size:=by simpa using hb
 subst e;exact I1.fpOk (ywa _) (I1.hok.fresh (ywa _))
theorem zdw {pins:List (Addr×Obj)}{σ:St}{H:Hp}{s:Shared}{R:It->Hp->Prop}{E:Value->Shared->Prop}{lo hi:Int}{t u v:Tok}{tk:Nat}(I:Inv X pins σ H s)(h1:-(2 ^ 62)≤lo)(h2:lo<2 ^ 62)(h3:-(2 ^ 62)≤hi)(h4:hi<2 ^ 62)
  (q:R (Itr lo (hi-lo).toNat) H):wpAny (model X.prog X.w) X.A (pyIter (.ref s.heap.objs.size)) (PIE X pins σ tg R) E { s with heap:=s.heap.push { cls:=.type "range",data:=.fields #[.int lo t,.int hi u,.int 1 v] },toks:=tk }:=by
 refine wpAny_pyIter_range (IsRange.new ..) (small_one h1 h2 h3 h4) ?_;have I1:Inv X pins σ H { s with heap:=s.heap.push { cls:=.type "range",data:=.fields #[.int lo t,.int hi u,.int 1 v] },toks:=tk }:=I.kept λb o e=>yha _ e;refine⟨(s.heap.push { cls:=.type "range",data:=.fields #[.int lo t,.int hi u,.int 1 v] }).objs.size,[(s.heap.push { cls:=.type "range",data:=.fields #[.int lo t,.int hi u,.int 1 v] }).objs.size],_,_,H,rfl,
  I1.kept (t':=tk) λb o e=>yha _ e,zfs _ lo (hi-lo).toNat,?_,λb hb=>?_,q⟩
 ·have e1:lo+((0:Nat):Int)*1=lo:=by simp
  have e2:(((hi-lo).toNat:Nat):Int)-((0:Nat):Int)=Builtin.Range.rangeSize lo hi 1:=by rw[rangeSize_one];split<;>omega
  show IsRangeIter _ _ (lo+((0:Nat):Int)*1) ((((hi-lo).toNat:Nat):Int)-((0:Nat):Int)) 1
  rw[e1,e2];exact ycb _ rfl
 ·have e:b=(s.heap.push { cls:=.type "range",data:=.fields #[.int lo t,.int hi u,.int 1 v] }).objs.size:=by simpa using hb
  subst e;exact I1.fpOk (ywa _) (I1.hok.fresh (ywa _))
def zkdb (ta:TA):TI:=fun σ H R=>ta σ H λvs H1=>∃j:Int,vs=[.int j] ∧ -(2 ^ 62)≤j∧j<2 ^ 62∧R (Itr 0 j.toNat) H1
theorem zxj {a:Expr}{ta:TA}{p pos:Pos}(hg:Gl X "range")(hm:X.mg "range" = none)(ha:PA X [a] ta)(hs:yac [a] X.env=[(false,eval a X.env)]:=by rfl):PI X tg (.Call (.Name "range" p) [a] [] pos) (zkdb ta):=by
 intro pins s σ H R I h;refine Call_ (zpo I hg hm boot_range (yud (thn (ha pos pins s σ H _ I h) λus s1 ⟨vs,H1,I1,r1,q1⟩=>?_) hs rfl));obtain⟨j,e,q1,q2,q⟩:=q1;subst e;cases r1 with
 | cons r rr =>
  cases rr;obtain⟨t,rfl⟩:=r;exact call_range_1 (zdw I1 (by omega) (by omega) q1 q2 (by simpa using q))
def tFor (wi:TI)(g:TG)(tb:TS):TS:=λD σ H=>wi σ H λJ H1=>∃W:Nat->Nat->St->Hp->Prop,(∃m,W 0 m σ H1)∧∀i m σ H,W i m σ H →
 (J.stop i H∧D.nx σ H)∨(J.go i H∧∃N:St->Hp->Prop,(∀ σ' H',N σ' H'->∃m',m'<m∧W (i+1) m' σ' H')∧∀x H',J.yld i H x H'->g x σ H' fun σ2 H2=>tb { D with nx:=N,ct:=N,bk:=D.nx } σ2 H2)
def zql (fp:List Addr)(h:Heap):List (Addr×Obj):=fp.filterMap λb=>(h.get? b).map λo=>(b,o)
theorem zvh {fp:List Addr}{h:Heap}{b:Addr}{o:Obj}(hb:b∈fp)(e:h.get? b=some o):(b,o)∈zql fp h:=ybd.mpr ⟨b,hb,by rw[e];rfl⟩
theorem zcu {fp:List Addr}{h:Heap}{p:Addr×Obj}(hp:p∈zql fp h):p.1∈fp∧h.get? p.1=some p.2:=by
 obtain⟨b,hb,e⟩:=ybd.mp hp;cases q:h.get? b with
 | none=>rw[q] at e;cases e
 | some o =>
  rw[q] at e;have e':(b,o)=p:=yva e;subst e';exact⟨hb,q⟩
theorem Inv.pinned {pins:List (Addr×Obj)}{σ:St}{H:Hp}{s:Shared}{fp:List Addr}(I:Inv X pins σ H s)(hf:∀b∈fp,FpOk X pins H b)(ho:∀b∈fp,∃o,s.heap.get? b=some o∧∀v,o.data ≠ .cell v):Inv X (pins++zql fp s.heap) σ H s :=
 I.zwj λp hp=>(yia.mp hp).elim (λz=>I.pin p (yra _ z)) λz=>by
  obtain⟨hb,e⟩:=zcu z;obtain⟨f0,f1,f2,_⟩:=hf p.1 hb;obtain⟨o,e',d⟩:=ho p.1 hb;rw[e] at e';cases e';exact⟨e,f0,f1,f2,d⟩
theorem Inv.zem {pins pl:List (Addr×Obj)}{σ:St}{H:Hp}{s:Shared}(I:Inv X (pins++pl) σ H s):Inv X pins σ H s:=I.zwj λp hp=>I.pin p (yra _ (yzb _ hp))
theorem zxn {iter:Expr}{body:List Stmt}{wi:TI}{g:TG}{tb:TS}{pos:Pos}(hp:PassesOwn (model X.prog X.w) X.A X.env X.xe)(hc:X.calm=true)(hi:PI X tg iter wi)(hg:PG X tg g)(hb:PSs X body tb)
  (hs:∀x,yhg iter X.env x=pure x:=by intro _;rfl):PS X (.For tg iter body [] pos) (tFor wi g tb):=by
 intro pins s σ H D I h;refine wpAny_For (thn (hi pins s σ H _ I h) λv s1 h1=>thn h1 λitv s2 h2=>?_) hs;obtain⟨it,fp,tn,J,H2,e,I2,T,st2,f2,W,⟨m0,w0⟩,turn⟩:=h2;subst e;have stat:∀{H':Hp},(∀b∈fp,H' b=none)->∀b∈fp,FpOk X pins H' b:=λhn b hb=>⟨hn b hb,(f2 b hb).2⟩;refine codeAny_forLoop_any (λn s'=>∃i σ' H',Inv X pins σ' H' s'∧tn i s'.heap∧(∀b∈fp,H' b=none)∧W i n σ' H') ?_ m0 ⟨0,σ,H2,I2,st2,λb hb=>(f2 b hb).1,w0⟩;rintro n s3 ⟨i,σ3,H3,I3,st3,fr3,w3⟩
 rcases turn i n σ3 H3 w3 with⟨stop,qn⟩|⟨go,N,hN,step⟩
 ·refine yed hp (thn (T.done X rfl rfl rfl hc i pins s3 σ3 H3 X.xe I3 (stat fr3) st3 stop) λr s4 ⟨hr,I4⟩=>?_);subst hr;exact yoe ⟨σ3,H3,I4,qn⟩
 ·refine yed hp (thn (T.item X rfl rfl rfl hc i pins s3 σ3 H3 X.xe I3 (stat fr3) st3 go) λr s4 ⟨u,hr,h4⟩=>?_);subst hr;refine yed hp (thn h4 λ_ s5 ⟨x,H5,I5,r5,y5,st5,fr5⟩=>?_);have I5':=I5.pinned (stat fr5) (T.obj _ _ st5);refine yed hp (thn (hg _ s5 σ3 H5 x u _ I5' r5 (step x H5 y5)) λ_ s6 ⟨σ6,H6,I6,q6⟩=>?_);refine yed hp (thn (hb _ s6 σ6 H6 _ I6 q6) λf s7 q7=>?_);have again:∀{σ7:St} {H7:Hp},Inv X (pins++zql fp s5.heap) σ7 H7 s7->N σ7 H7->∃m,m<n∧∃i σ' H',Inv X pins σ' H' s7∧tn i s7.heap∧(∀b∈fp,H' b=none)∧W i m σ' H':=λ{σ7 H7} I7 n7=>by
   obtain⟨m',hm,w7⟩:=hN σ7 H7 n7;refine⟨m',hm,i+1,σ7,H7,I7.zem,T.keep _ _ _ st5 λb hb o e=>(I7.pin (b,o) (yra _ (yra _ (zvh hb e)))).1,λb hb=>?_,w7⟩;obtain⟨o,e,d⟩:=T.obj _ _ st5 b hb;exact (I7.pin (b,o) (yra _ (yra _ (zvh hb e)))).2.1
  cases f with
  | next=>obtain⟨σ7,H7,I7,n7⟩:=q7;exact again I7 n7
  | cont=>obtain⟨σ7,H7,I7,n7⟩:=q7;exact again I7 n7
  | brk=>obtain⟨σ7,H7,I7,q7⟩:=q7;exact⟨σ7,H7,I7.zem,q7⟩
  | ret v=>obtain⟨x7,σ7,H7,I7,r7,q7⟩:=q7;exact⟨x7,σ7,H7,I7.zem,r7,q7⟩
end
theorem zwo {lo:Int}{n:Nat}{g:TG}{tb:TS}{D:Ends}{σ:St}{H:Hp}(Pv:Nat->St->Hp->Prop)(h0:Pv 0 σ H)
  (hs:∀i σ H,i<n->Pv i σ H->g (.int (lo+i)) σ H fun σ2 H2=>tb { D with nx:=Pv (i+1),ct:=Pv (i+1),bk:=D.nx } σ2 H2) (hd:∀ σ H,Pv n σ H->D.nx σ H) :
  ∃W:Nat->Nat->St->Hp->Prop,(∃m,W 0 m σ H)∧∀i m σ H,W i m σ H →
   ((Itr lo n).stop i H∧D.nx σ H)∨((Itr lo n).go i H∧∃N:St->Hp->Prop,(∀ σ' H',N σ' H'->∃m',m'<m∧W (i+1) m' σ' H')∧∀x H',(Itr lo n).yld i H x H'->g x σ H' fun σ2 H2=>tb { D with nx:=N,ct:=N,bk:=D.nx } σ2 H2):=by
 refine⟨λi m σ H=>m=n-i∧i≤n∧Pv i σ H,⟨n,by simp,ylc _,h0⟩,?_⟩;rintro i m σ H ⟨rfl,hi,p⟩
 by_cases hlt:i<n
 ·refine .inr ⟨hlt,Pv (i+1),fun σ' H' p'=>⟨n-(i+1),by omega,rfl,hlt,p'⟩,λx H' y=>?_⟩;obtain⟨e,y⟩:=y;subst e y;exact hs i σ _ hlt p
 ·have e:i=n:=by omega
  subst e;exact .inl ⟨ywa _,hd σ H p⟩
end L2
namespace L2
open PySem PySem.Spec PyProof.Rows
abbrev R2:=V->V->Hp->VK->Prop
def OpR (X:Cx)(f:Value->Value->Sem Value)(r:R2):Prop :=
 ∀(pins:List (Addr×Obj)) (s:Shared) (σ:St) (H:Hp) (x y:V) (v u:Value) (Q:VK),Inv X pins σ H s->RelV x v->RelV y u->r x y H Q →
  wpAny (model X.prog X.w) X.A (f v u) (EP X pins σ Q) X.xe s
def UnR (X:Cx)(f:Value->Sem Value)(r:V->Hp->VK->Prop):Prop :=
 ∀(pins:List (Addr×Obj)) (s:Shared) (σ:St) (H:Hp) (x:V) (v:Value) (Q:VK),Inv X pins σ H s->RelV x v->r x H Q →
  wpAny (model X.prog X.w) X.A (f v) (EP X pins σ Q) X.xe s
def zci (X:Cx)(f:Value)(r:List V->Hp->VK->Prop):Prop :=
 ∀(pins:List (Addr×Obj)) (s:Shared) (σ:St) (H:Hp) (xs:List V) (us:List Value) (Q:VK),Inv X pins σ H s->Vals xs us->r xs H Q →
  wpAny (model X.prog X.w) X.A (call f us) (EP X pins σ Q) X.xe s
def tOp (r:R2)(ta tb:TE):TE:=fun σ H Q=>ta σ H λx H1=>tb σ H1 λy H2=>r x y H2 Q
def tUn (r:V->Hp->VK->Prop)(ta:TE):TE:=fun σ H Q=>ta σ H λx H1=>r x H1 Q
def rI (C:Int->Int->Prop)(g:Int->Int->V):R2:=λx y H Q=>Ex2 λi j=>x = .int i∧y = .int j∧C i j∧Q (g i j) H
def rI0 (g:Int->Int->V):R2:=λx y H Q=>Ex2 λi j=>x = .int i∧y = .int j∧Q (g i j) H
def rU (g:Int->V):V->Hp->VK->Prop:=λx H Q=>∃i,x = .int i∧Q (g i) H
section
variable {X:Cx}{a b c:Expr}{ta tb tc:TE}{pos:Pos}
theorem binT (ha:PE X a ta)(hb:PE X b tb){pins:List (Addr×Obj)}{s:Shared}{σ:St}{H:Hp}{R:V->V->Hp->Prop}(I:Inv X pins σ H s)
  (h:ta σ H λx H1=>tb σ H1 λy H2=>R x y H2) {Q:Value->Shared->Prop} {f:Value->Value->Sem Value}
  (hf:∀v u s2 x y H2,Inv X pins σ H2 s2->RelV x v->RelV y u->R x y H2->wpAny (model X.prog X.w) X.A (f v u) Q X.xe s2) :
  wpAny (model X.prog X.w) X.A (eval a X.env) (λv s₁=>wpAny (model X.prog X.w) X.A (eval b X.env) (λu s₂=>wpAny (model X.prog X.w) X.A (f v u) Q X.xe s₂) X.xe s₁) X.xe s:=by
 refine thn (ha pins s σ H _ I h) λv s1 ⟨x,H1,I1,r1,q1⟩=>?_;refine thn (hb pins s1 σ H1 _ I1 q1) λu s2 ⟨y,H2,I2,r2,q2⟩=>?_;exact hf v u s2 x y H2 I2 r1 r2 q2
theorem zwa {op:yoj}{r:R2}(ho:OpR X (ygf op) r)(ha:PE X a ta)(hb:PE X b tb):PE X (.BinOp a op b pos) (tOp r ta tb):=by
 intro pins s σ H Q I h;exact wpAny_BinOp (binT ha hb I h λv u s2 x y H2 I2 rx ry q=>ho pins s2 σ H2 x y v u Q I2 rx ry q)
theorem zxt {op:UnaryOp}{r:V->Hp->VK->Prop}(ho:UnR X (unaryOp op) r)(ha:PE X a ta):PE X (.UnaryOp op a pos) (tUn r ta):=by
 intro pins s σ H Q I h;exact UnaryOp_ (thn (ha pins s σ H _ I h) λv s1 ⟨x,H1,I1,r1,q1⟩=>ho pins s1 σ H1 x v Q I1 r1 q1)
theorem opI {f:Value->Value->Sem Value}{C:Int->Int->Prop}{g:Int->Int->Int}
  (rule:∀(i j:Int) (t u:Tok) (s:Shared) (Q:Value->Shared->Prop) (E:Value->Shared->Prop),C i j->Q (.int (g i j) s.toks) { s with toks:=s.toks+1 }->wpAny (model X.prog X.w) X.A (f (.int i t) (.int j u)) Q E s) :
  OpR X f (rI C λi j=>.int (g i j)):=by
 intro pins s σ H x y v u Q I rx ry h;obtain⟨i,j,rfl,rfl,hc,q⟩:=h;obtain⟨t,rfl⟩:=rx;obtain⟨t',rfl⟩:=ry;exact rule i j t t' s _ _ hc ⟨.int (g i j),H,I.tok _,⟨_,rfl⟩,q⟩
theorem opI0 {f:Value->Value->Sem Value}{g:Int->Int->Int}
  (rule:∀(i j:Int) (t u:Tok) (s:Shared) (Q:Value->Shared->Prop) (E:Value->Shared->Prop),Q (.int (g i j) s.toks) { s with toks:=s.toks+1 }->wpAny (model X.prog X.w) X.A (f (.int i t) (.int j u)) Q E s) :
  OpR X f (rI0 λi j=>.int (g i j)):=by
 intro pins s σ H x y v u Q I rx ry h;obtain⟨i,j,rfl,rfl,q⟩:=h;obtain⟨t,rfl⟩:=rx;obtain⟨t',rfl⟩:=ry;exact rule i j t t' s _ _ ⟨.int (g i j),H,I.tok _,⟨_,rfl⟩,q⟩
theorem opB0 {f:Value->Value->Sem Value}{g:Int->Int->Bool}
  (rule:∀(i j:Int) (t u:Tok) (s:Shared) (Q:Value->Shared->Prop) (E:Value->Shared->Prop),Q (.bool (g i j)) s->wpAny (model X.prog X.w) X.A (f (.int i t) (.int j u)) Q E s) :
  OpR X f (rI0 λi j=>.bl (g i j)):=by
 intro pins s σ H x y v u Q I rx ry h;obtain⟨i,j,rfl,rfl,q⟩:=h;obtain⟨t,rfl⟩:=rx;obtain⟨t',rfl⟩:=ry;exact rule i j t t' s _ _ ⟨.bl (g i j),H,I,rfl,q⟩
def CDiv (i j:Int):Prop:=0<j∧j<1073741824
def CMul (i j:Int):Prop:=(-(2 ^ 64)<i∧i<2 ^ 64)∨(-(2 ^ 64)<j∧j<2 ^ 64)
theorem CMul.ok {i j:Int}(h:CMul i j):IntMulOk i j:=by
 rcases h with⟨h1,h2⟩|⟨h1,h2⟩
 ·exact .of_left (intBits_le_64 h1 h2)
 ·exact .of_right (intBits_le_64 h1 h2)
theorem zic:OpR X (ygf .Add) (rI0 λi j=>.int (i+j)):=opI0 λ_ _ _ _ _ _ _ q=>add_int q
theorem zak:OpR X (ygf .Sub) (rI0 λi j=>.int (i-j)):=opI0 λ_ _ _ _ _ _ _ q=>sub_int q
theorem zco:OpR X (ygf .Mult) (rI CMul λi j=>.int (i*j)):=opI λ_ _ _ _ _ _ _ hc q=>mul_int q hc.ok
theorem zbu:OpR X (ygf .FloorDiv) (rI CDiv λi j=>.int (i / j)):=opI λi j _ _ _ _ _ hc q=>by
 have h1:(0:Int)<j:=hc.1;have h2:j<1073741824:=hc.2;exact floordiv_int (by omega) (by rw[Int.fdiv_eq_ediv_of_nonneg i (by omega)];exact q) (.inl (PyProof.noPylong_small (by omega)))
theorem zrl:OpR X (ygf .Mod) (rI (λ_ j=>0<j) λi j=>.int (i % j)):=opI λi j _ _ _ _ _ hc q=>by
 have h1:(0:Int)<j:=hc;exact mod_int' (by omega) (by rw[Int.fmod_eq_emod_of_nonneg i (by omega)];exact q)
theorem unI {f:Value->Sem Value}{g:Int->Int}
  (rule:∀(i:Int) (t:Tok) (s:Shared) (Q:Value->Shared->Prop) (E:Value->Shared->Prop),Q (.int (g i) s.toks) { s with toks:=s.toks+1 }->wpAny (model X.prog X.w) X.A (f (.int i t)) Q E s) :
  UnR X f (rU λi=>.int (g i)):=by
 intro pins s σ H x v Q I rx h;obtain⟨i,rfl,q⟩:=h;obtain⟨t,rfl⟩:=rx;exact rule i t s _ _ ⟨.int (g i),H,I.tok _,⟨_,rfl⟩,q⟩
theorem znn:UnR X (unaryOp .USub) (rU λi=>.int (-i)):=unI λ_ _ _ _ _ q=>neg_int q
end
def scal:V->V->Bool
 | .non,.non=>true|.non,.int _=>true|.int _,.non=>true|.non,.bl _=>true|.bl _,.non=>true|.non,.str _=>true|.str _,.non=>true
 | .int _,.int _=>true|.bl _,.bl _=>true|.str _,.str _=>true|.byt _,.byt _=>true
 | .int _,.str _=>true|.str _,.int _=>true|.bl _,.str _=>true|.str _,.bl _=>true
 | _,_=>false
def rEq:R2:=λx y H Q=>scal x y=true∧Q (.bl (decide (x=y))) H
def rNe:R2:=λx y H Q=>scal x y=true∧Q (.bl (!decide (x=y))) H
theorem zyu {i j:Int}:decide (V.int i=V.int j)=(i==j):=by
 rw[ylf];simp
theorem zsx {i j:Bool}:decide (V.bl i=V.bl j)=(i==j):=by
 rw[ylf];simp
theorem zxu {i j:Str}:decide (V.str i=V.str j)=(i==j):=by
 rw[ylf];simp
theorem zzu {i j:Array UInt8}:decide (V.byt i=V.byt j)=(i.toList==j.toList):=by
 rw[ylf];cases i;cases j;simp
section
variable {X:Cx}{a b c:Expr}{ta tb tc:TE}{pos:Pos}
theorem zmb {pins:List (Addr×Obj)}{σ:St}{H:Hp}{s:Shared}{Q:VK}{k k':Bool}(I:Inv X pins σ H s)(q:Q (.bl k) H)(e:k=k'):EP X pins σ Q (.bool k') s:=by
 subst e;exact⟨.bl k,H,I,rfl,q⟩
theorem zve:OpR X (ysc .Eq) rEq:=by
 intro pins s σ H x y v u Q I rx ry h;obtain⟨hs,q⟩:=h;cases x with
 | non =>
  cases rx;cases y with
  | non=>cases ry;exact PySem.EqNone.eq_none_none (zmb I q (by simp))
  | bl j=>cases ry;exact PySem.EqNone.eq_none_bool (zmb I q (by simp))
  | int j=>obtain⟨t',rfl⟩:=ry;exact PySem.EqNone.eq_none_int (zmb I q (by simp))
  | str j=>obtain⟨t',rfl⟩:=ry;exact PySem.EqNone.eq_none_str (zmb I q (by simp))
  | _=>exact absurd (show false=true from hs) yka
 | bl i =>
  cases rx;cases y with
  | non=>cases ry;exact PySem.EqNone.eq_bool_none (zmb I q (by simp))
  | bl j=>cases ry;exact eq_bool (zmb I q zsx)
  | str j=>obtain⟨t',rfl⟩:=ry;exact PySem.EqMixed.eq_bool_str (zmb I q (by simp))
  | _=>exact absurd (show false=true from hs) yka
 | int i =>
  obtain⟨t,rfl⟩:=rx;cases y with
  | non=>cases ry;exact PySem.EqNone.eq_int_none (zmb I q (by simp))
  | int j=>obtain⟨t',rfl⟩:=ry;exact eq_int (zmb I q zyu)
  | str j=>obtain⟨t',rfl⟩:=ry;exact PySem.EqMixed.eq_int_str (zmb I q (by simp))
  | _=>exact absurd (show false=true from hs) yka
 | str i =>
  obtain⟨t,rfl⟩:=rx;cases y with
  | non=>cases ry;exact PySem.EqNone.eq_str_none (zmb I q (by simp))
  | bl j=>cases ry;exact PySem.EqMixed.eq_str_bool (zmb I q (by simp))
  | int j=>obtain⟨t',rfl⟩:=ry;exact PySem.EqMixed.eq_str_int (zmb I q (by simp))
  | str j=>obtain⟨t',rfl⟩:=ry;exact eq_str (zmb I q zxu)
  | _=>exact absurd (show false=true from hs) yka
 | byt i =>
  obtain⟨t,rfl⟩:=rx;cases y with
  | byt j=>obtain⟨t',rfl⟩:=ry;exact PySem.W.eq_bytes (zmb I q zzu)
  | _=>exact absurd (show false=true from hs) yka
 | _=>cases y<;>exact absurd (show false=true from hs) yka
theorem zkw:OpR X (ysc .NotEq) rNe:=by
 intro pins s σ H x y v u Q I rx ry h;obtain⟨hs,q⟩:=h;cases x with
 | non =>
  cases rx;cases y with
  | non=>cases ry;exact PySem.EqNone.ne_none_none (zmb I q (by simp))
  | bl j=>cases ry;exact PySem.EqNone.ne_none_bool (zmb I q (by simp))
  | int j=>obtain⟨t',rfl⟩:=ry;exact PySem.EqNone.ne_none_int (zmb I q (by simp))
  | str j=>obtain⟨t',rfl⟩:=ry;exact PySem.EqNone.ne_none_str (zmb I q (by simp))
  | _=>exact absurd (show false=true from hs) yka
 | bl i =>
  cases rx;cases y with
  | non=>cases ry;exact PySem.EqNone.ne_bool_none (zmb I q (by simp))
  | bl j=>cases ry;exact ne_bool (zmb I q (congrArg not zsx))
  | str j=>obtain⟨t',rfl⟩:=ry;exact PySem.EqMixed.ne_bool_str (zmb I q (by simp))
  | _=>exact absurd (show false=true from hs) yka
 | int i =>
  obtain⟨t,rfl⟩:=rx;cases y with
  | non=>cases ry;exact PySem.EqNone.ne_int_none (zmb I q (by simp))
  | int j=>obtain⟨t',rfl⟩:=ry;exact ne_int (zmb I q (congrArg not zyu))
  | str j=>obtain⟨t',rfl⟩:=ry;exact PySem.EqMixed.ne_int_str (zmb I q (by simp))
  | _=>exact absurd (show false=true from hs) yka
 | str i =>
  obtain⟨t,rfl⟩:=rx;cases y with
  | non=>cases ry;exact PySem.EqNone.ne_str_none (zmb I q (by simp))
  | bl j=>cases ry;exact PySem.EqMixed.ne_str_bool (zmb I q (by simp))
  | int j=>obtain⟨t',rfl⟩:=ry;exact PySem.EqMixed.ne_str_int (zmb I q (by simp))
  | str j=>obtain⟨t',rfl⟩:=ry;exact ne_str (zmb I q (congrArg not zxu))
  | _=>exact absurd (show false=true from hs) yka
 | byt i =>
  obtain⟨t,rfl⟩:=rx;cases y with
  | byt j=>obtain⟨t',rfl⟩:=ry;exact PySem.W.ne_bytes (zmb I q (congrArg not zzu))
  | _=>exact absurd (show false=true from hs) yka
 | _=>cases y<;>exact absurd (show false=true from hs) yka
theorem zdo:OpR X (ysc .Lt) (rI0 λi j=>.bl (decide (i<j))):=opB0 λ_ _ _ _ _ _ _ q=>lt_int q
theorem zlw:OpR X (ysc .LtE) (rI0 λi j=>.bl (decide (i≤j))):=opB0 λ_ _ _ _ _ _ _ q=>le_int q
theorem zfo:OpR X (ysc .Gt) (rI0 λi j=>.bl (decide (j<i))):=opB0 λ_ _ _ _ _ _ _ q=>gt_int q
theorem zfbb:OpR X (ysc .GtE) (rI0 λi j=>.bl (decide (j≤i))):=opB0 λ_ _ _ _ _ _ _ q=>ge_int q
theorem zeo:OpR X (ysc .In) (λx y H Q=>Ex2 λi j=>x = .str i∧y = .str j∧Q (.bl (!(ylb j i 0 j.length 1).isEmpty)) H):=by
 intro pins s σ H x y v u Q I rx ry h;obtain⟨i,j,rfl,rfl,q⟩:=h;obtain⟨t,rfl⟩:=rx;obtain⟨t',rfl⟩:=ry;exact in_str (zmb I q rfl)
theorem zdz:OpR X (ysc .IsNot) (λx y H Q=>y = .non∧Q (.bl (!decide (x = .non))) H):=by
 intro pins s σ H x y v u Q I rx ry h;obtain⟨rfl,q⟩:=h;cases ry;refine isnot_none_gen (zmb I q ?_);cases x<;>first
  | (cases rx;rfl)
  | (obtain⟨t,rfl⟩:=rx;rfl)
theorem zcb (b:Expr){op:CmpOp}(h:op ≠ .In:=by decide)(h2:op ≠ .NotIn:=by decide):yrg op b=false:=by
 have e1:(op==CmpOp.In)=false:=by cases op<;>first|rfl|exact absurd rfl h
 have e2:(op==CmpOp.NotIn)=false:=by cases op<;>first|rfl|exact absurd rfl h2
 cases b<;>simp[yrg,e1,e2]
theorem zze {op:CmpOp}{r:R2}(ho:OpR X (ysc op) r)(ha:PE X a ta)(hb:PE X b tb)(hm:yrg op b=false):PE X (.Compare a [op] [b] pos) (tOp r ta tb):=by
 intro pins s σ H Q I h;exact wpAny_Compare1 (binT ha hb I h λv u s2 x y H2 I2 rx ry q=>ho pins s2 σ H2 x y v u Q I2 rx ry q) hm
def zeab (t:TE):TT:=fun σ H Q=>t σ H λx H'=>∃k,x = .bl k∧Q k H'
theorem zra {op:CmpOp}{r:R2}(ho:OpR X (ysc op) r)(ha:PE X a ta)(hb:PE X b tb)(hm:yrg op b=false):PT X (.Compare a [op] [b] pos) (zeab (tOp r ta tb)):=by
 intro pins s σ H Q I h;refine wpAny_isTrue_Compare1 (thn (ha pins s σ H _ I h) λv s1 ⟨x,H1,I1,r1,q1⟩=>thn (hb pins s1 σ H1 _ I1 q1) λu s2 ⟨y,H2,I2,r2,q2⟩ =>
  thn (ho pins s2 σ H2 x y v u _ I2 r1 r2 q2) λc s3 ⟨z,H3,I3,r3,k,e,q3⟩=>?_) hm
 subst e;cases r3;exact yoc ⟨H3,I3,q3⟩
def zfx (r r':R2)(ta tb tc:TE):TE:=fun σ H Q=>ta σ H λx H1=>tb σ H1 λy H2=>r x y H2 λz H3=>∃k,z = .bl k ∧
 (if k=true then tc σ H3 λw' H4=>r' y w' H4 Q else Q (.bl false) H3)
theorem zpm {op op':CmpOp}{r r':R2}(ho:OpR X (ysc op) r)(ho':OpR X (ysc op') r')(ha:PE X a ta)(hb:PE X b tb)(hc:PE X c tc)
  (hm:lastMarks [op,op'] [b,c]=false:=by with_unfolding_all rfl):PE X (.Compare a [op,op'] [b,c] pos) (zfx r r' ta tb tc):=by
 intro pins s σ H Q I h;refine Compare_chain (thn (ha pins s σ H _ I h) λv s1 ⟨x,H1,I1,r1,q1⟩=>chain_link (thn (hb pins s1 σ H1 _ I1 q1) λu s2 ⟨y,H2,I2,r2,q2⟩ =>
  thn (ho pins s2 σ H2 x y v u _ I2 r1 r2 q2) λd s3 ⟨z,H3,I3,r3,k,e,q3⟩=>?_)) hm
 subst e;cases r3;refine yoc ?_;cases k with
 | false=>exact ite_ff ⟨.bl false,H3,I3,rfl,q3⟩
 | true=>exact ite_tt (chain_last (thn (hc pins s3 σ H3 _ I3 q3) λw' s4 ⟨z',H4,I4,r4,q4⟩=>ho' pins s4 σ H4 y z' u w' Q I4 r2 r4 q4))
theorem zew {op op':CmpOp}{r r':R2}(ho:OpR X (ysc op) r)(ho':OpR X (ysc op') r')(ha:PE X a ta)(hb:PE X b tb)(hc:PE X c tc)
  (hm:lastMarks [op,op'] [b,c]=false:=by with_unfolding_all rfl):PT X (.Compare a [op,op'] [b,c] pos) (zeab (zfx r r' ta tb tc)):=by
 intro pins s σ H Q I h;refine isTrue_chain (thn (ha pins s σ H _ I h) λv s1 ⟨x,H1,I1,r1,q1⟩=>test_link (thn (hb pins s1 σ H1 _ I1 q1) λu s2 ⟨y,H2,I2,r2,q2⟩ =>
  thn (ho pins s2 σ H2 x y v u _ I2 r1 r2 q2) λd s3 ⟨z,H3,I3,r3,k,e,q3⟩=>?_)) hm
 subst e;cases r3;refine yoc ?_;cases k with
 | false =>
  obtain⟨k',e',q'⟩:=q3;cases e';exact ite_ff ⟨H3,I3,q'⟩
 | true =>
  refine ite_tt (test_last (thn (hc pins s3 σ H3 _ I3 q3) λw' s4 ⟨z',H4,I4,r4,q4⟩=>thn (ho' pins s4 σ H4 y z' u w' _ I4 r2 r4 q4) λd' s5 ⟨z2,H5,I5,r5,k2,e2,q5⟩=>?_));subst e2;cases r5;exact yoc ⟨H5,I5,q5⟩
theorem ztl:(yfa:Nat)<2 ^ 63:=by rw[sizeLine_eq];decide
theorem ztc:OpR X (ygf .Add) (λx y H Q=>Ex2 λi j=>x = .str i∧y = .str j∧i.length+j.length≤yfa∧Q (.str (i++j)) H):=by
 intro pins s σ H x y v u Q I rx ry h;obtain⟨i,j,rfl,rfl,hz,q⟩:=h;obtain⟨t,rfl⟩:=rx;obtain⟨t',rfl⟩:=ry;exact add_str (λt' tk=>⟨.str (i++j),H,I.tok _,⟨_,rfl⟩,q⟩) hz
theorem vals1 {x:V}{us:List Value}(r:Vals [x] us):∃u,us=[u]∧RelV x u:=by
 cases r with
 | cons r1 r2=>cases r2;exact⟨_,rfl,r1⟩
theorem vals2 {x y:V}{us:List Value}(r:Vals [x,y] us):Ex2 λu w'=>us=[u,w']∧RelV x u∧RelV y w':=by
 cases r with
 | cons r1 r2 =>
  cases r2 with
  | cons r3 r4=>cases r4;exact⟨_,_,rfl,r1,r3⟩
theorem zqi:zci X (.type "str") (λxs H Q=>∃i,xs=[.int i]∧i.natAbs.log2<1920∧Q (.str (toString i)) H):=by
 intro pins s σ H xs us Q I r h;obtain⟨i,rfl,hz,q⟩:=h;obtain⟨u,rfl,t,rfl⟩:=vals1 r;exact PySem.P.str_of_int hz ⟨.str _,H,I.tok _,⟨_,rfl⟩,q⟩
end
end L2
namespace L2
open PySem PySem.Spec PyProof.Rows
structure ObjM (h:Heap)(x dx C:Addr)(mA:Str->Option Value):Prop where
 obj:h.get? x=some (yzc C dx)
 ns:h.Ns1 dx mA
 ne:dx≠x
theorem zju {h:Heap}{dx:Addr}{mA:Str->Option Value}(n:h.Ns1 dx mA):∃od,h.get? dx=some od∧∀name,yag name od=some (mA name):=by
 obtain⟨o,es,ep,ho,hd,hk,_,hm⟩:=n;refine⟨o,ho,λname=>?_⟩;have e:=hm name;unfold nsFind findBy at e;rw[← Array.find?_toList] at e;unfold yag;rw[hd];dsimp only
 split
 ·rename_i y q;rw[q] at e;exact congrArg some e
 ·rename_i q;rw[q] at e;have a:es.toList.any (·.refKey)=false:=by
   rw[List.any_eq_false];intro y hy;obtain⟨z,t,hkey⟩:=hk y (Array.mem_toList_iff.mp hy);simp[DictEntry.refKey,hkey]
  have a':¬ es.toList.any (·.refKey)=true:=by rw[a];exact yka
  rw[if_neg a'];exact congrArg some e
theorem ObjM.look {h:Heap}{x dx C:Addr}{mA:Str->Option Value}(I:ObjM h x dx C mA):∃od,PySem.W.InstAt h x (yzc C dx) C (some od)∧∀name,yag name od=some (mA name) :=
 let ⟨od,ho,hl⟩:=zju I.ns
 ⟨od,⟨I.obj,rfl,rfl,ho⟩,hl⟩
section
variable {prog:yya}{w:World}{A:Around}{E:Value->Shared->Prop}{s:Shared}{K:yaa}{x dx C f:Addr}{mA:Str->Option Value}{name:Str}{v:Value}
theorem get_map {expr:Bool}{Q:Value->Shared->Prop}(X:K.In s.heap)(I:ObjM s.heap x dx C mA)(hg:ypd K C name=true)(hh:ybe K C=true)
  (ha:yna K (.ref C) name=some none) (hv:mA name=some v) (hv':ylj v=true) (h:Q v { s with toks:=s.toks+1 }) :
  wpAny (model prog w) A (getAttr (.ref x) name expr) Q E s:=by
 obtain⟨od,J,hl⟩:=I.look;exact PySem.W.get_value X J (ymf hg).1 (PySem.W.findObj_own hh ha rfl (by rw[hl,hv])) hv' h
theorem zxw {pl:Sem Bool}{Q:Value×List Value->Shared->Prop}(X:K.In s.heap)(I:ObjM s.heap x dx C mA)(hg:ypd K C name=true)
  (hf:yna K (.ref C) name=some (some (.ref f))) (ht:yxf K (.ref f)=true) (hv:mA name=none) (h:Q (.ref f,[.ref x]) s) :
  wpAny (model prog w) A (getMethod (.ref x) name pl) Q E s:=by
 obtain⟨od,J,hl⟩:=I.look;exact PySem.W.method_fn X J (ymf hg).1 (ymf hg).2 hf (beq_iff_eq.mp ht) (by show (yag name od).map (·.isSome)=some false;rw[hl,hv];rfl) h
theorem zmy {ns:List Str}{Q:Unit->Shared->Prop}(X:K.In s.heap)(I:ObjM s.heap x dx C mA)
  (hs:yna K (.ref C) "__setattr__" = some (some (.builtin "object.__setattr__"))) (hp:yxe K C=true) (ht:yhh K C name=some none) (hh:ybe K C=true)
  (hw:yfh mA ns) (hsz:ns.length≤yfa)
  (h:∀h',ObjM h' x dx C (λy=>if y=name then some v else mA y)->ywf dx s.heap h'->Q () { s with heap:=h',toks:=s.toks+2 }) :
  wpAny (model prog w) A (setAttr (.ref x) name v) Q E s:=by
 obtain⟨od,J,hl⟩:=I.look;refine PySem.W.set_plain X J hs (PySem.W.osa_open (s:={ s with toks:=s.toks+1 }) (r:=none) X J hp ht λb=>?_);obtain⟨cd,hc,hd'⟩:=PySem.W.any_some hh;have hx:s.heap.get? x=some ⟨.ref C,some dx,.plain,#[]⟩:=I.obj;refine yhb (yic (yhb (yhb (wpAny_loadPart hx (yhb (yxj.here (s:={ s with toks:=s.toks+1 }) (PySem.W.looks_clsIn X hc) ?_))))));rw[hd'];refine yic (a:=some dx) (yhb (yic (yhb ?_)));refine wpAny_nsSet1 (s:={ s with toks:=s.toks+1 }) I.ns λh' hn2 hs2=>?_;obtain⟨oD,esD,epD,hoD,hdD,hcD⟩:=hn2.count (yfh.cons name v hw);refine yhb (wpAny_lookBehind hoD (by rw[hdD];exact pastItsLine_dict (yab hcD (by rw[yta];omega))) ?_);exact yic (h _ ⟨(hs2.2 _ (ywc I.ne)).trans I.obj,hn2,I.ne⟩ hs2)
theorem zqw {R:Result->Shared->Prop}{vs:List Value}{kw:List (Str×Value)}(X:K.In s.heap)(hm:yih K C=true)
  (hi:yna K (.ref C) "__init__" = some (some (.ref f))) (hf:PySem.W.typeIn K (.ref f)=some (.type "function"))
  (h:ybg (model prog w) (A.under (.builtin "type.__call__" ⟨.ref C::vs,kw⟩)) (.call (.ref f) ⟨.ref (s.heap.objs.size+1)::vs,kw⟩) (PySem.W.InitBack (s.heap.objs.size+1) R)
   { s with heap:=(s.heap.push yjc).push (yzc C s.heap.objs.size) }) :
  ybg (model prog w) A (.call (.ref C) ⟨vs,kw⟩) R s:=by
 obtain⟨hh,g,d,t,os⟩:=s;exact PySem.W.make_core (PySem.W.makes_of X hm) (yfe X hi) (λself=>PySem.W.bind_fn X self hf) (.inl rfl) h
end
def putF (f:Str)(v:V):List (Str×V)->List (Str×V)
 | []=>[(f,v)]
 | (g,x)::r=>if g=f then (g,v)::r else (g,x)::putF f v r
theorem zfk (f g:Str)(v:V):∀fs:List (Str×V),(putF f v fs).lookup g=if g=f then some v else fs.lookup g
 | []=>by
  show ypc g [(f,v)]=_
  by_cases h:g=f
  ·have hb:(g==f)=true:=beq_iff_eq.mpr h;simp only[ypc,hb,if_pos h]
  ·have hb:(g==f)=false:=beq_eq_false_iff_ne.mpr h;simp only[ypc,hb,if_neg h]
 | (k,x)::r=>by
  have ih:=zfk f g v r;rw[show putF f v ((k,x)::r)=(if k=f then (k,v)::r else (k,x)::putF f v r) from rfl]
  by_cases hk:k=f
  ·rw[if_pos hk]
   by_cases h:g=k
   ·have hb:(g==k)=true:=beq_iff_eq.mpr h;simp only[ypc,hb,if_pos (h.trans hk)]
   ·have hb:(g==k)=false:=beq_eq_false_iff_ne.mpr h;simp only[ypc,hb,if_neg (λe:g=f=>h (e.trans hk.symm))]
  ·rw[if_neg hk]
   by_cases h:g=k
   ·have hb:(g==k)=true:=beq_iff_eq.mpr h;simp only[ypc,hb,if_neg (λe:g=f=>hk (h.symm.trans e))]
   ·have hb:(g==k)=false:=beq_eq_false_iff_ne.mpr h;simp only[ypc,hb];exact ih
theorem zjk (f:Str)(v:V):∀fs:List (Str×V),f∈(putF f v fs).map (·.1)∧∀g,g∈fs.map (·.1)->g∈(putF f v fs).map (·.1)
 | []=>⟨by simp[putF],λg h=>by simp at h⟩
 | (k,x)::r=>by
  obtain⟨i1,i2⟩:=zjk f v r;rw[show putF f v ((k,x)::r)=(if k=f then (k,v)::r else (k,x)::putF f v r) from rfl]
  by_cases hk:k=f
  ·rw[if_pos hk];subst hk;exact⟨by simp,λg h=>by simpa using h⟩
  ·rw[if_neg hk];refine⟨?_,λg h=>?_⟩
   ·rw[yob];exact yea _ i1
   ·rw[yob] at h ⊢
    rcases yga.mp h with e|e
    ·exact yga.mpr (.inl e)
    ·exact yea _ (i2 g e)
theorem zgk (f:Str)(v:V):∀fs:List (Str×V),(putF f v fs).length≤fs.length+1
 | []=>by simp[putF]
 | (k,x)::r=>by
  have ih:=zgk f v r;rw[show putF f v ((k,x)::r)=(if k=f then (k,v)::r else (k,x)::putF f v r) from rfl]
  by_cases hk:k=f
  ·rw[if_pos hk,yta,yta];omega
  ·rw[if_neg hk,yta,yta];omega
theorem RelO.some_of {v:V}{o:Option Value}(r:RelO (some v) o):∃u,o=some u∧RelV v u:=by
 cases o with
 | none=>exact (show False from r).elim
 | some u=>exact⟨u,rfl,r⟩
theorem RelO.none_of {o:Option Value}(r:RelO none o):o=none:=by
 cases o with
 | none=>rfl
 | some u=>exact (show False from r).elim
theorem ztu {v:V}{u:Value}(r:RelV v u):ylj u=true:=by
 cases v with
 | non=>cases (show u=Value.none from r);rfl
 | bl b=>cases (show u=Value.bool b from r);rfl
 | int i=>obtain⟨t,e⟩:=(show ∃t,u=Value.int i t from r);cases e;rfl
 | str x=>obtain⟨t,e⟩:=(show ∃t,u=Value.str x t from r);cases e;rfl
 | byt b=>obtain⟨t,e⟩:=(show ∃t,u=Value.bytes b t from r);cases e;rfl
 | flt b=>obtain⟨t,e⟩:=(show ∃t,u=Value.float b t from r);cases e;rfl
 | ref a=>cases (show u=Value.ref a from r);rfl
 | ty n=>cases (show u=Value.type n from r);rfl
section
variable {P:yya}{w:World}{H H':Hp}{h h':Heap}{a C dx:Addr}{fs fs':List (Str×V)}
theorem zan (hok:HOk P w H h)(e:H a=some (.ins C dx fs)):∃mA,ObjM h a dx C mA∧(∀f,RelO (fs.lookup f) (mA f))∧yfh mA (fs.map (·.1))∧fs.length≤1000∧H dx=some (.own a):=by
 obtain⟨d,z,ne,ob,mA,n,r,q⟩:=(show zwe P w H h a (.ins C dx fs) from hok a _ e);exact⟨mA,⟨ob,n,ne⟩,r,q,z,d⟩
end
structure Cls (K:yaa)(C:Addr):Prop where
 pg:ypd K C yig=true
 hd:ybe K C=true
 po:yxe K C=true
 sa:yna K (.ref C) "__setattr__" = some (some (.builtin "object.__setattr__"))
theorem Cls.get {K:yaa}{C:Addr}(c:Cls K C)(f:Str):ypd K C f=true:=c.pg
def zff (K:yaa)(C:Addr)(f:Str):Prop:=yna K (.ref C) f=some none
theorem zff.taker {K:yaa}{C:Addr}{f:Str}(n:zff K C f):yhh K C f=some none:=by
 unfold yhh;rw[show yna K (.ref C) f=some none from n];rfl
structure Con (K:yaa)(C:Addr)(f:Str)(v:V)(u:Value):Prop where
 at_:yna K (.ref C) f=some (some u)
 rel:RelV v u
 get:yjg K u "__get__" = some none
 cp:PySem.W.copiedNames.contains f=false
structure Meth (K:yaa)(C:Addr)(m:Str)(f:Addr):Prop where
 at_:yna K (.ref C) m=some (some (.ref f))
 fn:yxf K (.ref f)=true
 kp:yxc K (.ref f)=true
section
variable {X:Cx}{pins:List (Addr×Obj)}{σ:St}{H:Hp}{s:Shared}{a C dx:Addr}{fs:List (Str×V)}{f:Str}{v:V}{A:Around}{E:Value->Shared->Prop}
theorem zul {b:Bool}{Q:Value->Shared->Prop}(I:Inv X pins σ H s)(e:H a=some (.ins C dx fs))(c:Cls X.K C)(n:zff X.K C f)(l:fs.lookup f=some v)
  (h:∀u s',Inv X pins σ H s'->RelV v u->Q u s'):wpAny (model X.prog X.w) A (getAttr (.ref a) f b) Q E s:=by
 obtain⟨mA,O,r,_,_,_⟩:=zan I.hok e;obtain⟨u,hu,ru⟩:=RelO.some_of (v:=v) (o:=mA f) (by rw[← l];exact r f);exact get_map I.kIn O (c.get f) c.hd n hu (ztu ru) (h u _ (I.tok _) ru)
theorem zps {m:Str}{g:Addr}{pl:Sem Bool}{Q:Value×List Value->Shared->Prop}(I:Inv X pins σ H s)(e:H a=some (.ins C dx fs))(c:Cls X.K C)(k:Meth X.K C m g)(l:fs.lookup m=none)
  (h:Q (.ref g,[.ref a]) s):wpAny (model X.prog X.w) A (getMethod (.ref a) m pl) Q E s:=by
 obtain⟨mA,O,r,_,_,_⟩:=zan I.hok e;have hn:mA m=none:=RelO.none_of (by rw[← l];exact r m);exact zxw I.kIn O (c.get m) k.at_ k.fn hn h
theorem zml {y:V}{u:Value}{Q:Unit->Shared->Prop}(I:Inv X pins σ H s)(e:H a=some (.ins C dx fs))(c:Cls X.K C)(n:zff X.K C f)(hl:fs.length<1000)(ry:RelV y u)
  (h:∀s',Inv X pins σ (upd H a (.ins C dx (putF f y fs))) s'->Q () s'):wpAny (model X.prog X.w) A (setAttr (.ref a) f u) Q E s:=by
 obtain⟨mA,O,r,wi,_,ho⟩:=zan I.hok e;have hz:(fs.map (·.1)).length≤yfa:=by rw[yba,sizeLine_eq];omega
 refine zmy I.kIn O c.sa c.po n.taker c.hd wi hz λh' O' sb=>h _ ?_;have hd:∃o,h'.get? dx=some o:=let ⟨o,_,_,e',_⟩:=O'.ns;⟨o,e'⟩;refine I.write (x:=a) (e:=dx) (by rw[e];exact True.intro) (.inr ho) (λb q hb z=>(sb.2 b hb).trans z) hd ?_;refine⟨by rw[zoa O.ne];exact ho,?_,O.ne,O'.obj,_,O'.ns,λg=>?_,λg hg=>?_⟩
 ·have:=zgk f y fs;omega
 ·show RelO ((putF f y fs).lookup g) (if g=f then some u else mA g);rw[zfk]
  by_cases q:g=f
  ·rw[if_pos q,if_pos q];exact ry
  ·rw[if_neg q,if_neg q];exact r g
 ·by_cases q:g=f
  ·rw[q];exact (zjk f y fs).1
  ·refine (zjk f y fs).2 g (wi g λz=>hg ?_);show (if g=f then some u else mA g)=none
   rw[if_neg q];exact z
theorem Inv.made (I:Inv X pins σ H s):Inv X pins σ (upd (upd H s.heap.objs.size (.own (s.heap.objs.size+1))) (s.heap.objs.size+1) (.ins C s.heap.objs.size []))
  { s with heap:=(s.heap.push yjc).push (yzc C s.heap.objs.size) }:=by
 have e1:(s.heap.push yjc).get? s.heap.objs.size=some yjc:=ycb s.heap rfl;have e2:((s.heap.push yjc).push (yzc C s.heap.objs.size)).get? (s.heap.objs.size+1)=some (yzc C s.heap.objs.size):=by
  have:=ycb (s.heap.push yjc) (o:=yzc C s.heap.objs.size) rfl
  rwa [yai] at this
 have e3:(s.heap.push yjc).Ns s.heap.objs.size (λ_=>none):=⟨yjc,#[],_,e1,rfl,(λe he=>absurd he (by simp)),λ_=>rfl⟩;have I1:=I.laid (a:=s.heap.objs.size) (o:=.own (s.heap.objs.size+1)) (h':=s.heap.push yjc) (t':=s.toks) (λb u q=>yha _ q) (ywa _) ⟨_,e1⟩;refine I1.laid (a:=s.heap.objs.size+1) (o:=.ins C s.heap.objs.size []) (t':=s.toks) (λb u q=>yha _ q) (yej (yai _ _)) ?_;have ne:s.heap.objs.size≠s.heap.objs.size+1:=yfb (yzg _);refine⟨by rw[zoa ne,zea],ylc _,ne,e2,λ_=>none,(Heap.Ns1.of_empty e3).at λo q=>yha _ q,λ_=>True.intro,λy hy=>absurd rfl hy⟩
theorem zpz {prog:yya}{w:World}{env:Env}{e:Expr}{f:Str}{pos:Pos}{s:Shared}{Q:Value->Shared->Prop}(hb:yhf e f env (eval e env)=eval e env)
  (h:wpAny (model prog w) A (eval e env) (λo s₁=>wpAny (model prog w) A (getAttr o f true) Q E s₁) E s):wpAny (model prog w) A (eval (.Attribute e f pos) env) Q E s :=
 Attribute_any_ h (by rw[arm_eval_Attribute,hb])
end
def tFld (K:yaa)(ta:TE)(f:Str):TE:=fun σ H Q=>ta σ H λx H1=>Ex5 λa C dx fs v=>x = .ref a∧H1 a=some (.ins C dx fs)∧Cls K C∧zff K C f∧fs.lookup f=some v∧Q v H1
def sFld (K:yaa)(ta tv:TE)(f:Str):TS:=λD σ H=>tv σ H λy H1=>ta σ H1 λx H2=>Ex4 λa C dx fs=>x = .ref a∧H2 a=some (.ins C dx fs)∧Cls K C∧zff K C f∧fs.length<1000 ∧
 D.nx σ (upd H2 a (.ins C dx (putF f y fs)))
def InOp (X:Cx)(op:yoj)(rd:V->V->Hp->VK->Prop):Prop :=
 ∀(pins:List (Addr×Obj)) (s:Shared) (σ:St) (H:Hp) (x y:V) (u v:Value) (Q:VK),Inv X pins σ H s->RelV x u->RelV y v->rd x y H Q->wpAny (model X.prog X.w) X.A (inplaceOp op u v) (EP X pins σ Q) X.xe s
def zoy (K:yaa)(ta tv:TE)(rd:V->V->Hp->VK->Prop)(f:Str):TS:=λD σ H=>ta σ H λx H1=>Ex5 λa C dx fs v=>x = .ref a∧H1 a=some (.ins C dx fs)∧Cls K C∧zff K C f∧fs.lookup f=some v ∧
 tv σ H1 λy H2=>rd v y H2 λz H3=>Ex2 λdx' fs'=>H3 a=some (.ins C dx' fs')∧fs'.length<1000∧D.nx σ (upd H3 a (.ins C dx' (putF f z fs')))
section
variable {X:Cx}{o e value:Expr}{f:Str}{pos pos' tpos:Pos}{ta tv:TE}
theorem zzf (he:PE X e ta)(hb:yhf e f X.env (eval e X.env)=eval e X.env):PE X (.Attribute e f pos) (tFld X.K ta f):=by
 intro pins s σ H Q I h;refine zpz hb (thn (he pins s σ H _ I h) λu s1 ⟨x,H1,I1,rx,a,C,dx,fs,v,ex,ea,c,n,l,q⟩=>?_);subst ex;obtain rfl:u=Value.ref a:=rx;exact zul I1 ea c n l λu' s2 I2 ru=>⟨v,H1,I2,ru,q⟩
theorem zyn (ha:PE X o ta)(hv:PE X value tv)(hs:ypj value (some (.Attribute o f pos')) pos.line X.env=pure false):PS X (.Assign [.Attribute o f pos'] value pos) (sFld X.K ta tv f):=by
 intro pins s σ H D I h;refine plainObj_wpAny_Assign_Attribute (thn (hv pins s σ H _ I h) λu s1 ⟨y,H1,I1,ry,q⟩=>thn (ha pins s1 σ H1 _ I1 q) λov s2 ⟨x,H2,I2,rx,a,C,dx,fs,ex,ea,c,n,l,q2⟩=>?_) hs;subst ex;obtain rfl:ov=Value.ref a:=rx;exact zml I2 ea c n l ry λs3 I3=>⟨σ,_,I3,q2⟩
theorem ztt {op:yoj}{rd:V->V->Hp->VK->Prop}(ha:PE X o ta)(hv:PE X value tv)(hop:InOp X op rd):PS X (.AugAssign (.Attribute o f tpos) op value pos) (zoy X.K ta tv rd f):=by
 intro pins s σ H D I h;refine wpAny_AugAssign_AttributeAny (thn (ha pins s σ H _ I h) λov s1 ⟨x,H1,I1,rx,a,C,dx,fs,v,ex,ea,c,n,l,q⟩=>?_);subst ex;obtain rfl:ov=Value.ref a:=rx;refine zul I1 ea c n l λu s2 I2 ru=>thn (hv pins s2 σ H1 _ I2 q) λw3 s3 ⟨y,H2,I3,ry,q3⟩=>thn (hop pins s3 σ H2 v y u w3 _ I3 ru ry q3) λw4 s4 ⟨z,H3,I4,rz,dx',fs',ea',l',q4⟩=>?_;exact zml I4 ea' c n l' rz λs5 I5=>⟨σ,_,I5,q4⟩
def rAdd:V->V->Hp->VK->Prop:=λx y H Q=>Ex2 λi j=>x = .int i∧y = .int j∧Q (.int (i+j)) H
theorem zacb:InOp X .Add rAdd:=by
 rintro pins s σ H x y u v Q I rx ry ⟨i,j,rfl,rfl,q⟩;obtain⟨t,rfl⟩:=(show ∃t,u=Value.int i t from rx);obtain⟨t',rfl⟩:=(show ∃t',v=Value.int j t' from ry);exact PyProof.Rows.iadd_int ⟨.int (i+j),H,I.tok _,⟨_,rfl⟩,q⟩
end
section
variable {X:Cx}{pins:List (Addr×Obj)}{σ:St}{H:Hp}{s:Shared}{A:Around}{E:Value->Shared->Prop}{Q:Value->Shared->Prop}{c:Value}{b:Bool}
inductive TyOf (K:yaa)(H:Hp):V->Value->Prop where
 | non:TyOf K H .non (.type "NoneType")
 | bl (x:Bool):TyOf K H (.bl x) (.type "bool")
 | int (i:Int):TyOf K H (.int i) (.type "int")
 | str (x:Str):TyOf K H (.str x) (.type "str")
 | flt (x:UInt64):TyOf K H (.flt x) (.type "float")
 | lst {a:Addr} {xs:List V} (e:H a=some (.lst xs)):TyOf K H (.ref a) (.type "list")
 | frz {a:Addr} {o:Obj} {xs:List V} (e:H a=some (.frz o (.lst xs))):TyOf K H (.ref a) (.type "list")
 | tup {a:Addr} {xs:List V} (e:H a=some (.tup xs)):TyOf K H (.ref a) (.type "tuple")
 | dK {a:Addr} {kvs:List (Key×V)} (e:H a=some (.dK kvs)):TyOf K H (.ref a) (.type "dict")
 | dT {a:Addr} {kvs:List (List Key×V)} (e:H a=some (.dT kvs)):TyOf K H (.ref a) (.type "dict")
 | ins {a C dx:Addr} {fs:List (Str×V)} (e:H a=some (.ins C dx fs)) (cl:Cls K C) (ha:yna K (.ref C) "__class__" = some (some (.builtin "object.__class__")))
   (hn:yjg K (.builtin "object.__class__") "__get__" = some (some (.builtin "getset_descriptor.__get__"))) (htk:yqj K (.builtin "object.__class__")=some true)
   (hm:yyj K C (.type "object")=some true):TyOf K H (.ref a) (.ref C)
theorem zuo {x:V}{u t:Value}(I:Inv X pins σ H s)(rx:RelV x u)(ty:TyOf X.K H x t)(e:ypa X.K t c=some b)(h:∀tk,Q (.bool b) { s with toks:=tk }) :
  wpAny (model X.prog X.w) A (call (.builtin "isinstance") [u,c]) Q E s:=by
 cases ty with
 | non=>cases (show u=Value.none from rx);exact yvb PySem.W.kitx_none I.kIn True.intro e (λz=>nomatch z) h
 | bl y=>cases (show u=Value.bool y from rx);exact yvb PySem.W.kitx_bool I.kIn True.intro e (λz=>nomatch z) h
 | int i=>obtain⟨t,q⟩:=(show ∃t,u=Value.int i t from rx);cases q;exact yvb PySem.W.kitx_int I.kIn True.intro e (λz=>nomatch z) h
 | str y=>obtain⟨t,q⟩:=(show ∃t,u=Value.str y t from rx);cases q;exact yvb PySem.W.kitx_str I.kIn True.intro e (λz=>nomatch z) h
 | flt y=>obtain⟨t,q⟩:=(show ∃t,u=Value.float y t from rx);cases q;exact yvb PySem.W.kitx_float I.kIn True.intro e (λz=>nomatch z) h
 | @lst a xs ea =>
  cases (show u=Value.ref a from rx);obtain⟨_,_,n,_,h1⟩:=(show zwe X.prog X.w H s.heap a (.lst xs) from I.hok a _ ea);exact yvb yri I.kIn ⟨_,h1,rfl⟩ e (λz=>nomatch z) h
 | @frz a ob xs ea =>
  cases (show u=Value.ref a from rx);obtain⟨_,_,_,n,_,h1⟩:=(show zwe X.prog X.w H s.heap a (.frz ob (.lst xs)) from I.hok a _ ea);exact yvb yri I.kIn ⟨_,h1,rfl⟩ e (λz=>nomatch z) h
 | @tup a xs ea =>
  cases (show u=Value.ref a from rx);obtain⟨_,_,_,p⟩:=(show zwe X.prog X.w H s.heap a (.tup xs) from I.hok a _ ea);obtain⟨o,h1,h2,_⟩:=p;exact yvb PySem.W.kitx_tuple I.kIn ⟨o,h1,h2⟩ e (λz=>nomatch z) h
 | @dK a kvs ea =>
  cases (show u=Value.ref a from rx);obtain⟨_,_,vs,_,p⟩:=(show zwe X.prog X.w H s.heap a (.dK kvs) from I.hok a _ ea);obtain⟨o,es,ep,h1,h2,_⟩:=p;exact yvb ysi I.kIn ⟨o,h1,h2.1⟩ e (λz=>nomatch z) h
 | @dT a kvs ea =>
  cases (show u=Value.ref a from rx);obtain⟨_,_,xs,_,o,es,ep,h1,h2,_⟩:=(show zwe X.prog X.w H s.heap a (.dT kvs) from I.hok a _ ea);exact yvb ysi I.kIn ⟨o,h1,h2.1⟩ e (λz=>nomatch z) h
 | @ins a C dx fs ea cl ha hn htk hm =>
  cases (show u=Value.ref a from rx);obtain⟨mA,O,_⟩:=zan I.hok ea;obtain⟨od,J,_⟩:=O.look;exact yvb (PySem.W.kitx_own (cl.get _) cl.hd ha hn htk hm) I.kIn J e (λz=>nomatch z) h
end
end L2
namespace L2
open PySem PySem.Spec PyProof.Rows
structure Room (k:Nat)(A:Around):Prop where
 hd:A.handled=none
 dp:A.depth+3*k+5<recursionLimit
 un:A.units+16*k+200<cLine
theorem Room.mono {j k:Nat}{A:Around}(r:Room k A)(h:j≤k):Room j A:=⟨r.hd,by have:=r.dp;omega,by have:=r.un;omega⟩
theorem Room.deeper {k:Nat}{A:Around}(r:Room (k+1) A)(env:Env):Room k (A.deeper env) :=
 ⟨r.hd,by have:=r.dp;show A.depth+1+3*k+5<_;omega,by have:=r.un;show A.units+3+16*k+200<_;omega⟩
theorem zms {A:Around}{C:Addr}{us:List Value}{kw:List (Str×Value)}:(A.under (.builtin "type.__call__" ⟨.ref C::us,kw⟩)).depth=A.depth+1:=by
 first|rfl|simp[yfj,Code.weight,Code.isCreation,Code.isGuard,Code.isCaller,Code.frames,ygj,guardIds]
theorem zls {A:Around}{C:Addr}{us:List Value}{kw:List (Str×Value)}:(A.under (.builtin "type.__call__" ⟨.ref C::us,kw⟩)).units=A.units+1:=by
 first|rfl|simp[yfj,Code.cUnits,Code.frames,ygj]
theorem Room.make {k:Nat}{A:Around}(r:Room (k+1) A)(C:Addr)(us:List Value)(kw:List (Str×Value)):Room k (A.under (.builtin "type.__call__" ⟨.ref C::us,kw⟩)) :=
 ⟨r.hd,by have:=r.dp;rw[zms];omega,by have:=r.un;rw[zls];omega⟩
theorem Room.depth {k:Nat}{A:Around}(r:Room k A):A.depth<recursionLimit:=by have:=r.dp;omega
theorem Room.units {k:Nat}{A:Around}(r:Room k A):A.units+64<cLine:=by have:=r.un;omega
def tNil:TA:=λ_ H Q=>Q [] H
def zxcb (ta:TE)(tr:TA):TA:=fun σ H Q=>ta σ H λx H1=>tr σ H1 λxs H2=>Q (x::xs) H2
section
variable {X:Cx}{e:Expr}{es:List Expr}{te:TE}{t:TA}{pos:Pos}
theorem zca:PA X [] tNil:=λ_ _ _ _ H Q I h=>yti ⟨[],H,I,.nil,h⟩
theorem zaa (ha:PE X e te)(hr:PA X es t)(hs:yac (e::es) X.env=(false,eval e X.env)::yac es X.env:=by rfl):PA X (e::es) (zxcb te t):=by
 intro pos pins s σ H Q I h;rw[hs];show wpAny _ _ (spliced ((false,eval e X.env)::backTo pos (yac es X.env))) _ _ s
 refine yii (thn (ha pins s σ H _ I h) λu s1 ⟨x,H1,I1,r1,q1⟩=>?_);exact thn (hr pos pins s1 σ H1 _ I1 q1) λus s2 ⟨xs,H2,I2,r2,q2⟩=>⟨x::xs,H2,I2,.cons r1 r2,q2⟩
def tTup (t:TA):TE:=fun σ H Q=>t σ H λxs H1=>xs.length≤yfa∧∀p,H1 p=none->Q (.ref p) (upd H1 p (.tup xs))
def tLst (t:TA):TE:=fun σ H Q=>t σ H λxs H1=>xs.length≤yfa∧∀p,H1 p=none->Q (.ref p) (upd H1 p (.lst xs))
theorem zlf {x1}(h:PA X es t):PE X (.Tuple es x1 pos) (tTup t):=by
 intro pins s σ H Q I hq;refine wpAny_Tuple_spliced (thn (h pos pins s σ H _ I hq) λus s1 ⟨xs,H1,I1,r,z,q⟩=>⟨by rw[← r.length];exact z,?_⟩);have hf:H1 s1.heap.objs.size=none:=I1.hok.fresh (ywa _);refine⟨.ref s1.heap.objs.size,upd H1 s1.heap.objs.size (.tup xs),I1.laid (t':=s1.toks) (λb u e=>yha _ e) (ywa _) ?_,rfl,q _ hf⟩;exact⟨z,us,r,⟨_,ycb _ rfl,rfl,_,rfl⟩⟩
theorem zob (h:PA X es t):PE X (.List es pos) (tLst t):=by
 intro pins s σ H Q I hq;refine wpAny_List_spliced (thn (h pos pins s σ H _ I hq) λus s1 ⟨xs,H1,I1,r,z,q⟩=>⟨by rw[← r.length];exact z,?_⟩);have hf:H1 s1.heap.objs.size=none:=I1.hok.fresh (ywa _);refine⟨.ref s1.heap.objs.size,upd H1 s1.heap.objs.size (.lst xs),I1.laid (t':=s1.toks) (λb u e=>yha _ e) (ywa _) ?_,rfl,q _ hf⟩;exact⟨z,us,0,r,ycb _ rfl⟩
end
abbrev Sp:=List V->Hp->VK->XK->Prop
abbrev CXT:=List Env->Hp->Shared->XK->Value->Shared->Prop
structure Env0 (P:yya)(w:World)(K:yaa)(mg:Str->Option Value)(base:Heap)(A:Around)(outer:List Env)(s:Shared)(H:Hp):Prop where
 frames:A.frames=some outer
 mod:Mod K mg base
 bs:∀b o,base.get? b=some o->s.heap.get? b=some o∧H b=none
 bsz:base.objs.size≤s.heap.objs.size
 funs:s.heap.FunFrames base outer
 frf:∀b∈frs outer,H b=none
 hok:HOk P w H s.heap
 bare:ypg s.gens
def CE (outer:List Env)(P:yya)(w:World)(H:Hp)(s:Shared)(Q:VK)(u:Value)(s':Shared):Prop :=
 Ex2 λv H'=>s'.os=s.os∧ypg s'.gens∧Un (frs outer) [] H H' s.heap s'.heap∧HOk P w H' s'.heap∧RelV v u∧Q v H'
def CR (CX:CXT)(outer:List Env)(P:yya)(w:World)(H:Hp)(s:Shared)(Q:VK)(E:XK)(r:Result)(s':Shared):Prop :=
 match r with
 | .ok (.ret u)=>CE outer P w H s Q u s'
 | .ok _=>False
 | .error e=>CX outer H s E e s'
structure FnOk (P:yya)(w:World)(K:yaa)(mg:Str->Option Value)(base:Heap)(CX:CXT)(k:Nat)(f:Addr)(fd:yuc)(ps:List Str)(sp:Sp):Prop where
 len:∀vs H Q E,sp vs H Q E->vs.length=ps.length
 run:∀(A:Around) (outer:List Env) (s:Shared) (H:Hp) (args:Args) (us:List Value) (vs:List V) (Q:VK) (E:XK),Room k A->Env0 P w K mg base A outer s H->yui s fd args (ps.zip us)->Vals vs us->sp vs H Q E →
  ybg (model P w) A (.call (.ref f) args) (CR CX outer P w H s Q E) s
theorem FnOk.mono {P:yya}{w:World}{K:yaa}{mg:Str->Option Value}{base:Heap}{CX:CXT}{j k:Nat}{f:Addr}{fd:yuc}{ps:List Str}{sp:Sp}(F:FnOk P w K mg base CX j f fd ps sp)(h:j≤k) :
  FnOk P w K mg base CX k f fd ps sp:=⟨F.len,λA outer s H args us vs Q E hr=>F.run A outer s H args us vs Q E (hr.mono h)⟩
theorem Env0.make {P:yya}{w:World}{K:yaa}{mg:Str->Option Value}{base:Heap}{A:Around}{outer:List Env}{s:Shared}{H:Hp}(e:Env0 P w K mg base A outer s H)(C:Addr)(us:List Value)(kw:List (Str×Value)) :
  Env0 P w K mg base (A.under (.builtin "type.__call__" ⟨.ref C::us,kw⟩)) outer s H:=⟨by first|exact e.frames|(simpa [yfj,Code.envs,ygj,pushEnvs] using e.frames),e.mod,e.bs,e.bsz,e.funs,e.frf,e.hok,e.bare⟩
section
variable {X:Cx}{pins:List (Addr×Obj)}{σ:St}{H:Hp}{s s':Shared}
theorem Inv.env0 (I:Inv X pins σ H s):Env0 X.prog X.w X.K X.mg X.base X.A X.stack s H :=
 ⟨I.ok.frames,I.ok.mod,I.bs,yab I.ok.bsz I.sz,I.stack,I.zsp,I.hok,I.bare⟩
theorem Inv.after {Q:VK}{u:Value}(I:Inv X pins σ H s)(h:CE X.stack X.prog X.w H s Q u s'):EP X pins σ Q u s':=by
 obtain⟨v,H',os,bare,un,hok,r,q⟩:=h;obtain⟨hh,g,d,t,os'⟩:=s';obtain rfl:os'=s.os:=os;exact⟨v,H',I.call (h':=hh) (g':=g) (d':=d) (t':=t) (ch:=[]) un hok bare (λb z=>absurd z (by simp)),r,q⟩
end
def zycb (sp:Sp)(dvs:List V)(E:XK)(t:TA):TE:=fun σ H Q=>t σ H λvs H1=>sp (vs++dvs) H1 Q E
def zucb (C:Addr)(m:Str)(sp:Sp)(dvs:List V)(E:XK)(ta:TE)(t:TA):TE:=fun σ H Q=>ta σ H λx H1=>Ex3 λa dx fs=>x = .ref a∧H1 a=some (.ins C dx fs)∧fs.lookup m=none ∧
 t σ H1 λvs H2=>sp (x::(vs++dvs)) H2 Q E
def zvcb (C:Addr)(sp:Sp)(dvs:List V)(E:XK)(t:TA):TE:=fun σ H Q=>t σ H λvs H1=>∀x dx,H1 x=none->H1 dx=none->dx≠x →
 sp (.ref x::(vs++dvs)) (upd (upd H1 dx (.own x)) x (.ins C dx [])) (λv H2=>v = .non∧Q (.ref x) H2) E
def Binds (K:yaa)(fd:yuc)(ps:List Str)(ds:List Value):Prop :=
 ∀(s:Shared) (us:List Value),K.In s.heap->(us++ds).length=ps.length->yui s fd ⟨us,[]⟩ (ps.zip (us++ds))
theorem Binds.all {K:yaa}{fd:yuc}{ps:List Str}(h:∀us:List Value,us.length=ps.length->bindArgs fd ⟨us,[]⟩=pure (ps.zip us)):Binds K fd ps []:=λs us _ hl=>by
 rw[ynf] at hl ⊢;exact .of_eq (h us hl)
def Passes (CX:CXT)(X:Cx)(E:XK):Prop:=∀(pins:List (Addr×Obj)) (σ:St) (H:Hp) (s:Shared) (e:Value) (s':Shared),Inv X pins σ H s->CX X.stack H s E e s'->X.xe e s'
section
variable {X:Cx}{CX:CXT}{k:Nat}{f C:Addr}{fd:yuc}{ps:List Str}{sp:Sp}{dvs:List V}{ds:List Value}{E:XK}{x m:Str}{p pos apos:Pos}{e o:Expr}{es:List Expr}{ta:TE}{t:TA}
theorem zix {pins:List (Addr×Obj)}{σ:St}{H:Hp}{s:Shared}{Q:VK}{us:List Value}{vs:List V}(F:FnOk X.prog X.w X.K X.mg X.base CX k f fd ps sp)(hr:Room k X.A)(hb:Binds X.K fd ps ds)(hd:Vals dvs ds)(hx:Passes CX X E)
  (I:Inv X pins σ H s) (r:Vals vs us) (h:sp (vs++dvs) H Q E):wpAny (model X.prog X.w) X.A (call (.ref f) us) (EP X pins σ Q) X.xe s:=by
 have r2:Vals (vs++dvs) (us++ds):=r.append hd;have hl:(us++ds).length=ps.length:=by rw[← r2.length];exact F.len _ _ _ _ h
 refine wpAny_call (yjh (F.run X.A X.stack s H ⟨us,[]⟩ (us++ds) (vs++dvs) Q E hr I.env0 (hb s us I.kIn hl) r2 h) λr s' hq=>?_);cases r with
 | error e=>exact hx pins σ H s e s' I hq
 | ok fl =>
  cases fl with
  | ret u=>exact I.after hq
  | next=>exact ytc hq
  | brk=>exact ytc hq
  | cont=>exact ytc hq
theorem zpa (F:FnOk X.prog X.w X.K X.mg X.base CX k f fd ps sp)(hr:Room k X.A)(hg:Gl X x)(hm:X.mg x=some (.ref f))(hk:yxc X.K (.ref f)=true)(hb:Binds X.K fd ps ds)(hd:Vals dvs ds)(hx:Passes CX X E)
  (ha:PA X (e::es) t) (hdb:(x==("__debug__":Str))=false:=by decide) (he:yac (e::es) X.env=(false,eval e X.env)::yac es X.env:=by rfl) (hpl:(backTo pos (yac es X.env)).any (·.1)=false:=by rfl) :
  PE X (.Call (.Name x p) (e::es) [] pos) (zycb sp dvs E t):=by
 intro pins s σ H Q I h;refine ype (zik I hg hm ?_ hdb);refine yji (h₀:=X.base) I.ok.mod.kin hk (thn (ha pos pins s σ H _ I h) λus s1 ⟨vs,H1,I1,r,q⟩=>⟨I1.kIn,?_⟩) he hpl;exact zix F hr hb hd hx I1 r q
theorem zxd {pl:Sem Bool}(he:PE X o ta)(c:Cls X.K C)(hm:Meth X.K C m f)(F:FnOk X.prog X.w X.K X.mg X.base CX k f fd ps sp)(hr:Room k X.A)(hb:Binds X.K fd ps ds)(hd:Vals dvs ds)(hx:Passes CX X E)
  (ht:eval (.Call (.Attribute o m apos) [] [] pos) X.env=(do
   let ov ← eval o X.env
   standAt apos.atName
   let (f,first) ← holding [ov] (getMethod ov m pl)
   callWith pos f first (backTo pos (yac [] X.env)) (backToKw pos (ybi [] X.env))):=by rfl) :
  PE X (.Call (.Attribute o m apos) [] [] pos) (zucb C m sp dvs E ta tNil):=by
 intro pins s σ H Q I h;refine PySem.W.methodCall_KW (pl:=pl) (thn (he pins s σ H _ I h) λu s1 ⟨x,H1,I1,rx,a,dx,fs,ex,ea,l,q⟩=>?_) ht;subst ex;obtain rfl:u=Value.ref a:=rx;refine zps I1 ea c hm l ?_;exact PySem.W.callWith_K0 (first:=[.ref a]) I1.kIn hm.kp (zix (us:=[.ref a]) (vs:=[.ref a]) F hr hb hd hx I1 (.cons rfl .nil) q)
structure Mk (K:yaa)(C f:Addr):Prop where
 makes:yih K C=true
 init:yna K (.ref C) "__init__" = some (some (.ref f))
 fn:yxf K (.ref f)=true
 kp:yxc K (.ref C)=true
theorem zaw {pins:List (Addr×Obj)}{σ:St}{H:Hp}{s:Shared}{Q:VK}{us:List Value}{vs:List V}(M:Mk X.K C f)(F:FnOk X.prog X.w X.K X.mg X.base CX k f fd ps sp)(hr:Room (k+1) X.A)(hb:Binds X.K fd ps ds)(hd:Vals dvs ds)
  (hx:Passes CX X E) (I:Inv X pins σ H s) (r:Vals vs us)
  (h:∀x dx,H x=none->H dx=none->dx≠x->sp (.ref x::(vs++dvs)) (upd (upd H dx (.own x)) x (.ins C dx [])) (λv H2=>v = .non∧Q (.ref x) H2) E) :
  wpAny (model X.prog X.w) X.A (call (.ref C) us) (EP X pins σ Q) X.xe s:=by
 have hq:=h (s.heap.objs.size+1) s.heap.objs.size (I.hok.fresh (Nat.le_succ _)) (I.hok.fresh (ywa _)) (yfb (yzg _));have I2:=Inv.made (C:=C) I;have r2:Vals (V.ref (s.heap.objs.size+1)::(vs++dvs)) (Value.ref (s.heap.objs.size+1)::(us++ds)):=.cons rfl (r.append hd);have hl:(Value.ref (s.heap.objs.size+1)::us++ds).length=ps.length:=by
  have e:=r2.length;rw[F.len _ _ _ _ hq] at e;exact e.symm
 refine wpAny_call (zqw (f:=f) I.kIn M.makes M.init (beq_iff_eq.mp M.fn) (yjh (F.run _ X.stack _ _ ⟨Value.ref (s.heap.objs.size+1)::us,[]⟩ (Value.ref (s.heap.objs.size+1)::(us++ds)) _ _ E (hr.make C us [])
  (I2.env0.make C us []) (hb _ (Value.ref (s.heap.objs.size+1)::us) I2.kIn hl) r2 hq) λr s' hq'=>?_))
 cases r with
 | error e=>exact hx pins σ _ _ e s' I2 hq'
 | ok fl =>
  cases fl with
  | ret u =>
   obtain⟨v,H',I3,rv,ev,q3⟩:=I2.after hq';subst ev;exact⟨rv,⟨V.ref (s.heap.objs.size+1),H',I3,rfl,q3⟩⟩
  | next=>exact ytc hq'
  | brk=>exact ytc hq'
  | cont=>exact ytc hq'
theorem zzt (M:Mk X.K C f)(F:FnOk X.prog X.w X.K X.mg X.base CX k f fd ps sp)(hr:Room (k+1) X.A)(hg:Gl X x)(hm:X.mg x=some (.ref C))(hb:Binds X.K fd ps ds)(hd:Vals dvs ds)(hx:Passes CX X E)
  (ha:PA X (e::es) t) (hdb:(x==("__debug__":Str))=false:=by decide) (he:yac (e::es) X.env=(false,eval e X.env)::yac es X.env:=by rfl) (hpl:(backTo pos (yac es X.env)).any (·.1)=false:=by rfl) :
  PE X (.Call (.Name x p) (e::es) [] pos) (zvcb C sp dvs E t):=by
 intro pins s σ H Q I h;refine ype (zik I hg hm ?_ hdb);refine yji (h₀:=X.base) I.ok.mod.kin M.kp (thn (ha pos pins s σ H _ I h) λus s1 ⟨vs,H1,I1,r,q⟩=>⟨I1.kIn,?_⟩) he hpl;exact zaw M F hr hb hd hx I1 r q
end
section
variable {X:Cx}{CX:CXT}{k:Nat}{f C:Addr}{fd:yuc}{ps ks:List Str}{sp:Sp}{E:XK}{x m:Str}{p pos apos kpos:Pos}{e o:Expr}{es:List Expr}{kws:List yvi}{te ta:TE}{t tk:TA}{nm:Option Str}
structure zpdb (K:yaa)(fd:yuc)(ps ks:List Str)(g:List Value->List Value->List Value)(gV:List V->List V->List V):Prop where
 to:∀(s:Shared) (us ws:List Value),K.In s.heap->(g us ws).length=ps.length->yui s fd ⟨us,ks.zip ws⟩ (ps.zip (g us ws))
 rel:∀{vs:List V} {us:List Value} {zs:List V} {ws:List Value},Vals vs us->Vals zs ws->Vals (gV vs zs) (g us ws)
variable {g:List Value->List Value->List Value}{gV:List V->List V->List V}
end
structure zxa (N P:List Str)(sc:Scope):Prop where
 kind:sc.kind = .function
 co:sc.isCoroutine=false
 gen:sc.isGenerator=false
 nd:N.Nodup
 pre:N.take P.length=P
 par:∀x∈P,sc.names.lookup x=some .local∨sc.names.lookup x=some .cell
 nofree:∀y∈sc.names,y.2 ≠ .free
theorem zdp {kindOf:Str->Option yrb}{x:Str}:∀{binds:List (Str×Value)} {m:Str->Option Value},(∀v,(x,v)∉binds)->bindL kindOf binds m x=m x
 | [],_,_=>rfl
 | (n,v)::r,m,h=>by
  unfold bindL;rw[zdp λw hw=>h w (yea _ hw)]
  split
  ·have:x≠n:=by rintro rfl;exact h v yua
   simp[this]
  ·rfl
theorem zfp {kindOf:Str->Option yrb}{x:Str}:∀{binds:List (Str×Value)} {m:Str->Option Value},(∀v,(x,v)∉binds)->bindC kindOf binds m x=m x
 | [],_,_=>rfl
 | (n,v)::r,m,h=>by
  unfold bindC;rw[zfp λw hw=>h w (yea _ hw)]
  split
  ·rfl
  ·have:x≠n:=by rintro rfl;exact h v yua
   simp[this]
theorem zep {kindOf:Str->Option yrb}{x:Str}{v:Value}:∀{P:List Str} {vs:List Value} {i:Nat} {m:Str->Option Value},P.Nodup->P[i]?=some x->vs[i]?=some v->kindOf x=some .local →
  bindL kindOf (P.zip vs) m x=some v
 | [],_,_,_,_,h,_,_=>by simp at h
 | _::_,[],_,_,_,_,h,_=>by simp at h
 | p::P,w::vs,0,m,nd,h1,h2,hk=>by
  simp at h1 h2;subst h1;subst h2;show bindL kindOf ((p,w)::P.zip vs) m p=_
  unfold bindL;rw[zdp λv hv=>(yof.mp nd).1 (ykh hv).1,if_pos hk];simp
 | p::P,w::vs,i+1,m,nd,h1,h2,hk=>by
  show bindL kindOf ((p,w)::P.zip vs) m x=_
  unfold bindL;exact zep (i:=i) (yof.mp nd).2 (by simpa using h1) (by simpa using h2) hk
theorem zgp {kindOf:Str->Option yrb}{x:Str}{v:Value}:∀{P:List Str} {vs:List Value} {i:Nat} {m:Str->Option Value},P.Nodup->P[i]?=some x->vs[i]?=some v->kindOf x≠some .local →
  bindC kindOf (P.zip vs) m x=some v
 | [],_,_,_,_,h,_,_=>by simp at h
 | _::_,[],_,_,_,_,h,_=>by simp at h
 | p::P,w::vs,0,m,nd,h1,h2,hk=>by
  simp at h1 h2;subst h1;subst h2;show bindC kindOf ((p,w)::P.zip vs) m p=_
  unfold bindC;rw[zfp λv hv=>(yof.mp nd).1 (ykh hv).1,if_neg hk];simp
 | p::P,w::vs,i+1,m,nd,h1,h2,hk=>by
  show bindC kindOf ((p,w)::P.zip vs) m x=_
  unfold bindC;exact zgp (i:=i) (yof.mp nd).2 (by simpa using h1) (by simpa using h2) hk
def start (N:List Str)(vs:List V):St:=vs.map some++yoa (N.length-vs.length) none
def cxOf (CX:CXT)(P:yya)(w:World)(K:yaa)(mg:Str->Option Value)(base:Heap)(N:List Str)(qual:Str)(scope:Scope)(f:Addr)(cd:Value)(A:Around)(outer:List Env)(s:Shared)(H:Hp)(E:XK):Cx where
 prog:=P
 w:=w
 K:=K
 mg:=mg
 base:=base
 A:=A.deeper (envOfC qual scope s.heap.objs.size f cd)
 N:=N
 s₀:=s
 H₀:=H
 env:=envOfC qual scope s.heap.objs.size f cd
 outer:=outer
 stack:=envOfC qual scope s.heap.objs.size f cd::outer
 ex:=[]
 calm:=true
 fn:=λ_=>true
 pn:=[]
 xe:=λe s'=>wpAny (model P w) (A.deeper (envOfC qual scope s.heap.objs.size f cd)) (leaving (envOfC qual scope s.heap.objs.size f cd) e) (λ_ s''=>CX outer H s E e s'') (λe' s''=>CX outer H s E e' s'') s'
theorem zas {sc:Scope}{n:Nat}{x:Str}(h:sc.names.lookup x=some .cell):∃c,(cellsFrom n sc.names []).lookup x=some c:=by
 have q:=ybh sc.names n [] (.inl h);exact Option.isSome_iff_exists.mp q
theorem zou {CX:CXT}{P:yya}{w:World}{K:yaa}{mg:Str->Option Value}{base:Heap}{N ps:List Str}{qual:Str}{scope:Scope}{f:Addr}{cd:Value}{A:Around}{outer:List Env}{s s1:Shared}{H:Hp}{E:XK}{us:List Value}{vs:List V}
  (S:zxa N ps scope) (hd:A.handled=none) (e0:Env0 P w K mg base A outer s H) (hl:vs.length=ps.length) (r:Vals vs us)
  (x:InCallC s s.heap.objs.size (bindL (envOfC qual scope s.heap.objs.size f cd).kindOf (ps.zip us) λ_=>none) (cellsFrom (s.heap.objs.size+1) scope.names []) (bindC (envOfC qual scope s.heap.objs.size f cd).kindOf (ps.zip us) λ_=>none) s1) :
  Inv (cxOf CX P w K mg base N qual scope f cd A outer s H E) [] (start N vs) H s1:=by
 have hpl:ps.length≤N.length:=by have:=congrArg yvd S.pre;rw[yeb] at this;omega
 obtain⟨h1,tk,rfl,hk⟩:=x.done;have noA:∀b:Addr,b∉(cxOf CX P w K mg base N qual scope f cd A outer s H E).ex:=λb z=>absurd (show b∈([]:List Addr) from z) (by simp);refine⟨⟨e0.mod,S.kind,rfl,rfl,ywa _,λy z c h1 h2=>?_,λy hy=>?_,λy c _ h=>?_,λ_=>hd,Around.frames_deeper e0.frames,.inr ⟨rfl,rfl⟩,λb z=>absurd z (noA b),e0.bs,e0.bsz,λb _ _=>noA b,λb z=>absurd z (noA b),e0.funs,e0.frf⟩,
  rfl,e0.bare,Un.kept hk,⟨_,x.toInCall.ns,λi y v h1 h2 h3=>?_⟩,λy c h=>⟨_,x.cell y c h⟩,e0.hok.fresh (ywa _),λy c h=>?_,λp hp=>absurd (show p∈([]:List (Addr×Obj)) from hp) (by simp),e0.hok.kept hk,?_⟩
 ·exact name_of_addr x.apart (ymd h1) (ymd h2)
 ·have hy:scope.names.lookup y=some .cell∨scope.names.lookup y=some .free:=hy
  rcases hy with hy|hy
  ·exact zas hy
  ·exact absurd rfl (S.nofree _ (ymd hy))
 ·exact ygh (x.above y c (ymd h))
 ·have hi:i<vs.length:=by
   unfold start at h2
   by_cases hi:i<vs.length
   ·exact hi
   ·rw[ymc (by simpa using hi)] at h2;rw[ysg] at h2
    split at h2<;>cases h2
  have ha:vs[i]?=some v:=by
   unfold start at h2;rw[ycd (by simpa using hi),yce] at h2;cases e:vs[i]? with
   | none=>rw[e] at h2;cases h2
   | some a=>rw[e] at h2;cases h2;rfl
  obtain⟨u,hu,rv⟩:=r.get ha;have hp:ps[i]?=some y:=by
   rw[← S.pre,List.getElem?_take_of_lt (by omega)];exact h1
  have ndP:ps.Nodup:=by rw[← S.pre];exact S.nd.sublist (List.take_sublist _ _)
  refine⟨u,rv,?_⟩
  rcases S.par y (ygb hp) with k|k
  ·exact .inl ⟨k,zep ndP hp hu k⟩
  ·obtain⟨c,e⟩:=zas (n:=s.heap.objs.size+1) k;refine .inr ⟨.inl k,c,e,?_⟩;have q:=x.cell y c e;rw[zgp ndP hp hu (by show scope.names.lookup y≠_;rw[k];decide)] at q;exact q
 ·exact e0.hok.fresh (ygh (x.above y c (ymd h)))
 ·unfold start;show _=N.length
  rw[yca,yba,ykc];omega
theorem zccb {CX:CXT}{P:yya}{w:World}{K:yaa}{mg:Str->Option Value}{base:Heap}{k:Nat}{f:Addr}{name qual:Str}{params:Arguments}{body:List Stmt}{scope:Scope}{dV kV doc pm cdv ct oc:Value}{an od:Option Addr}
  {osl:Array (Option Value)} {N ps:List Str} {sp:Sp} (lk:K.lookup f=some ⟨oc,od,.func (ykd name qual params body scope dV kV doc pm an cdv ct),osl⟩) (hcd:yge K cdv qual=true) (S:zxa N ps scope)
  (len:∀vs H Q E,sp vs H Q E->vs.length=ps.length)
  (hbody:∀(A:Around) (outer:List Env) (s:Shared) (H:Hp) (vs:List V) (Q:VK) (E:XK),Room k (A.deeper (envOfC qual scope s.heap.objs.size f cdv))->sp vs H Q E →
   ∃t,PSs (cxOf CX P w K mg base N qual scope f cdv A outer s H E) body t∧t { nx:=λ_ H'=>Q .non H',rt:=Q } (start N vs) H) :
  FnOk P w K mg base CX (k+1) f (ykd name qual params body scope dV kV doc pm an cdv ct) ps sp:=by
 refine⟨len,λA outer s H args us vs Q E hr e0 hb r hsp=>?_⟩;have hl:=len _ _ _ _ hsp;have KX:K.In s.heap:=e0.mod.kin.keeps λb o e=>(e0.bs b o e).1;have lim:s.heap.NoLimit:=e0.mod.nolimit.keeps λb o e=>(e0.bs b o e).1;have hkind:∀y∈ps.zip us,scope.names.lookup y.1=some .local∨(scope.names.lookup y.1=some .cell∧((cellsFrom (s.heap.objs.size+1) scope.names []).lookup y.1).isSome=true):=λ⟨n,v⟩ hy=>by
  rcases S.par n (ykh hy).1 with q|q
  ·exact .inl q
  ·exact .inr ⟨q,ybh _ _ _ (.inl q)⟩
 refine codeAny_call_function hr.depth (KX _ _ lk) rfl S.co S.gen rfl (PySem.W.codeRec_of KX hcd) (hb _ _ _ _ ?_);refine wpAny_newFunctionEnv_cells S.kind hkind λenv he s1 x=>?_;subst he;refine⟨lim.keeps x.toInCall.keep,codeAny_func ?_⟩;obtain⟨t,ht,hq⟩:=hbody A outer s H vs Q E (hr.deeper _) hsp;have I:Inv (cxOf CX P w K mg base N qual scope f cdv A outer s H E) [] (start N vs) H s1:=zou S hr.hd e0 hl r x;refine yhc (ht [] s1 (start N vs) H _ I hq) (λfl s' hs=>?_) λe s' hs=>hs;have fin:∀{σ':St} {H':Hp} {v:V} {u:Value},Inv (cxOf CX P w K mg base N qual scope f cdv A outer s H E) [] σ' H' s'->RelV v u->Q v H'->CE outer P w H s Q u s' :=
  λ{σ' H' v u} J rv q=>⟨v,H',J.os,J.bare,J.base,J.hok,rv,q⟩
 cases fl with
 | ret u =>
  obtain⟨v,σ',H',J,rv,q⟩:=hs;exact fin J rv q
 | next =>
  obtain⟨σ',H',J,q⟩:=hs;exact fin (v:=V.non) (u:=Value.none) J rfl q
 | brk =>
  obtain⟨_,_,_,q⟩:=hs;exact ytc q
 | cont =>
  obtain⟨_,_,_,q⟩:=hs;exact ytc q
end L2
namespace L2
open PySem PySem.Spec PyProof.Rows
section
variable {X:Cx}{x:Str}{p pos:Pos}{e:Expr}{es:List Expr}{t:TA}{id T:String}{r:List V->Hp->VK->Prop}
def tCB (r:List V->Hp->VK->Prop)(t:TA):TE:=fun σ H Q=>t σ H λvs H1=>r vs H1 Q
theorem zua (hc:zci X (.builtin id) r)(hg:Gl X x)(hm:X.mg x=none)(hv:ytd x=some (.builtin id))(ha:PA X (e::es) t)(hn:x ≠ "__name__":=by decide)(hdb:(x==("__debug__":Str))=false:=by decide)
  (he:yac (e::es) X.env=(false,eval e X.env)::yac es X.env:=by rfl) (hpl:(backTo pos (yac es X.env)).any (·.1)=false:=by rfl):PE X (.Call (.Name x p) (e::es) [] pos) (tCB r t):=by
 intro pins s σ H Q I h;refine ype (zpo I hg hm hv ?_ hn hdb);exact PyProof.Rows.callWith_builtin1 (thn (ha pos pins s σ H _ I h) λus s1 ⟨vs,H1,I1,r1,q1⟩=>hc pins s1 σ H1 vs us Q I1 r1 q1) he hpl
theorem zah (hc:zci X (.type T) r)(hg:Gl X x)(hm:X.mg x=none)(hv:ytd x=some (.type T))(ha:PA X (e::es) t)(hn:x ≠ "__name__":=by decide)(hdb:(x==("__debug__":Str))=false:=by decide)
  (he:yac (e::es) X.env=(false,eval e X.env)::yac es X.env:=by rfl) (hpl:(backTo pos (yac es X.env)).any (·.1)=false:=by rfl):PE X (.Call (.Name x p) (e::es) [] pos) (tCB r t):=by
 intro pins s σ H Q I h;refine ype (zpo I hg hm hv ?_ hn hdb);exact yud (thn (ha pos pins s σ H _ I h) λus s1 ⟨vs,H1,I1,r1,q1⟩=>hc pins s1 σ H1 vs us Q I1 r1 q1) he hpl
end
end L2
namespace HT
open PySem PyProof.Rows
section
open PySem.SeqAt
open PySem.AutoSeq1 (wpAny_loadPart')
open PySem.MeetsSeq PySem.MeetsSeq2 PySem.MeetsSeq3
end
section
variable {prog:yya}{w:World}{A:Around}{E:Value->Shared->Prop}{s:Shared}
def sIx (n d:Nat):Option Int->Nat
 | none=>d
 | some v=>if v<0 then (v+(n:Int)).toNat else min v.toNat n
theorem zlr (n d:Nat):sIx n d none=d:=rfl
theorem zot (n d k:Nat):sIx n d (some (k:Int))=min k n:=by
 show (if (k:Int)<0 then ((k:Int)+(n:Int)).toNat else min (k:Int).toNat n)=min k n
 rw[if_neg (by omega),ywi]
end
end HT
namespace L2
open PySem PySem.Spec PyProof.Rows
abbrev TO:=St->Hp->(Option Int->Hp->Prop)->Prop
def PO (X:Cx)(e:Option Expr)(t:TO):Prop :=
 ∀(pins:List (Addr×Obj)) (s:Shared) (σ:St) (H:Hp) (Q:Option Int->Hp->Prop),Inv X pins σ H s->t σ H Q →
  wpAny (model X.prog X.w) X.A (evalPart e X.env) (λu s'=>Ex2 λo H'=>Inv X pins σ H' s'∧IsPart u o∧Q o H') X.xe s
def zay:TO:=λ_ H Q=>Q none H
def ztcb (t:TE):TO:=fun σ H Q=>t σ H λx H1=>∃i,x = .int i∧Q (some i) H1
section
variable {X:Cx}{e:Expr}{te:TE}{lo hi:Option Expr}{tl th:TO}{pos p2:Pos}
theorem zxb:PO X none zay:=by
 intro pins s σ H Q I h;rw[evalPart_none];exact yic ⟨none,H,I,.none,h⟩
theorem zwb (h:PE X e te):PO X (some e) (ztcb te):=by
 intro pins s σ H Q I hw;rw[evalPart_some];refine thn (h pins s σ H _ I hw) λu s1 ⟨x,H1,I1,r1,q1⟩=>?_;obtain⟨i,rfl,q⟩:=q1;obtain⟨t,rfl⟩:=r1;exact⟨some i,H1,I1,.int i t,q⟩
def SlR (X:Cx)(r:V->Option Int->Option Int->Hp->VK->Prop):Prop :=
 ∀(pins:List (Addr×Obj)) (s:Shared) (σ:St) (H:Hp) (x:V) (v vl vu:Value) (lo hi:Option Int) (sl:Addr) (Q:VK),Inv X pins σ H s->RelV x v->s.heap.IsSliceOf sl vl vu .none->IsPart vl lo->IsPart vu hi->r x lo hi H Q →
  Ex2 λT id=>typeLookup (.type T) "__getitem__" = pure (some (.builtin id))∧s.TypeIs v T∧wpAny (model X.prog X.w) X.A (getItem v (.ref sl)) (EP X pins σ Q) X.xe s
def tSl (r:V->Option Int->Option Int->Hp->VK->Prop)(te:TE)(tl th:TO):TE:=fun σ H Q=>te σ H λx H1=>tl σ H1 λl H2=>th σ H2 λu H3=>r x l u H3 Q
theorem zgb {r:V->Option Int->Option Int->Hp->VK->Prop}(hr:SlR X r)(he:PE X e te)(hl:PO X lo tl)(hu:PO X hi th):PE X (.Subscript e (.Slice lo hi none p2) pos) (tSl r te tl th):=by
 intro pins s σ H Q I h;refine Subscript_ (thn (he pins s σ H _ I h) λv s1 ⟨x,H1,I1,r1,q1⟩=>?_);refine wpAny_Slice (thn (hl pins s1 σ H1 _ I1 q1) λvl s2 ⟨l,H2,I2,pl,q2⟩=>thn (hu pins s2 σ H2 _ I2 q2) λvu s3 ⟨u,H3,I3,pu,q3⟩=>?_);rw[evalPart_none];refine yic ?_;have I4:Inv X pins σ H3 { s3 with heap:=s3.heap.push { cls:=.type "slice",data:=.fields #[vl,vu,.none] } }:=I3.kept (t':=s3.toks) λb ob q=>yha _ q;obtain⟨T,id,hT,ht,hg⟩:=hr pins { s3 with heap:=s3.heap.push { cls:=.type "slice",data:=.fields #[vl,vu,.none] } } σ H3 x v vl vu l u s3.heap.objs.size Q I4 r1 (Heap.IsSliceOf.new ..) pl pu q3;show wpAny (model X.prog X.w) X.A (subscriptTail e (.Slice lo hi none p2) v (.ref s3.heap.objs.size)) (EP X pins σ Q) X.xe { s3 with heap:=s3.heap.push { cls:=.type "slice",data:=.fields #[vl,vu,.none] } }
 exact tail_any (ops:=[.ref s3.heap.objs.size,v]) ht hT hg (by with_unfolding_all rfl)
def cutV (xs:List V)(lo hi:Option Int):List V:=(xs.drop (HT.sIx xs.length 0 lo)).take (HT.sIx xs.length xs.length hi-HT.sIx xs.length 0 lo)
theorem zkq (xs:List V)(lo hi:Option Int):(cutV xs lo hi).length≤xs.length:=by
 unfold cutV;rw[yeb,ywb];omega
end
end L2
namespace L2
open PySem PySem.Spec PyProof.Rows
def ixN (n:Nat)(i:Int):Option Nat:=if 0≤i then (if i<n then some i.toNat else none) else if -(n:Int)≤i then some (i+n).toNat else none
def atI {α:Type}(xs:List α)(i:Int):Option α:=(ixN xs.length i).bind λj=>xs[j]?
theorem zlu {n:Nat}{i:Int}{j:Nat}(h:ixN n i=some j):seqIndex? i n=some j∧j<n ∧ -(n:Int)≤i∧i<n:=by
 unfold ixN at h
 by_cases h0:0≤i
 ·rw[if_pos h0] at h
  by_cases h1:i<n
  ·rw[if_pos h1] at h;have e:i.toNat=j:=yva h;exact⟨by rw[seqIndex_of h0 h1,e],by omega,by omega,h1⟩
  ·rw[if_neg h1] at h;cases h
 ·rw[if_neg h0] at h
  by_cases h1:-(n:Int)≤i
  ·rw[if_pos h1] at h;have e:(i+n).toNat=j:=yva h;exact⟨by rw[seqIndex_neg (by omega) h1,e],by omega,h1,by omega⟩
  ·rw[if_neg h1] at h;cases h
theorem zrq {α:Type}{xs:List α}{i:Int}{v:α}(h:atI xs i=some v):∃j,seqIndex? i xs.length=some j∧xs[j]?=some v∧j<xs.length ∧ -(xs.length:Int)≤i∧i<xs.length:=by
 unfold atI at h;cases e:ixN xs.length i with
 | none=>rw[e] at h;cases h
 | some j =>
  rw[e] at h;obtain⟨h1,h2,h3,h4⟩:=zlu e;exact⟨j,h1,h,h2,h3,h4⟩
theorem zin {α:Type}{xs:List α}{j:Nat}{v:α}(h:xs[j]?=some v):atI xs (j:Int)=some v:=by
 have hj:j<xs.length:=(ydb.mp h).1;have e:ixN xs.length (j:Int)=some j:=by
  unfold ixN;rw[if_pos (by omega),if_pos (by omega)];simp
 unfold atI;rw[e];exact h
def zvz (b:Expr):Prop:=∀o i,subscripted b false o i=operate [o,i] (getItem o i)
def IxR (X:Cx)(r:R2):Prop :=
 ∀(value slice:Expr) (pins:List (Addr×Obj)) (s:Shared) (σ:St) (H:Hp) (x y:V) (v u:Value) (Q:VK),Inv X pins σ H s->RelV x v->RelV y u->r x y H Q →
  subscripted slice false v u=operate [v,u] (getItem v u)->wpAny (model X.prog X.w) X.A (subscriptTail value slice v u) (EP X pins σ Q) X.xe s
def MtR (X:Cx)(id:String)(r:V->List V->Hp->VK->Prop):Prop :=
 ∀(pins:List (Addr×Obj)) (s:Shared) (σ:St) (H:Hp) (x:V) (xs:List V) (v:Value) (us:List Value) (Q:VK),Inv X pins σ H s->RelV x v->Vals xs us->r x xs H Q →
  wpAny (model X.prog X.w) X.A (call (.builtin id) (v::us)) (EP X pins σ Q) X.xe s
section
variable {X:Cx}{a b:Expr}{ta tb:TE}{pos:Pos}
theorem zed {r:R2}(hr:IxR X r)(ha:PE X a ta)(hb:PE X b tb)(hs:zvz b):PE X (.Subscript a b pos) (tOp r ta tb):=by
 intro pins s σ H Q I h;exact Subscript_ (binT ha hb I h λv u s2 x y H2 I2 rx ry q=>hr a b pins s2 σ H2 x y v u Q I2 rx ry q (hs _ _))
def rIxL (K:yaa):R2:=λx y H Q=>Ex4 λp xs i v=>x = .ref p∧y = .int i∧SqL K H p xs∧atI xs i=some v∧Q v H
def rIxT (K:yaa):R2:=λx y H Q=>Ex4 λp xs i v=>x = .ref p∧y = .int i∧SqT K H p xs∧atI xs i=some v∧Q v H
def rIxS:R2:=λx y H Q=>Ex3 λz i c=>x = .str z∧y = .int i∧z.length≤yfa∧atI z.cps.toList i=some c∧Q (.str ⟨#[c]⟩) H
theorem zec:IxR X (rIxL X.K):=by
 intro value slice pins s σ H x y v u Q I rx ry h hs;obtain⟨p,xs,i,z,rfl,rfl,hq,he,q⟩:=h;cases rx;obtain⟨t,rfl⟩:=ry;obtain⟨its,r,pl,hz⟩:=I.list hq;obtain⟨j,h1,h2,h3,h4,h5⟩:=zrq he;obtain⟨w,ew,rw'⟩:=r.get h2;have hl:=r.length;have hn:=ztl;have fin:EP X pins σ Q w s:=⟨z,H,I,rw',q⟩
 by_cases h0:0≤i
 ·have hj:i.toNat=j:=by
   rw[seqIndex_of h0 h5] at h1;exact yva h1
  exact item_listR pl.isList h0 (by omega) (by rw[hj];simpa using ew) fin hs
 ·have hj:(i+(its.toArray.size:Int)).toNat=j:=by
   rw[seqIndex_neg (by omega) h4] at h1;rw[yma,← hl];exact yva h1
  exact ych (x:=w) pl.isList.typeIs slot_list_getitem.lookup
   (wpAny_getItem_list_neg (Q:=λr s'=>r=w∧EP X pins σ Q r s') pl.isList (by omega) (by rw[yma]<;>omega) (by omega) (by rw[hj];simpa using ew) ⟨rfl,fin⟩) hs
theorem zybb:IxR X (rIxT X.K):=by
 intro value slice pins s σ H x y v u Q I rx ry h hs;obtain⟨p,xs,i,z,rfl,rfl,hq,he,q⟩:=h;cases rx;obtain⟨t,rfl⟩:=ry;obtain⟨its,r,pl,hz⟩:=I.tuple hq;obtain⟨j,h1,h2,h3,h4,h5⟩:=zrq he;obtain⟨w,ew,rw'⟩:=r.get h2;have hl:=r.length;have hn:=ztl;have fin:EP X pins σ Q w s:=⟨z,H,I,rw',q⟩;exact ych (x:=w) pl.typeIs slot_tuple_getitem.lookup
  (getItem_tuple (j:=j) (Q:=λr s'=>r=w∧EP X pins σ Q r s') pl (by omega) (by omega) (by rw[yma,← hl];exact h1) (by simpa using ew) ⟨rfl,fin⟩) hs
theorem zto:IxR X rIxS:=by
 intro value slice pins s σ H x y v u Q I rx ry h hs;obtain⟨z,i,c,rfl,rfl,hz,he,q⟩:=h;obtain⟨t,rfl⟩:=rx;obtain⟨t',rfl⟩:=ry;obtain⟨j,h1,h2,h3,h4,h5⟩:=zrq he;have hl:z.cps.toList.length=z.length:=by simp[yvh]
 rw[hl] at h1 h4 h5;have hn:=ztl;exact tail_any (ykg s z t) slot_str_getitem.lookup (getItem_str (c:=c) (by
  have e1:decide (i < -(2 ^ 63:Int))=false:=decide_eq_false (by omega);have e2:decide (i≥2 ^ 63)=false:=decide_eq_false (by omega);rw[e1,e2,Bool.or_false]) (by rw[h1];simpa using h2) ⟨.str ⟨#[c]⟩,H,I.tok _,⟨_,rfl⟩,q⟩) hs
theorem zks (its:List Value)(n j:Nat)(u:Value):ywh (·.setIfInBounds j u) { cls:=.type "list",data:=.seq its.toArray n }={ cls:=.type "list",data:=.seq (its.set j u).toArray n }:=by
 simp[ywh]
theorem Inv.lst {pins:List (Addr×Obj)}{σ:St}{H:Hp}{s:Shared}{p:Addr}{xs:List V}(I:Inv X pins σ H s)(h:H p=some (.lst xs)) :
  Ex2 λ(its:List Value) (n:Nat)=>Vals xs its∧s.heap.get? p=some { cls:=.type "list",data:=.seq its.toArray n }∧xs.length≤yfa:=by
 obtain⟨z,its,n,r,e⟩:=I.hok p _ h;exact⟨its,n,r,e,z⟩
theorem Inv.zpbb {pins:List (Addr×Obj)}{σ:St}{H:Hp}{s:Shared}{p:Addr}{xs ys:List V}{its its':List Value}{n n':Nat}{f:Obj->Obj}(I:Inv X pins σ H s)(h:H p=some (.lst xs))
  (ho:s.heap.get? p=some { cls:=.type "list",data:=.seq its.toArray n }) (hf:f { cls:=.type "list",data:=.seq its.toArray n }={ cls:=.type "list",data:=.seq its'.toArray n' }) (r:Vals ys its') (hz:ys.length≤yfa) (t:Nat) :
  Inv X pins σ (upd H p (.lst ys)) { s with heap:=s.heap.update p f,toks:=t }:=by
 have e:(s.heap.update p f).get? p=some { cls:=.type "list",data:=.seq its'.toArray n' }:=by
  rw[Heap.get?_update_self f ho (by rw[hf]<;>rfl),hf]
 refine I.write (x:=p) (e:=p) (by rw[h];trivial) (.inl rfl) (λb u hb q=>(ydh _ _ (ywc hb)).trans q) ⟨_,e⟩ ?_;exact⟨hz,its',n',r,e⟩
def zedb:V->V->V->Hp->(Hp->Prop)->Prop:=λo i v H Q=>Ex4 λp xs k j=>o = .ref p∧i = .int k∧H p=some (.lst xs)∧ixN xs.length k=some j∧Q (upd H p (.lst (xs.set j v)))
theorem set_list:PSet X zedb:=by
 intro pins s σ H o i v ov iv u Q I ro ri rv h;obtain⟨p,xs,k,j,rfl,rfl,hp,hj,q⟩:=h;cases ro;obtain⟨t,rfl⟩:=ri;obtain⟨its,n,r,ho,hz⟩:=I.lst hp;obtain⟨h1,h2,h3,h4⟩:=zlu hj;have hl:=r.length;have hn:=ztl;have I':Inv X pins σ (upd H p (.lst (xs.set j v))) { s with heap:=s.heap.update p (ywh (·.setIfInBounds j u)) } :=
  I.zpbb hp ho (zks its n j u) (r.set rv j) (by rw[List.length_set];exact hz) s.toks
 by_cases h0:0≤k
 ·have hk:k.toNat=j:=by
   rw[seqIndex_of h0 h4] at h1;exact yva h1
  exact PySem.W.ki_setAt ho h0 (by omega) (by rw[yma,← hl];exact h4) (by rw[hk];exact⟨_,I',q⟩)
 ·have hk:(k+(its.toArray.size:Int)).toNat=j:=by
   rw[seqIndex_neg (by omega) h3] at h1;rw[yma,← hl];exact yva h1
  exact PySem.W.ki_setBack ho (by omega) (by rw[yma,← hl];exact h3) (by omega) (by rw[hk];exact⟨_,I',q⟩)
theorem zsn (lo hi:Option Int)(n:Nat):(yye lo hi none n).1=((HT.sIx n 0 lo:Nat):Int)∧(yye lo hi none n).2.1=((HT.sIx n n hi:Nat):Int)∧(yye lo hi none n).2.2=1:=by
 refine⟨?_,?_,rfl⟩
 ·cases lo with
  | none=>simp[yye,HT.sIx]
  | some i =>
   simp only[yye,HT.sIx,ymj,show (1:Int)>0 by decide,if_true]
   by_cases h:i<0
   ·simp only[h,if_true]<;>omega
   ·simp only[h,if_false]<;>omega
 ·cases hi with
  | none=>simp[yye,HT.sIx]
  | some i =>
   simp only[yye,HT.sIx,ymj,show (1:Int)>0 by decide,if_true]
   by_cases h:i<0
   ·simp only[h,if_true]<;>omega
   ·simp only[h,if_false]<;>omega
theorem zim (its:List Value)(lo hi:Option Int):slicePick its.toArray lo hi none=((its.drop (HT.sIx its.length 0 lo)).take (HT.sIx its.length its.length hi-HT.sIx its.length 0 lo)).toArray:=by
 obtain⟨h1,h2,h3⟩:=zsn lo hi its.toArray.size;unfold slicePick;rw[h1,h2,h3];simp only[sliceRange_one,pick_run,yma]<;>rfl
def rSlL (K:yaa):V->Option Int->Option Int->Hp->VK->Prop:=λx lo hi H Q=>Ex2 λa xs=>x = .ref a∧SqL K H a xs∧∀p,H p=none->Q (.ref p) (upd H p (.lst (cutV xs lo hi)))
theorem zvc:SlR X (rSlL X.K):=by
 intro pins s σ H x v vl vu lo hi sl Q I rx hs pl pu h;obtain⟨a,xs,rfl,hx,q⟩:=h;cases rx;obtain⟨its,r,ht,hz⟩:=I.list hx;have hlen:=r.length;refine⟨"list",_,slot_list_getitem.lookup,ht.isList.typeIs,?_⟩;refine wpAny_getItem_list_slice ht.isList hs pl pu .none (by simp) ?_ (by rw[yma]<;>omega);rw[zim,← hlen];refine⟨.ref s.heap.objs.size,_,I.laid (t':=s.toks) (o:=.lst (cutV xs lo hi)) (λb ob q=>yha _ q) (ywa _) ?_,rfl,q _ (I.hok.fresh (ywa _))⟩;exact⟨yab (zkq xs lo hi) hz,_,0,(r.drop (HT.sIx xs.length 0 lo)).take (HT.sIx xs.length xs.length hi-HT.sIx xs.length 0 lo),ycb _ rfl⟩
def zxo:V->Bool
 | .non=>true
 | .bl _=>true
 | .int _=>true
 | .str _=>true
 | _=>false
def eqV:V->V->Bool
 | .non,.non=>true
 | .bl a,.bl b=>a==b
 | .bl a,.int b=>(if a then 1 else 0)==b
 | .int a,.bl b=>a==(if b then 1 else 0)
 | .int a,.int b=>a==b
 | .str a,.str b=>a==b
 | _,_=>false
theorem zdcb {A:Around}{s:Shared}{y x:V}{u v:Value}(ry:RelV y u)(rx:RelV x v)(fy:zxo y=true)(fx:zxo x=true):yqc A s u v (eqV y x):=by
 cases y with
 | non =>
  cases ry;cases x with
  | non=>cases rx;exact yqc.same _
  | bl b=>cases rx;exact yqc.none_bool b
  | int b=>obtain⟨t,rfl⟩:=rx;exact yqc.none_int b t
  | str b=>obtain⟨t,rfl⟩:=rx;exact yqc.none_str b t
  | _=>exact absurd (show false=true from fx) yka
 | bl a =>
  cases ry;cases x with
  | non=>cases rx;exact yqc.bool_none a
  | bl b=>cases rx;exact yqc.bool_bool a b
  | int b=>obtain⟨t,rfl⟩:=rx;exact yqc.bool_int a b t
  | str b=>obtain⟨t,rfl⟩:=rx;exact yqc.bool_str a b t
  | _=>exact absurd (show false=true from fx) yka
 | int a =>
  obtain⟨t',rfl⟩:=ry;cases x with
  | non=>cases rx;exact yqc.int_none a t'
  | bl b=>cases rx;exact yqc.int_bool a t' b
  | int b=>obtain⟨t,rfl⟩:=rx;exact yqc.int_int a t' b t
  | str b=>obtain⟨t,rfl⟩:=rx;exact yfi a t' b t
  | _=>exact absurd (show false=true from fx) yka
 | str a =>
  obtain⟨t',rfl⟩:=ry;cases x with
  | non=>cases rx;exact yqc.str_none a t'
  | bl b=>cases rx;exact yqc.str_bool a t' b
  | int b=>obtain⟨t,rfl⟩:=rx;exact ygi a t' b t
  | str b=>obtain⟨t,rfl⟩:=rx;exact yqc.str_str a t' b t
  | _=>exact absurd (show false=true from fx) yka
 | _=>exact absurd (show false=true from fy) yka
def eqU (x:V)(u:Value):Bool:=match u with
 | .none=>eqV .non x
 | .bool b=>eqV (.bl b) x
 | .int i _=>eqV (.int i) x
 | .str z _=>eqV (.str z) x
 | _=>false
theorem zrx {x y:V}{u:Value}(r:RelV y u)(f:zxo y=true):eqU x u=eqV y x:=by
 cases y with
 | non=>cases r;rfl
 | bl b=>cases r;rfl
 | int i=>obtain⟨t,rfl⟩:=r;rfl
 | str z=>obtain⟨t,rfl⟩:=r;rfl
 | _=>exact absurd (show false=true from f) yka
theorem zsq {x:V}:∀{xs:List V} {us:List Value},Vals xs us->xs.all zxo=true->us.any (eqU x)=xs.any λy=>eqV y x
 | _,_,.nil,_=>rfl
 | y::xs,u::us,.cons r t,f=>by
  rw[List.all_cons,yxb] at f;rw[List.any_cons,List.any_cons,zrx r f.1,zsq t f.2]
theorem zwm {A:Around}{s:Shared}{x:V}{v:Value}(rx:RelV x v)(fx:zxo x=true):∀{xs:List V} {us:List Value},Vals xs us->xs.all zxo=true->∀u∈us,yqc A s u v (eqU x u)
 | _,_,.nil,_=>λu hu=>by cases hu
 | y::xs,u::us,.cons r t,f=>λu' hu=>by
  rw[List.all_cons,yxb] at f
  rcases yga.mp hu with rfl|hu
  ·rw[zrx r f.1];exact zdcb r rx f.1 fx
  ·exact zwm rx fx t f.2 u' hu
def inV (x:V)(xs:List V):Bool:=xs.any λy=>eqV y x
def rIn (K:yaa)(neg:Bool):R2:=λx y H Q=>Ex2 λp xs=>y = .ref p∧(SqL K H p xs∨SqT K H p xs)∧zxo x=true∧xs.all zxo=true∧Q (.bl (if neg then !inV x xs else inV x xs)) H
theorem zbk:OpR X (ysc .In) (rIn X.K false):=by
 intro pins s σ H x y v u Q I rx ry h;obtain⟨p,xs,rfl,hq,fx,fs,q⟩:=h;cases ry
 rcases hq with hq|hq
 ·obtain⟨its,r,pl,hz⟩:=I.list hq;refine SeqAt.in_listAt (eqU x) pl.isList (λw hw=>zwm rx fx r fs w (by simpa using hw)) ⟨.bl _,H,I,rfl,?_⟩;rw[show its.toArray.any (eqU x)=its.any (eqU x) by simp,zsq r fs];exact q
 ·obtain⟨its,r,pl,hz⟩:=I.tuple hq;refine SeqAt.in_tupleAt (eqU x) pl (λw hw=>zwm rx fx r fs w (by simpa using hw)) ⟨.bl _,H,I,rfl,?_⟩;rw[show its.toArray.any (eqU x)=its.any (eqU x) by simp,zsq r fs];exact q
theorem zli:OpR X (ysc .NotIn) (λx y H Q=>Ex2 λi j=>x = .str i∧y = .str j∧Q (.bl (!(!(ylb j i 0 j.length 1).isEmpty))) H):=by
 intro pins s σ H x y v u Q I rx ry h;obtain⟨i,j,rfl,rfl,q⟩:=h;obtain⟨t,rfl⟩:=rx;obtain⟨t',rfl⟩:=ry;exact notIn_str ⟨.bl _,H,I,rfl,q⟩
theorem zza:zci X (.builtin "len") (λxs H Q=>Ex2 λp ys=>xs=[.ref p]∧(SqL X.K H p ys∨SqT X.K H p ys)∧Q (.int ys.length) H):=by
 intro pins s σ H xs us Q I r h;obtain⟨p,ys,rfl,hq,q⟩:=h;obtain⟨u,rfl,rx⟩:=vals1 r;cases rx;have hn:=ztl
 rcases hq with hq|hq
 ·obtain⟨its,r',pl,hz⟩:=I.list hq;have hlen:=r'.length;exact Calls.call_len_list pl.isList (by simp only[yma]<;>omega) ⟨.int ys.length,H,I.tok _,⟨s.toks+1,by rw[yma,hlen]⟩,q⟩
 ·obtain⟨its,r',pl,hz⟩:=I.tuple hq;have hlen:=r'.length;exact len_tuple pl (by simp only[yma]<;>omega) ⟨.int ys.length,H,I.tok _,⟨s.toks+1,by rw[yma,hlen]⟩,q⟩
theorem zlc:zci X (.builtin "len") (λxs H Q=>∃z,xs=[.str z]∧z.length≤yfa∧Q (.int z.length) H):=by
 intro pins s σ H xs us Q I r h;obtain⟨z,rfl,hz,q⟩:=h;obtain⟨u,rfl,t,rfl⟩:=vals1 r;have hn:=ztl;exact len_str (by omega) ⟨.int z.length,H,I.tok _,⟨_,rfl⟩,q⟩
theorem zfn:zci X (.type "tuple") (λxs H Q=>Ex2 λp ys=>xs=[.ref p]∧((SqL X.K H p ys∧∀l,H l=none->Q (.ref l) (upd H l (.tup ys)))∨(SqT X.K H p ys∧Q (.ref p) H))):=by
 intro pins s σ H xs us Q I r h;obtain⟨p,ys,rfl,h⟩:=h;obtain⟨u,rfl,rx⟩:=vals1 r;cases rx
 rcases h with⟨hq,q⟩|⟨hq,q⟩
 ·obtain⟨its,r',pl,hz⟩:=I.list hq;have hlen:=r'.length;refine call_tuple_list pl.isList (λh' kp=>?_) (by simp only[yma]<;>omega);have I1:Inv X pins σ H { s with heap:=h' }:=I.kept (t':=s.toks) kp;have I2:Inv X pins σ (upd H h'.objs.size (.tup ys)) { s with heap:=h'.push { cls:=.type "tuple",data:=.seq its.toArray } } :=
   I1.laid (t':=s.toks) (λb o e=>yha _ e) (ywa _) (show zwe X.prog X.w _ _ _ (.tup ys) from⟨hz,its,r',IsTup.new _ _⟩)
  exact⟨.ref h'.objs.size,_,I2,rfl,q _ (I1.hok.fresh (ywa _))⟩
 ·obtain⟨its,r',pl,hz⟩:=I.tuple hq;exact call_tuple_same pl ⟨.ref p,H,I,rfl,q⟩
def tyV (K:yaa)(T:String)(x:V)(H:Hp):Prop:=match x with
 | .str _=>T = "str"
 | .int _=>T = "int"
 | .ref p=>(T = "list" ∧ ∃xs,SqL K H p xs)∨(T = "tuple" ∧ ∃o,K.lookup p=some o∧o.cls = .type "tuple" ∧ o.dict=none) ∨
   (T = "dict" ∧ ((∃kvs,H p=some (.dK kvs))∨∃kvs,H p=some (.dT kvs)))∨(T = "set" ∧ Ex2 λS n=>H p=some (.set S n))
 | _=>False
theorem zbab {pins:List (Addr×Obj)}{σ:St}{H:Hp}{s:Shared}{T:String}{x:V}{v:Value}(I:Inv X pins σ H s)(r:RelV x v)(ty:tyV X.K T x H) :
  s.TypeIs v T∧∀a,v = .ref a->∃ob,s.heap.get? a=some ob∧ob.dict=none:=by
 cases x with
 | str z =>
  obtain⟨t,rfl⟩:=r;cases (show T = "str" from ty);exact⟨ykg s z t,λ_ e=>nomatch e⟩
 | int i =>
  obtain⟨t,rfl⟩:=r;cases (show T = "int" from ty);exact⟨typeIs_int s i t,λ_ e=>nomatch e⟩
 | ref p =>
  cases r
  rcases ty with⟨rfl,xs,hq⟩|⟨rfl,o,hk,hc,hd⟩|⟨rfl,hk⟩|⟨rfl,S,n,hk⟩
  ·obtain⟨its,_,pl,_⟩:=I.list hq;refine⟨pl.isList.typeIs,λa e=>?_⟩;cases e;obtain⟨o,n,e,c,hd,_⟩:=pl;exact⟨o,e,hd⟩
  ·refine⟨⟨o,I.kIn p o hk,hc⟩,λa e=>?_⟩;cases e;exact⟨o,I.kIn _ o hk,hd⟩
  ·have z:∃o,s.heap.get? p=some o∧o.ExactDict:=by
    rcases hk with⟨kvs,hk⟩|⟨kvs,hk⟩
    ·obtain⟨_,_,_,_,o,_,_,e,ex,_⟩:=I.hok p _ hk;exact⟨o,e,ex⟩
    ·obtain⟨_,_,_,_,o,_,_,e,ex,_⟩:=I.hok p _ hk;exact⟨o,e,ex⟩
   obtain⟨o,e,ex⟩:=z;refine⟨⟨o,e,ex.1⟩,λa e2=>?_⟩;cases e2;exact⟨o,e,ex.2.1⟩
  ·obtain⟨o,_,_,_,e,ex,_⟩:=I.hok p _ hk;refine⟨⟨o,e,ex.1⟩,λa e2=>?_⟩;cases e2;exact⟨o,e,ex.2.1⟩
 | _=>exact ytc ty
def tBM (K:yaa)(T:String)(r:V->List V->Hp->VK->Prop)(to:TE)(t:TA):TE:=fun σ H Q=>to σ H λx H1=>tyV K T x H1∧t σ H1 λxs H2=>r x xs H2 Q
variable {o e:Expr}{es:List Expr}{to:TE}{t:TA}{name:Str}{apos cpos:Pos}{T id:String}{r:V->List V->Hp->VK->Prop}
theorem zue (pa:PlainAttrs T)(slot:Slot T name id)(hty:typeOf (.builtin id)=pure (.type "method_descriptor"))(hm:MtR X id r)(ho:PE X o to)(ha:PA X (e::es) t)
  (hbase:yhf o name X.env (eval o X.env)=eval o X.env:=by rfl)
  (hfew:((backTo cpos (yac (e::es) X.env)).all (λx=>!x.1)&&(backToKw cpos (ybi [] X.env)).all (λx=>x.1.isSome)
   && decide ((e::es).length+([]:List yvi).length+(if ([]:List yvi).isEmpty then 0 else 1)<30))=true:=by rfl)
  (hline:(apos.endLine==cpos.line)=true:=by rfl) (hs:yac (e::es) X.env=(false,eval e X.env)::yac es X.env:=by rfl) (hplain:(backTo cpos (yac es X.env)).any (·.1)=false:=by rfl) :
  PE X (.Call (.Attribute o name apos) (e::es) [] cpos) (tBM X.K T r to t):=by
 intro pins s σ H Q I h;refine wpAny_Call_method_late hbase hfew hline rfl (thn (ho pins s σ H _ I h) λv s1 ⟨x,H1,I1,r1,ty,q1⟩=>?_);obtain⟨h1,h2⟩:=zbab I1 r1 ty;refine⟨T,id,pa,slot,hty,h1,h2,?_⟩;have hA:=ha cpos pins s1 σ H1 _ I1 q1;rw[hs] at hA ⊢;refine Calls.callWith_builtin (by show (false||(backTo cpos (yac es X.env)).any (·.1))=false;rw[hplain]<;>rfl) (yxh ?_);exact thn hA λus s2 ⟨vs,H2,I2,r2,q2⟩=>hm pins s2 σ H2 x vs v us Q I2 r1 r2 q2
end
end L2
namespace L2
open PySem PySem.Spec PyProof.Rows
def MtM (X:Cx)(id:String)(r:V->List V->Hp->VK->Prop):Prop :=
 ∀(pins:List (Addr×Obj)) (s:Shared) (σ:St) (H:Hp) (x:V) (xs:List V) (v:Value) (us:List Value) (Q:VK),Inv X pins σ H s->RelV x v->Vals xs us->r x xs H Q →
  wpAny (model X.prog X.w) X.A (call (.builtin id) (v::us)) (EP X pins σ Q) X.xe s
theorem Vals.one:∀{x:V} {us:List Value},Vals [x] us->∃u,us=[u]∧RelV x u
 | _,_,.cons r .nil=>⟨_,rfl,r⟩
theorem Vals.rep {xs:List V}{us:List Value}(h:Vals xs us):∀k:Nat,Vals (yoa k xs).flatten (yoa k us).flatten
 | 0=>.nil
 | k+1=>by
  rw[yub,yub,ykb,ykb];exact Vals.append h (Vals.rep h k)
theorem foldl_rep (its:List Value):∀(k:Nat) (acc:List Value),
  yuj (λx1 x2=>x1++x2) acc.toArray (yoa k its.toArray)=(acc++(yoa k its).flatten).toArray
 | 0,acc=>by simp
 | k+1,acc=>by
  have e:acc.toArray++its.toArray=(acc++its).toArray:=by simp
  have e2:(acc++its)++(yoa k its).flatten=acc++(yoa (k+1) its).flatten:=by
   rw[yub,ykb,yze]
  rw[← e2,← foldl_rep its k (acc++its),← e,yub,ylh]
section
variable {X:Cx}{pins:List (Addr×Obj)}{σ:St}{H:Hp}{s:Shared}{l b:Addr}{xs ys zs:List V}
theorem Inv.lset {its its':List Value}{n:Nat}{f:Array Value->Array Value}{t':Nat}(I:Inv X pins σ H s)(hH:H l=some (.lst xs))
  (e:s.heap.get? l=some { cls:=.type "list",data:=.seq its.toArray n }) (hf:f its.toArray=its'.toArray) (hv:Vals ys its') (hz:ys.length≤yfa) :
  Inv X pins σ (upd H l (.lst ys)) { s with heap:=s.heap.update l (ywh f),toks:=t' }:=by
 have q:=PySem.IsL.update e f;rw[hf] at q;refine I.write (x:=l) (e:=l) (by rw[hH];exact trivial) (.inl rfl) (λb' u hb hu=>(ydh s.heap (ywh f) (ywc hb)).trans hu) ⟨_,q⟩ ?_;exact⟨hz,its',_,hv,q⟩
theorem Inv.lnew {its:List Value}{t':Nat}(I:Inv X pins σ H s)(hv:Vals ys its)(hz:ys.length≤yfa) :
  Inv X pins σ (upd H s.heap.objs.size (.lst ys)) { s with heap:=s.heap.push { cls:=.type "list",data:=.seq its.toArray },toks:=t' } :=
 I.laid (λ_ _ q=>yha _ q) (ywa _) ⟨hz,its,0,hv,ycb _ rfl⟩
theorem Inv.fresh (I:Inv X pins σ H s):H s.heap.objs.size=none:=I.hok.fresh (ywa _)
theorem Inv.lstM (I:Inv X pins σ H s)(hH:H l=some (.lst xs)):xs.length≤yfa∧Ex2 λ(its:List Value) (n:Nat)=>Vals xs its∧xs.length=its.length∧s.heap.get? l=some { cls:=.type "list",data:=.seq its.toArray n }:=by
 obtain⟨z,its,n,r,e⟩:=I.hok l _ hH;exact⟨z,its,n,r,r.length,e⟩
theorem zvr {n:Nat}(h:n≤yfa):yfd n=false:=by
 unfold yfd;exact decide_eq_false (by omega)
end
section
variable {X:Cx}
def zty:V->List V->Hp->VK->Prop:=λx vs H Q=>Ex3 λl xs y=>x = .ref l∧vs=[y]∧H l=some (.lst xs)∧xs.length<yfa∧Q .non (upd H l (.lst (xs++[y])))
theorem zch:MtM X "list.append" zty:=by
 intro pins s σ H x vs v us Q I rx rv h;obtain⟨l,xs,y,rfl,rfl,hH,hz,q⟩:=h;cases rx;obtain⟨u,rfl,ru⟩:=rv.one;obtain⟨z,its,n,r,hl,e⟩:=I.lstM hH;refine yaf F.slot_list_append ⟨_,e,rfl⟩ F.entry_list_append (F.args_list_append_2 _ _) (PySem.list_append l its.toArray n u (by rw[yma];omega)) ⟨e,?_⟩;refine⟨.non,_,I.lset (its':=its++[u]) hH e (by simp) (r.append (.cons ru .nil)) ?_,rfl,q⟩;rw[yca,ysb];omega
def zsy:V->List V->Hp->VK->Prop:=λx vs H Q=>Ex4 λl b xs zs=>x = .ref l∧vs=[.ref b]∧H l=some (.lst xs)∧H b=some (.lst zs)∧xs.length+zs.length≤yfa∧Q .non (upd H l (.lst (xs++zs)))
theorem zfu:MtM X "list.extend" zsy:=by
 intro pins s σ H x vs v us Q I rx rv h;obtain⟨l,b,xs,zs,rfl,rfl,hH,hB,hz,q⟩:=h;cases rx;obtain⟨u,rfl,ru⟩:=rv.one;cases ru;obtain⟨z,its,n,r,hl,e⟩:=I.lstM hH;obtain⟨z2,its2,n2,r2,hl2,e2⟩:=I.lstM hB;have hsz:its.toArray.size+its2.toArray.size≤yfa:=by rw[yma,yma];omega
 have hlong:¬ (!its.toArray.isEmpty&&yfd (its.toArray.size+its2.toArray.size))=true:=by
  rw[zvr hsz,yhe];exact yka
 refine yaf F.slot_list_extend ⟨_,e,rfl⟩ F.entry_list_extend (F.args_list_extend_2 _ _)
  (AutoSeq1.list_extend_list_list_0 l its.toArray n b its2.toArray n2 hlong (by rw[yma];omega) (by omega)) ⟨e,e2,?_⟩
 refine⟨.non,_,I.lset (its':=its++its2) hH e (by simp) (r.append r2) ?_,rfl,q⟩;rw[yca];omega
def rCat:R2:=λx y H Q=>Ex4 λl b xs zs=>x = .ref l∧y = .ref b∧H l=some (.lst xs)∧H b=some (.lst zs)∧xs.length+zs.length≤yfa∧∀p,H p=none->Q (.ref p) (upd H p (.lst (xs++zs)))
theorem znd:OpR X (ygf .Add) rCat:=by
 intro pins s σ H x y v u Q I rx ry h;obtain⟨l,b,xs,zs,rfl,rfl,hH,hB,hz,q⟩:=h;cases rx;cases ry;obtain⟨z,its,n,r,hl,e⟩:=I.lstM hH;obtain⟨z2,its2,n2,r2,hl2,e2⟩:=I.lstM hB;refine PySem.P.add_list e e2 ?_ (by rw[yma,yma];omega);have ea:its.toArray++its2.toArray=(its++its2).toArray:=by simp
 rw[ea];exact⟨.ref _,_,I.lnew (t':=s.toks) (r.append r2) (by rw[yca];omega),rfl,q _ I.fresh⟩
def rRep:R2:=λx y H Q=>Ex3 λl k xs=>x = .ref l∧y = .int k∧H l=some (.lst xs) ∧ -(2 ^ 63)≤k∧k<2 ^ 63∧xs.length*k.toNat≤yfa ∧
 ∀p,H p=none->Q (.ref p) (upd H p (.lst (yoa k.toNat xs).flatten))
theorem len_rep {α:Type}(xs:List α)(k:Nat):(yoa k xs).flatten.length=k*xs.length:=by
 induction k with
 | zero=>simp
 | succ k ih=>rw[yub,ykb,yca,ih,Nat.succ_mul,yhj]
theorem zebb:OpR X (ygf .Mult) rRep:=by
 intro pins s σ H x y v u Q I rx ry h;obtain⟨l,k,xs,rfl,rfl,hH,h1,h2,hz,q⟩:=h;cases rx;obtain⟨t,rfl⟩:=ry;obtain⟨z,its,n,r,hl,e⟩:=I.lstM hH;have hlen:its.toArray.size*k.toNat≤yfa:=by rw[yma,← hl];exact hz
 have hcap:¬ its.toArray.size*k.toNat>(2 ^ 63-1) / 8:=by
  have:(yfa:Nat)≤(2 ^ 63-1) / 8:=by decide
  omega
 have hfit:¬ (!Builtin.List.listFitsIndex k)=true:=by
  rw[fitsIndex_both h1 h2];exact yka
 have hlong:¬ yfd (its.toArray.size*k.toNat)=true:=by
  rw[zvr hlen];exact yka
 have hnew:yuj (λx1 x2=>x1++x2) #[] (yoa (if its.toArray.isEmpty=true then 0 else k.toNat) its.toArray)=(yoa k.toNat its).flatten.toArray:=by
  have f0:∀m:Nat,yuj (λx1 x2=>x1++x2) #[] (yoa m its.toArray)=(yoa m its).flatten.toArray:=λm=>by
   have:=foldl_rep its m [];rw[ywd] at this;exact this
  rw[f0];cases its with
  | nil=>simp
  | cons a r'=>rw[if_neg (by simp)]
 refine wpAny_binaryOp_repeat_ref (T:="list") (U:="int") (by decide) ⟨_,e,rfl⟩ (λs'=>typeIs_int s' k t) noFill_list_mul F.fills_int_mul F.slot_int_rmul repeat_list F.slot_int_index.lookup
  (yaf F.slot_int_rmul (typeIs_int s k t) F.entry_int_rmul (F.args_int_rmul_2 _ _) (int___rmul___int_list k t l its.toArray n)
   ⟨e,rfl,⟨_,e,rfl⟩,yaf F.slot_list_mul ⟨_,e,rfl⟩ F.entry_list_mul (F.args_list_mul_2 _ _) (AutoListH.list___mul___list_int_3 l its.toArray n k t hfit hcap hlong) ⟨e,?_⟩⟩)
 rw[hnew];exact⟨.ref _,_,I.lnew (t':=s.toks) (r.rep k.toNat) (by rw[len_rep,Nat.mul_comm];exact hz),rfl,q _ I.fresh⟩
end
section
variable {prog:yya}{w:World}{A:Around}{E:Value->Shared->Prop}{s:Shared}
end
section
variable {X:Cx}
end
end L2
namespace Att
open PySem PySem.W PySem.Calls PyProof.Rows
theorem zkk {P:Params}{h:Heap}:∀(ns:List Int) (vs:List Value),WellAll P h vs (ns.map WData.int)->IntsAre vs ns:=by
 intro ns
 induction ns with
 | nil =>
  intro vs w;rw[ymh] at w;cases w;exact .nil
 | cons n ns ih =>
  intro vs w;rw[yob] at w;cases w with
  | cons a b =>
   cases a;exact .cons _ _ (ih _ b)
theorem zmt {l:OpenLaw}{n:Nat}(hn:l.most=some n){P:Params}{h:Heap}{args:List WData}{vals:List Value}
  (hpre:l.row.toRowW.claim.pre args=true) (hwl:WellAll P h vals args) :
  Ex3 λa vs ns=>vals=[Value.ref a]∧args=[WData.list (ns.map WData.int)]∧h.get? a=some { cls:=.type "list",data:=.seq vs.toArray }∧IntsAre vs ns∧ns.length≤n:=by
 have hsh:WShape.hasAll [] args [.list .int]=true:=(pre_splitW hpre).1;have hc:l.pre.holds [] { args:=args }=true:=(pre_splitW hpre).2;obtain⟨d,r,rfl,h1,h2⟩:=hasAllW_cons hsh;obtain rfl:=hasAllW_nil h2;obtain⟨xs,rfl,h3⟩:=hasW_list h1;obtain⟨ns,rfl⟩:=items_int h3;have hlen:ns.length≤n:=by
  unfold OpenLaw.pre at hc;have h4:(WTm.not (.lt (.lit (.int (n:Int))) (.len (.arg 0)))).holds [] { args:=[.list (ns.map .int)] }=true:=by
   have h4:=(holds_andW hc).1;rw[hn] at h4;exact h4
  have h5:=condW_of h4 (w_not (w_lt w_lit (w_len_list (w_arg rfl))));rw[yba] at h5;refine Nat.le_of_not_lt λq=>?_;have q':(n:Int)<((ns.length:Nat):Int):=by omega
  first
   | (rw[decide_eq_true q'] at h5;exact absurd h5 (by decide))
   | (simp at h5;omega)
 cases hwl with
 | cons w1 w2 =>
  cases w2;cases w1 with
  | list ho hall=>exact⟨_,_,ns,rfl,rfl,ho,zkk ns _ hall,hlen⟩
theorem zut (l:OpenLaw)(args:List WData):l.row.toRowW.claim.post args (.bool true) args=true :=
 postW_of (r:=l.row.toRowW) (X:=(true==true))
  (show WShape.has [] (.bool true) .bool=true by first|rfl|decide|simp[WShape.has,WShape.arms,WShape.armsAll])
  (show (WTm.eq .res (.lit (.bool true))).value [] { args:=args,res:=some (.bool true),after:=args }=some (.bool (true==true)) from w_eq_bool (w_res rfl) w_lit) rfl
theorem zqq {l:OpenLaw}{n:Nat}{q:yya}{loose:List Str}{XP:(Str->Option Value)->Heap->Prop}{YP:World->Heap->Prop}{d:DefRec}
  (hn:l.most=some n) (hdf:d.params.defaults=[])
  (call:∀(w:World) (s₀ s₁:Shared) (mg mb:Str->Option Value) (fa:Addr) (o:Obj) (pm cd doc:Value) (a:Addr) (vs:List Value) (ns:List Int),
   Ground q loose [] XP w s₀ mg mb s₁.heap->YP w s₁.heap →
   s₁.heap.get? fa=some o->o.data = .func (docDef d.name d.params d.body d.scope pm cd doc)->s₁.heap.CodeRec cd d.name->mg d.name=some (.ref fa) →
   s₁.heap.get? a=some { cls:=.type "list",data:=.seq vs.toArray }->IntsAre vs ns->ns.length≤n->s₁.gens=#[] →
   ybg (model l.prog w) yxi (.call (.ref fa) ⟨[.ref a],[]⟩) (λr s'=>r = .ok (.ret (.bool true))∧OldK s₁.heap s'.heap∧s'.os=s₁.os∧ypg s'.gens) s₁) :
  WalkO q loose XP YP l.row.toRowW d [] (λf vs=>yvj f vs):=by
 intro w s₀ s₁ mg mb G Y fa o pm cd doc dV kV ho hd hcd hD hmg hg args vals as hpre hlay hrd hwl hlo;obtain rfl:dV = .none:=Dflts.none hD hdf;obtain rfl:kV = .none:=Dflts.noKw hD;obtain⟨a,vs,ns,rfl,rfl,hobj,hints,hlen⟩:=zmt hn hpre hwl;refine enter_call (yjh (call w s₀ s₁ mg mb fa o pm cd doc a vs ns G Y ho (fd_plain hd) hcd hmg hobj hints hlen hg) λr s' hq=>?_);obtain⟨rfl,h2,h3,h4⟩:=hq;exact⟨.inl ⟨.bool true,.bool true,[],rfl,λ_=>rfl,.bool true,zut l _,λ_=>⟨List.Pairwise.nil,λ_ hm=>(nomatch hm)⟩⟩,h2,h3,h4⟩
section
variable {prog:yya}{w:World}{A:Around}{E:Value->Shared->Prop}{s:Shared}{K:Frag}
end
end Att
namespace L2
open PySem PySem.Spec PyProof.Rows
theorem zmn:∀{vs:List Value} {ns:List Int},IntsAre vs ns->Vals (ns.map V.int) vs
 | _,_,.nil=>.nil
 | _,_,.cons n t h=>.cons ⟨t,rfl⟩ (zmn h)
def Only (H:Hp):Prop:=∀b,H b=none∨Ex2 λo xs=>H b=some (.frz o (.lst xs))
theorem zrw {P:yya}{w:World}{K:yaa}{mg mb:Str->Option Value}{CX:CXT}{k:Nat}{fa a:Addr}{fd:yuc}{x:Str}{sp:Sp}{s₁:Shared}{vs:List Value}{ns:List Int}
  (KX:K.In s₁.heap) (hns:s₁.heap.Ns ysa mg) (hb:s₁.heap.Ns builtinsNs mb) (hbb:∀x:Str,x ≠ "__name__"->mb x=ytd x) (hlim:s₁.heap.NoLimit) (hg:s₁.gens=#[])
  (ha:s₁.heap.get? a=some { cls:=.type "list",data:=.seq vs.toArray }) (hi:IntsAre vs ns) (hl:ns.length≤yfa) (hr:Room k yxi)
  (F:∀base:Heap,K.In base->base.Ns ysa mg->FnOk P w K mg base CX k fa fd [x] sp) (hbind:∀(s:Shared) (u:Value),yui s fd ⟨[u],[]⟩ [(x,u)])
  (hsp:∀H:Hp,Only H->SqL K H a (ns.map V.int)->sp [.ref a] H (λv _=>v = .bl true) λ_ _ _=>False)
  (hCX:∀H e s',CX [] H s₁ (λ_ _ _=>False) e s'->False) :
  ybg (model P w) yxi (.call (.ref fa) ⟨[.ref a],[]⟩) (λr s'=>r = .ok (.ret (.bool true))∧OldK s₁.heap s'.heap∧s'.os=s₁.os∧ypg s'.gens) s₁:=by
 have rv:=zmn hi;have lenV:=hi.length;have core:∀H:Hp,Only H->SqL K H a (ns.map V.int)->HOk P w H s₁.heap->(∀b,H b≠none->b=a)->(H a≠none->K.lookup a=none) →
   ybg (model P w) yxi (.call (.ref fa) ⟨[.ref a],[]⟩) (λr s'=>r = .ok (.ret (.bool true))∧OldK s₁.heap s'.heap∧s'.os=s₁.os∧ypg s'.gens) s₁:=by
  intro H hO hS hok hA hK;have base_of:∀{b:Addr} {o:Obj},s₁.heap.get? b=some o->H b=none->(hidT s₁.heap H).get? b=some o:=λe n=>zsw e n;have noA:∀{b:Addr} {o:Obj} {es:Array DictEntry} {ep:Nat},s₁.heap.get? b=some o->o.data = .dict es ep->H b=none:=λ{b o es ep} e d=>by
   cases q:H b with
   | none=>rfl
   | some u =>
    have e':b=a:=hA b (by rw[q];simp);subst e';rw[ha] at e;cases e;have d':Data.seq vs.toArray _=Data.dict es ep:=d;cases d'
  have nsK:∀{b:Addr} {m:Str->Option Value},s₁.heap.Ns b m->(hidT s₁.heap H).Ns b m:=λ{b m} ⟨o,es,ep,e,d,r⟩=>⟨o,es,ep,base_of e (noA e d),d,r⟩;have hKb:K.In (hidT s₁.heap H):=λb o e=>base_of (KX b o e) (by
   cases q:H b with
   | none=>rfl
   | some u =>
    have e':b=a:=hA b (by rw[q];simp);subst e';rw[hK (by rw[q];simp)] at e;cases e)
  have hM:Mod K mg (hidT s₁.heap H):=⟨hKb,nsK hns,⟨mb,nsK hb,hbb⟩,let ⟨mc,h1,h2⟩:=hlim;⟨mc,nsK h1,h2⟩⟩;have e0:Env0 P w K mg (hidT s₁.heap H) yxi [] s₁ H:=⟨rfl,hM,λb o e=>zfz e,yej (zqu _ _),trivial,λb hb=>absurd (show b∈([]:List Addr) from hb) (by simp),hok,.of_eq hg⟩;refine yjh ((F _ hKb (nsK hns)).run yxi [] s₁ H ⟨[.ref a],[]⟩ [.ref a] [.ref a] _ _ hr e0 (hbind s₁ (.ref a)) (.cons rfl .nil) (hsp H hO hS)) λr s' h=>?_;cases r with
  | error e=>exact (hCX H e s' h).elim
  | ok fl =>
   cases fl with
   | next=>exact ytc h
   | brk=>exact ytc h
   | cont=>exact ytc h
   | ret u =>
    obtain⟨v,H',os,bare,un,hok',r',q⟩:=h;have q':v = .bl true:=q;subst q';obtain rfl:u=Value.bool true:=r';refine⟨rfl,OldK.of_keep λb o e=>?_,os,bare⟩;cases q:H b with
    | none=>exact un.keep b o e q (by intro z;exact absurd (show b∈([]:List Addr) from z) (by simp)) (by simp)
    | some u =>
     rcases hO b with z|⟨ob,xs,z⟩
     ·rw[q] at z;cases z
     ·have z2:=un.frzs b ob _ z;obtain⟨e1,_⟩:=hok b _ z;obtain⟨e2,_⟩:=hok' b _ z2;rw[e] at e1;cases e1;exact e2
 cases hk:K.lookup a with
 | some o =>
  have e:=KX a o hk;rw[ha] at e;cases e;refine core (λ_=>none) (λ_=>.inl rfl) (.inr ⟨_,vs.toArray,_,hk,rfl,rfl,rfl,by rw[yma,lenV];exact hl,by simpa using rv⟩) (λb u z=>by have z':(none:Option HO)=some u:=z;cases z') (λb z=>absurd rfl z) λz=>absurd rfl z
 | none =>
  refine core (λb=>if b=a then some (.frz { cls:=.type "list",data:=.seq vs.toArray } (.lst (ns.map V.int))) else none) (λb=>?_) (.inl (.inr ⟨{ cls:=.type "list",data:=.seq vs.toArray },if_pos rfl⟩)) (λb u z=>?_) (λb z=>?_) λ_=>hk
  ·by_cases hb:b=a
   ·exact .inr ⟨_,_,if_pos hb⟩
   ·exact .inl (if_neg hb)
  ·by_cases hb:b=a
   ·have z':=(if_pos hb).symm.trans z;cases z';subst hb;exact⟨ha,by rw[yba];exact hl,vs,_,rv,ha⟩
   ·have z':=(if_neg hb).symm.trans z;cases z'
  ·by_cases hb:b=a
   ·exact hb
   ·exact absurd (if_neg hb) z
end L2
namespace L2
open PySem PySem.Spec PyProof.Rows
theorem zyx {l:ynh}{n k:Nat}{q:yya}{loose:List Str}{XP:(Str->Option Value)->Heap->Prop}{YP:World->Heap->Prop}{d:DefRec}{K:Params->yaa}{CX:World->CXT}{sp:World->Sp}{x:Str}
  (hn:l.most=some n) (hn2:n≤yfa) (hdf:d.params.defaults=[]) (hr:Room k yxi)
  (hY:∀(w:World) (h:Heap),YP w h->(K w.params).In h)
  (F:∀(w:World) (mg:Str->Option Value) (fa:Addr) (h:Heap),(K w.params).In h->h.Ns ysa mg->mg d.name=some (.ref fa) →
   ∃fd:yuc,(∀(s:Shared) (u:Value),yui s fd ⟨[u],[]⟩ [(x,u)]) ∧
    ∀base:Heap,(K w.params).In base->base.Ns ysa mg->FnOk l.prog w (K w.params) mg base (CX w) k fa fd [x] (sp w))
  (hsp:∀(w:World) (H:Hp) (a:Addr) (ns:List Int),ns.length≤n->Only H->SqL (K w.params) H a (ns.map V.int)->sp w [.ref a] H (λv _=>v = .bl true) λ_ _ _=>False)
  (hCX:∀(w:World) (H:Hp) (s:Shared) (e:Value) (s':Shared),CX w [] H s (λ_ _ _=>False) e s'->False) :
  yzj q loose XP YP l.row.toRowW d [] (λf vs=>yvj f vs):=by
 refine Att.zqq hn hdf λw s₀ s₁ mg mb fa o pm cd doc a vs ns G Y ho hd hcd hmg hobj hints hlen hg=>?_;have KX:=hY w _ Y;obtain⟨fd,hb,hF⟩:=F w mg fa _ KX G.T.g hmg;exact zrw KX G.T.g G.T.b G.T.builtins G.T.nolimit hg hobj hints (yab hlen hn2) hr hF hb (λH hO hS=>hsp w H a ns hlen hO hS) λH e s'=>hCX w H s₁ e s'
end L2
namespace L2
open PySem PySem.Spec PyProof.Rows
def inClass (s:Stmt)(j:Nat):Stmt:=match s with
 | .ClassDef _ _ _ body _ _ _ _ _ _ _=>body.getD j (.Pass ⟨0,0,0,0⟩)
 | _=>.Pass ⟨0,0,0,0⟩
def zig (s:Stmt):Arguments:=match s with
 | .FunctionDef _ a _ _ _ _ _ _ _ _=>a
 | _=>{ posonlyargs:=[],args:=[],vararg:=none,kwonlyargs:=[],kw_defaults:=[],kwarg:=none,defaults:=[] }
def zyc (s:Stmt):List Stmt:=match s with
 | .FunctionDef _ _ b _ _ _ _ _ _ _=>b
 | _=>[]
def zja (s:Stmt):Scope:=match s with
 | .FunctionDef _ _ _ _ _ _ sc _ _ _=>sc
 | _=>{ kind:=.function,names:=[],isGenerator:=false,isCoroutine:=false }
abbrev CX0:CXT:=λ_ _ _ _ _ _=>False
abbrev E0:XK:=λ_ _ _=>False
theorem zpb {X:Cx}:Passes CX0 X E0:=λ_ _ _ _ _ _ _ h=>h.elim
structure Fun (K:yaa)(x qual:Str)(st:Stmt)(f:Addr)(fd:yuc):Prop where
 ex:Ex9 λ(oc:Value) (od:Option Addr) (kV doc pm:Value) (an:Option Addr) (cdv ct:Value) (osl:Array (Option Value)) =>
  fd=ykd x qual (zig st) (zyc st) (zja st) .none kV doc pm an cdv ct∧K.lookup f=some ⟨oc,od,.func fd,osl⟩∧yge K cdv qual=true
 kp:yxc K (.ref f)=true
section
variable {P:yya}{w:World}{K:yaa}{mg:Str->Option Value}{base:Heap}
theorem Fun.ok {x qual:Str}{st:Stmt}{f:Addr}{fd:yuc}{N ps:List Str}{k:Nat}{sp:Sp}(F:Fun K x qual st f fd)(S:zxa N ps (zja st))(len:∀vs H Q E,sp vs H Q E->vs.length=ps.length)
  (hbody:∀(cdv:Value) (A:Around) (outer:List Env) (s:Shared) (H:Hp) (vs:List V) (Q:VK) (E:XK),Room k (A.deeper (envOfC qual (zja st) s.heap.objs.size f cdv))->sp vs H Q E →
   ∃t,PSs (cxOf CX0 P w K mg base N qual (zja st) f cdv A outer s H E).nox (zyc st) t∧t { nx:=λ_ H'=>Q .non H',rt:=Q } (start N vs) H):FnOk P w K mg base CX0 (k+1) f fd ps sp:=by
 obtain⟨oc,od,kV,doc,pm,an,cdv,ct,osl,rfl,lk,hcd⟩:=F.ex;refine zccb lk hcd S len λA outer s H vs Q E hr hsp=>?_;obtain⟨t,h,q⟩:=hbody cdv A outer s H vs Q E hr hsp;exact⟨t,h.nox,q⟩
theorem Fun.binds {x qual:Str}{st:Stmt}{f:Addr}{fd:yuc}{ps:List Str}(F:Fun K x qual st f fd)
  (h:∀(kV doc pm:Value) (an:Option Addr) (cdv ct:Value) (us:List Value),us.length=ps.length->bindArgs (ykd x qual (zig st) (zyc st) (zja st) .none kV doc pm an cdv ct) ⟨us,[]⟩=pure (ps.zip us)):Binds K fd ps []:=by
 obtain⟨oc,od,kV,doc,pm,an,cdv,ct,osl,rfl,lk,hcd⟩:=F.ex;exact .all (h kV doc pm an cdv ct)
theorem zuu {x qual:Str}{st:Stmt}{f:Addr}{oc:Value}{od an:Option Addr}{osl:Array (Option Value)}{kV doc pm cdv ct:Value}(l:K.lookup f=some ⟨oc,od,.func (ykd x qual (zig st) (zyc st) (zja st) .none kV doc pm an cdv ct),osl⟩)
  (c:yge K cdv qual=true) (k:yxc K (.ref f)=true):Fun K x qual st f (ykd x qual (zig st) (zyc st) (zja st) .none kV doc pm an cdv ct):=⟨⟨oc,od,kV,doc,pm,an,cdv,ct,osl,rfl,l,c⟩,k⟩
end
theorem zyg {n:Nat}(h:n≤1000):n<yfa:=Nat.lt_of_le_of_lt h (by decide)
section
variable {X:Cx}
theorem pv (i:Nat){x:Str}{pos:Pos}(hN:X.N[i]?=some x:=by rfl)(hv:Vis X.env.scope x:=by first|exact Or.inl rfl|exact Or.inr (Or.inl rfl)|exact Or.inr (Or.inr rfl))(hd:(x==("__debug__":Str))=false:=by decide)
  (hcd:(x==("__classdict__":Str))=false:=by decide):PE X (.Name x pos) (tVar i):=zcbb hN hv hd hcd
end
theorem iteF {A B:Prop}(h:B):if false=true then A else B:=by
 rw[if_neg yka];exact h
theorem iteT {A B:Prop}(h:A):if true=true then A else B:=by
 rw[if_pos rfl];exact h
theorem ite2 {c A B:Prop}[Decidable c](h1:c->A)(h2:¬ c->B):if c then A else B:=by
 by_cases h:c
 ·rw[if_pos h];exact h1 h
 ·rw[if_neg h];exact h2 h
def Same (H H':Hp):Prop:=∀b o,H b=some o->H' b=some o
theorem Same.refl (H:Hp):Same H H:=λ_ _ h=>h
theorem Same.trans {H H1 H2:Hp}(a:Same H H1)(b:Same H1 H2):Same H H2:=λc o h=>b c o (a c o h)
end L2
namespace L2
open PySem PySem.Spec PyProof.Rows
def clGo (cells:List (Str×Addr)):List (Str×yrb)->List (Str×Addr)->List (Str×Addr)
 | [],cs=>cs
 | (n,k)::r,cs=>clGo cells r (if k == .free then (match cells.lookup n with|some c=>(n,c)::cs|none=>cs) else cs)
def clOf (sc:Scope)(cells:List (Str×Addr)):List (Str×Addr):=clGo cells sc.names []
theorem zxl {sc:Scope}{env:Env}(h:∀y∈sc.names,y.2 = .free->∃c,env.cells.lookup y.1=some c):closureFor sc env=pure (clOf sc env.cells):=by
 have go:∀(l:List (Str×yrb)) (cs:List (Str×Addr)),(∀y∈l,y.2 = .free->∃c,env.cells.lookup y.1=some c) →
   (forIn l cs (λ(x:Str×yrb) (r:List (Str×Addr))=>(match x with|(name,kind)=>if kind==yrb.free then (do let c ← cellOf env name;pure (ForInStep.yield ((name,c)::r))) else pure (ForInStep.yield r):Sem (ForInStep (List (Str×Addr))))))=pure (clGo env.cells l cs):=by
  intro l
  induction l with
  | nil=>intro cs _;rfl
  | cons y r ih =>
   intro cs h;obtain⟨n,k⟩:=y;have hr:∀y∈r,y.2 = .free->∃c,env.cells.lookup y.1=some c:=λy hy=>h y (yea _ hy);rw[List.forIn_cons]
   by_cases hk:k = .free
   ·subst hk;obtain⟨c,e⟩:=h (n,.free) yua rfl;have e':env.cells.lookup n=some c:=e;simp only[beq_self_eq_true,if_true,cellOf,e',pure_bind,clGo];exact ih _ hr
   ·have hb:(k==yrb.free)=false:=by simpa using hk
    simp only[hb,Bool.false_eq_true,if_false,pure_bind,clGo];exact ih _ hr
 unfold closureFor clOf;refine Eq.trans (bind_pure _) ?_;exact go sc.names [] h
theorem zbj {cells:List (Str×Addr)}:∀(l:List (Str×yrb)) (cs:List (Str×Addr)),(∀x c,cs.lookup x=some c->cells.lookup x=some c)->∀x c,(clGo cells l cs).lookup x=some c->cells.lookup x=some c
 | [],_,h,x,c,e=>h x c e
 | (n,k)::r,cs,h,x,c,e=>by
  refine zbj r _ (λy d z=>?_) x c e
  by_cases hk:(k==yrb.free)=true
  ·rw[if_pos hk] at z;cases q:cells.lookup n with
   | none=>rw[q] at z;exact h y d z
   | some a =>
    rw[q] at z;have z':ypc y ((n,a)::cs)=some d:=z;rw[yvc] at z';cases hy:y==n with
    | true =>
     rw[hy] at z';have ey:y=n:=(by simpa using hy);rw[ey,q];exact z'
    | false =>
     rw[hy] at z';exact h y d z'
  ·rw[if_neg hk] at z;exact h y d z
theorem zzr {cells:List (Str×Addr)}:∀(l:List (Str×yrb)) (cs:List (Str×Addr)) (x:Str),((x,yrb.free)∈l∧(∃c,cells.lookup x=some c))∨(∃c,cs.lookup x=some c)->∃c,(clGo cells l cs).lookup x=some c
 | [],cs,x,h=>by
  rcases h with⟨h,_⟩|h
  ·cases h
  ·exact h
 | (n,k)::r,cs,x,h=>by
  refine zzr r _ x ?_;have put:(∃c,cs.lookup x=some c)->∃c,(if (k==yrb.free)=true then (match cells.lookup n with|some c=>(n,c)::cs|none=>cs) else cs).lookup x=some c:=λ⟨c,e⟩=>by
   by_cases hk:(k==yrb.free)=true
   ·rw[if_pos hk];cases q:cells.lookup n with
    | none=>exact⟨c,e⟩
    | some a =>
     show ∃c,ypc x ((n,a)::cs)=some c
     rw[yvc];cases hy:x==n with
     | true=>exact⟨a,rfl⟩
     | false=>exact⟨c,e⟩
   ·rw[if_neg hk];exact⟨c,e⟩
  rcases h with⟨h,c,e⟩|h
  ·rcases yga.mp h with z|z
   ·injection z with z1 z2
    subst z1;subst z2;refine .inr ⟨c,?_⟩;show ypc x (match cells.lookup x with|some c=>(x,c)::cs|none=>cs)=some c
    rw[e];show ypc x ((x,c)::cs)=some c
    rw[yvc,beq_self_eq_true]
   ·exact .inl ⟨z,c,e⟩
  ·exact .inr (put h)
theorem zki {env:Env}:∀{l:List (Str×yrb)} {x:Str},(∀y∈l,y.2≠yrb.cell) →
  ((l.map λ(n,k)=>if (k==yrb.free&&env.scope.kind == .function&&env.kindOf n==some .cell) then (n,yrb.cell) else (n,k)).lookup x=some .cell ∨
   (l.map λ(n,k)=>if (k==yrb.free&&env.scope.kind == .function&&env.kindOf n==some .cell) then (n,yrb.cell) else (n,k)).lookup x=some .free)->(x,yrb.free)∈l
 | [],x,_,h=>by rcases h with h|h<;>simp at h
 | (n,k)::r,x,hc,h=>by
  rw[yob] at h;have nk:k≠yrb.cell:=hc (n,k) yua
  by_cases hx:x=n
  ·subst hx;have kf:k = .free:=by
    by_cases q:(k==yrb.free&&env.scope.kind == .function&&env.kindOf x==some .cell)=true
    ·rw[yxb,yxb] at q
     simpa using q.1.1
    ·have e:(match (x,k) with|(n,k)=>if (k==yrb.free&&env.scope.kind == .function&&env.kindOf n==some .cell)=true then (n,yrb.cell) else (n,k))=(x,k):=if_neg q;rw[e,yvc,beq_self_eq_true] at h
     rcases h with h|h
     ·exact absurd (yva h) nk
     ·exact yva h
   subst kf;exact yua
  ·refine yea _ (zki (env:=env) (λy hy=>hc y (yea _ hy)) ?_);have hb:(x==n)=false:=by simpa using hx
   by_cases q:(k==yrb.free&&env.scope.kind == .function&&env.kindOf n==some .cell)=true
   ·have e:(match (n,k) with|(n,k)=>if (k==yrb.free&&env.scope.kind == .function&&env.kindOf n==some .cell)=true then (n,yrb.cell) else (n,k))=(n,yrb.cell):=if_pos q;rw[e,yvc,hb] at h;exact h
   ·have e:(match (n,k) with|(n,k)=>if (k==yrb.free&&env.scope.kind == .function&&env.kindOf n==some .cell)=true then (n,yrb.cell) else (n,k))=(n,k):=if_neg q;rw[e,yvc,hb] at h;exact h
def blk (X:Cx)(N':List Str)(sc:Scope)(fp:List Addr)(s:Shared)(H:Hp)(C:Addr):Cx where
 prog:=X.prog
 w:=X.w
 K:=X.K
 mg:=X.mg
 base:=X.base
 A:=X.A
 N:=N'
 s₀:=s
 H₀:=H
 env:=compEnvC sc (clOf sc X.env.cells) C X.env
 outer:=X.stack
 stack:=X.stack
 ex:=fp
 fn:=λ_=>false
 calm:=X.calm
 pn:=[]
 xe:=λ_ _=>False
inductive Caps (X:Cx)(sc:Scope):List Str->List Nat->Prop where
 | nil:Caps X sc [] []
 | cons {x:Str} {j:Nat} {cap:List Str} {js:List Nat} (hj:X.N[j]?=some x) (hk:X.env.kindOf x=some .cell∨X.env.kindOf x=some .free)
   (hr:(yyi sc X.env).names.lookup x=some .cell∨(yyi sc X.env).names.lookup x=some .free):Caps X sc cap js->Caps X sc (x::cap) (j::js)
structure zkd (X:Cx)(sc:Scope):Prop where
 kind:sc.kind = .function
 cell:∀y∈sc.names,y.2 ≠ .cell
 names:∀y∈sc.names,y.2 = .local->sc.names.lookup y.1=some .local
 free:∀y∈sc.names,y.2 = .free->X.env.kindOf y.1=some .cell∨X.env.kindOf y.1=some .free
def zfcb (sc:Scope)(nm:List (Str×yrb)):Bool:=sc.names.all λy=>y.2 != .cell&&(y.2 != .local||sc.names.lookup y.1==some .local)&&(y.2 != .free||(nm.lookup y.1==some .cell||nm.lookup y.1==some .free))
theorem zkd.chk {X:Cx}{sc:Scope}(hk:sc.kind = .function)(h:zfcb sc X.env.scope.names=true):zkd X sc:=by
 have a:=yec.mp h;refine⟨hk,λy hy e=>?_,λy hy e=>?_,λy hy e=>?_⟩
 ·have q:=a y hy;rw[e] at q;simp at q
 ·have q:=a y hy;rw[e] at q
  simpa using q
 ·have q:=a y hy;rw[e] at q;have q':X.env.scope.names.lookup y.1=some .cell∨X.env.scope.names.lookup y.1=some .free:=by simpa using q
  exact q'
def zpd (n:Nat)(js:List Nat)(σ:St):St:=yoa n none++js.map λj=>(σ[j]?).join
theorem Caps.len {X:Cx}{sc:Scope}:∀{cap:List Str} {js:List Nat},Caps X sc cap js->cap.length=js.length
 | _,_,.nil=>rfl
 | _,_,.cons _ _ _ c=>by rw[yta,yta,c.len]
theorem Caps.get {X:Cx}{sc:Scope}:∀{cap:List Str} {js:List Nat},Caps X sc cap js->∀{i:Nat} {x:Str},cap[i]?=some x →
  ∃j,js[i]?=some j∧X.N[j]?=some x∧(X.env.kindOf x=some .cell∨X.env.kindOf x=some .free)∧((yyi sc X.env).names.lookup x=some .cell∨(yyi sc X.env).names.lookup x=some .free)
 | _,_,.nil,i,x,e=>by simp at e
 | _,_,.cons hj hk hr c,0,x,e=>by
  rw[ytg] at e;cases e;exact⟨_,rfl,hj,hk,hr⟩
 | _,_,.cons hj hk hr c,i+1,x,e=>by
  rw[ynd] at e;obtain⟨j,h1,h2⟩:=c.get e;exact⟨j,by rw[ynd];exact h1,h2⟩
theorem zfv {X:Cx}{sc:Scope}{own cap:List Str}{js:List Nat}{σ:St}(C:Caps X sc cap js):(zpd own.length js σ).length=(own++cap).length:=by
 unfold zpd;rw[yca,ykc,yba,yca,C.len]
theorem zcp {n:Nat}{js:List Nat}{σ:St}{i:Nat}{v:V}(e:(zpd n js σ)[i]?=some (some v)):n≤i∧∃j,js[i-n]?=some j∧σ[j]?=some (some v):=by
 unfold zpd at e
 by_cases h:i<n
 ·rw[ycd (by simpa using h),ysg,if_pos h] at e;cases e
 ·refine⟨by omega,?_⟩;rw[ymc (by rw[ykc];omega),ykc,yce] at e;cases q:js[i-n]? with
  | none=>rw[q] at e;cases e
  | some j =>
   rw[q] at e;have e':(σ[j]?).join=some v:=yva e;refine⟨j,rfl,?_⟩;cases z:σ[j]? with
   | none=>rw[z] at e';cases e'
   | some o =>
    rw[z] at e';have e2:o=some v:=e';rw[e2]
theorem zyl {n:Nat}{js:List Nat}{σ σ2:St}(hd:σ2.drop n=(zpd n js σ).drop n){i:Nat}{v:V}(e:(zpd n js σ)[i]?=some (some v)):σ2[i]?=some (some v):=by
 have h:=(zcp e).1;have q:(σ2.drop n)[i-n]?=((zpd n js σ).drop n)[i-n]?:=by rw[hd]
 rw[yqe,yqe,show n+(i-n)=i by omega] at q;rw[q];exact e
def PTs (X:Cx)(ifs:List Expr)(t:TT):Prop :=
 ∀(pins:List (Addr×Obj)) (s:Shared) (σ:St) (H:Hp) (Q:Bool->Hp->Prop),Inv X pins σ H s->t σ H Q →
  wpAny (model X.prog X.w) X.A (forIn ifs true λc r=>if r=true then do let ok ← isTrue c X.env (eval c X.env);pure (ForInStep.yield ok) else pure (ForInStep.yield r)) (TP X pins σ Q) X.xe s
def zdab:TT:=λ_ H Q=>Q true H
theorem znm {X:Cx}:PTs X [] zdab:=λ_ _ _ H _ I h=>wpAny_tests_nil ⟨H,I,h⟩
theorem zyo {prog:yya}{w:World}{A:Around}{R:Result->Shared->Prop}{s:Shared}{elt tg iter:Expr}{ifs:List Expr}{scope:Scope}{pos:Pos}{it acc:Value}{env:Env}(I:Nat->Shared->Prop)
  (turn:∀n s,I n s->wpAny (model prog w) A (pyNext it) (λr s₁=>match r with
   | none=>R (.ok .next) s₁
   | some v=>wpAny (model prog w) A (ykf tg it v) (λ_ s₀=>wpAny (model prog w) A (assign tg env v) (λ_ s₂ =>
     wpAny (model prog w) A (forIn ifs true λc r=>if r=true then do let ok ← isTrue c env (eval c env);pure (ForInStep.yield ok) else pure (ForInStep.yield r)) (λok s₃ =>
      if ok=true then wpAny (model prog w) A (eval elt env) (λx s₄ =>
       wpAny (model prog w) A (call (.builtin "list.append") [acc,x]) (λ_ s₅=>∃m,m<n∧I m s₅) (yrj (model prog w) A env λe s'=>R (.error e) s') s₄) (yrj (model prog w) A env λe s'=>R (.error e) s') s₃
      else ∃m,m<n∧I m s₃) (yrj (model prog w) A env λe s'=>R (.error e) s') s₂) (yrj (model prog w) A env λe s'=>R (.error e) s') s₀) (yrj (model prog w) A env λe s'=>R (.error e) s') s₁)
    (yrj (model prog w) A env λe s'=>R (.error e) s') s)
  (n:Nat) (h:I n s) :
  ybg (model prog w) A (.compLoop (.ListComp elt [⟨tg,iter,ifs,0⟩] scope pos) 0 it acc env) R s:=by
 refine codeAny_loop rfl I (λn s hI=>?_) n h;show wpAny _ A ((compTurn (.ListComp elt [⟨tg,iter,ifs,0⟩] scope pos) 0 it acc env).onRaise (λx=>do noteFrame x env;theTreesLotGoes x)) _ _ s
 refine wpAny_noted ?_;rw[compTurn_list];refine yhb (yhi (yhb (yhc (turn n s hI) (λr s₁ h₁=>?_) λ_ _ h'=>h')));cases r with
 | none=>exact yic h₁
 | some v =>
  refine yhb (yhc h₁ (λ_ s₀ h₀=>?_) λ_ _ h'=>h');refine yhb (yhc h₀ (λ_ s₂ h₂=>yhb (yhc h₂ (λok s₃ h₃=>?_) λ_ _ h'=>h')) λ_ _ h'=>h');cases ok with
  | false=>exact yic ⟨rfl,h₃⟩
  | true =>
   exact yhb (yhb (yhc h₃ (λx s₄ h₄=>yhb (yhc h₄ (λ_ s₅ h₅=>yic (yic ⟨rfl,h₅⟩)) λ_ _ h'=>h')) λ_ _ h'=>h'))
def zvs (J:It)(H1:Hp)(g:TG)(tt:TT)(te:TE)(n:Nat)(js:List Nat)(σ:St)(Q:VK):Prop:=∃W:Nat->Nat->List V->Hp->Prop,(∃m,W 0 m [] H1)∧∀i m ys H,W i m ys H →
 (J.stop i H∧ys.length≤yfa∧∀p,H p=none->Q (.ref p) (upd H p (.lst ys))) ∨
 (J.go i H∧ys.length≤yfa∧∃N:List V->Hp->Prop,(∀ys' H',N ys' H'->∃m',m'<m∧W (i+1) m' ys' H')∧∀x H',J.yld i H x H'->g x (zpd n js σ) H' fun σ2 H2=>σ2.drop n=(zpd n js σ).drop n∧tt σ2 H2 λb H3 =>
  if b=true then te σ2 H3 λy H4=>N (ys++[y]) H4 else N ys H3)
def zgab (wi:TI)(g:TG)(tt:TT)(te:TE)(n:Nat)(js:List Nat):TE:=fun σ H Q=>wi σ H λJ H1=>zvs J H1 g tt te n js σ Q
section
variable {X:Cx}
theorem Vals.snoc {xs:List V}{us:List Value}{x:V}{u:Value}(r:Vals xs us)(q:RelV x u):Vals (xs++[x]) (us++[u]):=r.append (.cons q .nil)
theorem zbv {pins:List (Addr×Obj)}{σ:St}{H:Hp}{s s3:Shared}{sc:Scope}{own cap:List Str}{js:List Nat}{fp:List Addr}{C:Addr}{tn:Nat->Heap->Prop}{h₁:Heap}{tk:Nat}{m:Str->Option Value}(I:Inv X pins σ H s)(S:zkd X sc)(cp:Caps X sc cap js)
  (hob:∀b∈fp,∃o,s.heap.get? b=some o∧∀v,o.data ≠ .cell v) (hf:∀b∈fp,FpOk X pins H b) (hC:s.heap.objs.size≤C) (hn:h₁.Ns C m) (old:∀b o,s.heap.get? b=some o->h₁.get? b=some o) :
  Inv (blk X (own++cap) sc fp s H C) [] (zpd own.length js σ) H { s with heap:=h₁,toks:=tk }:=by
 have sub:∀x c,(clOf sc X.env.cells).lookup x=some c->X.env.cells.lookup x=some c:=zbj sc.names [] (λx c e=>by simp at e);have has:∀x,((yyi sc X.env).names.lookup x=some .cell∨(yyi sc X.env).names.lookup x=some .free)->∃c,(clOf sc X.env.cells).lookup x=some c:=λx hx=>by
  have hm:=zki (env:=X.env) (l:=sc.names) (x:=x) S.cell hx;exact zzr sc.names [] x (.inl ⟨hm,I.ok.has x (S.free _ hm rfl)⟩)
 refine⟨⟨I.ok.mod,S.kind,I.ok.glob,I.ok.blt,hC,λx y c e1 e2=>I.ok.inj x y c (sub x c e1) (sub y c e2),has,(λx c e=>by cases e),I.ok.hd,I.ok.frames,.inl rfl,λb hb=>?_,I.bs,yab I.ok.bsz I.sz,λb o e hb=>?_,λb hb z=>?_,I.stack,I.zsp⟩,
  rfl,I.bare,Un.kept old,⟨m,hn,λi x v h1 h2 h3=>?_⟩,λx c e=>?_,I.hok.fresh hC,λx c e=>I.freeC x c (sub x c e),λp hp=>absurd (show p∈([]:List (Addr×Obj)) from hp) (by simp),I.hok.kept old,zfv cp⟩
 ·obtain⟨o,e,_⟩:=hob b hb;refine⟨yfb (yda (yja e) hC),λx c e=>?_⟩;exact (hf b hb).2.2.2.2.1 x c (sub x c e)
 ·obtain⟨_,_,_,h4,_,_⟩:=hf b hb
  rcases h4 with z|z
  ·exact I.ok.noex b o e z
  ·exact absurd (yda (yja e) (yab I.ok.bsz z)) (yrc _)
 ·obtain⟨_,h2,h3,_⟩:=hf b hb
  rcases yga.mp (I.zil b z) with q|q
  ·exact h2 q
  ·exact h3 q
 ·obtain⟨hni,j,hj,hv⟩:=zcp h2;have h1':(own++cap)[i]?=some x:=h1;rw[ymc hni] at h1';obtain⟨j',e1,e2,e3,e4⟩:=cp.get h1';rw[hj] at e1;cases e1;obtain⟨m0,hn0,hl0⟩:=I.loc;have vis:Vis X.env.scope x:=.inr e3;obtain⟨u,ru,lk⟩:=hl0 j x v e2 hv vis;refine⟨u,ru,?_⟩
  rcases lk with⟨k,_⟩|⟨k,c,ec,hc⟩
  ·exfalso
   rcases e3 with q|q
   ·rw[q] at k;cases k
   ·rw[q] at k;cases k
  ·obtain⟨c',ec'⟩:=has x e4;have q:=sub x c' ec';rw[ec] at q;cases q;exact .inr ⟨e4,c,ec',hc.keeps old⟩
 ·obtain⟨v,z⟩:=I.cell x c (sub x c e);exact⟨v,z.keeps old⟩
theorem zdv {pins pn:List (Addr×Obj)}{σ σ':St}{H H':Hp}{s s':Shared}{sc:Scope}{N':List Str}{fp:List Addr}{C D:Addr}{h':Heap}{ys:List V}{its:List Value}{nn:Nat}(I:Inv X pins σ H s)(J:Inv (blk X N' sc fp s H C) pn σ' H' s')
  (hf:∀b∈fp,FpOk X pins H b) (hC:s.heap.objs.size≤C) (hD:s.heap.objs.size≤D) (hDC:D≠C) (hn:H' D=none) (ho:s'.heap.get? D=some { cls:=.type "list",data:=.seq its.toArray nn }) (hz:ys.length≤yfa) (rv:Vals ys its)
  (hs:ywf C s'.heap h'):Inv X pins σ (upd H' D (.lst ys)) { s' with heap:=h' }:=by
 have u:Un (frs X.stack) fp H H' s.heap s'.heap:=J.base;have low:∀b o,s.heap.get? b=some o->b≠C∧b≠D:=λb o e=>⟨yfb (yda (yja e) hC),yfb (yda (yja e) hD)⟩;have kp:∀b o,b≠C->s'.heap.get? b=some o->h'.get? b=some o:=λb o hb e=>(hs.2 b hb).trans e;have u2:Un (frs X.stack) fp H (upd H' D (.lst ys)) s.heap h':=by
  refine⟨λb o e n hb hx=>kp b o (low b o e).1 (u.keep b o e n hb hx),λb o e n hb hx=>?_,λb o e n hx=>?_,λb o e hx=>?_,λb xs e=>?_,λb o xs e=>?_,λb ps e=>?_⟩
  ·obtain⟨sl,q⟩:=u.slot b o e n hb hx;exact⟨sl,kp b _ (low b o e).1 q⟩
  ·rw[zoa (low b o e).2];exact u.free b o e n hx
  ·obtain⟨o',q⟩:=u.there b o e hx;exact⟨o',kp b _ (low b o e).1 q⟩
  ·have q:=u.tups b xs e;rw[zoa (zka q hn)];exact q
  ·have q:=u.frzs b o xs e;rw[zoa (zka q hn)];exact q
  ·obtain⟨more,q⟩:=u.tbls b ps e;exact⟨more,by rw[zoa (zka q hn)];exact q⟩
 have nC:H' C=none:=J.free;have hok:HOk X.prog X.w (upd H' D (.lst ys)) h':=λb o e=>by
  by_cases hb:b=D
  ·subst hb;rw[zea] at e;cases e;exact⟨hz,its,nn,rv,kp b _ hDC ho⟩
  ·rw[zoa hb] at e;refine (J.hok b o e).stay (λc v hc q=>kp c v ?_ q) (λc q=>?_) λc xs q=>?_
   ·rintro rfl
    rcases hc with z|z
    ·rw[← z,nC] at e;cases e
    ·rw[nC] at z;cases z
   ·rw[zoa (zka q hn)];exact q
   ·rw[zoa (zka q hn)];exact q
 have os:=J.os;have bare:=J.bare;obtain⟨hh,g,d,t,os'⟩:=s';obtain rfl:os'=s.os:=os;have z:=I.call (h':=h') (g':=g) (d':=d) (t':=t) (ch:=fp) u2 hok bare λb hb=>⟨(hf b hb).2.2.2.1,(hf b hb).2.1,(hf b hb).2.2.2.2.1,(hf b hb).2.2.2.2.2⟩;exact z
theorem zcv {elt iter tg:Expr}{ifs:List Expr}{sc:Scope}{pos:Pos}{own cap:List Str}{js:List Nat}{g:TG}{tt:TT}{te:TE}{Qf:List V->Hp->Prop}{RR:Value->Addr->Result->Shared->Prop}{E:Value->Shared->Prop}
  {pins:List (Addr×Obj)} {σ:St} {H2:Hp} {s2:Shared} {it:Addr} {fp:List Addr} {tn:Nat->Heap->Prop} {J:It} {W:Nat->Nat->List V->Hp->Prop} {m0:Nat}
  (hc:X.calm=true) (S:zkd X sc) (cp:Caps X sc cap js)
  (hg:∀fp s H C,PG (blk X (own++cap) sc fp s H C) tg g) (ht:∀fp s H C,PTs (blk X (own++cap) sc fp s H C) ifs tt) (he:∀fp s H C,PE (blk X (own++cap) sc fp s H C) elt te)
  (I2:Inv X pins σ H2 s2) (T:Turn X.prog X.w X.K tg J fp it tn) (st2:tn 0 s2.heap) (f2:∀b∈fp,FpOk X pins H2 b) (w0:W 0 m0 [] H2)
  (turn:∀i m ys H,W i m ys H->(J.stop i H∧ys.length≤yfa∧Qf ys H) ∨
   (J.go i H∧ys.length≤yfa∧∃N:List V->Hp->Prop,(∀ys' H',N ys' H'->∃m',m'<m∧W (i+1) m' ys' H')∧∀x H',J.yld i H x H'->g x (zpd own.length js σ) H' fun σ2 H2=>σ2.drop own.length=(zpd own.length js σ).drop own.length∧tt σ2 H2 λb H3 =>
    if b=true then te σ2 H3 λy H4=>N (ys++[y]) H4 else N ys H3))
  (hRR:∀D C H4 s4 pn ys its nn,s2.heap.objs.size≤D->s2.heap.objs.size≤C->D≠C->Inv (blk X (own++cap) sc fp s2 H2 C) pn (zpd own.length js σ) H4 s4->H4 D=none->s4.heap.get? D=some { cls:=.type "list",data:=.seq its.toArray nn } →
   ys.length≤yfa->Vals ys its->Qf ys H4->RR (.ref D) C (.ok .next) s4) :
  wpAny (model X.prog X.w) X.A (newList []) (λacc s₃=>wpAny (model X.prog X.w) X.A (newFunctionEnv sc X.env.globals (clOf sc X.env.cells) [] X.env.qual none .none (some X.env)) (λcenv s₄ =>
   ybg (model X.prog X.w) X.A (.compStart (.ListComp elt [⟨tg,iter,ifs,0⟩] sc pos) 0 (.ref it) acc { cenv with scope:=yyi sc X.env }) (RR acc cenv.locals) s₄) E s₃) E s2:=by
 refine wpAny_newObj_type (wpAny_newFunctionEnv S.cell (by intro y hy;simp at hy) (λh₁ hns₁ hsb₁=>?_) S.kind);dsimp only at hns₁ hsb₁ ⊢;generalize hH2:s2.heap.push { cls:=.type "list",dict:=none,data:=.seq ([]:List Value).toArray }=HH at hns₁ hsb₁ ⊢;generalize hDd:s2.heap.objs.size=D at hns₁ hsb₁ ⊢;generalize hCc:HH.objs.size=C at hns₁ hsb₁ ⊢;have hC:C=D+1:=by rw[← hCc,← hH2,yai,hDd]
 have hDC:D≠C:=by rw[hC];exact yfb (yzg _)
 have hCle:s2.heap.objs.size≤C:=by rw[hDd,hC];exact Nat.le_succ _
 have hDle:s2.heap.objs.size≤D:=yej hDd;have below:∀b,b<s2.heap.objs.size->b≠C∧b≠D:=λb hb=>⟨yfb (yda hb hCle),yfb (yda hb hDle)⟩;have old:∀b o,s2.heap.get? b=some o->h₁.get? b=some o:=λb o e=>hsb₁.extBut b o (below b (yja e)).1 (yha _ (hH2▸yha _ e));have q0:HH.get? D=some { cls:=.type "list",data:=.seq ([]:List Value).toArray 0 }:=by
  rw[← hH2,← hDd];exact ycb _ rfl
 have hacc:h₁.get? D=some { cls:=.type "list",data:=.seq ([]:List Value).toArray 0 }:=hsb₁.extBut _ _ hDC (yha _ q0);have fpo:=T.obj 0 _ st2;have fplt:∀b∈fp,b<s2.heap.objs.size:=λb hb=>by obtain⟨o,e,_⟩:=fpo b hb;exact yja e
 have st3:tn 0 h₁:=T.keep 0 _ _ st2 λb hb o e=>old b o e;have I3:∀tk,Inv (blk X (own++cap) sc fp s2 H2 C) [] (zpd own.length js σ) H2 { s2 with heap:=h₁,toks:=tk }:=λtk=>zbv (s3:=s2) (tn:=tn) I2 S cp fpo f2 hCle hns₁ old;have stkD:∀b,s2.heap.objs.size≤b->b∉frs X.stack:=λb hb hm=>by
  obtain⟨_,o,e,_⟩:=I2.stack.mem hm;exact absurd (yda (yja e) hb) (yrc _)
 have nD:H2 D=none:=I2.hok.fresh hDle;have stat:∀{pn:List (Addr×Obj)} {H':Hp},(∀p∈pn,p.1=D)->(∀b∈fp,H' b=none)->∀b∈fp,FpOk (blk X (own++cap) sc fp s2 H2 C) pn H' b:=λ{pn H'} hp hn b hb=>by
  refine⟨hn b hb,(below b (fplt b hb)).1,λz=>?_,.inl hb,λx c e=>?_,λp hp' z=>?_⟩
  ·obtain⟨_,h2,h3,_⟩:=f2 b hb
   rcases yga.mp (I2.zil b z) with q|q
   ·exact h2 q
   ·exact h3 q
  ·exact (f2 b hb).2.2.2.2.1 x c (zbj sc.names [] (λx c e=>by simp at e) x c e)
  ·have e:=hp p (by simpa [blk] using hp');rw[e] at z;exact (below b (fplt b hb)).2 z.symm
 have pinD:∀{H':Hp} {s':Shared} {o:Obj},Inv (blk X (own++cap) sc fp s2 H2 C) [] (zpd own.length js σ) H' s'->H' D=none->s'.heap.get? D=some o->(∀v,o.data ≠ .cell v)->Inv (blk X (own++cap) sc fp s2 H2 C) [(D,o)] (zpd own.length js σ) H' s':=λ{H' s' o} I' n e d =>
  I'.zwj λp hp=>by
   have q:p=(D,o):=(by simpa using hp);subst q;exact⟨e,n,hDC,stkD D hDle,d⟩
 have loop:∀s₃:Shared,s₃={ s2 with heap:=h₁,toks:=s2.toks+([]:List (Str×Value)).length } →
   ybg (model X.prog X.w) X.A (.compLoop (.ListComp elt [⟨tg,iter,ifs,0⟩] sc pos) 0 (.ref it) (.ref D) (compEnvC sc (clOf sc X.env.cells) C X.env)) (RR (.ref D) C) s₃:=by
  rintro s₃ rfl;refine zyo (λk s'=>Ex5 λi ys its nn H'=>Inv (blk X (own++cap) sc fp s2 H2 C) [] (zpd own.length js σ) H' s'∧tn i s'.heap∧(∀b∈fp,H' b=none)∧H' D=none ∧
   s'.heap.get? D=some { cls:=.type "list",data:=.seq its.toArray nn }∧Vals ys its∧W i k ys H') ?_ m0 ⟨0,[],[],0,H2,I3 _,st3,λb hb=>(f2 b hb).1,nD,hacc,.nil,w0⟩
  rintro k s3 ⟨i,ys,its,nn,H3,I3,st3,fr3,d3,o3,rv3,w3⟩;have I3':=pinD I3 d3 o3 (λv z=>by cases z);have only:∀p∈[(D,({ cls:=.type "list",data:=.seq its.toArray nn }:Obj))],p.1=D:=λp hp=>by
   rw[yqa.mp hp]
  rcases turn i k ys H3 w3 with⟨stop,hz,qn⟩|⟨go,hz,N,hN,step⟩
  ·refine yhc (T.done (blk X (own++cap) sc fp s2 H2 C) rfl rfl rfl hc i _ s3 _ H3 (λ_ _=>False) I3' (stat only fr3) st3 stop) (λr s4 ⟨hr,I4⟩=>?_) λ_ _ z=>z.elim;subst hr;have o4:=(I4.pin (D,_) (yra _ (yqa.mpr rfl))).1;exact hRR D C H3 s4 _ ys its nn hDle hCle hDC I4 d3 o4 hz rv3 qn
  ·refine yhc (T.item (blk X (own++cap) sc fp s2 H2 C) rfl rfl rfl hc i _ s3 _ H3 (λ_ _=>False) I3' (stat only fr3) st3 go) (λr s4 ⟨u,hr,h4⟩=>?_) λ_ _ z=>z.elim;subst hr;refine yhc h4 (λ_ s5 ⟨x,H5,I5,r5,y5,st5,fr5⟩=>?_) λ_ _ z=>z.elim;have I5':=I5.pinned (stat only fr5) (T.obj _ _ st5);refine yhc (hg fp s2 H2 C _ s5 _ H5 x u _ I5' r5 (step x H5 y5)) (λ_ s6 ⟨σ6,H6,I6,d6,q6⟩=>?_) λ_ _ z=>z.elim;refine yhc (ht fp s2 H2 C _ s6 σ6 H6 _ I6 q6) (λok s7 ⟨H7,I7,q7⟩=>?_) λ_ _ z=>z.elim;have memD:∀{o:Obj},(D,o)∈(blk X (own++cap) sc fp s2 H2 C).pn++([(D,o)]++zql fp s5.heap):=yra _ (yzb _ (yqa.mpr rfl));have memF:∀{b:Addr} {o o':Obj},b∈fp->s5.heap.get? b=some o->(b,o)∈(blk X (own++cap) sc fp s2 H2 C).pn++([(D,o')]++zql fp s5.heap):=λhb e=>yra _ (yra _ (zvh hb e));have σlen:(zpd own.length js σ).length=σ6.length:=by
    have a:=I6.len;have b:=I5.len;exact b.trans a.symm
   cases ok with
   | false =>
    have q7':N ys H7:=q7;obtain⟨m',hm,w7⟩:=hN _ _ q7';refine⟨m',hm,i+1,ys,its,nn,H7,(I7.zwj λp hp=>absurd hp (by simp)).weak σlen (λj v e=>zyl d6 e),T.keep _ _ _ st5 λb hb o e=>(I7.pin (b,o) (memF hb e)).1,λb hb=>?_,(I7.pin (D,_) memD).2.1,(I7.pin (D,_) memD).1,rv3,w7⟩;obtain⟨o,e,_⟩:=T.obj _ _ st5 b hb;exact (I7.pin (b,o) (memF hb e)).2.1
   | true =>
    have q7':te σ6 H7 λy H4=>N (ys++[y]) H4:=q7;refine yhc (he fp s2 H2 C _ s7 σ6 H7 _ I7 q7') (λyv s8 ⟨y,H8,I8,r8,n8'⟩=>?_) λ_ _ z=>z.elim;obtain⟨m',hm,w8⟩:=hN _ _ n8';have o8:=(I8.pin (D,_) memD).1;have n8:=(I8.pin (D,_) memD).2.1;refine append_at (hsz:=by rw[yma,← rv3.length];exact hz) o8 λh9 hs9 hD9=>?_;have I8':=(I8.zwj (pins':=[]) λp hp=>absurd hp (by simp)).weak σlen (λj v e=>zyl d6 e);have I9:=I8'.turned (h':=h9) (t':=s8.toks) (it:=D) (λb o hb e=>(hs9.2 b hb).trans e) n8 hDC (.inr hDle) (λx c e z=>by
     obtain⟨v,q⟩:=I2.cell x c (zbj sc.names [] (λx c e=>by simp at e) x c e);exact absurd (yda q.lt (by rw[z];exact hDle)) (yrc _)) (λp hp=>absurd (show p∈([]:List (Addr×Obj)) from hp) (by simp))
    refine⟨m',hm,i+1,ys++[y],its++[yv],nn+1,H8,I9,T.keep _ _ _ st5 λb hb o e=>(hs9.2 b (below b (fplt b hb)).2).trans (I8.pin (b,o) (memF hb e)).1,λb hb=>?_,n8,?_,rv3.snoc r8,w8⟩
    ·obtain⟨o,e,_⟩:=T.obj _ _ st5 b hb;exact (I8.pin (b,o) (memF hb e)).2.1
    ·rw[hD9,List.push_toArray]
 exact codeAny_compStart_list (loop _ rfl) (T.self X.A 0 _ _ _ st3 (loop _ rfl))
theorem zaq {elt iter tg:Expr}{ifs:List Expr}{sc:Scope}{pos:Pos}{own cap:List Str}{js:List Nat}{wi:TI}{g:TG}{tt:TT}{te:TE}(hc:X.calm=true)(S:zkd X sc)(cp:Caps X sc cap js)(hi:PI X tg iter wi)
  (hg:∀fp s H C,PG (blk X (own++cap) sc fp s H C) tg g) (ht:∀fp s H C,PTs (blk X (own++cap) sc fp s H C) ifs tt) (he:∀fp s H C,PE (blk X (own++cap) sc fp s H C) elt te)
  (hs:∀x,yhg iter X.env x=pure x:=by intro _;rfl):PE X (.ListComp elt [⟨tg,iter,ifs,0⟩] sc pos) (zgab wi g tt te own.length js):=by
 intro pins s σ H Q I h;rw[eval_ListComp];refine ylg (use:=none) rfl hs (zxl λy hy hf=>I.ok.has y.1 (S.free y hy hf)) S.kind S.names (thn (hi pins s σ H _ I h) λv s1 h1=>thn h1 λitv s2 h2=>?_);obtain⟨it,fp,tn,J,H2,e,I2,T,st2,f2,W,⟨m0,w0⟩,turn⟩:=h2;subst e;refine zcv (RR:=λacc C=>compPost (model X.prog X.w) X.A X.xe none (EP X pins σ Q) acc C) (Qf:=λys H=>∀p,H p=none->Q (.ref p) (upd H p (.lst ys))) hc S cp hg ht he I2 T st2 f2 w0 turn ?_;intro D C H4 s4 pn ys its nn hD hC hDC I4 n4 o4 hz rv q;obtain⟨m,hn,_⟩:=I4.loc;exact⟨m,hn,λh' hs'=>⟨.ref D,upd H4 D (.lst ys),zdv I2 I4 f2 hC hD hDC n4 o4 hz rv hs',rfl,q D n4⟩⟩
end
def Its (x:Str):It:=⟨λi _=>i<x.cps.size,λi H v H'=>H'=H∧∃c,x.cps[i]?=some c∧v = .str ⟨#[c]⟩,λi _=>i=x.cps.size⟩
section
variable {X:Cx}{tg:Expr}
def iStr (tl:TE):TI:=fun σ H R=>tl σ H λv H1=>∃x,v = .str x∧R (Its x) H1
theorem zfj {P:yya}{w:World}{K:yaa}{tg:Expr}{ty:String}(x:Str)(t:Tok)(it:Addr)(hty:["enumerate","zip","dict_itemiterator","dict_reverseitemiterator","odict_iterator","itertools.zip_longest","itertools.pairwise"].contains ty=false)
  (W:∀A:Around,A.handled=none->Walks P w A it [it] [it] x.cps.size (SignAt x) (λi h=>h.IsStrIter it ty x t i))
  (hself:∀(A:Around) (i:Nat) (s:Shared) (Q:Value->Shared->Prop) (E:Value->Shared->Prop),s.heap.IsStrIter it ty x t i->Q (.ref it) s->wpAny (model P w) A (pyIter (.ref it)) Q E s) :
  Turn P w K tg (Its x) [it] it (λi h=>h.IsStrIter it ty x t i) where
 mem:=by simp
 obj:=λi h st b hb=>by
  have e:b=it:=by simpa using hb
  subst e;obtain⟨o,e,c,d⟩:=st;exact⟨o,e,λv z=>by rw[d] at z;cases z⟩
 keep:=λi h h' st k=>by
  obtain⟨o,e,r⟩:=st;exact⟨o,k it (by simp) o e,r⟩
 item:=by
  intro X hP hw hK hc i pins s σ H E I hf st hg;subst hP hw hK;obtain⟨f0,f1,f2,f3,f4,f5⟩:=hf it (by simp);refine (W X.A (I.ok.hd hc)).item i s _ _ hg st λv h' tk hv st' kk=>?_;obtain⟨c,u,hcx,rfl⟩:=hv;have I1:Inv X pins σ H { s with heap:=h',toks:=tk }:=I.turned (λb o hb e=>kk b o (by simpa using hb) e) f0 f1 f3 f4 f5;obtain⟨o,e,c',d⟩:=id st';exact⟨_,rfl,zww (s:={ s with heap:=h',toks:=tk }) e c' d hty ⟨.str ⟨#[c]⟩,H,I1,⟨u,rfl⟩,⟨rfl,c,hcx,rfl⟩,st',λb hb=>(hf b hb).1⟩⟩
 done:=by
  intro X hP hw hK hc i pins s σ H E I hf st hg;subst hP hw hK;obtain⟨f0,f1,f2,f3,f4,f5⟩:=hf it (by simp);have le:i=x.cps.size:=hg;subst le;exact (W X.A (I.ok.hd hc)).done s _ _ st λh' tk kk=>⟨rfl,I.turned (λb o hb e=>kk b o (by simpa using hb) e) f0 f1 f3 f4 f5⟩
 self:=hself
theorem zrr {l:Expr}{tl:TE}(hl:PE X l tl):PI X tg l (iStr tl):=by
 intro pins s σ H R I h;refine thn (hl pins s σ H _ I h) λv s1 ⟨y,H1,I1,r1,q1⟩=>?_;obtain⟨x,e,q⟩:=q1;subst e;obtain⟨t,rfl⟩:=r1;have fp:∀b∈[s1.heap.objs.size],FpOk X pins H1 b:=λb hb=>by
  have e:b=s1.heap.objs.size:=by simpa using hb
  subst e;exact I1.fpOk (ywa _) (I1.hok.fresh (ywa _))
 cases ha:x.cps.all (· < 128)
 ·refine wpAny_pyIter_wide ha ?_;exact⟨s1.heap.objs.size,[s1.heap.objs.size],_,Its x,H1,rfl,I1.kept (t':=s1.toks) λb o e=>yha _ e,zfj x t _ (by decide) (λA hA=>Walks.strWide hA _ x t) (λA i s Q E st h=>wpAny_pyIter_striter_wide st h),⟨_,ycb _ rfl,rfl,rfl⟩,fp,q⟩
 ·refine wpAny_pyIter_ascii ha ?_;exact⟨s1.heap.objs.size,[s1.heap.objs.size],_,Its x,H1,rfl,I1.kept (t':=s1.toks) λb o e=>yha _ e,zfj x t _ (by decide) (λA hA=>Walks.strAscii hA _ x t) (λA i s Q E st h=>wpAny_pyIter_striter_ascii st h),⟨_,ycb _ rfl,rfl,rfl⟩,fp,q⟩
end
theorem zvu {x:Str}{g:TG}{tb:TS}{D:Ends}{σ:St}{H:Hp}(Pv:Nat->St->Hp->Prop)(h0:Pv 0 σ H)
  (hs:∀i c σ H,x.cps[i]?=some c->Pv i σ H->g (.str ⟨#[c]⟩) σ H fun σ2 H2=>tb { D with nx:=Pv (i+1),ct:=Pv (i+1),bk:=D.nx } σ2 H2) (hd:∀ σ H,Pv x.cps.size σ H->D.nx σ H) :
  ∃W:Nat->Nat->St->Hp->Prop,(∃m,W 0 m σ H)∧∀i m σ H,W i m σ H →
   ((Its x).stop i H∧D.nx σ H)∨((Its x).go i H∧∃N:St->Hp->Prop,(∀ σ' H',N σ' H'->∃m',m'<m∧W (i+1) m' σ' H')∧∀v H',(Its x).yld i H v H'->g v σ H' fun σ2 H2=>tb { D with nx:=N,ct:=N,bk:=D.nx } σ2 H2):=by
 refine⟨λi m σ H=>m=x.cps.size-i∧i≤x.cps.size∧Pv i σ H,⟨x.cps.size,by simp,ylc _,h0⟩,?_⟩;rintro i m σ H ⟨rfl,hi,p⟩
 by_cases hlt:i<x.cps.size
 ·refine .inr ⟨hlt,Pv (i+1),fun σ' H' p'=>⟨x.cps.size-(i+1),by omega,rfl,hlt,p'⟩,λv H' y=>?_⟩;obtain⟨e,c,hc,ev⟩:=y;subst e ev;exact hs i c σ _ hc p
 ·have e:i=x.cps.size:=by omega
  subst e;exact .inl ⟨rfl,hd σ H p⟩
theorem zlq {J:It}{len:Nat}{x:Nat->V}{H1:Hp}{g:TG}{tt:TT}{te:TE}{n:Nat}{js:List Nat}{σ:St}{Q:VK}(Pv:Nat->List V->Hp->Prop)(hgo:∀i ys H,Pv i ys H->i<len->J.go i H)(hst:∀ys H,Pv len ys H->J.stop len H)
  (hy:∀i ys H v H',Pv i ys H->i<len->J.yld i H v H'->H'=H∧v=x i) (h0:Pv 0 [] H1) (hz:∀i ys H,Pv i ys H->ys.length≤yfa)
  (hs:∀i ys H,i<len->Pv i ys H->g (x i) (zpd n js σ) H fun σ2 H2=>σ2.drop n=(zpd n js σ).drop n∧tt σ2 H2 λb H3=>if b=true then te σ2 H3 λy H4=>Pv (i+1) (ys++[y]) H4 else Pv (i+1) ys H3)
  (hd:∀ys H,Pv len ys H->∀p,H p=none->Q (.ref p) (upd H p (.lst ys))):zvs J H1 g tt te n js σ Q:=by
 refine⟨λi m ys H=>m=len-i∧i≤len∧Pv i ys H,⟨len,by simp,ylc _,h0⟩,?_⟩;rintro i m ys H ⟨rfl,hi,p⟩
 by_cases hlt:i<len
 ·refine .inr ⟨hgo i ys H p hlt,hz i ys H p,Pv (i+1),λys' H' p'=>⟨len-(i+1),by omega,rfl,hlt,p'⟩,λv H' y=>?_⟩;obtain⟨e,ev⟩:=hy i ys H v H' p hlt y;subst e ev;exact hs i ys _ hlt p
 ·have e:i=len:=by omega
  subst e;exact .inl ⟨hst ys H p,hz _ ys H p,hd ys H p⟩
theorem zbx {t:Str}{H1:Hp}{g:TG}{tt:TT}{te:TE}{n:Nat}{js:List Nat}{σ:St}{Q:VK}(Pv:Nat->List V->Hp->Prop)(h0:Pv 0 [] H1)(hz:∀i ys H,Pv i ys H->ys.length≤yfa)
  (hs:∀i c ys H,t.cps[i]?=some c->Pv i ys H->g (.str ⟨#[c]⟩) (zpd n js σ) H fun σ2 H2=>σ2.drop n=(zpd n js σ).drop n∧tt σ2 H2 λb H3=>if b=true then te σ2 H3 λy H4=>Pv (i+1) (ys++[y]) H4 else Pv (i+1) ys H3)
  (hd:∀ys H,Pv t.cps.size ys H->∀p,H p=none->Q (.ref p) (upd H p (.lst ys))):zvs (Its t) H1 g tt te n js σ Q:=by
 refine zlq (len:=t.cps.size) (x:=λi=>.str ⟨#[t.cps.getD i 0]⟩) Pv (λi ys H _ h=>h) (λys H _=>rfl) (λi ys H v H' _ hlt y=>?_) h0 hz (λi ys H hlt p=>?_) hd
 ·obtain⟨e,c,hc,ev⟩:=y;refine⟨e,?_⟩;rw[ev,yxd,hc];rfl
 ·have hc:t.cps[i]?=some (t.cps.getD i 0):=by
   rw[yxd,ycg hlt];rfl
  exact hs i _ ys H hc p
theorem zax {K:yaa}{a:Addr}{xs:List V}{H1:Hp}{g:TG}{tt:TT}{te:TE}{n:Nat}{js:List Nat}{σ:St}{Q:VK}(Pv:Nat->List V->Hp->Prop)(hl:∀i ys H,Pv i ys H->SqT K H a xs)(h0:Pv 0 [] H1)(hz:∀i ys H,Pv i ys H->ys.length≤yfa)
  (hs:∀i x ys H,xs[i]?=some x->Pv i ys H->g x (zpd n js σ) H fun σ2 H2=>σ2.drop n=(zpd n js σ).drop n∧tt σ2 H2 λb H3=>if b=true then te σ2 H3 λy H4=>Pv (i+1) (ys++[y]) H4 else Pv (i+1) ys H3)
  (hd:∀ys H,Pv xs.length ys H->∀p,H p=none->Q (.ref p) (upd H p (.lst ys))):zvs (Itt K a) H1 g tt te n js σ Q:=by
 refine zlq (len:=xs.length) (x:=λi=>xs.getD i .non) Pv (λi ys H p hlt=>⟨xs,xs[i],hl i ys H p,by simp[hlt]⟩) (λys H p=>⟨xs,hl _ ys H p,ywa _⟩) (λi ys H v H' p hlt y=>?_) h0 hz (λi ys H hlt p=>?_) hd
 ·obtain⟨e,y⟩:=y;refine⟨e,?_⟩;rw[yde,y xs (hl i ys H p)];rfl
 ·refine hs i _ ys H ?_ p;rw[yde,ypb hlt];rfl
theorem zqs {lo:Int}{len:Nat}{H1:Hp}{g:TG}{tt:TT}{te:TE}{n:Nat}{js:List Nat}{σ:St}{Q:VK}(Pv:Nat->List V->Hp->Prop)(h0:Pv 0 [] H1)(hz:∀i ys H,Pv i ys H->ys.length≤yfa)
  (hs:∀i ys H,i<len->Pv i ys H->g (.int (lo+i)) (zpd n js σ) H fun σ2 H2=>σ2.drop n=(zpd n js σ).drop n∧tt σ2 H2 λb H3=>if b=true then te σ2 H3 λy H4=>Pv (i+1) (ys++[y]) H4 else Pv (i+1) ys H3)
  (hd:∀ys H,Pv len ys H->∀p,H p=none->Q (.ref p) (upd H p (.lst ys))):zvs (Itr lo len) H1 g tt te n js σ Q :=
 zlq (len:=len) (x:=λi=>.int (lo+i)) Pv (λi ys H _ h=>h) (λys H _=>ywa _) (λi ys H v H' _ hlt y=>y) h0 hz (λi ys H hlt p=>hs i ys H hlt p) hd
section
variable {X:Cx}
def rSlS:V->Option Int->Option Int->Hp->VK->Prop:=λx lo hi H Q=>∃t,x = .str t∧t.length≤yfa∧∀t',t'=yki t lo hi->t'.length≤t.length->Q (.str t') H
theorem zkl:SlR X rSlS:=by
 intro pins s σ H x v vl vu lo hi sl Q I rx hs pl pu h;obtain⟨t,rfl,hz,q⟩:=h;obtain⟨tk,rfl⟩:=rx;have fin:∀{l u:Option (Int×Tok)},l.map (·.1)=lo->u.map (·.1)=hi->(∀k t',EP X pins σ Q (.str (yki t (l.map (·.1)) (u.map (·.1))) t') { s with toks:=k }):=λ{l u} e1 e2 k t' =>
  ⟨.str _,H,I.tok k,⟨t',rfl⟩,by rw[e1,e2];exact q _ rfl (PyProof.Txt.length_slice_le t _ _)⟩
 refine⟨"str",_,F.slot_str_getitem.lookup,ykg _ _ _,?_⟩;cases pl with
 | none =>
  cases pu with
  | none=>exact yod (l:=none) (u:=none) (st:=none) hs rfl (ypf ⟨yab (yoh t _ _) hz,λt' k=>fin (l:=none) (u:=none) rfl rfl k t'⟩)
  | int j tj=>exact yod (l:=none) (u:=some (j,tj)) (st:=none) hs rfl (ypf ⟨yab (yoh t _ _) hz,λt' k=>fin (l:=none) (u:=some (j,tj)) rfl rfl k t'⟩)
 | int i ti =>
  cases pu with
  | none=>exact yod (l:=some (i,ti)) (u:=none) (st:=none) hs rfl (ypf ⟨yab (yoh t _ _) hz,λt' k=>fin (l:=some (i,ti)) (u:=none) rfl rfl k t'⟩)
  | int j tj=>exact yod (l:=some (i,ti)) (u:=some (j,tj)) (st:=none) hs rfl (ypf ⟨yab (yoh t _ _) hz,λt' k=>fin (l:=some (i,ti)) (u:=some (j,tj)) rfl rfl k t'⟩)
theorem zzs:∀{bs:List Bool} {us:List Value},Vals (bs.map V.bl) us->us=bs.map Value.bool
 | [],us,r=>by rw[ymh] at r;cases r;rfl
 | b::bs,us,r=>by
  rw[yob] at r;cases r with
  | cons r1 r2=>rw[yob,zzs r2,show _=Value.bool b from r1]
theorem zbs (hc:X.calm=true):zci X (.builtin "all") (λxs H Q=>Ex2 λ(a:Addr) (bs:List Bool)=>xs=[.ref a]∧SqL X.K H a (bs.map V.bl)∧Q (.bl (bs.all id)) H):=by
 intro pins s σ H xs us Q I r h;obtain⟨a,bs,rfl,hq,q⟩:=h;obtain⟨u,rfl,ru⟩:=vals1 r;cases ru;obtain⟨its,rv,p,hz⟩:=I.list hq;have e:=zzs rv;have hlt:a<s.heap.objs.size:=by obtain⟨o,n,e,_⟩:=p;exact yja e
 refine call_all_walk (wpAny_pyIter_list p.isList ?_);refine⟨s.heap.objs.size,_,_,_,_,_,λi=>bs.getD i true,rfl,Walks.list (show X.A.in1.handled=none from I.ok.hd hc) s.heap.objs.size a (yfb hlt) its.toArray,⟨⟨_,ycb _ rfl,rfl,rfl⟩,p.isList.push _⟩,?_,?_⟩
 ·intro i v s' Q' E' hP hQ;have hP':its[i]?=some v:=by simpa using hP
  rw[e,yce] at hP';cases z:bs[i]? with
  | none=>rw[z] at hP';cases hP'
  | some b =>
   rw[z] at hP';have ev:Value.bool b=v:=yva hP';subst ev;have hQ':Q' (bs.getD i true) s':=hQ;rw[yde,z] at hQ';exact yoc hQ'
 ·intro h' tk kk;refine⟨.bl _,H,I.kept (t':=tk) λb o e=>kk b o (λz=>?_) (yha _ e),?_,q⟩
  ·have z':b=s.heap.objs.size:=by simpa using z
   exact absurd (yja e) (by rw[z'];exact yrc _)
  ·show Value.bool _=Value.bool _
   congr 1
   rw[yma,e,yba];have go:∀l:List Bool,(yuh l.length).all (λi=>l.getD i true)=l.all id:=λl=>by
    have q:=range_getD l true;have e2:((yuh l.length).map λj=>l.getD j true).all id=(yuh l.length).all λi=>l.getD i true:=by
     rw[List.all_map];rfl
    rw[← e2,q]
   exact go bs
theorem zmq:zci X (.builtin "isinstance") (λxs H Q=>Ex4 λx c t b=>xs=[x,c]∧TyOf X.K H x t∧((∃n,c = .ty n∧ypa X.K t (.type n)=some b)∨(∃a,c = .ref a∧ypa X.K t (.ref a)=some b))∧Q (.bl b) H):=by
 intro pins s σ H xs us Q I r h;obtain⟨x,c,t,b,rfl,ty,hc,q⟩:=h;obtain⟨u,u',rfl,r1,r2⟩:=vals2 r
 rcases hc with⟨n,rfl,e⟩|⟨a,rfl,e⟩
 ·cases (show u'=Value.type n from r2);exact zuo I r1 ty e λtk=>⟨.bl b,H,I.tok tk,rfl,q⟩
 ·cases (show u'=Value.ref a from r2);exact zuo I r1 ty e λtk=>⟨.bl b,H,I.tok tk,rfl,q⟩
mutual
inductive DV (K:yaa)(H:Hp):V->PyData->Prop where
 | non:DV K H .non .none
 | bl (b:Bool):DV K H (.bl b) (.bool b)
 | int (i:Int):DV K H (.int i) (.int i)
 | str (x:Str):DV K H (.str x) (.str x)
 | lst {a:Addr} {xs:List V} {ds:List PyData}:SqL K H a xs->DVs K H xs ds->DV K H (.ref a) (.list ds)
 | tup {a:Addr} {xs:List V} {ds:List PyData}:SqT K H a xs->DVs K H xs ds->DV K H (.ref a) (.tuple ds)
inductive DVs (K:yaa)(H:Hp):List V->List PyData->Prop where
 | nil:DVs K H [] []
 | cons {x:V} {d:PyData} {xs:List V} {ds:List PyData}:DV K H x d->DVs K H xs ds->DVs K H (x::xs) (d::ds)
end
mutual
theorem DV.reads {pins:List (Addr×Obj)}{σ:St}{H:Hp}{s:Shared}(I:Inv X pins σ H s):∀{x:V} {d:PyData} {u:Value},DV X.K H x d->RelV x u->∃as,Reads s.heap u d as
 | _,_,_,.non,r=>by cases r;exact⟨_,.none⟩
 | _,_,_,.bl b,r=>by cases r;exact⟨_,.bool b⟩
 | _,_,_,.int i,r=>by obtain⟨t,rfl⟩:=r;exact⟨_,.int i t⟩
 | _,_,_,.str x,r=>by obtain⟨t,rfl⟩:=r;exact⟨_,.str x t⟩
 | _,_,_,.lst hq hs,r=>by
  cases r;obtain⟨its,rv,⟨o,n,e,c,_,d⟩,_⟩:=I.list hq;obtain⟨as,q⟩:=hs.reads I rv;exact⟨_,.list e c d (by simpa using q)⟩
 | _,_,_,.tup hq hs,r=>by
  cases r;obtain⟨its,rv,⟨o,e,c,n,d⟩,_⟩:=I.tuple hq;obtain⟨as,q⟩:=hs.reads I rv;exact⟨_,.tuple e c d (by simpa using q)⟩
theorem DVs.reads {pins:List (Addr×Obj)}{σ:St}{H:Hp}{s:Shared}(I:Inv X pins σ H s):∀{xs:List V} {ds:List PyData} {us:List Value},DVs X.K H xs ds->Vals xs us->∃as,ReadsAll s.heap us ds as
 | _,_,_,.nil,.nil=>⟨_,.nil⟩
 | _,_,_,.cons h hs,.cons r rs=>by
  obtain⟨as,q⟩:=h.reads I r;obtain⟨bs,p⟩:=hs.reads I rs;exact⟨_,.cons q p⟩
end
theorem zkx (hu:X.A.units+64<cLine):OpR X (ysc .Eq) (λx y H Q=>Ex2 λd e=>DV X.K H x d∧DV X.K H y e∧ycf d=true∧ycf e=true∧Q (.bl (PyData.eqv d e)) H):=by
 intro pins s σ H x y v u Q I rx ry h;obtain⟨d,e,hd,he,s1,s2,q⟩:=h;obtain⟨as,r1⟩:=hd.reads I rx;obtain⟨bs,r2⟩:=he.reads I ry;exact eq_dataH r1 r2 s1 s2 hu ⟨.bl _,H,I,rfl,q⟩
end
end L2
namespace L2
open PySem PyProof.Rows
set_option genInjectivity false in
structure Gf (K:yaa)(mg:Str->Option Value)(x q:Str)(st:Stmt) where
 f:Addr
 d:yuc
 F:Fun K x q st f d
 m:mg x=some (.ref f)
set_option genInjectivity false in
structure Mf (K:yaa)(C:Addr)(x q:Str)(st:Stmt) where
 f:Addr
 d:yuc
 F:Fun K x q st f d
 M:Meth K C x f
set_option genInjectivity false in
structure If (K:yaa)(C:Addr)(x q:Str)(st:Stmt) where
 f:Addr
 d:yuc
 F:Fun K x q st f d
 M:Mk K C f
section
variable {K:yaa}{mg:Str->Option Value}{h:Heap}{C f:Addr}{x q:Str}{st:Stmt}{oc:Value}{od an:Option Addr}{sl:Array (Option Value)}{kV dc pm cd ct:Value}
def gf_of (X:K.In h)(G:h.Ns ysa mg)(a:yib K ysa x=some (some (.ref f)))
  (l:K.lookup f=some ⟨oc,od,.func (ykd x q (zig st) (zyc st) (zja st) .none kV dc pm an cd ct),sl⟩) (c:yge K cd q=true) (k:yxc K (.ref f)=true):Gf K mg x q st :=
 ⟨f,_,zuu l c k,yfc X G a⟩
def mf_of (a:yna K (.ref C) x=some (some (.ref f)))(i:yxf K (.ref f)=true)
  (l:K.lookup f=some ⟨oc,od,.func (ykd x q (zig st) (zyc st) (zja st) .none kV dc pm an cd ct),sl⟩) (c:yge K cd q=true) (k:yxc K (.ref f)=true):Mf K C x q st :=
 ⟨f,_,zuu l c k,⟨a,i,k⟩⟩
def if_of (a:yna K (.ref C) "__init__" = some (some (.ref f)))(i:yxf K (.ref f)=true)
  (l:K.lookup f=some ⟨oc,od,.func (ykd x q (zig st) (zyc st) (zja st) .none kV dc pm an cd ct),sl⟩) (c:yge K cd q=true) (k:yxc K (.ref f)=true)
  (mk:yih K C=true) (kc:yxc K (.ref C)=true):If K C x q st :=
 ⟨f,_,zuu l c k,⟨mk,a,i,kc⟩⟩
theorem zsbb {fa:Addr}(g:Gf K mg x q st)(e:mg x=some (.ref fa)):g.f=fa:=by
 have z:=g.m.symm.trans e;injection z with z
 injection z
end
section
variable {P:yya}{w:World}{K:yaa}{mg:Str->Option Value}{base:Heap}{C:Addr}{x q:Str}{st:Stmt}{N ps:List Str}{k:Nat}{sp:Sp}
theorem Gf.ok (g:Gf K mg x q st)(S:zxa N ps (zja st))
  (hb:∀(f:Addr) (cdv:Value) (A:Around) (outer:List Env) (s:Shared) (H:Hp) (vs:List V) (Q:VK) (E:XK),Room k (A.deeper (envOfC q (zja st) s.heap.objs.size f cdv))->sp vs H Q E->let X:=(cxOf CX0 P w K mg base N q (zja st) f cdv A outer s H E).nox;∃t,PSs X (zyc st) t∧t { nx:=λ_ H'=>Q .non H',rt:=Q } (start N vs) H)
  (len:∀vs H Q E,sp vs H Q E->vs.length=ps.length:=by intro _ _ _ _ h;cases h;rename_i h;rw[h.1];rfl):FnOk P w K mg base CX0 (k+1) g.f g.d ps sp:=g.F.ok S len (hb g.f)
theorem Mf.ok (g:Mf K C x q st)(S:zxa N ps (zja st))
  (hb:∀(f:Addr) (cdv:Value) (A:Around) (outer:List Env) (s:Shared) (H:Hp) (vs:List V) (Q:VK) (E:XK),Room k (A.deeper (envOfC q (zja st) s.heap.objs.size f cdv))->sp vs H Q E->let X:=(cxOf CX0 P w K mg base N q (zja st) f cdv A outer s H E).nox;∃t,PSs X (zyc st) t∧t { nx:=λ_ H'=>Q .non H',rt:=Q } (start N vs) H)
  (len:∀vs H Q E,sp vs H Q E->vs.length=ps.length:=by intro _ _ _ _ h;cases h;rename_i h;rw[h.1];rfl):FnOk P w K mg base CX0 (k+1) g.f g.d ps sp:=g.F.ok S len (hb g.f)
theorem If.ok (g:If K C x q st)(S:zxa N ps (zja st))
  (hb:∀(f:Addr) (cdv:Value) (A:Around) (outer:List Env) (s:Shared) (H:Hp) (vs:List V) (Q:VK) (E:XK),Room k (A.deeper (envOfC q (zja st) s.heap.objs.size f cdv))->sp vs H Q E->let X:=(cxOf CX0 P w K mg base N q (zja st) f cdv A outer s H E).nox;∃t,PSs X (zyc st) t∧t { nx:=λ_ H'=>Q .non H',rt:=Q } (start N vs) H)
  (len:∀vs H Q E,sp vs H Q E->vs.length=ps.length:=by intro _ _ _ _ h;cases h;rename_i h;rw[h.1];rfl):FnOk P w K mg base CX0 (k+1) g.f g.d ps sp:=g.F.ok S len (hb g.f)
theorem FnOk.up {CX:CXT}{f:Addr}{d:yuc}{m:Nat}(h:FnOk P w K mg base CX k f d ps sp)(le:k≤m:=by first|decide|omega):FnOk P w K mg base CX m f d ps sp:=h.mono le
end
theorem sz0:0≤yfa:=by decide
theorem sz1:1≤yfa:=by decide
theorem sz2:2≤yfa:=by decide
theorem sz3:3≤yfa:=by decide
theorem sz4:4≤yfa:=by decide
theorem sz5:5≤yfa:=by decide
def scB (N P:List Str)(sc:Scope):Bool :=
 decide (sc.kind = .function)&&(!sc.isCoroutine&&(!sc.isGenerator&&(decide N.Nodup&&(decide (N.take P.length=P) &&
  (P.all (λx=>decide (sc.names.lookup x=some .local∨sc.names.lookup x=some .cell))&&sc.names.all λy=>decide (y.2 ≠ .free))))))
theorem scOf {N P:List Str}{sc:Scope}(h:scB N P sc=true):zxa N P sc:=by
 unfold scB at h;simp only[yxb,yzi,decide_eq_true_eq,yec] at h;obtain⟨a,b,c,d,e,f,g⟩:=h;exact⟨a,b,c,d,e,f,g⟩
end L2
namespace L2
open PySem PySem.Spec PyProof.Rows
section
variable {X:Cx}
theorem zln:∀{ys:List Str} {us:List Value},Vals (ys.map V.str) us->StrsAre us ys
 | [],us,r=>by rw[ymh] at r;cases r;exact .nil
 | y::ys,us,r=>by
  rw[yob] at r;cases r with
  | cons r1 r2 =>
   obtain⟨t,e⟩:=r1;subst e;exact .cons y t (zln r2)
theorem zon:∀l:List (Str×Tok),Vals ((l.map (·.1)).map V.str) (strValues l)
 | []=>.nil
 | (x,t)::r=>.cons ⟨t,rfl⟩ (zon r)
theorem zoe:MtR X "str.join" (λx xs H Q=>Ex3 λsep a ys=>x = .str sep∧xs=[.ref a]∧SqL X.K H a (ys.map V.str)∧(ys.map (·.length)).sum+ys.length*sep.length≤16777216∧Q (.str (yla sep ys)) H):=by
 intro pins s σ H x xs v us Q I rx rs h;obtain⟨sep,a,ys,rfl,rfl,hq,hz,q⟩:=h;obtain⟨t,rfl⟩:=rx;obtain⟨u,rfl,ru⟩:=vals1 rs;cases ru;obtain⟨its,rv,p,_⟩:=I.list hq;refine join_list (items:=its.toArray) (ys:=ys) p.isList (by simpa using zln rv) hz λt' k=>⟨.str _,H,I.tok k,⟨t',rfl⟩,?_⟩;have e:Txt.join sep ys=yla sep ys:=by first|rfl|exact StrLaws.glued_eq_join sep ys
 rw[e];exact q
theorem zvm:MtR X "str.split" (λx xs H Q=>Ex2 λt y=>x = .str t∧xs=[.str y]∧(y.length==0)=false∧t.length+2≤yfa∧∀l,H l=none->Q (.ref l) (upd H l (.lst ((yjb t y).map V.str)))):=by
 intro pins s σ H x xs v us Q I rx rs h;obtain⟨x,y,rfl,rfl,hy,hsz,q⟩:=h;obtain⟨t,rfl⟩:=rx;obtain⟨u,rfl,ru⟩:=vals1 rs;obtain⟨tu,rfl⟩:=ru;have hn:(ygd x (ylb x y 0 x.length (x.length+1)) y.length).length≤yfa:=by
  have e1:=StrLaws.occ_length_le x y 0 x.length (x.length+1);rw[length_partsBetween];omega
 have fin:∀(l:List (Str×Tok)) (k:Nat),l.map (·.1)=yjb x y->l.length≤yfa->EP X pins σ Q (.ref s.heap.objs.size) { s with heap:=s.heap.push { cls:=.type "list",data:=.seq (strValues l).toArray },toks:=k }:=λl k e hl=>by
  refine⟨.ref s.heap.objs.size,upd H s.heap.objs.size (.lst ((yjb x y).map V.str)),I.laid (t':=k) (λb o e=>yha _ e) (ywa _) ⟨?_,strValues l,_,?_,ycb _ rfl⟩,rfl,q _ (I.hok.fresh (ywa _))⟩
  ·rw[← e,yba,yba];exact hl
  ·rw[← e];exact zon l
 cases h1:(decide (x.length<y.length)||decide (yci x<yci y))
 ·cases hf:(ylb x y 0 x.length (x.length+1)).isEmpty
  ·refine yaf yah (ykg _ _ _) ymg (yyf _ _) (meets_str_split_sep x y t tu h1 hy hf (by omega) hn) ?_;show wants _ _ _ { s with toks:=_,heap:=s.heap.push { cls:=.type "list",data:=.seq (strsFrom s.toks (ygd x (ylb x y 0 x.length (x.length+1)) y.length)).toArray } }
   rw[strsFrom_eq];refine fin (numbered s.toks _) _ ((numbered_texts _ _).trans ((if_neg (ne_true_of_eq_false h1)).trans (if_neg (ne_true_of_eq_false hf))).symm) ?_;have e:=congrArg yvd (numbered_texts s.toks (ygd x (ylb x y 0 x.length (x.length+1)) y.length));rw[yba] at e;omega
  ·exact yaf yah (ykg _ _ _) ymg (yyf _ _) (meets_str_split_not_found x y t tu h1 hy hf)
    (fin [(x,t)] s.toks ((if_neg (ne_true_of_eq_false h1)).trans (if_pos hf)).symm (by show 1≤yfa;decide))
 ·exact yaf yah (ykg _ _ _) ymg (yyf _ _) (meets_str_split_cannot_occur x y t tu h1)
   (fin [(x,t)] s.toks (if_pos h1).symm (by show 1≤yfa;decide))
theorem zzo:zci X (.type "str") (λxs H Q=>∃x,xs=[.str x]∧Q (.str x) H):=by
 intro pins s σ H xs us Q I r h;obtain⟨x,rfl,q⟩:=h;obtain⟨u,rfl,t,rfl⟩:=vals1 r;exact PySem.P.str_of_str ⟨.str x,H,I,⟨t,rfl⟩,q⟩
theorem zgn:zci X (.type "int") (λxs H Q=>Ex2 λx n=>xs=[.str x]∧ydg x=some n∧x.length≤640∧Q (.int n) H):=by
 intro pins s σ H xs us Q I r h;obtain⟨x,n,rfl,hn,hl,q⟩:=h;obtain⟨u,rfl,t,rfl⟩:=vals1 r;exact PySem.W.KIN.call_text hn hl ⟨.int n,H,I.tok _,⟨_,rfl⟩,q⟩
theorem zwy {i:Nat}{x:Str}{elt iter tg:Expr}{ifs:List Expr}{sc:Scope}{pos spos pos':Pos}{own cap:List Str}{js:List Nat}{wi:TI}{g:TG}{tt:TT}{te:TE}(hN:X.N.Nodup)(hix:X.N[i]?=some x)(hx:Loc X.env.scope x)
  (hc:X.calm=true) (S:zkd X sc) (cp:Caps X sc cap js) (hi:PI X tg iter wi)
  (hg:∀fp s H C,PG (blk X (own++cap) sc fp s H C) tg g) (ht:∀fp s H C,PTs (blk X (own++cap) sc fp s H C) ifs tt) (he:∀fp s H C,PE (blk X (own++cap) sc fp s H C) elt te)
  (hsw:ypj (.ListComp elt [⟨tg,iter,ifs,0⟩] sc pos) (some (.Name x pos')) spos.line X.env=pure true:=by rfl) (hs:∀x,yhg iter X.env x=pure x:=by intro _;rfl)
  (hf:X.fn x=true∨X.env.scope.names.lookup x=some .local:=by first|exact .inl rfl|exact .inr rfl|assumption) :
  PS X (.Assign [.Name x pos'] (.ListComp elt [⟨tg,iter,ifs,0⟩] sc pos) spos) (tAsg (zgab wi g tt te own.length js) (zcn i)):=by
 intro pins s σ H D I h;rw[exec_Assign_Name_used _ _ _ _ hsw];refine yhb (yhi (yhb ?_));show wpAny _ X.A (do let _ ← comprehension (.ListComp elt [⟨tg,iter,ifs,0⟩] sc pos) sc X.env _ (newList []) false (eval iter X.env) (some (assign (.Name x pos') X.env))) _ _ s
 refine yhb (yhc (ylg (use:=some (assign (.Name x pos') X.env)) (Q:=λ_ s'=>SP X pins D .next s') rfl hs (zxl λy hy hf=>I.ok.has y.1 (S.free y hy hf)) S.kind S.names
  (thn (hi pins s σ H _ I h) λv s1 h1=>thn h1 λitv s2 h2=>?_)) (λ_ s' hq=>yic (yic hq)) λ_ _ e=>e)
 obtain⟨it,fp,tn,J,H2,e,I2,T,st2,f2,W,⟨m0,w0⟩,turn⟩:=h2;subst e;refine zcv (RR:=λacc C=>compPost (model X.prog X.w) X.A X.xe (some (assign (.Name x pos') X.env)) (λ_ s'=>SP X pins D .next s') acc C) (Qf:=λys H=>∀p,H p=none->D.nx (σ.set i (some (.ref p))) (upd H p (.lst ys))) hc S cp hg ht he I2 T st2 f2 w0 turn ?_;intro DD C H4 s4 pn ys its nn hD hC hDC I4 n4 o4 hz rv q;have I5:Inv X pins σ (upd H4 DD (.lst ys)) s4:=zdv (h':=s4.heap) I2 I4 f2 hC hD hDC n4 o4 hz rv (ywf.refl ..);obtain⟨m,hn,_⟩:=I4.loc;have hn':s4.heap.Ns C m:=hn;show wpAny _ X.A (assign (.Name x pos') X.env (.ref DD)) _ _ s4
 refine wpAny_assign_Name (zpn I5 hN hix hx (v:=.ref DD) (u:=.ref DD) rfl (λs6 I6 ⟨a,hsb,ha⟩=>?_) hf);have lt2:X.env.locals<s2.heap.objs.size:=I2.lt;have cellC:∀y c,X.env.cells.lookup y=some c->c≠C:=λy c e=>by
  obtain⟨v,z⟩:=I2.cell y c e;exact yfb (yda z.lt hC)
 have aC:C≠a:=by
  rcases ha with rfl|ha
  ·exact ydj (yda lt2 hC)
  ·exact ywc (cellC _ _ ha)
 refine⟨m,hn'.sameBut hsb aC,λh' hs'=>?_⟩;have nC:(upd H4 DD (.lst ys)) C=none:=by rw[zoa (ywc hDC)];exact I4.free
 have I7:=I6.turned (h':=h') (t':=s6.toks) (it:=C) (λb o hb e=>(hs'.2 b hb).trans e) nC (ydj (yda lt2 hC)) (.inr (yab I2.sz hC)) cellC (λp hp=>by
  exact yfb (yda (yja (I2.pin p hp).1) hC))
 exact⟨_,_,I7,q DD n4⟩
def Itv (K:yaa)(a:Addr)(xs:List V):It :=
 ⟨λi H=>SqL K H a xs∧i<xs.length,λi H x H'=>H'=H∧xs[xs.length-1-i]?=some x,λi H=>SqL K H a xs∧i=xs.length⟩
def iRev (K:yaa)(ta:TA):TI:=fun σ H R=>ta σ H λvs H1=>Ex2 λa xs=>vs=[.ref a]∧SqL K H1 a xs∧R (Itv K a xs) H1
theorem zvv {P:yya}{w:World}{K:yaa}{tg:Expr}(a it:Addr)(xs:List V):Turn P w K tg (Itv K a xs) [it] it (λi h=>i≤xs.length∧h.IsRevIter it a ((xs.length:Int)-1-(i:Int))) where
 mem:=by simp
 obj:=λi h st b hb=>by
  have e:b=it:=by simpa using hb
  subst e;obtain⟨_,o,e,c,d⟩:=st;exact⟨o,e,λv z=>by rw[d] at z;cases z⟩
 keep:=λi h h' st k=>⟨st.1,st.2.at λo e=>k it (by simp) o e⟩
 item:=by
  intro X hP hw hK hc i pins s σ H E I hf st hg;subst hP hw hK;obtain⟨hq,hlt⟩:=hg;obtain⟨f0,f1,f2,f3,f4,f5⟩:=hf it (by simp);obtain⟨its,rv,p,hz⟩:=I.list hq;have hl:=rv.length;have hx:xs[xs.length-1-i]?=some (xs[xs.length-1-i]'(by omega)):=ypb (by omega);obtain⟨u,hu,ru⟩:=rv.get hx;have hit:=st.2;rw[show (xs.length:Int)-1-(i:Int)=((xs.length-1-i:Nat):Int) by omega] at hit;refine wpAny_pyNext_rev_item hit p.isList (x:=u) (by simpa using hu) λh' hit' hs'=>?_;rw[show ((xs.length-1-i:Nat):Int)-1=(xs.length:Int)-1-((i+1:Nat):Int) by omega] at hit';have I1:Inv X pins σ H { s with heap:=h' }:=I.turned (t':=s.toks) (λb o hb e=>(hs'.2 b hb).trans e) f0 f1 f3 f4 f5;obtain⟨o,e,c',d⟩:=id hit';exact⟨u,rfl,zww (s:={ s with heap:=h' }) e c' d (by decide) ⟨_,H,I1,ru,⟨rfl,hx⟩,⟨hlt,hit'⟩,λb hb=>(hf b hb).1⟩⟩
 done:=by
  intro X hP hw hK hc i pins s σ H E I hf st hg;subst hP hw hK;obtain⟨hq,e⟩:=hg;obtain⟨f0,f1,f2,f3,f4,f5⟩:=hf it (by simp);have hit:=st.2;rw[show (xs.length:Int)-1-(i:Int) = -1 by omega] at hit;exact wpAny_pyNext_rev_end (I.ok.hd hc) hit λh' he'=>⟨rfl,I.turned (t':=s.toks) (λb o hb e=>he' b o hb e) f0 f1 f3 f4 f5⟩
 self:=λ_ _ _ _ _ st h=>wpAny_pyIter_revIter st.2 h
theorem boot_reversed:ytd "reversed" = some (.type "reversed"):=by decide +kernel
theorem zzp {tg a:Expr}{ta:TA}{p pos:Pos}(hg:Gl X "reversed")(hm:X.mg "reversed" = none)(ha:PA X [a] ta)(hs:yac [a] X.env=[(false,eval a X.env)]:=by rfl):PI X tg (.Call (.Name "reversed" p) [a] [] pos) (iRev X.K ta):=by
 intro pins s σ H R I h;refine Call_ (zpo I hg hm boot_reversed (yud (thn (ha pos pins s σ H _ I h) λus s1 ⟨vs,H1,I1,r1,q1⟩=>?_) hs rfl));obtain⟨b,xs,e,hq,q⟩:=q1;subst e;obtain⟨u,rfl,ru⟩:=vals1 r1;cases ru;obtain⟨its,rv,pl,hz⟩:=I1.list hq;have hl:=rv.length;refine call_reversed_list pl.isList ?_;have hit:(s1.heap.push (revObj b ((its.toArray.size:Int)-1))).IsRevIter s1.heap.objs.size b ((xs.length:Int)-1-((0:Nat):Int)):=by
  refine⟨_,ycb _ rfl,rfl,?_⟩;show Data.fields #[.ref b,rawInt _]=Data.fields #[.ref b,rawInt _]
  rw[yma,← hl,show (xs.length:Int)-1-((0:Nat):Int)=(xs.length:Int)-1 by omega]
 refine wpAny_pyIter_revIter (s:={ s1 with heap:=s1.heap.push (revObj b ((its.toArray.size:Int)-1)) }) hit ?_;refine⟨s1.heap.objs.size,[s1.heap.objs.size],_,_,H1,rfl,I1.kept (t':=s1.toks) λb o e=>yha _ e,zvv b _ xs,⟨ylc _,hit⟩,λc hc=>?_,q⟩;have e:c=s1.heap.objs.size:=by simpa using hc
 subst e;exact I1.fpOk (ywa _) (I1.hok.fresh (ywa _))
end
theorem zmz {K:yaa}{a:Addr}{xs:List V}{g:TG}{tb:TS}{D:Ends}{σ:St}{H:Hp}(Pv:Nat->St->Hp->Prop)(h0:Pv 0 σ H)(hl:∀i σ H,i≤xs.length->Pv i σ H->SqL K H a xs)
  (hs:∀i x σ H,i<xs.length->xs[xs.length-1-i]?=some x->Pv i σ H->g x σ H fun σ2 H2=>tb { D with nx:=Pv (i+1),ct:=Pv (i+1),bk:=D.nx } σ2 H2) (hd:∀ σ H,Pv xs.length σ H->D.nx σ H) :
  ∃W:Nat->Nat->St->Hp->Prop,(∃m,W 0 m σ H)∧∀i m σ H,W i m σ H →
   ((Itv K a xs).stop i H∧D.nx σ H)∨((Itv K a xs).go i H∧∃N:St->Hp->Prop,(∀ σ' H',N σ' H'->∃m',m'<m∧W (i+1) m' σ' H')∧∀x H',(Itv K a xs).yld i H x H'->g x σ H' fun σ2 H2=>tb { D with nx:=N,ct:=N,bk:=D.nx } σ2 H2):=by
 refine⟨λi m σ H=>m=xs.length-i∧i≤xs.length∧Pv i σ H,⟨xs.length,by simp,ylc _,h0⟩,?_⟩;rintro i m σ H ⟨rfl,hi,p⟩;have q:=hl i σ H hi p
 by_cases hlt:i<xs.length
 ·refine .inr ⟨⟨q,hlt⟩,Pv (i+1),fun σ' H' p'=>⟨xs.length-(i+1),by omega,rfl,hlt,p'⟩,λx H' y=>?_⟩;obtain⟨e,y⟩:=y;subst e;exact hs i x σ _ hlt y p
 ·have e:i=xs.length:=by omega
  subst e;exact .inl ⟨⟨q,rfl⟩,hd σ H p⟩
end L2
namespace L2
open PySem PySem.Spec PyProof.Rows
section
variable {X:Cx}{a:Addr}{D:List (Str×yak)}
theorem zbo (T:ysj X.base a D):OpR X (ysc .NotIn) (λx y H Q=>∃k,x = .str k∧y = .ref a∧Q (.bl (!KTD.inKeys k D)) H):=by
 intro pins s σ H x y v u Q I rx ry h;obtain⟨k,rfl,rfl,q⟩:=h;obtain⟨t,rfl⟩:=rx;cases ry;exact KTD.notin_text ⟨T,I.bk⟩ ⟨.bl _,H,I.tok _,rfl,q⟩
theorem zqx (T:ysj X.base a D):IxR X (λx y H Q=>Ex2 λk i=>x = .ref a∧y = .str k∧yyd k D=some (.flat (.int i))∧Q (.int i) H):=by
 intro value slice pins s σ H x y v u Q I rx ry h hs;obtain⟨k,i,rfl,rfl,hd,q⟩:=h;cases rx;obtain⟨tk,rfl⟩:=ry;have T':KTD.Here X.base s.heap a D:=⟨T,I.bk⟩;refine subscriptTail_builtin_flat T'.typeIs yng.lookup ?_ hs;unfold getItem
 try with_reducible refine yqg ?_
 refine yhb (wpAny_sequenceKey T'.typeIs (by decide) ?_);refine yhb (wpAny_callSpecial?_slot (name:=Str.ofString "__getitem__") T'.typeIs yng
  (wpAny_call_entry yng T'.typeIs entry_dict_getitem ?_ (args_dict_getitem _ _)))
 show wpAny _ _ (dictGet a (.str k tk) >>= _) _ _ s
 refine yhb (KTD.dictGet_text T' (λd v ha hv=>?_) λhn=>?_)
 ·rw[hd] at ha;cases ha;have hv':Reads s.heap v (.int i) []:=hv s.heap;obtain⟨t,rfl⟩:∃t,v=Value.int i t:=by
   cases hv' with
   | int _ t=>exact⟨t,rfl⟩
  have fin:EP X pins σ Q (.int i t) { s with toks:=s.toks+1 }:=⟨.int i,H,I.tok _,⟨t,rfl⟩,q⟩;exact yic ⟨Value.int i t,rfl,yic ⟨λb z=>(nomatch z),fin⟩⟩
 ·rw[hd] at hn;cases hn
end
end L2
namespace L2
open PySem PySem.Spec PyProof.Rows
section
variable {X:Cx}
@[irreducible] def rStrAny:List V->Hp->VK->Prop:=λxs H Q=>(∃x,xs=[.str x]∧Q (.str x) H)∨∃i:Int,xs=[.int i]∧i.natAbs.log2<1920∧Q (.str (toString i)) H
theorem zap:zci X (.type "str") rStrAny:=by
 intro pins s σ H xs us Q I r h;unfold rStrAny at h
 rcases h with h|h
 ·exact zzo pins s σ H xs us Q I r h
 ·exact zqi pins s σ H xs us Q I r h
end
end L2
namespace L2
open PySem PySem.Spec PyProof.Rows
section
variable (K:yaa){X:Cx}{a b o e:Expr}{es:List Expr}{ta tb to te:TE}{t:TA}{name f:Str}{apos cpos pos:Pos}{T id:String}{r:V->List V->Hp->VK->Prop}
end
end L2
namespace SSet
open PySem PySem.Spec PyProof.Rows
section
variable {prog:yya}{w:World}{A:Around}{E:Value->Shared->Prop}{s:Shared}
def dd (xs:List Str):List Str:=xs.foldl (λD x=>if x∈D then D else D++[x]) []
end
end SSet
namespace SSet
open PySem PySem.Spec PyProof.Rows
section
variable {prog:yya}{w:World}{A:Around}{E:Value->Shared->Prop}{s:Shared}
end
end SSet
namespace SSet
open PySem PySem.Spec PyProof.Rows
section
variable {prog:yya}{w:World}{A:Around}{E:Value->Shared->Prop}{s:Shared}
end
end SSet
namespace SSet
open PySem PySem.Spec PyProof.Rows
section
variable {prog:yya}{w:World}{A:Around}{E:Value->Shared->Prop}{s:Shared}
end
end SSet
namespace SSet
open PySem PySem.Spec PyProof.Rows PySem.W
section
variable {prog:yya}{w:World}{A:Around}{E:Value->Shared->Prop}{s:Shared}
end
end SSet
namespace L2
open PySem PySem.Spec PyProof.Rows
section
variable {X:Cx}
end
end L2
namespace L2
open PySem PySem.Spec PyProof.Rows
def TupK (K:yaa)(a:Addr)(ss:List Str):Prop:=yij (λb=>K.lookup b) (.tup (ss.map PyData.str)) (.ref a)=true
section
variable {X:Cx}{a:Addr}{D:List (Str×yak)}
end
structure Isi (K:yaa)(C:Addr):Prop where
 ha:yna K (.ref C) "__class__" = some (some (.builtin "object.__class__"))
 hn:yjg K (.builtin "object.__class__") "__get__" = some (some (.builtin "getset_descriptor.__get__"))
 ht:yqj K (.builtin "object.__class__")=some true
 hm:yyj K C (.type "object")=some true
 oStr:ypa K (.ref C) (.type "str")=some false
 oInt:ypa K (.ref C) (.type "int")=some false
 oTup:ypa K (.ref C) (.type "tuple")=some false
 oLst:ypa K (.ref C) (.type "list")=some false
 sO:ypa K (.type "str") (.ref C)=some false
 iO:ypa K (.type "int") (.ref C)=some false
end L2
namespace L2
open PySem PySem.Spec PyProof.Rows
section
variable {X:Cx}
end
end L2
namespace TSort
open PySem PyProof.Rows
abbrev IL:=List Int
section keys
variable (k:Value->IL)
def ka (xs:Array Keyed)(i:Nat):IL:=((xs[i]?).map λp=>k p.1).getD []
def Up (xs:Array Keyed)(n:Nat):Prop:=∀i j,i<j->j<n->ka k xs i<ka k xs j
variable {k}
end keys
structure Ok (a0:Array Keyed)(kd:SortKind)(st:SortSt):Prop where
 perm:(arrOf st).Perm a0
 kind:kindOf st=kd
 none:failedOf st=none
 pend:pendingOf st=#[]
section
variable {pr:yya}{wo:World}{Ar:Around}{Ex:Value->Shared->Prop}{sh:Shared}{k:Value->IL}{a0:Array Keyed}{kd:SortKind}
structure Cmp (pr:yya)(wo:World)(Ar:Around)(Ex:Value->Shared->Prop)(sh:Shared)(k:Value->IL)(a0:Array Keyed)(kd:SortKind):Prop where
 lt:∀(x y:Keyed) (st:SortSt) (R:Option Bool->SortSt->Prop),kindOf st=kd->x∈a0.toList->y∈a0.toList->k x.1≠k y.1->R (some (decide (k x.1<k y.1))) st->wpS (model pr wo) Ar Ex sh (lt' x y) R st
 un:(a0.toList.map λp=>k p.1).Nodup
end
end TSort
namespace TSort
open PySem PyProof.Rows
section
variable {pr:yya}{wo:World}{Ar:Around}{Ex:Value->Shared->Prop}{sh:Shared}{k:Value->IL}{a0:Array Keyed}{kd:SortKind}
structure Fin (k:Value->IL)(a0:Array Keyed)(st:SortSt):Prop where
 perm:(arrOf st).Perm a0
 none:failedOf st=none
 pend:pendingOf st=#[(0,a0.size,0)]
 up:Up k (arrOf st) a0.size
end
end TSort
namespace TSort
open PySem PyProof.Rows
def kf (f:Addr->IL):Value->IL
 | .ref a=>f a
 | _=>[]
section
variable {pr:yya}{wo:World}{Ar:Around}{Ex:Value->Shared->Prop}{sh:Shared}
end
end TSort
namespace TSort
open PySem PyProof.Rows
section
variable {pr:yya}{wo:World}{Ar:Around}{Ex:Value->Shared->Prop}{sh:Shared}
end
end TSort
namespace L2
open PySem PyProof.Rows
section
variable {X:Cx}
end
end L2
namespace L2
open PySem PyProof.Rows
section
variable {pr:yya}{wo:World}{Ar:Around}{Ex:Value->Shared->Prop}
end
section
variable {X:Cx}
end
end L2
namespace L2
open PySem PyProof.Rows
section
variable {X:Cx}
inductive TyB (K:yaa)(H:Hp):V->Value->Prop where
 | non:TyB K H .non (.type "NoneType")
 | bl (x:Bool):TyB K H (.bl x) (.type "bool")
 | int (i:Int):TyB K H (.int i) (.type "int")
 | str (x:Str):TyB K H (.str x) (.type "str")
 | lst {a:Addr} {xs:List V} (e:SqL K H a xs):TyB K H (.ref a) (.type "list")
 | tup {a:Addr} {xs:List V} (e:SqT K H a xs):TyB K H (.ref a) (.type "tuple")
end
end L2
namespace L2
open PySem PySem.Spec PyProof.Rows
section
variable {κ:Type}[DecidableEq κ]
def valV (kvs:List (κ×V))(k:κ):Option V:=(kvs.find? λkv=>decide (kv.1=k)).map (·.2)
end
section
variable {P:yya}{w:World}{H:Hp}{h:Heap}{a:Addr}
end
section
variable {X:Cx}{pins:List (Addr×Obj)}{σ:St}{H:Hp}{s:Shared}{a:Addr}{y v:V}{u r:Value}{o:Option V}{A:Around}{E:Value->Shared->Prop}
end
section
variable {X:Cx}{pins:List (Addr×Obj)}{σ:St}{H:Hp}{s:Shared}{a:Addr}{kvs:List (Key×V)}{k:Key}{u:Value}{A:Around}{E:Value->Shared->Prop}
end
section
variable {X:Cx}{o i e value:Expr}{pos pos' tpos:Pos}{td ty tv:TE}
end
section
variable {X:Cx}{pos:Pos}
end
structure M1 (X:Cx)(o:Expr)(m:Str)(apos:Pos)(e:Expr)(cpos:Pos):Prop where
 base:yhf o m X.env (eval o X.env)=eval o X.env
 few:((backTo cpos (yac [e] X.env)).all (λx=>!x.1)&&(backToKw cpos (ybi [] X.env)).all (λx=>x.1.isSome)
  && decide (([e]:List Expr).length+([]:List yvi).length+(if ([]:List yvi).isEmpty then 0 else 1)<30))=true
 line:(apos.endLine==cpos.line)=true
 trees:backTo cpos (yac [e] X.env)=[(false,eval e X.env)]
structure M2 (X:Cx)(o:Expr)(m:Str)(apos:Pos)(e f:Expr)(cpos:Pos):Prop where
 base:yhf o m X.env (eval o X.env)=eval o X.env
 few:((backTo cpos (yac [e,f] X.env)).all (λx=>!x.1)&&(backToKw cpos (ybi [] X.env)).all (λx=>x.1.isSome)
  && decide (([e,f]:List Expr).length+([]:List yvi).length+(if ([]:List yvi).isEmpty then 0 else 1)<30))=true
 line:(apos.endLine==cpos.line)=true
 trees:backTo cpos (yac [e,f] X.env)=[(false,eval e X.env),(false,eval f X.env)]
section
variable {X:Cx}{pins:List (Addr×Obj)}{σ:St}{H:Hp}{s:Shared}{a:Addr}{y d:V}{u r:Value}{o:Option V}{A:Around}{E:Value->Shared->Prop}
end
section
variable {X:Cx}{o e f:Expr}{apos cpos:Pos}{td ty tx:TE}
end
section
variable {X:Cx}{pins:List (Addr×Obj)}{σ:St}{H:Hp}{s:Shared}{a:Addr}{kvs:List (Key×V)}{A:Around}{E:Value->Shared->Prop}
end
section
variable {X:Cx}{pins:List (Addr×Obj)}{σ:St}{H:Hp}{s:Shared}{a:Addr}{y:V}{u:Value}{A:Around}{E:Value->Shared->Prop}
end
end L2
namespace L2
open PySem PyProof.Rows
section
variable {pr:yya}{wo:World}{Ar:Around}{Ex:Value->Shared->Prop}{sh:Shared}
end
section
variable {X:Cx}{pins:List (Addr×Obj)}{σ:St}{H:Hp}{s:Shared}{h':Heap}
end
section
variable {X:Cx}
end
end L2
namespace L2
open PySem PyProof.Rows
section
variable {X:Cx}{e st:Expr}{te ts:TE}{p2 pos:Pos}
end
end L2
namespace DL
open PySem PySem.Spec PyProof.Rows
section
variable {prog:yya}{w:World}{A:Around}{E:Value->Shared->Prop}{s:Shared}
section
variable {κ:Type}[DecidableEq κ]{knd:KeyKind prog w κ}
end
end
end DL
namespace L2
open PySem PyProof.Rows
section
variable {X:Cx}
end
end L2
namespace SSet
open PySem PySem.Spec PyProof.Rows
section
variable {prog:yya}{w:World}{A:Around}{E:Value->Shared->Prop}{s:Shared}
end
end SSet
namespace L2
open PySem PyProof.Rows
section
variable {X:Cx}
end
end L2
namespace L2
open PySem PySem.Spec PyProof.Rows PySem.MeetsSeq
section
variable {X:Cx}
end
end L2
namespace L2
open PySem PyProof.Rows
section
variable {X:Cx}
end
end L2
namespace DK
open PySem PySem.Spec PyProof.Rows
section
variable {prog:yya}{w:World}{A:Around}{E:Value->Shared->Prop}{s:Shared}
end
end DK
namespace L2
open PySem PyProof.Rows
section
variable {X:Cx}{pins:List (Addr×Obj)}{σ:St}{H:Hp}{s:Shared}
end
section
variable {X:Cx}
end
end L2
namespace L2
open PySem PyProof.Rows
section
variable {X:Cx}
end
end L2
namespace L2
open PySem PyProof.Rows
section
open PySem.SeqAt PySem.MeetsSeq
open AutoSeq1 (wpAny_loadPart')
end
section
variable {X:Cx}
end
section
open TSort
end
section
variable {pr:yya}{wo:World}{A:Around}{R:Result->Shared->Prop}{I S:Addr}{fp wr:List Addr}{n:Nat}{P:Nat->Value->Prop}{St:Nat->Heap->Prop}{h0:Heap}
end
section
variable {pr:yya}{wo:World}{A:Around}{E:Value->Shared->Prop}{s:Shared}
end
section
variable {X:Cx}
end
end L2
namespace L2
open PySem PySem.Spec PyProof.Rows
def XAt (h:Heap)(x:Addr)(cls:Value)(T:Addr):Prop:=∃(oe oT:Obj) (vs ts:Array Value) (a0:Value),h.get? x=some oe∧(oe.cls=cls∧vs[0]?=some a0)∧oe.data = .fields vs∧vs[1]?=some (.ref T)∧T≠x∧h.get? T=some oT∧oT.data = .fields ts∧ts[3]?=some .none
def CX1 (P:yya)(w:World):CXT:=λouter H s E e s'=>∃(x T:Addr) (cls:Value) (H':Hp),e = .ref x∧s'.os=s.os∧ypg s'.gens∧Un (frs outer) [] H H' s.heap s'.heap∧HOk P w H' s'.heap∧XAt s'.heap x cls T∧s.heap.get? x=none∧s.heap.get? T=none∧H' x=none∧H' T=none∧E cls none H'
theorem HOk.obj {P:yya}{w:World}{H:Hp}{h:Heap}(x:HOk P w H h){a:Addr}{o:HO}(e:H a=some o):∃u,h.get? a=some u:=by
 have z:=x a o e;cases o with
 | lst xs=>obtain⟨_,_,_,_,e⟩:=z;exact⟨_,e⟩
 | tup xs=>obtain⟨_,_,_,ob,e,_⟩:=z;exact⟨_,e⟩
 | dK kvs=>obtain⟨_,_,_,_,o,_,_,e,_⟩:=z;exact⟨_,e⟩
 | dT kvs=>obtain⟨_,_,_,_,o,_,_,e,_⟩:=z;exact⟨_,e⟩
 | set S n=>obtain⟨o,_,_,_,e,_⟩:=z;exact⟨_,e⟩
 | ins C dx fs=>obtain⟨_,_,_,e,_⟩:=z;exact⟨_,e⟩
 | own y=>exact z
 | xd fs=>obtain⟨_,⟨_,_,_,e,_⟩,_⟩:=z;exact⟨_,e⟩
 | rng lo hi=>obtain⟨_,_,_,e⟩:=z;exact⟨_,e⟩
 | frz ob u=>obtain⟨e,_⟩:=z;exact⟨_,e⟩
 | tbl ps=>exact⟨_,show h.get? a=some _ from z⟩
 | met f y=>exact⟨_,show h.get? a=some _ from z⟩
 | ext φ=>exact z.2.1
section
variable {X:Cx}{pins:List (Addr×Obj)}{σ:St}{H:Hp}{s:Shared}{E:XK}
theorem zqbb (J:Inv X pins σ H s)(hs:X.stack=X.env::X.outer)(hex:X.ex=[]){B h':Heap}{x:Addr}{cls a0:Value}(fl:yjj B X.outer x cls a0 h')(up:s.heap.UpToSlots h')
  (hB:∀b o,s.heap.get? b=some o->b∉frs X.stack->(H b≠none∨X.s₀.heap.get? b≠none)->B.get? b=some o) (n1:X.s₀.heap.get? x=none) (f1:H x=none) (e:E cls none H) :
  CX1 X.prog X.w X.outer X.H₀ X.s₀ E (.ref x) { s with heap:=h' }:=by
 obtain⟨k1,k2,k3,oe,vs,T,oT,ts,g1,g2,g3,g4,g5,g6,g7,g8,g9⟩:=fl;have nst:∀b,b∈frs X.stack->b=X.env.locals∨b∈X.fs:=λb hb=>yga.mp (J.zil b hb);have old:∀{b:Addr} {o:Obj},X.s₀.heap.get? b=some o->b≠X.env.locals:=λ{b o} q z=>by
  exact absurd (yda (yja q) J.ok.above) (by rw[z];exact yrc _)
 have stays:∀b o,s.heap.get? b=some o->b∉frs X.stack->(H b≠none∨X.s₀.heap.get? b≠none)->h'.get? b=some o:=λb o q n t=>k1 b o (hB b o q n t);have noEx:∀b,b∉X.ex:=λb z=>by rw[hex] at z;cases z
 have frf:∀b∈X.fs,∃o,s.heap.get? b=some o∧∀vs,o.data ≠ .fields vs:=λb hb=>(J.funs.mem hb).2;have un:Un X.fs [] X.H₀ H X.s₀.heap h':=by
  refine⟨λb o q n nf _=>?_,λb o q n nf _=>?_,λb o q n _=>J.base.free b o q n (noEx b),λb o q _=>?_,J.base.tups,J.base.frzs,J.base.tbls⟩
  ·refine stays b o (J.base.keep b o q n nf (noEx b)) (λz=>?_) (.inr (by rw[q];intro z;cases z))
   rcases nst b z with y|y
   ·exact old q y
   ·exact nf y
  ·obtain⟨sl,q2⟩:=J.base.slot b o q n nf (noEx b);obtain⟨o2,q3,q4⟩:=frf b nf;rw[q2] at q3;cases q3;obtain⟨sl2,q5⟩:=up b _ q2 q4;exact⟨sl2,q5⟩
  ·obtain⟨o2,q2⟩:=J.base.there b o q (noEx b)
   by_cases c:b∈X.fs
   ·obtain⟨o3,q3,q4⟩:=frf b c;obtain⟨sl,q5⟩:=up b _ q3 q4;exact⟨_,q5⟩
   ·refine⟨o2,stays b o2 q2 (λz=>?_) (.inr (by rw[q];intro z;cases z))⟩
    rcases nst b z with y|y
    ·exact old q y
    ·exact c y
 have hok:HOk X.prog X.w H h':=λb u q=>(J.hok b u q).stay (λc v hc r=>by
  have tr:H c≠none:=by
   rcases hc with z|z
   ·rw[z,q];intro y;cases y
   ·rw[z];intro y;cases y
  exact stays c v r (λz=>tr (J.zsp c z)) (.inl tr)) (λ_ z=>z) λ_ _ z=>z
 have Tn:T∉frs X.stack:=λz=>by
  rcases nst T z with y|y
  ·obtain⟨m,⟨o,es,ep,ho,hd,_⟩,_⟩:=J.loc;obtain⟨sl,q⟩:=up _ o ho λvs q=>by rw[hd] at q;cases q
   rw[y,q] at g7;cases g7;rw[show ({ o with slots:=sl }:Obj).data=o.data from rfl,hd] at g8;cases g8
  ·obtain⟨o3,q3,q4⟩:=frf T y;obtain⟨sl,q5⟩:=up T _ q3 q4;rw[q5] at g7;cases g7;exact q4 ts g8
 have bn:∀{o:Obj},s.heap.get? T=some o->(H T≠none∨X.s₀.heap.get? T≠none)->False:=λ{o} q t=>by
  have:=hB T o q Tn t;rw[g5] at this;cases this
 refine⟨x,T,cls,H,rfl,J.os,J.bare,un,hok,⟨oe,oT,vs,ts,a0,g1,g2,g3,g4,g6,g7,g8,g9⟩,n1,?_,f1,?_,e⟩
 ·cases q:X.s₀.heap.get? T with
  | none=>rfl
  | some o =>
   obtain⟨o2,q2⟩:=J.base.there T o q (noEx T);exact (bn q2 (.inr (by rw[q];intro z;cases z))).elim
 ·cases q:H T with
  | none=>rfl
  | some u =>
   obtain⟨o2,q2⟩:=HOk.obj J.hok q;exact (bn q2 (.inl (by rw[q];intro z;cases z))).elim
theorem leave1 (J:Inv X pins σ H s)(hs:X.stack=X.env::X.outer)(hex:X.ex=[]){x T:Addr}{cls:Value}{E':Value->Shared->Prop}(xa:XAt s.heap x cls T)(n1:X.s₀.heap.get? x=none)(n2:X.s₀.heap.get? T=none)(f1:H x=none)(f2:H T=none)(e:E cls none H) :
  wpAny (model X.prog X.w) X.A (leaving X.env (.ref x)) (λ_ s'=>CX1 X.prog X.w X.outer X.H₀ X.s₀ E (.ref x) s') E' s:=by
 obtain⟨oe,oT,vs,ts,a0,g1,g2,g3,g4,g6,g7,g8,g9⟩:=xa;have hf:X.env.frame=some X.env.locals:=by
  rcases J.ok.stk with z|z
  ·rw[hs] at z;have:=congrArg yvd z;simp at this
  ·exact z.2
 have hin:∀env∈X.env::X.outer,∀b,env.frame=some b->b∈frs X.stack++[x,T]:=λenv he b hb=>yzb _ (by rw[hs];exact ybd.mpr ⟨env,he,hb⟩);have mx:x∈frs X.stack++[x,T]:=yra _ (by simp);have mT:T∈frs X.stack++[x,T]:=yra _ (by simp);have fl:yjj (yme s.heap (frs X.stack++[x,T])) (X.env::X.outer) x cls a0 s.heap :=
  ⟨λb o q=>yne _ q,ydd _ mx,yue (by rw[← hs];exact J.stack) hin,oe,vs,T,oT,ts,g1,g2,g3,g4,ydd _ mT,g6,g7,g8,g9⟩
 refine wpAny_leaves_onW (by rw[← hs];exact J.ok.frames) hf fl λh' fl' up=>zqbb J hs hex fl' up (λb o q n t=>?_) n1 f1 e;refine yje _ q λz=>?_
 rcases yia.mp z with y|y
 ·exact n y
 ·simp only[yga,yyb,or_false] at y
  rcases y with y|y
  ·rw[y] at t
   rcases t with t|t
   ·exact t f1
   ·exact t n1
  ·rw[y] at t
   rcases t with t|t
   ·exact t f2
   ·exact t n2
theorem zrbb (J:Inv X pins σ H s)(hs:X.stack=X.env::X.outer)(hex:X.ex=[]){x:Addr}{cls:Value}{args:List Value}{h1:Heap}{E':Value->Shared->Prop}(mx:Heap.MadeExcOf s.heap h1 x cls args)(e:E cls none H) :
  wpAny (model X.prog X.w) X.A (leaving X.env (.ref x)) (λ_ s'=>CX1 X.prog X.w X.outer X.H₀ X.s₀ E (.ref x) s') E' { s with heap:=h1 }:=by
 have hf:X.env.frame=some X.env.locals:=by
  rcases J.ok.stk with z|z
  ·rw[hs] at z;have:=congrArg yvd z;simp at this
  ·exact z.2
 have hin:∀env∈X.env::X.outer,∀b,env.frame=some b->b∈frs X.stack:=λenv he b hb=>by rw[hs];exact ybd.mpr ⟨env,he,hb⟩
 have J1:Inv X pins σ H { s with heap:=h1 }:=J.call (h':=h1) (g':=s.gens) (d':=s.drawn) (t':=s.toks) (ch:=[]) (Un.kept λb o q=>mx.keeps b o q) (J.hok.kept λb o q=>mx.keeps b o q) J.bare (λb z=>absurd z (by simp));have n1:X.s₀.heap.get? x=none:=by
  cases q:X.s₀.heap.get? x with
  | none=>rfl
  | some o =>
   obtain⟨o2,q2⟩:=J.base.there x o q (by rw[hex];intro z;cases z);rw[mx.new] at q2;cases q2
 have f1:H x=none:=by
  cases q:H x with
  | none=>rfl
  | some u =>
   obtain⟨o2,q2⟩:=HOk.obj J.hok q;rw[mx.new] at q2;cases q2
 refine wpAny_leaves_madeW (s:={ s with heap:=h1 }) (h:=s.heap) (base:=yme s.heap (frs X.stack)) (by rw[← hs];exact J.ok.frames) hf (λb o q=>yne _ q) (yue (by rw[← hs];exact J.stack) hin) mx λh' t fl' _ _ up=>?_;have z:=zqbb (s:={ s with heap:=h1 }) J1 hs hex fl' up (λb o q n t=>?_) n1 f1 e
 ·exact z
 ·have there:∃o2,s.heap.get? b=some o2:=by
   rcases t with t|t
   ·cases q2:H b with
    | none=>exact absurd q2 t
    | some u=>exact HOk.obj J.hok q2
   ·cases q2:X.s₀.heap.get? b with
    | none=>exact absurd q2 t
    | some u=>exact J.base.there b u q2 (by rw[hex];intro z;cases z)
  obtain⟨o2,q2⟩:=there;have q3:=mx.keeps b o2 q2;have q':h1.get? b=some o:=q;rw[q'] at q3;cases q3;exact yje _ q2 n
end
section
variable {P:yya}{w:World}{K:yaa}{mg:Str->Option Value}{base:Heap}{N:List Str}{qual:Str}{scope:Scope}{f:Addr}{cd:Value}{A:Around}{outer:List Env}{s:Shared}{H:Hp}{E:XK}
theorem zao:Passes (CX1 P w) (cxOf (CX1 P w) P w K mg base N qual scope f cd A outer s H E) E:=by
 intro pins σ H1 s1 e s' I h;obtain⟨x,T,cls,H',rfl,os,bare,un,hok,xa,n1,n2,f1,f2,he⟩:=h;have J:=I.call' (H':=H') (ch:=[]) os un hok bare (λb z=>absurd z (by simp));have up:∀{b:Addr},s1.heap.get? b=none->s.heap.get? b=none:=λ{b} q=>by
  cases q2:s.heap.get? b with
  | none=>rfl
  | some o =>
   obtain⟨o2,q3⟩:=I.base.there b o q2 (λz=>by cases z);rw[q] at q3;cases q3
 exact leave1 J rfl rfl xa (up n1) (up n2) f1 f2 he
end
end L2
namespace L2
open PySem PySem.Spec PyProof.Rows
abbrev zyz:List Value:=[.type "ValueError",.type "Exception",.type "BaseException",.type "object"]
def ExcC (K:yaa)(C:Addr):Prop:=ybk K C zyz "ValueError.__new__" = true
theorem ziq {K:yaa}{h:Heap}{C:Addr}(X:K.In h)(q:ExcC K C) :
  ∃bm N nm qn bs hdct sn sub ab col dd k0 k1 k2 k3 k5 mN,h.get? C=some (yug nm qn C N bs bm hdct sn sub ab col dd k0 k1 k2 k3 k5 "ValueError.__new__")∧h.Ns N mN∧mN "__init__" = none∧OwnTail h zyz bm:=by
 unfold ExcC ybk at q
 split at q
 ·rename_i dd cd sl ho
  split at q
  ·rename_i C' bm k0 k1 k2 k3 n k5 hm hs;simp only[yxb,beq_iff_eq,yzi] at q;obtain⟨⟨⟨⟨⟨rfl,rfl⟩,hdel⟩,ht⟩,hok⟩,hni⟩:=q;obtain⟨nm,bs,mro,ns,qn,hd,sn,sub,ab,col,del⟩:=cd;dsimp only at hm hdel hok hni;subst hm hdel;have hsl:sl=#[k0,k1,k2,k3,some (.builtin "ValueError.__new__"),k5]:=by
    obtain⟨l⟩:=sl;simp only at hs;rw[hs]
   subst hsl;exact⟨bm,ns,nm,qn,bs,hd,sn,sub,ab,col,dd,k0,k1,k2,k3,k5,_,X _ _ ho,.of_isNs (PySem.W.isNs_of_in X hok),PySem.W.nsMap_none_of_in X hok hni,PySem.W.tail_of_in X ht⟩
  ·cases q
 ·cases q
def Raises (X:Cx)(E:XK):Prop:=∀(pins:List (Addr×Obj)) (σ:St) (H:Hp) (s:Shared) (x:Addr) (cls:Value) (args:List Value) (h1:Heap),Inv X pins σ H s->Heap.MadeExcOf s.heap h1 x cls args->E cls none H->X.xe (.ref x) { s with heap:=h1 }
theorem ztj {P:yya}{w:World}{K:yaa}{mg:Str->Option Value}{base:Heap}{N:List Str}{qual:Str}{scope:Scope}{f:Addr}{cd:Value}{A:Around}{outer:List Env}{s:Shared}{H:Hp}{E:XK}:Raises (cxOf (CX1 P w) P w K mg base N qual scope f cd A outer s H E) E :=
 λpins σ H1 s1 x cls args h1 I mx e=>zrbb I rfl rfl mx e
def zfab (C:Addr)(E:XK)(te:TE):TS:=λ_ σ H=>te σ H λ_ H1=>E (.ref C) none H1
theorem zye {X:Cx}{e:Expr}{te:TE}{x:Str}{np cpos pos:Pos}{C:Addr}{E:XK}(hc:X.calm=true)(hg:Gl X x)(hm:X.mg x=some (.ref C))(q:ExcC X.K C)(R:Raises X E)(he:PE X e te)
  (hdb:(x==("__debug__":Str))=false:=by decide) (hst:backTo cpos (yac [e] X.env)=(false,eval e X.env)::[]:=by rfl) :
  PS X (.Raise (some (.Call (.Name x np) [e] [] cpos)) none pos) (zfab C E te):=by
 intro pins s σ H D I h;obtain⟨bm,N,nm,qn,bs,hdct,sn,sub,ab,col,dd,k0,k1,k2,k3,k5,mN,hC,hN,hni,TL⟩:=ziq I.mod.kin q;refine wpAny_Raise_call_subU (C:=C) (nm:=nm) (q:=qn) (N:=N) (bs:=bs) (bm:=bm) (hdct:=hdct) (sn:=sn) (sub:=sub) (ab:=ab) (col:=col) (dd:=dd) (k0:=k0) (k1:=k1) (k2:=k2) (k3:=k3) (k5:=k5) (mN:=mN)
  yvf (by decide) yvf (TL.hasType (by decide)) (I.ok.hd hc) (by rw[hst];rfl) hni (zik I hg hm ⟨rfl,?_⟩ hdb)
 rw[hst];refine yxh (yii (thn (he pins s σ H _ I h) λv s1 ⟨y,H1,I1,r,q1⟩=>yti ⟨rfl,(by show 1≤yfa;decide),I1.bk _ _ hC,hN.keeps I1.bk,TL.keeps I1.bk,λh' e mx=>R pins σ H1 s1 e _ _ h' I1 mx q1⟩))
end L2
namespace L2
open PySem PySem.Spec PyProof.Rows
def subIn (K:yaa)(C D:Addr):Bool:=match K.lookup C with
 | some ⟨_,_,.cls cd,_⟩=>cd.mro.contains (.ref D)
 | _=>false
theorem ziab {K:yaa}{h:Heap}{C D:Addr}(X:K.In h)(q:subIn K C D=true){nm qn:Str}{N:Addr}{bs bm:List Value}{hdct:Bool}{sn:List Str}{sub:List Value}{ab:Bool}{col:Option Bool}{dd:Option Addr}{k0 k1 k2 k3 k5:Option Value}{newId:String}
  (hC:h.get? C=some (yug nm qn C N bs bm hdct sn sub ab col dd k0 k1 k2 k3 k5 newId)):(Value.ref C::bm).contains (.ref D)=true:=by
 unfold subIn at q
 split at q
 ·rename_i c d cd sl ho;have z:=X _ _ ho;rw[hC] at z;unfold yug at z;injection z with z
  injection z with _ _ z3 _
  injection z3 with z3
  rw[← z3] at q;exact q
 ·cases q
section
variable {M:Model}{A:Around}{E:Value->Shared->Prop}
theorem zbl {C D N N':Addr}{nm q nm' q':Str}{bs bm bs' bm':List Value}{hdct hdct':Bool}{sn sn':List Str}{sub sub':List Value}{ab ab':Bool}{col col':Option Bool}{dd dd':Option Addr}{k0 k1 k2 k3 k5 l0 l1 l2 l3 l5:Option Value}{newId newId':String}
  {h:Heap} {g:Array GenState} {d:Drawn} {t:Nat} {os:OsState} {e:Addr} {oe:Obj} {Q:Bool->Shared->Prop}
  (hC:h.get? C=some (yug nm q C N bs bm hdct sn sub ab col dd k0 k1 k2 k3 k5 newId)) (hD:h.get? D=some (yug nm' q' D N' bs' bm' hdct' sn' sub' ab' col' dd' l0 l1 l2 l3 l5 newId'))
  (he:h.get? e=some oe) (hcls:oe.cls = .ref C) (hbase:bm'.contains (.type "BaseException")=true) (hsub:(Value.ref C::bm).contains (.ref D)=true)
  (hq:Q true ⟨h,g,d,t,os⟩):wpAny M A (excMatches (.ref e) (.ref D)) Q E ⟨h,g,d,t,os⟩:=by
 have hcB:(Value.ref D::bm').contains (.type "BaseException")=true:=by rw[List.contains_cons,hbase,Bool.or_true]
 have f:=tc_notTuple;unfold excMatches
 repeat (first|(with_reducible refine yyc he ?_;rw[hcls])|with_reducible refine yyc hD ?_|(with_reducible refine wpAny_isSubtype_exc hD ?_;rw[hcB])|(with_reducible refine wpAny_isSubtype_exc hC ?_;rw[hsub])|wp_step)
 exact hq
end
def excO (x:Addr)(cls:Value):HO:=.ext λh=>∃o,h.get? x=some o∧o.cls=cls
abbrev Cx.held (X:Cx)(x:Addr)(E:Value->Shared->Prop):Cx:={ X with A:=X.A.mark (some (.ref x)),calm:=false,xe:=E }
section
variable {X:Cx}{pins:List (Addr×Obj)}{σ:St}{H:Hp}{s:Shared}
theorem Inv.held (I:Inv X pins σ H s)(x:Addr)(E:Value->Shared->Prop):Inv (X.held x E) pins σ H s :=
 ⟨⟨I.ok.mod,I.ok.kind,I.ok.glob,I.ok.blt,I.ok.above,I.ok.inj,I.ok.has,I.ok.cab,(λz=>by cases z),I.ok.frames,I.ok.stk,I.ok.exf,I.ok.bs,I.ok.bsz,I.ok.noex,I.ok.exfs,I.ok.funs,I.ok.frf⟩,I.os,I.bare,I.base,I.loc,I.cell,I.free,I.freeC,I.pin,I.hok,I.len⟩
theorem Inv.zer {x:Addr}{E:Value->Shared->Prop}(ok:X.Ok)(I:Inv (X.held x E) pins σ H s):Inv X pins σ H s :=
 ⟨ok,I.os,I.bare,I.base,I.loc,I.cell,I.free,I.freeC,I.pin,I.hok,I.len⟩
theorem Inv.zlab (J:Inv X pins σ H s){x T:Addr}(n1:X.s₀.heap.get? x=none)(n2:X.s₀.heap.get? T=none)(f1:H x=none)(f2:H T=none)(px:∀p∈X.pn++pins,p.1≠x∧p.1≠T)(hex:X.ex=[])
  {h':Heap} (k1:(yme s.heap (frs X.stack++[x,T])).StaysIn h') (up:s.heap.UpToSlots h'):Inv X pins σ H { s with heap:=h' }:=by
 have noEx:∀b,b∉X.ex:=λb z=>by rw[hex] at z;cases z
 have nst:∀b,b∈frs X.stack->b=X.env.locals∨b∈X.fs:=λb hb=>yga.mp (J.zil b hb);have keep:∀b o,s.heap.get? b=some o->b≠X.env.locals->b∉X.fs->b≠x->b≠T->h'.get? b=some o:=λb o q h1 h2 h3 h4=>by
  refine k1 b o (yje _ q λz=>?_)
  rcases yia.mp z with y|y
  ·rcases nst b y with w|w
   ·exact h1 w
   ·exact h2 w
  ·simp only[yga,yyb,or_false] at y
   rcases y with w|w
   ·exact h3 w
   ·exact h4 w
 have old:∀{b:Addr} {o:Obj},X.s₀.heap.get? b=some o->b≠X.env.locals∧b≠x∧b≠T:=λ{b o} q =>
  ⟨λz=>absurd (yda (yja q) J.ok.above) (by rw[z];exact yrc _),(λz=>by rw[z,n1] at q;cases q),(λz=>by rw[z,n2] at q;cases q)⟩
 have cellUp:∀{c:Addr} {v:Option Value},s.heap.IsCell c v->h'.IsCell c v:=λ{c v} hc=>by
  obtain⟨o,ho,hd⟩:=hc;obtain⟨sl,q⟩:=up c o ho λvs z=>by rw[hd] at z;cases z
  exact⟨_,q,hd⟩
 refine⟨J.ok,J.os,J.bare,?_,?_,λy c hc=>?_,J.free,J.freeC,λp hp=>?_,λb u q=>?_,J.len⟩
 ·refine⟨λb o q n nf _=>?_,λb o q n nf _=>?_,J.base.free,λb o q _=>?_,J.base.tups,J.base.frzs,J.base.tbls⟩
  ·obtain⟨o1,o2,o3⟩:=old q;exact keep b o (J.base.keep b o q n nf (noEx b)) o1 nf o2 o3
  ·obtain⟨sl,q2⟩:=J.base.slot b o q n nf (noEx b);obtain⟨_,o2,q3,q4⟩:=J.funs.mem nf;rw[q2] at q3;cases q3;obtain⟨sl2,q5⟩:=up b _ q2 q4;exact⟨sl2,q5⟩
  ·obtain⟨o2,q2⟩:=J.base.there b o q (noEx b);obtain⟨p1,p2,p3⟩:=old q
   by_cases c:b∈X.fs
   ·obtain⟨_,o3,q3,q4⟩:=J.funs.mem c;obtain⟨sl,q5⟩:=up b _ q3 q4;exact⟨_,q5⟩
   ·exact⟨o2,keep b o2 q2 p1 c p2 p3⟩
 ·obtain⟨m,hn,hl⟩:=J.loc;refine⟨m,up.ns hn,λi y v e1 e2 e3=>?_⟩;obtain⟨u,r,lk⟩:=hl i y v e1 e2 e3;refine⟨u,r,?_⟩
  rcases lk with z|⟨z,c,hc,hi⟩
  ·exact .inl z
  ·exact .inr ⟨z,c,hc,cellUp hi⟩
 ·obtain⟨v,hv⟩:=J.cell y c hc;exact⟨v,cellUp hv⟩
 ·obtain⟨p1,p2,p3,p4,p5⟩:=J.pin p hp;obtain⟨e1,e2⟩:=px p hp;exact⟨keep _ _ p1 p3 p4 e1 e2,p2,p3,p4,p5⟩
 ·refine (J.hok b u q).stay (λc v hc r=>?_) (λ_ z=>z) λ_ _ z=>z;have tr:H c≠none:=by
   rcases hc with z|z
   ·rw[z,q];intro y;cases y
   ·rw[z];intro y;cases y
  refine keep c v r (λz=>?_) (λz=>?_) (λz=>?_) λz=>?_
  ·rw[z] at tr;exact tr J.free
  ·exact tr (J.base.free c _ (J.ok.funs.mem z).2.choose_spec.1 (J.ok.frf c z) (noEx c))
  ·rw[z] at tr;exact tr f1
  ·rw[z] at tr;exact tr f2
theorem Inv.track (I:Inv X pins σ H s){x:Addr}{o:HO}(f1:H x=none)(n1:X.s₀.heap.get? x=none)(hl:x≠X.env.locals)(hc:∀y c,X.env.cells.lookup y=some c->c≠x)(px:∀p∈X.pn++pins,p.1≠x)
  (new:zwe X.prog X.w (upd H x o) s.heap x o):Inv X pins σ (upd H x o) s:=by
 refine⟨I.ok,I.os,I.bare,?_,I.loc,I.cell,by rw[zoa (ywc hl)];exact I.free,λy c h=>by rw[zoa (hc y c h)];exact I.freeC y c h,λp hp=>?_,λb u q=>?_,I.len⟩
 ·exact⟨I.base.keep,I.base.slot,λb u q n ne=>by rw[zoa λz=>by rw[z,n1] at q;cases q];exact I.base.free b u q n ne,I.base.there,λb xs q=>by rw[zoa λz=>by have:=I.base.tups b xs q;rw[z,f1] at this;cases this];exact I.base.tups b xs q,λb ob u q=>by rw[zoa λz=>by have:=I.base.frzs b ob u q;rw[z,f1] at this;cases this];exact I.base.frzs b ob u q,λb ps q=>by
   obtain⟨more,z⟩:=I.base.tbls b ps q;exact⟨more,by rw[zoa λw=>by rw[w,f1] at z;cases z];exact z⟩⟩
 ·obtain⟨p1,p2,p3⟩:=I.pin p hp;exact⟨p1,by rw[zoa (px p hp)];exact p2,p3⟩
 ·by_cases e:b=x
  ·subst e;rw[zea] at q;cases q;exact new
  ·rw[zoa e] at q;refine (I.hok b u q).stay (λ_ _ _ r=>r) (λc z=>?_) λc xs z=>?_
   ·rw[zoa λw=>by rw[w,f1] at z;cases z];exact z
   ·rw[zoa λw=>by rw[w,f1] at z;cases z];exact z
end
end L2
namespace L2
open PySem PySem.Spec PyProof.Rows
section
variable {X:Cx}{pins:List (Addr×Obj)}{σ:St}{H:Hp}{s:Shared}
theorem zwg {M:Model}{A:Around}{E:Value->Shared->Prop}{k:Nat}{n:Str}{pos:Pos}{Q:Unit->Shared->Prop}(I:Inv X pins σ H s)(hN:X.N.Nodup)(hi:X.N[k]?=some n)(hl:X.env.scope.names.lookup n=some .local)
  (h:∀s',Inv X pins (σ.set k none) H s'->Q () s'):wpAny M A (do bindName X.env n .none;unbindBehindTheSuite X.env n pos) Q E s:=by
 refine yhb (wpAny_bindName (zxg (v:=.non) I hN hi (.inl hl) rfl (λs1 I1=>?_) (.inr hl)));unfold unbindBehindTheSuite;refine wpAny_onRaise ?_;obtain⟨m,hn,hlk⟩:=id I1.loc;have hk:k<σ.length:=by rw[I.len];exact (ydb.mp hi).1
 obtain⟨u,_,lk⟩:=hlk k n .non hi (by rw[yqd hk]) (.inl hl);have mn:m n=some u:=by
  rcases lk with z|⟨z,_⟩
  ·exact z.2
  ·have z':X.env.scope.names.lookup n=some .cell∨X.env.scope.names.lookup n=some .free:=z;rw[hl] at z'
   rcases z' with y|y<;>cases y
 have hcls:(X.env.scope.kind == .class||(X.env.scope.kind == .module&&X.env.locals != X.env.globals))=false:=by rw[I.ok.kind];rfl
 have cne:=I1.cne;obtain⟨oL,esL,epL,hoL,hdL,_⟩:=id hn;refine wpAny_unbindName_local hl hn mn hcls λh' u' hn' hs=>h _ ⟨I1.ok,I1.os,I1.bare,⟨λb o e n' hb hx=>?_,λb o e n' hb hx=>?_,I1.base.free,λb o e hx=>?_,I1.base.tups,I1.base.frzs,I1.base.tbls⟩,⟨_,hn',λj y v' e1 e2 e3=>?_⟩,λy c e=>?_,I1.free,I1.freeC,λp hp=>?_,λb ob e=>?_,?_⟩
 ·exact (hs.2 b (yfb (yda (yja e) I.ok.above))).trans (I1.base.keep b o e n' hb hx)
 ·obtain⟨sl,e1⟩:=I1.base.slot b o e n' hb hx;exact⟨sl,(hs.2 b (yfb (yda (yja e) I.ok.above))).trans e1⟩
 ·obtain⟨o',e1⟩:=I1.base.there b o e hx;exact⟨o',(hs.2 b (yfb (yda (yja e) I.ok.above))).trans e1⟩
 ·by_cases hj:j=k
  ·subst hj;rw[yqd hk] at e2;cases e2
  ·rw[yee (ywc hj)] at e2;obtain⟨u2,r,q⟩:=hlk j y v' e1 (by rw[yee (ywc hj)];exact e2) e3;refine⟨u2,r,?_⟩
   rcases q with⟨q1,q2⟩|⟨q1,c,q2,q3⟩
   ·have:y≠n:=λz=>hj (zum hN e1 (z▸hi));exact .inl ⟨q1,by simp[this,q2]⟩
   ·exact .inr ⟨q1,c,q2,q3.sameBut hs (cne y c q2)⟩
 ·obtain⟨w',z⟩:=I1.cell y c e;exact⟨w',z.sameBut hs (cne y c e)⟩
 ·obtain⟨e,n',ne,nf,d⟩:=I1.pin p hp;exact⟨(hs.2 p.1 ne).trans e,n',ne,nf,d⟩
 ·refine (I1.hok b ob e).stay (λc w' hc q=>(hs.2 c ?_).trans q) (λ_ q=>q) λ_ _ q=>q;rintro rfl
  rcases hc with z|z
  ·rw[← z,I1.free] at e;cases e
  ·rw[I1.free] at z;cases z
 ·rw[List.length_set];exact I.len
def Catches (K:yaa)(D0:Addr)(cls:Value):Prop:=∃C,cls = .ref C∧ExcC K C∧subIn K C D0=true
def zrab (k:Nat)(D:Ends):Ends:={ nx:=fun σ H=>D.nx (σ.set k none) H,rt:=D.rt,bk:=fun σ H=>D.bk (σ.set k none) H,ct:=fun σ H=>D.ct (σ.set k none) H }
def tryX (X:Cx)(D0:Addr)(k:Nat)(ts:TS)(D:Ends):XK:=λcls _ H=>Catches X.K D0 cls∧∀(σ:St) (x:Addr),σ.length=X.N.length->H x=none->ts (zrab k D) (σ.set k (some (.ref x))) (upd H x (excO x cls))
theorem zjdb {D0:Addr}{k:Nat}{ts:TS}{D:Ends}{x T:Addr}{cls:Value}{y n:Str}{np hpos:Pos}{b₀:Stmt}{suite:List Stmt}(J:Inv X pins σ H s)(hs:X.stack=X.env::X.outer)(hex:X.ex=[])
  (xa:XAt s.heap x cls T) (n1:X.s₀.heap.get? x=none) (n2:X.s₀.heap.get? T=none) (f1:H x=none) (f2:H T=none) (px:∀p∈X.pn++pins,p.1≠x∧p.1≠T) (cx:∀z c,X.env.cells.lookup z=some c->c≠x)
  (e:tryX X D0 k ts D cls none H) (hg:Gl X y) (hm:X.mg y=some (.ref D0)) (q0:ExcC X.K D0) (hN:X.N.Nodup) (hi:X.N[k]?=some n) (hl:X.env.scope.names.lookup n=some .local) (hsu:∀z,PSs (X.held z λ_ _=>False) (b₀::suite) ts)
  (hdb:(y==("__debug__":Str))=false:=by decide) :
  wpAny (model X.prog X.w) X.A (noteFrame (.ref x) X.env) (λ_ s₂=>wpAny (model X.prog X.w) X.A (setFlight (.ref x) none) (λ_ s₃=>wpAny (model X.prog X.w) X.A (handleBy (.ref x) X.env [.ExceptHandler (some (.Name y np)) (some n) (b₀::suite) hpos]) (SP X pins D) X.xe s₃) X.xe s₂) X.xe s:=by
 obtain⟨oe,oT,vs,ts',a0,g1,g2,g3,g4,g6,g7,g8,g9⟩:=xa;obtain⟨⟨C,rfl,qC,qs⟩,et⟩:=e;have hf:X.env.frame=some X.env.locals:=by
  rcases J.ok.stk with z|z
  ·rw[hs] at z;have:=congrArg yvd z;simp at this
  ·exact z.2
 have hin:∀env∈X.env::X.outer,∀b,env.frame=some b->b∈frs X.stack++[x,T]:=λenv he b hb=>yzb _ (by rw[hs];exact ybd.mpr ⟨env,he,hb⟩);have mx:x∈frs X.stack++[x,T]:=yra _ (by simp);have mT:T∈frs X.stack++[x,T]:=yra _ (by simp);have fl:yjj (yme s.heap (frs X.stack++[x,T])) (X.env::X.outer) x (.ref C) a0 s.heap :=
  ⟨λb o q=>yne _ q,ydd _ mx,yue (by rw[← hs];exact J.stack) hin,oe,vs,T,oT,ts',g1,g2,g3,g4,ydd _ mT,g6,g7,g8,g9⟩
 refine wpAny_looks_onW (by rw[← hs];exact J.ok.frames) hf fl λh4 held4 up4=>?_;refine wpAny_landsW (s:={ s with heap:=h4 }) held4 λh5 fl5 up5=>?_;have up45:=up4.trans up5;have J5:=J.zlab n1 n2 f1 f2 px hex fl5.1 up45;refine wpAny_handleBy_cons (codeAny_handlers_test (zik (X:=X.held x λ_ _=>False) (J5.held x _) hg hm ?_ hdb)) (by intro q;cases q);obtain⟨bm,N,nm,qn,bs,hdct,sn,sub,ab,col,dd,k0,k1,k2,k3,k5,mN,hC,hN',hni,TL⟩:=ziq J5.kIn qC;obtain⟨bm',N',nm',qn',bs',hdct',sn',sub',ab',col',dd',l0,l1,l2,l3,l5,mN',hD,hN'',hni',TL'⟩:=ziq J5.kIn q0;obtain⟨ob,hob,hobc⟩:=fl5.there;refine zbl hC hD hob hobc (TL'.hasType (by decide)) (ziab J5.kIn qs hC) ?_;refine codeAny_handlers_suite_as ?_;refine lands_againW (s:={ s with heap:=h5 }) fl5 λh6 fl6 up6=>?_;have J6:=J.zlab n1 n2 f1 f2 px hex fl6.1 (up45.trans up6);obtain⟨ob6,hob6,hobc6⟩:=fl6.there;have xl:x≠X.env.locals:=λz=>by
  obtain⟨m,⟨o,es,ep,ho,hd,_⟩,_⟩:=J.loc;rw[← z,g1] at ho;cases ho;rw[g3] at hd;cases hd
 have J6t:=((J6.held x λ_ _=>False).track (x:=x) (o:=excO x (.ref C)) f1 n1 xl cx (λp hp=>(px p hp).1) ⟨⟨ob6,hob6,hobc6⟩,⟨ob6,hob6⟩,λh1 h2 ⟨o,e1,e2⟩ kk=>⟨o,kk o e1,e2⟩⟩);refine zxg (X:=X.held x λ_ _=>False) (v:=.ref x) J6t hN hi (.inl hl) rfl (λs7 I7=>?_) (.inr hl);refine yhc (hsu x pins s7 _ _ (zrab k D) I7 (et σ x J.len f1)) (λf s8 sp=>?_) λ_ _ z=>ytc z;cases f with
 | next =>
  obtain⟨σ',H',I8,q8⟩:=sp;exact zwg (I8.zer J.ok) hN hi hl λs9 I9=>⟨_,_,I9,q8⟩
 | brk =>
  obtain⟨σ',H',I8,q8⟩:=sp;exact zwg (I8.zer J.ok) hN hi hl λs9 I9=>⟨_,_,I9,q8⟩
 | cont =>
  obtain⟨σ',H',I8,q8⟩:=sp;exact zwg (I8.zer J.ok) hN hi hl λs9 I9=>⟨_,_,I9,q8⟩
 | ret u =>
  obtain⟨v,σ',H',I8,r8,q8⟩:=sp;exact zwg (I8.zer J.ok) hN hi hl λs9 I9=>⟨v,_,_,I9,r8,q8⟩
end
end L2
namespace L2
open PySem PySem.Spec PyProof.Rows
abbrev Cx.tried (X:Cx)(E:Value->Shared->Prop)(pn:List (Addr×Obj)):Cx:={ X with xe:=E,pn:=pn }
section
variable {X:Cx}{pins:List (Addr×Obj)}{σ:St}{H:Hp}{s:Shared}
theorem Cx.Ok.tried {X:Cx}(ok:X.Ok)(E:Value->Shared->Prop)(pn:List (Addr×Obj)):(X.tried E pn).Ok :=
 ⟨ok.mod,ok.kind,ok.glob,ok.blt,ok.above,ok.inj,ok.has,ok.cab,ok.hd,ok.frames,ok.stk,ok.exf,ok.bs,ok.bsz,ok.noex,ok.exfs,ok.funs,ok.frf⟩
theorem Inv.tried (I:Inv X pins σ H s)(E:Value->Shared->Prop):Inv (X.tried E (X.pn++pins)) [] σ H s :=
 ⟨I.ok.tried E _,I.os,I.bare,I.base,I.loc,I.cell,I.free,I.freeC,λp hp=>I.pin p (by rw[ynf] at hp;exact hp),I.hok,I.len⟩
theorem Inv.zej {E:Value->Shared->Prop}{pins':List (Addr×Obj)}(ok:X.Ok)(I:Inv (X.tried E (X.pn++pins)) pins' σ H s):Inv X pins σ H s :=
 ⟨ok,I.os,I.bare,I.base,I.loc,I.cell,I.free,I.freeC,λp hp=>I.pin p (yzb _ hp),I.hok,I.len⟩
end
section
variable {X:Cx}
theorem zyab {tb:XK->TS}{ts:TS}{D0:Addr}{k:Nat}{y n:Str}{np hpos pos:Pos}{body:List Stmt}{b₀:Stmt}{suite:List Stmt}(hs:X.stack=X.env::X.outer)(hex:X.ex=[])(hg:Gl X y)(hm:X.mg y=some (.ref D0))(q0:ExcC X.K D0)
  (hN:X.N.Nodup) (hi:X.N[k]?=some n) (hl:X.env.scope.names.lookup n=some .local) (hb:∀(E1:XK) (E:Value->Shared->Prop) (pn:List (Addr×Obj)),Passes (CX1 X.prog X.w) (X.tried E pn) E1->PSs (X.tried E pn) body (tb E1))
  (hsu:∀z,PSs (X.held z λ_ _=>False) (b₀::suite) ts) (hdb:(y==("__debug__":Str))=false:=by decide) :
  PS X (.Try body [.ExceptHandler (some (.Name y np)) (some n) (b₀::suite) hpos] [] [] pos) (λD σ H=>tb (tryX X D0 k ts D) D σ H):=by
 intro pins s σ H D I h;refine wpAny_Try_except ?_;have P:Passes (CX1 X.prog X.w) (X.tried (λe s₁=>wpAny (model X.prog X.w) X.A (noteFrame e X.env) (λ_ s₂=>wpAny (model X.prog X.w) X.A (setFlight e none) (λ_ s₃=>wpAny (model X.prog X.w) X.A (handleBy e X.env [.ExceptHandler (some (.Name y np)) (some n) (b₀::suite) hpos]) (SP X pins D) X.xe s₃) X.xe s₂) X.xe s₁) (X.pn++pins)) (tryX X D0 k ts D):=by
  intro pins' σ' H1 s1 e s' I1 hx;obtain⟨x,T,cls,H2,rfl,os,bare,un,hok,xa,n1,n2,f1,f2,he⟩:=hx;have J':=I1.call' (H':=H2) (ch:=[]) os un hok bare (λb z=>absurd z (by simp));have J:Inv X pins σ' H2 s':=J'.zej I.ok;have up:∀{b:Addr},s1.heap.get? b=none->X.s₀.heap.get? b=none:=λ{b} q=>by
   cases q2:X.s₀.heap.get? b with
   | none=>rfl
   | some o =>
    obtain⟨o2,q3⟩:=I1.base.there b o q2 (λz=>by rw[show (X.tried _ _).ex=X.ex from rfl,hex] at z;cases z);rw[q] at q3;cases q3
  refine zjdb J hs hex xa (up n1) (up n2) f1 f2 (λp hp=>?_) (λz c hc w=>?_) he hg hm q0 hN hi hl hsu hdb
  ·obtain⟨p1,_⟩:=I1.pin p (yzb _ hp);exact⟨(λw=>by rw[w,n1] at p1;cases p1),(λw=>by rw[w,n2] at p1;cases p1)⟩
  ·obtain⟨v,o,ho,_⟩:=I1.cell z c hc;rw[w,n1] at ho;cases ho
 refine yhc (hb _ _ _ P [] s σ H D (I.tried _) h) (λf s₁ sp=>?_) λe s₁ z=>z;have sp':SP X pins D f s₁:=by
  cases f with
  | next=>obtain⟨σ',H',J,q⟩:=sp;exact⟨σ',H',J.zej I.ok,q⟩
  | brk=>obtain⟨σ',H',J,q⟩:=sp;exact⟨σ',H',J.zej I.ok,q⟩
  | cont=>obtain⟨σ',H',J,q⟩:=sp;exact⟨σ',H',J.zej I.ok,q⟩
  | ret u=>obtain⟨v,σ',H',J,r,q⟩:=sp;exact⟨v,σ',H',J.zej I.ok,r,q⟩
 cases f with
 | next=>exact yoe sp'
 | brk=>exact sp'
 | cont=>exact sp'
 | ret u=>exact sp'
end
end L2
namespace L2
open PySem PySem.Spec PyProof.Rows
structure ExcQ (K:yaa)(C:Addr):Prop where
 ga:yna K (.ref C) "__getattribute__" = some (some (.builtin "BaseException.__getattribute__"))
 gt:yna K (.ref C) "__getattr__" = some none
 cl:yna K (.ref C) "__class__" = some (some (.builtin "object.__class__"))
 be:yre K (.ref C) (.type "BaseException")=some true
 ob:yre K (.ref C) (.type "object")=some true
 is:(yif K C).isSome=true
section
variable {prog:yya}{w:World}{A:Around}{E:Value->Shared->Prop}{K:yaa}{h:Heap}{g:Array GenState}{d:Drawn}{t:Nat}{os:OsState}{a C:Addr}{o:Obj}
theorem zxz {R:Result->Shared->Prop}(Z:ExcQ K C)(X:K.In h)(hx:h.get? a=some o)(hc:o.cls = .ref C)(hq:R (.ok (.ret (.ref C))) ⟨h,g,d,t,os⟩) :
  ybg (model prog w) A (.call (.builtin "getset_descriptor.__get__") ⟨[.builtin "object.__class__",.ref a,.ref C],[]⟩) R ⟨h,g,d,t,os⟩:=by
 have hT5:(⟨h,g,d,t,os⟩:Shared).TypeIs (.builtin "object.__class__") "getset_descriptor":=ydf;have f8:=ydi (M:=model prog w) X Z.ob;rw[← F.owner_object_class] at f8;refine codeAny_call_builtin yli.plain F.entry_gs_get (yli.check _ _ _ _ _ _ _ _ hT5 (F.args_gs_get _ _ _) ?_)
 repeat (any_goals (first|assumption|(with_reducible refine yyc hx ?_;rw[hc])|with_reducible refine f8.at ?_|wp_step))
 refine⟨Code.quiet_builtin _ (by decide +kernel),codeAny_builtin F.entry_object_class ?_⟩
 repeat (any_goals (first|assumption|(with_reducible refine yyc hx ?_;rw[hc])|wp_step))
theorem zqv {M:Model}{nameV:Value}{Q:Unit->Shared->Prop}(Z:ExcQ K C)(X:K.In h)(hx:h.get? a=some o)(hc:o.cls = .ref C)(hq:Q () ⟨h,g,d,t,os⟩) :
  wpAny M A (checkBuiltinCall "BaseException.__getattribute__" ⟨[.ref a,nameV],[]⟩) Q E ⟨h,g,d,t,os⟩:=by
 have hk:builtinKind "BaseException.__getattribute__" = some .slot:=by decide +kernel
 have hsplit:splitId "BaseException.__getattribute__" = some ("BaseException","__getattribute__"):=by decide +kernel
 have f8:=ydi (M:=M) X Z.be;have ha:=F.args_bexc_ga (.ref a) nameV;simp only[checkBuiltinCall,hk,hsplit];refine yhb ?_
 ·unfold isInstance
  repeat (first|(with_reducible refine yyc hx ?_;rw[hc])|with_reducible refine f8.at ?_|wp_step)
  exact hq
theorem zpv {tk:Tok}{Q:Fin->Shared->Prop}(Z:ExcQ K C)(X:K.In h)(hx:h.get? a=some o)(hc:o.cls = .ref C)(hq:Q (.done (.ret (.ref C))) ⟨h,g,d,t,os⟩) :
  wpAny (model prog w) A (Builtin.«object.__getattribute__» ⟨[.ref a,.str "__class__" tk],[]⟩) Q E ⟨h,g,d,t,os⟩:=by
 have hT5:(⟨h,g,d,t,os⟩:Shared).TypeIs (.builtin "object.__class__") "getset_descriptor":=ydf;have f4:=yfe (M:=model prog w) X Z.cl;have f5:=ydf;have f6:=yli.lookup;have f7:=F.slot_gs_set.lookup
 repeat (any_goals (first|assumption|(with_reducible refine yyc hx ?_;rw[hc])|with_reducible refine f4.at ?_|wp_step))
 refine zxz Z X hx hc ?_
 repeat (any_goals (first|assumption|wp_step))
theorem zvx {tk:Tok}{R:Result->Shared->Prop}(Z:ExcQ K C)(X:K.In h)(hx:h.get? a=some o)(hc:o.cls = .ref C)(hq:R (.ok (.ret (.ref C))) ⟨h,g,d,t,os⟩) :
  ybg (model prog w) A (.call (.builtin "BaseException.__getattribute__") ⟨[.ref a,.str "__class__" tk],[]⟩) R ⟨h,g,d,t,os⟩ :=
 codeAny_call_builtin yyh.ga.plain F.entry_bexc_ga (zqv Z X hx hc (zpv Z X hx hc hq))
theorem zscb {tk:Tok}{Q:Value->Shared->Prop}(Z:ExcQ K C)(X:K.In h)(hx:h.get? a=some o)(hc:o.cls = .ref C)(hq:Q (.ref C) ⟨h,g,d,t,os⟩) :
  wpAny (model prog w) A (getAttrBy (.ref a) (.str "__class__" tk) false) Q E ⟨h,g,d,t,os⟩:=by
 have f3:=yyh.ga.bind (.ref a);have f1:=yfe (M:=model prog w) X Z.ga;have f2:=yfe (M:=model prog w) X Z.gt;have hx2:(Value.builtin "BaseException.__getattribute__" == Value.builtin "object.__getattribute__")=false:=by decide +kernel
 have hx1:(onTheHeap (Value.ref C)&&Value.builtin "BaseException.__getattribute__" == Value.builtin "object.__getattribute__")=false:=by rw[hx2];rfl
 repeat (any_goals (first|assumption|(with_reducible refine yyc hx ?_;rw[hc])|with_reducible refine f1.at ?_|with_reducible refine f2.at ?_|wp_step))
 refine zvx Z X hx hc ?_
 repeat (any_goals (first|assumption|wp_step))
theorem zwx {Q:Option Value->Shared->Prop}(Z:ExcQ K C)(X:K.In h)(hx:h.get? a=some o)(hc:o.cls = .ref C)(hq:Q (some (.ref C)) ⟨h,g,d,t+1,os⟩):wpAny (model prog w) A (getAttr? (.ref a) "__class__") Q E ⟨h,g,d,t,os⟩:=by
 unfold getAttr? getAttrBy?
 repeat (any_goals (first|assumption|with_reducible apply zscb Z X hx hc|wp_step))
theorem zwr {x:Addr}(Z:ExcQ K C):PySem.W.KitX K (.ref x) (.ref C) (λh=>∃o,h.get? x=some o∧o.cls = .ref C) where
 ty:=λM h _ p=>by
  obtain⟨o,h1,h2⟩:=p;exact h2▸(yxj.ld h1).andThen .now
 it:=λ_ _ X _=>by
  have z0:=Z.is;unfold yif at z0
  split at z0
  ·rename_i c' d' cd' sl' ho;intro A' Q' E' s' k q;unfold isType loadHead;exact yhb (wpAny_loadPart (k _ _ (X _ _ ho)) (yic q))
  ·cases z0
 ne:=λh tp dd its n sl X htp=>by
  refine ybc.mpr λq=>?_;have e:C=tp:=Value.ref.inj (beq_iff_eq.mp q);subst e;have z0:=Z.is;unfold yif at z0
  split at z0
  ·rename_i c' d' cd' sl' ho;have z:=(X _ _ ho).symm.trans htp;cases z
  ·cases z0
 ca:=λ{_ _ _ _ _ s} X p k=>by
  obtain⟨h,g,d,t,os⟩:=s;obtain⟨o,h1,h2⟩:=p;exact zwx Z X h1 h2 k
end
end L2
namespace L2
open PySem PySem.Spec PyProof.Rows
section
variable {X:Cx}{K:yaa}
theorem zbp:zci X (.builtin "isinstance") (λxs H Q=>∃(a C:Addr) (c:V) (b:Bool),xs=[.ref a,c]∧H a=some (excO a (.ref C))∧ExcQ X.K C∧((∃n,c = .ty n∧ypa X.K (.ref C) (.type n)=some b)∨(∃D,c = .ref D∧ypa X.K (.ref C) (.ref D)=some b))∧Q (.bl b) H):=by
 intro pins s σ H xs us Q I r h;obtain⟨a,C,c,b,rfl,hx,Z,hc,q⟩:=h;obtain⟨u,u',rfl,rx,r2⟩:=vals2 r;cases (show u=Value.ref a from rx);have fin:∀tk,EP X pins σ Q (.bool b) { s with toks:=tk }:=λtk=>⟨.bl b,H,I.tok tk,rfl,q⟩;have S:=(I.hok a _ hx).1
 rcases hc with⟨n,rfl,e⟩|⟨D,rfl,e⟩
 ·cases (show u'=Value.type n from r2);exact yvb (zwr Z) I.kIn S e (λz=>nomatch z) fin
 ·cases (show u'=Value.ref D from r2);exact yvb (zwr Z) I.kIn S e (λz=>nomatch z) fin
theorem zmc (K:yaa)(hK:X.K=K:=by rfl):zci X (.builtin "isinstance") (λxs H Q=>∃(a C:Addr) (c:V) (b:Bool),xs=[.ref a,c]∧H a=some (excO a (.ref C))∧ExcQ K C∧((∃n,c = .ty n∧ypa K (.ref C) (.type n)=some b)∨(∃D,c = .ref D∧ypa K (.ref C) (.ref D)=some b))∧Q (.bl b) H):=hK▸zbp
end
end L2
namespace L2
open PySem PySem.Spec PyProof.Rows Builtin.Str
theorem zvp {q c:Nat}(h:c<256):(reprChar q c).length≤4:=by
 have z:∀c:Fin 256,(ykj 16 c.1).length≤2:=by decide +kernel
 have z1:=z ⟨c,h⟩;simp only at z1;unfold reprChar
 split
 ·show 2≤4;decide
 split
 ·decide
 split
 ·decide
 split
 ·decide
 split
 ·show 1≤4;decide
 first|rw[if_pos h]|skip
 show (92::120::(yoa (2-((ykj 16 c).map Char.toNat).length) 48++(ykj 16 c).map Char.toNat)).length≤4
 simp only[yca,yta,ykc,yba];omega
theorem zpy {x:Str}(h:∀c∈x.cps.toList,c<256):(yzf x).length≤4*x.length+2:=by
 rw[← reprLen_eq];have go:∀(l:List Nat) (n:Nat),(∀c∈l,c<256)->l.foldl (λn c=>n+(reprChar (reprQuote x) c).length) n≤4*l.length+n:=by
  intro l
  induction l with
  | nil=>intro n _;simp
  | cons a r ih =>
   intro n hl;rw[ylh];have h1:=ih (n+(reprChar (reprQuote x) a).length) λc hc=>hl c (yea _ hc);have h2:=zvp (q:=reprQuote x) (hl a (yua ..));rw[yta];omega
 have h1:=go x.cps.toList 2 h;rw[Array.foldl_toList] at h1;exact h1
def tFR (te tc:TE):TE:=fun σ H Q=>te σ H λv H1=>∃x,v = .str x∧(yzf x).length≤1000000∧tc σ H1 λv2 H2=>∃y,v2 = .str y∧y.length≤1000∧Q (.str (yig++yzf x++y)) H2
theorem zbz {X:Cx}{e c:Expr}{te tc:TE}{p1 p2:Pos}(he:PE X e te)(hc:PE X c tc):PE X (.JoinedStr [.FormattedValue e 114 none p1,c] p2) (tFR te tc):=by
 intro pins s σ H Q I h;refine wpAny_JoinedStr ?_;show wpAny _ _ (eval (.FormattedValue e 114 none p1) X.env) _ _ _
 refine wpAny_FormattedValue_repr (thn (he pins s σ H _ I h) λv s1 ⟨y,H1,I1,r,q1⟩=>?_);obtain⟨x,rfl,hx,q2⟩:=q1;obtain⟨t,rfl⟩:=r;have l1:(yzf x).length≤yfa:=yab hx (by decide);have e0:(yig++yzf x).length≤yfa:=by
  rw[ymi];show 0+_≤_
  rw[Nat.zero_add];exact l1
 refine wpAny_pyReprObj_str ?_ l1;refine formatField_str (λt' tk=>⟨yzf x,t',rfl,e0,?_⟩) l1;have I2:=I1.tok tk;show wpAny _ _ (eval c X.env) _ _ _
 refine thn (hc pins _ σ H1 _ I2 q2) λv2 s2 ⟨y2,H2,I3,r2,y,ey,hy,q3⟩=>?_;subst ey;obtain⟨t2,rfl⟩:=r2;have e1:(yig++yzf x++y).length≤yfa:=by
  rw[ymi,ymi];show 0+_+_≤_
  have:yfa=16777216:=rfl;omega
 exact⟨y,t2,rfl,e1,e1,.str (yig++yzf x++y),H2,I3.tok _,⟨_,rfl⟩,q3⟩
end L2
namespace L2
open PySem PySem.Spec PyProof.Rows
section
variable {P:yya}{w:World}{K:yaa}{mg:Str->Option Value}{base:Heap}{C:Addr}{x q:Str}{st:Stmt}{N ps:List Str}{k:Nat}{sp:Sp}{CX:CXT}
theorem Fun.okx {f:Addr}{fd:yuc}(F:Fun K x q st f fd)(S:zxa N ps (zja st))(len:∀vs H Q E,sp vs H Q E->vs.length=ps.length)
  (hbody:∀(cdv:Value) (A:Around) (outer:List Env) (s:Shared) (H:Hp) (vs:List V) (Q:VK) (E:XK),Room k (A.deeper (envOfC q (zja st) s.heap.objs.size f cdv))->sp vs H Q E →
   ∃t,PSs (cxOf CX P w K mg base N q (zja st) f cdv A outer s H E) (zyc st) t∧t { nx:=λ_ H'=>Q .non H',rt:=Q } (start N vs) H):FnOk P w K mg base CX (k+1) f fd ps sp:=by
 obtain⟨oc,od,kV,doc,pm,an,cdv,ct,osl,rfl,lk,hcd⟩:=F.ex;exact zccb lk hcd S len λA outer s H vs Q E hr hsp=>hbody cdv A outer s H vs Q E hr hsp
theorem Gf.okx (g:Gf K mg x q st)(S:zxa N ps (zja st))
  (hb:∀(f:Addr) (cdv:Value) (A:Around) (outer:List Env) (s:Shared) (H:Hp) (vs:List V) (Q:VK) (E:XK),Room k (A.deeper (envOfC q (zja st) s.heap.objs.size f cdv))->sp vs H Q E->let X:=cxOf (CX1 P w) P w K mg base N q (zja st) f cdv A outer s H E;∃t,PSs X (zyc st) t∧t { nx:=λ_ H'=>Q .non H',rt:=Q } (start N vs) H)
  (len:∀vs H Q E,sp vs H Q E->vs.length=ps.length:=by intro _ _ _ _ h;cases h;rename_i h;rw[h.1];rfl):FnOk P w K mg base (CX1 P w) (k+1) g.f g.d ps sp:=g.F.okx S len (hb g.f)
theorem Mf.okx (g:Mf K C x q st)(S:zxa N ps (zja st))
  (hb:∀(f:Addr) (cdv:Value) (A:Around) (outer:List Env) (s:Shared) (H:Hp) (vs:List V) (Q:VK) (E:XK),Room k (A.deeper (envOfC q (zja st) s.heap.objs.size f cdv))->sp vs H Q E->let X:=cxOf (CX1 P w) P w K mg base N q (zja st) f cdv A outer s H E;∃t,PSs X (zyc st) t∧t { nx:=λ_ H'=>Q .non H',rt:=Q } (start N vs) H)
  (len:∀vs H Q E,sp vs H Q E->vs.length=ps.length:=by intro _ _ _ _ h;cases h;rename_i h;rw[h.1];rfl):FnOk P w K mg base (CX1 P w) (k+1) g.f g.d ps sp:=g.F.okx S len (hb g.f)
theorem zfdb {X:Cx}:Passes (CX1 P w) X E0:=λ_ _ _ _ _ _ _ h=>by
 obtain⟨_,_,_,_,_,_,_,_,_,_,_,_,_,_,h⟩:=h;exact ytc h
end
structure ExK (K:yaa)(mg:Str->Option Value)(n:Str) where
 c:Addr
 m:mg n=some (.ref c)
 q:ExcC K c
 z:ExcQ K c
end L2
namespace L2
open PySem PySem.Spec PyProof.Rows
section
variable {X:Cx}
def repS (x:Str)(n:Nat):Str:=⟨(yoa n x.cps).foldl (· ++ ·) #[]⟩
theorem zwn (x:Str)(n:Nat):(repS x n).cps.toList=(yoa n x.cps.toList).flatten:=by
 have go:∀(n:Nat) (a:Array Nat),((yoa n x.cps).foldl (· ++ ·) a).toList=a.toList++(yoa n x.cps.toList).flatten:=by
  intro n
  induction n with
  | zero=>intro a;simp
  | succ n ih =>
   intro a;rw[yub,ylh,ih,yub,ykb,yqf,yze]
 exact (go n #[]).trans (ywd _)
theorem zlm (x:Str)(n:Nat):(repS x n).length=x.length*n:=by
 show (repS x n).cps.size=x.cps.size*n
 rw[← yad,zwn,← yad]
 induction n with
 | zero=>simp
 | succ n ih=>rw[yub,ykb,yca,ih,Nat.mul_succ,yhj]
theorem zcz:OpR X (ygf .Mult) (λx y H Q=>∃(i:Str) (n:Int),x = .str i∧y = .int n∧1<n∧0<i.length∧i.length*n.toNat≤1000000∧Q (.str (repS i n.toNat)) H):=by
 intro pins s σ H x y v u Q I rx ry h;obtain⟨i,n,rfl,rfl,h1,h0,hz,q⟩:=h;obtain⟨t,rfl⟩:=rx;obtain⟨t',rfl⟩:=ry;have hn:n.toNat≤1000000:=yab (Nat.le_mul_of_pos_left _ h0) hz;have hi:i.length≤1000000:=yab (Nat.le_mul_of_pos_right _ (by omega)) hz;have e1:(n==1||i.length==0)=false:=by
  rw[yzh];exact⟨by simp;omega,by simp;intro z;rw[z] at h0;exact absurd h0 (by decide)⟩
 have tl:yei (i.length*n.toNat)=false:=by
  unfold yei;exact decide_eq_false (by have:yfa=16777216:=rfl;omega)
 refine PySem.P.mul_str (by rw[yzh];exact⟨decide_eq_false (by omega),decide_eq_false (by omega)⟩) (λ_ _ z=>?_) (λ_ _=>tl) ?_
 ·have z2:((2 ^ 63-1) / n)<(i.length:Int):=z;have z3:=(Int.ediv_lt_iff_lt_mul (show 0<n by omega)).mp z2;have z4:(i.length:Int)*n≤1000000:=by
   have:((i.length*n.toNat:Nat):Int)≤((1000000:Nat):Int):=Int.ofNat_le.mpr hz;rw[Int.natCast_mul,yrf (by omega)] at this;exact this
  omega
 ·rw[if_neg (by omega),e1,if_neg (by decide)];refine⟨?_,.str _,H,I.tok _,⟨_,rfl⟩,q⟩;show (repS i n.toNat).length≤yfa
  rw[zlm];exact yab hz (by decide)
theorem zjab {ys:List Str}{its:List Value}(h:Vals (ys.map V.str) its):∀y∈its,∃z t,y=Value.str z t:=by
 induction ys generalizing its with
 | nil =>
  cases h;simp
 | cons a r ih =>
  cases h with
  | cons r1 t1 =>
   obtain⟨t,rfl⟩:=r1;intro y hy
   rcases yga.mp hy with e|e
   ·exact⟨a,t,e⟩
   ·exact ih t1 y e
theorem zmo:MtR X "list.count" (λx xs H Q=>∃(a:Addr) (ys:List Str) (u:Str),x = .ref a∧xs=[.str u]∧H a=some (.lst (ys.map V.str))∧∀n:Nat,n≤ys.length->Q (.int (n:Nat)) H):=by
 intro pins s σ H x vs v us Q I rx rv h;obtain⟨a,ys,u,rfl,rfl,hH,q⟩:=h;cases rx;obtain⟨w,rfl,rw'⟩:=rv.one;obtain⟨t,rfl⟩:=rw';obtain⟨z,its,n,r,hl,e⟩:=I.lstM hH;refine yaf F.slot_list_count ⟨_,e,rfl⟩ F.entry_list_count (F.args_list_count_2 _ _) (MeetsSeq.list_count a its.toArray n (.str u t) (λy=>match y with|.str z _=>z==u|_=>false) (λy hy=>?_)) ⟨e,?_⟩
 ·obtain⟨z,t',rfl⟩:=zjab r y (by simpa using hy);exact eqGives_str z u t' t
 ·refine⟨.int _,H,I.tok _,⟨_,rfl⟩,q _ ?_⟩;rw[yba] at hl;rw[hl];exact List.countP_le_length
end
end L2
namespace Wm
open PySem
theorem zav {c:Nat}:∀{x y a b:List Nat},c∉x->c∉y->x++c::a=y++c::b->x=y∧a=b
 | [],[],a,b,_,_,h=>⟨rfl,by simpa using h⟩
 | [],y::ys,a,b,_,hy,h=>by
  exfalso;simp only[ywd,yie,ysf] at h;exact hy (by rw[← h.1];exact yua)
 | x::xs,[],a,b,hx,_,h=>by
  exfalso;simp only[ywd,yie,ysf] at h;exact hx (by rw[h.1];exact yua)
 | x::xs,y::ys,a,b,hx,hy,h=>by
  simp only[yie,ysf] at h;obtain⟨h1,h2⟩:=h;obtain⟨e1,e2⟩:=zav (λz=>hx (yea _ z)) (λz=>hy (yea _ z)) h2;exact⟨by rw[h1,e1],e2⟩
def jl (c:Nat):List (List Nat)->List Nat
 | []=>[]
 | [x]=>x
 | x::y::r=>x++c::jl c (y::r)
theorem zpx {c:Nat}:∀{xs ys:List (List Nat)},xs≠[]->ys≠[]->(∀x∈xs,c∉x)->(∀y∈ys,c∉y)->jl c xs=jl c ys->xs=ys
 | [],_,h,_,_,_,_=>absurd rfl h
 | _,[],_,h,_,_,_=>absurd rfl h
 | [x],[y],_,_,_,_,h=>by
  have h':x=y:=h;rw[h']
 | [x],y::z::r,_,_,hx,_,h=>by
  exfalso;have h':x=y++c::jl c (z::r):=h;exact hx x yua (by rw[h'];simp)
 | x::z::r,[y],_,_,_,hy,h=>by
  exfalso;have h':x++c::jl c (z::r)=y:=h;exact hy y yua (by rw[← h'];simp)
 | x::z::r,y::z'::r',_,_,hx,hy,h=>by
  have h':x++c::jl c (z::r)=y++c::jl c (z'::r'):=h;obtain⟨e1,e2⟩:=zav (hx x yua) (hy y yua) h';rw[e1,zpx (by simp) (by simp) (λq hq=>hx q (yea _ hq)) (λq hq=>hy q (yea _ hq)) e2]
theorem zfd (c:Nat):∀ws:List Str,(yla ⟨#[c]⟩ ws).cps.toList=jl c (ws.map λw=>w.cps.toList)
 | []=>rfl
 | [x]=>rfl
 | x::y::r=>by
  have ih:=zfd c (y::r);show (x++(⟨#[c]⟩:Str)++yla ⟨#[c]⟩ (y::r)).cps.toList=x.cps.toList++c::jl c ((y::r).map λw=>w.cps.toList)
  rw[← ih];show ((x.cps++#[c])++(yla ⟨#[c]⟩ (y::r)).cps).toList=_
  simp
theorem toList_inj {xs ys:List Str}(h:(xs.map λw=>w.cps.toList)=(ys.map λw=>w.cps.toList)):xs=ys:=by
 induction xs generalizing ys with
 | nil=>cases ys with
  | nil=>rfl
  | cons y r=>simp at h
 | cons x r ih=>cases ys with
  | nil=>simp at h
  | cons y s =>
   simp only[yob,ysf] at h;have e:x=y:=by
    obtain⟨a⟩:=x;obtain⟨b⟩:=y;have h1:a.toList=b.toList:=h.1;rw[ynj.mp h1]
   rw[e,ih h.2]
theorem zgm (x y:Str):yjb x y≠[]:=by
 unfold yjb
 split
 ·simp
 ·split
  ·simp
  ·unfold ygd;cases ylb x y 0 x.length (x.length+1)<;>simp
theorem zjl {c:Nat}{ws:List Str}(hne:ws≠[])(hf:∀w∈ws,c∉w.cps.toList):yjb (yla ⟨#[c]⟩ ws) ⟨#[c]⟩=ws:=by
 refine toList_inj (zpx (c:=c) (by simpa using zgm _ _) (by simpa using hne) (λx hx=>?_) (λx hx=>?_) ?_)
 ·obtain⟨w,hw,rfl⟩:=ytb.mp hx;exact StrLaws.split_free _ c w hw
 ·obtain⟨w,hw,rfl⟩:=ytb.mp hx;exact hf w hw
 ·rw[← zfd,← zfd,yrd]
theorem zym (s:Str):∀ws:List Str,(yla s ws).length≤(ws.map (·.length)).sum+ws.length*s.length
 | []=>ylc _
 | [x]=>by
  show x.length≤_
  simp only[yob,ymh,yse,List.sum_nil,ysb];omega
 | x::y::r=>by
  have ih:=zym s (y::r);show (x++s++yla s (y::r)).length≤_
  rw[yaj,yaj];simp only[yob,yse,yta,ytj,Nat.one_mul] at ih ⊢;omega
theorem join_cons (s x:Str){r:List Str}(h:r≠[]):yla s (x::r)=x++s++yla s r:=by
 cases r with
 | nil=>exact absurd rfl h
 | cons y r=>rfl
theorem zxr (s:Str):∀{xs ys:List Str},xs≠[]->ys≠[]->yla s (xs++ys)=yla s xs++s++yla s ys
 | [],_,h,_=>absurd rfl h
 | [x],ys,_,h=>by rw[List.singleton_append,join_cons s x h];rfl
 | x::y::r,ys,_,h=>by
  have ih:=zxr s (xs:=y::r) (by simp) h;rw[yie,join_cons s x (by simp),ih,join_cons s x (by simp)];simp only[Str.append_assoc]
theorem zso (s:Str):∀{xss:List (List Str)},(∀xs∈xss,xs≠[])->yla s (xss.map (yla s))=yla s xss.flatten
 | [],_=>rfl
 | [xs],_=>by simp[yla]
 | xs::ys::r,h=>by
  have ih:=zso s (xss:=ys::r) (λq hq=>h q (yea _ hq));have hx:=h xs yua;have hy:=h ys (yea _ yua);have ne:(ys::r).flatten≠[]:=by
   rw[ykb];intro z;exact hy (List.append_eq_nil_iff.mp z).1
  rw[yob,join_cons s _ (by simp),ih,ykb (l:=xs),zxr s hx ne]
inductive Wh where
 | all|self|mine|mark (n:Str)|force (i:Nat)|not (a:Wh)|both (a b:Wh)|any (a b:Wh)
def Wh.word:Wh->Str
 | .all=>"all"
 | .self=>"self"
 | .mine=>"mine"
 | .mark _=>"mark"
 | .force _=>"force"
 | .not _=>"not"
 | .both _ _=>"both"
 | .any _ _=>"any"
inductive Wv where
 | non|name (n:Str)|num (i:Nat)
def Wh.val:Wh->Wv
 | .mark n=>.name n
 | .force i=>.num i
 | _=>.non
def Wh.parts:Wh->List Wh
 | .not a=>[a]
 | .both a b=>[a,b]
 | .any a b=>[a,b]
 | _=>[]
def Wv.words:Wv->List Str
 | .non=>[]
 | .name n=>[n]
 | .num i=>[toString (i:Int)]
def Wh.words:Wh->List Str
 | .all=>["all"]
 | .self=>["self"]
 | .mine=>["mine"]
 | .mark n=>["mark",n]
 | .force i=>["force",toString (i:Int)]
 | .not a=>"not" :: a.words
 | .both a b=>"both" :: (a.words++b.words)
 | .any a b=>"any" :: (a.words++b.words)
def Wh.size:Wh->Nat
 | .not a=>a.size+1
 | .both a b=>a.size+b.size+1
 | .any a b=>a.size+b.size+1
 | _=>1
theorem Wh.zyi (w:Wh):w.words=w.word::(w.val.words++(w.parts.map Wh.words).flatten):=by
 cases w<;>simp[Wh.words,Wh.word,Wh.val,Wv.words,Wh.parts]
theorem Wh.zcm (w:Wh):w.words≠[]:=by
 rw[w.zyi];simp
theorem Wh.size_eq (w:Wh):w.size=1+(w.parts.map Wh.size).sum:=by
 cases w<;>simp[Wh.size,Wh.parts]<;>omega
theorem Wh.size_pos (w:Wh):0<w.size:=by
 rw[w.size_eq];omega
def Wh.flat:Wh->List (Str×Wv)
 | .not a=>("not",.non)::a.flat
 | .both a b=>("both",.non)::(a.flat++b.flat)
 | .any a b=>("any",.non)::(a.flat++b.flat)
 | w=>[(w.word,w.val)]
theorem Wh.znz (w:Wh):w.flat=(w.word,w.val)::(w.parts.map Wh.flat).flatten:=by
 cases w<;>simp[Wh.flat,Wh.word,Wh.val,Wh.parts]
theorem Wh.zdn (w:Wh):w.flat.length=w.size:=by
 induction w<;>simp[Wh.flat,Wh.size, *]
def zgf (ws:List Wh):List (Str×Wv):=(ws.map Wh.flat).flatten
def zre (ws:List Wh):List Str:=(ws.map Wh.words).flatten
def zse (ws:List Wh):Nat:=(ws.map Wh.size).sum
theorem zvf (w:Wh)(ws:List Wh):zgf (w::ws)=(w.word,w.val)::zgf (w.parts++ws):=by
 unfold zgf;rw[yob,ykb,w.znz,yza,yke];rfl
theorem zbg (w:Wh)(ws:List Wh):zre (w::ws)=w.word::(w.val.words++zre (w.parts++ws)):=by
 unfold zre;rw[yob,ykb,w.zyi,yza,yke];simp
theorem zrh (w:Wh)(ws:List Wh):zse (w::ws)=1+zse (w.parts++ws):=by
 unfold zse;rw[yob,yse,w.size_eq,yza,List.sum_append];omega
theorem ztn {ws:List Wh}(h:ws≠[]):0<zse ws:=by
 cases ws with
 | nil=>exact absurd rfl h
 | cons w r=>rw[zrh];omega
def zvd (n:Str):Prop:=1≤n.length∧n.length≤8∧∀c∈n.cps.toList,97≤c∧c≤122
def Wh.ok:Wh->Prop
 | .mark n=>zvd n
 | .force i=>i<1000
 | .not a=>a.ok
 | .both a b=>a.ok∧b.ok
 | .any a b=>a.ok∧b.ok
 | _=>True
theorem Wh.zsm {w:Wh}(h:w.ok):∀p∈w.parts,p.ok:=by
 cases w with
 | not a =>
  intro p hp;have e:p=a:=by simpa [Wh.parts] using hp
  rw[e];exact h
 | both a b =>
  intro p hp;have e:p=a∨p=b:=by simpa [Wh.parts] using hp
  rcases e with e|e<;>rw[e]
  ·exact h.1
  ·exact h.2
 | any a b =>
  intro p hp;have e:p=a∨p=b:=by simpa [Wh.parts] using hp
  rcases e with e|e<;>rw[e]
  ·exact h.1
  ·exact h.2
 | _=>intro p hp;simp[Wh.parts] at hp
theorem zko:∀i:Nat,i<1000->∀c∈(toString (i:Int):Str).cps.toList,48≤c∧c≤57:=by decide +kernel
theorem zdu:∀i:Nat,i<1000->1≤(toString (i:Int):Str).length∧(toString (i:Int):Str).length≤3:=by decide +kernel
def znp (u:Str):Prop:=32∉u.cps.toList∧1≤u.length∧u.length≤8
theorem zeu {n:Str}(h:zvd n):znp n:=⟨λz=>absurd (h.2.2 32 z).1 (by decide),h.1,h.2.1⟩
theorem zow {i:Nat}(h:i<1000):znp (toString (i:Int):Str):=by
 have q:=zdu i h;exact⟨λz=>absurd (zko i h 32 z).1 (by decide),q.1,by omega⟩
theorem Wh.zxe (w:Wh):znp w.word:=by
 have h:∀u∈(["all","self","mine","mark","force","not","both","any"]:List Str),32∉u.cps.toList∧1≤u.length∧u.length≤8:=by decide +kernel
 refine h _ ?_;cases w<;>simp[Wh.word]
theorem Wh.zwi {w:Wh}(h:w.ok):∀u∈w.words,znp u:=by
 induction w with
 | not a ih =>
  intro u hu
  rcases yga.mp hu with e|e
  ·rw[e];exact Wh.zxe (.not a)
  ·exact ih h u e
 | both a b iha ihb =>
  intro u hu
  rcases yga.mp hu with e|e
  ·rw[e];exact Wh.zxe (.both a b)
  ·rcases yia.mp e with e|e
   ·exact iha h.1 u e
   ·exact ihb h.2 u e
 | any a b iha ihb =>
  intro u hu
  rcases yga.mp hu with e|e
  ·rw[e];exact Wh.zxe (.any a b)
  ·rcases yia.mp e with e|e
   ·exact iha h.1 u e
   ·exact ihb h.2 u e
 | mark n =>
  intro u hu;have e:u = "mark" ∨ u=n:=by simpa [Wh.words] using hu
  rcases e with e|e<;>rw[e]
  ·exact Wh.zxe (.mark n)
  ·exact zeu h
 | force i =>
  intro u hu;have e:u = "force" ∨ u=toString (i:Int):=by simpa [Wh.words] using hu
  rcases e with e|e<;>rw[e]
  ·exact Wh.zxe (.force i)
  ·exact zow h
 | all=>intro u hu;have e:u = "all":=by simpa [Wh.words] using hu
        rw[e];exact Wh.zxe .all
 | self=>intro u hu;have e:u = "self":=by simpa [Wh.words] using hu
         rw[e];exact Wh.zxe .self
 | mine=>intro u hu;have e:u = "mine":=by simpa [Wh.words] using hu
         rw[e];exact Wh.zxe .mine
theorem Wh.zkn (w:Wh):w.words.length≤2*w.size:=by
 induction w<;>simp[Wh.words,Wh.size]<;>omega
theorem zgr {l:List Nat}{k:Nat}(h:∀x∈l,x≤k):l.sum≤l.length*k:=by
 induction l with
 | nil=>simp
 | cons x r ih =>
  have a:=h x yua;have b:=ih λy hy=>h y (yea _ hy);rw[yse,yta,ytj,Nat.one_mul];omega
def step:List Wh->List Wh
 | []=>[]
 | h::t=>h.parts++t
def pend (w:Wh):Nat->List Wh
 | 0=>[w]
 | j+1=>step (pend w j)
theorem zlk (w:Wh):zgf [w]=w.flat:=by simp[zgf]
theorem zph (w:Wh):zre [w]=w.words:=by simp[zre]
theorem zzj (w:Wh):∀j,zgf (pend w j)=w.flat.drop j
 | 0=>by rw[yeg];exact zlk w
 | j+1=>by
  have ih:=zzj w j;show zgf (step (pend w j))=_
  cases e:pend w j with
  | nil =>
   rw[e] at ih;have z:w.flat.drop j=[]:=ih.symm;rw[← ybf (i:=1),z];rfl
  | cons h t =>
   rw[e,zvf] at ih;show zgf (h.parts++t)=_
   have z:=congrArg (List.drop 1) ih;rw[ybf] at z
   simpa using z
theorem zyj (w:Wh)(j:Nat):zse (pend w j)=w.size-j:=by
 have a:∀ws:List Wh,(zgf ws).length=zse ws:=by
  intro ws
  induction ws with
  | nil=>rfl
  | cons x r ih =>
   have e1:zgf (x::r)=x.flat++zgf r:=(by simp[zgf]);have e2:zse (x::r)=x.size+zse r:=(by simp[zse]);rw[e1,e2,yca,x.zdn,ih]
 rw[← a,zzj,ywb,w.zdn]
theorem zzy {w:Wh}{j:Nat}(h:j<w.size):Ex2 λx t=>pend w j=x::t:=by
 cases e:pend w j with
 | nil =>
  have z:=zyj w j;rw[e] at z;have z':0=w.size-j:=z;omega
 | cons x t=>exact⟨x,t,rfl⟩
theorem zjw (w:Wh):pend w w.size=[]:=by
 cases e:pend w w.size with
 | nil=>rfl
 | cons x t =>
  have z:=zyj w w.size;rw[e] at z;have p:=ztn (ws:=x::t) (by simp);omega
theorem zaz {w x:Wh}{t:List Wh}{j:Nat}(e:pend w j=x::t):w.flat[j]?=some (x.word,x.val):=by
 have z:=zzj w j;rw[e,zvf] at z;have q:(w.flat.drop j)[0]?=some (x.word,x.val):=by rw[← z];rfl
 rw[yqe] at q
 simpa using q
def Wh.depth:Wh->Nat
 | .not a=>a.depth+1
 | .both a b=>max a.depth b.depth+1
 | .any a b=>max a.depth b.depth+1
 | _=>1
theorem Wh.zyr (w:Wh):w.depth≤w.size:=by
 induction w<;>simp[Wh.depth,Wh.size]<;>omega
theorem Wh.zjq (w:Wh):∀p∈w.parts,p.depth+1≤w.depth:=by
 cases w<;>simp[Wh.parts,Wh.depth]<;>omega
theorem zzw {α:Type}(l:List α):(l.map λx=>[x]).flatten=l:=by
 induction l with
 | nil=>rfl
 | cons x r ih=>rw[yob,ykb,ih];rfl
theorem zzx (w:Wh):yla " " (w.word::(w.val.words++w.parts.map λp=>yla " " p.words))=yla " " w.words:=by
 have e:(w.word::(w.val.words++w.parts.map λp=>yla " " p.words))=((w.word::w.val.words).map λx=>[x]).map (yla " ")++(w.parts.map Wh.words).map (yla " "):=by
  rw[yph,yph];have e1:((w.word::w.val.words).map (yla " " ∘ λx=>[x]))=w.word::w.val.words:=by
   have:(yla " " ∘ λx=>[x])=id:=by funext x;rfl
   rw[this,List.map_id]
  rw[e1];rfl
 rw[e,← yza,zso]
 ·rw[yke,w.zyi,zzw];rfl
 ·intro xs hx
  rcases yia.mp hx with q|q
  ·obtain⟨x,_,rfl⟩:=ytb.mp q;simp
  ·obtain⟨x,_,rfl⟩:=ytb.mp q;exact x.zcm
end Wm
namespace Wm
open PySem
def plain (w:Wh):Prop:=w.ok∧w.size≤9
structure Deed where
 each:Str
 kind:Str
 amt:Wv
 whom:Wh
def zecb:List Str:=["each","one"]
def zwu:List Str:=["leave","hurt","gain","lack","lose","score","draw"]
def zys:List Str:=["come","leave","hurt","gain","lack","lose","score","draw"]
def zyp:List Str:=["lose","score","draw"]
inductive zrp:Str->Wv->Prop
 | leave:zrp "leave" .non
 | gain {n:Str}:zvd n->zrp "gain" (.name n)
 | lack {n:Str}:zvd n->zrp "lack" (.name n)
 | hurt {i:Nat}:i<1000->zrp "hurt" (.num i)
 | lose {i:Nat}:i<1000->zrp "lose" (.num i)
 | score {i:Nat}:i<1000->zrp "score" (.num i)
 | draw {i:Nat}:i<1000->zrp "draw" (.num i)
structure Deed.ok (d:Deed):Prop where
 each:d.each∈zecb
 amt:zrp d.kind d.amt
 whom:plain d.whom
def Deed.words (d:Deed):List Str:=d.each::d.kind::(d.amt.words++d.whom.words)
inductive Hv where
 | v (x:Wv)|w (y:Wh)
def Hv.words:Hv->List Str
 | .v x=>x.words
 | .w y=>y.words
inductive znh:Str->Hv->Prop
 | mute:znh "mute" (.v .non)
 | steal:znh "steal" (.v .non)
 | gain {n:Str}:zvd n->znh "gain" (.v (.name n))
 | lack {n:Str}:zvd n->znh "lack" (.v (.name n))
 | be {i:Nat}:i<1000->znh "be" (.v (.num i))
 | more {i:Nat}:i<1000->znh "more" (.v (.num i))
 | less {i:Nat}:i<1000->znh "less" (.v (.num i))
 | per {y:Wh}:plain y->znh "per" (.w y)
inductive TurnOk:Str->Wv->Prop
 | none:TurnOk "none" .non
 | here:TurnOk "here" .non
 | less {i:Nat}:i<1000->TurnOk "less" (.num i)
 | more {i:Nat}:i<1000->TurnOk "more" (.num i)
 | as {n:Str}:n∈zyp->TurnOk "as" (.name n)
def turns:Str->List Str:=λk =>
 if k = "leave" then ["none","here"] else if k = "hurt" then ["none","here","less","more"] else if k = "gain" then ["none","here"] else if k = "lack" then ["none","here"]
 else ["none","less","more","as"]
inductive Rule where
 | hold (word:Str) (val:Hv) (whom:Wh)
 | wen (kind:Str) (whom:Wh) (deed:Deed)
 | instead (kind:Str) (whom:Wh) (word:Str) (val:Wv)
 | may (cost:Nat) (deed:Deed)
def Rule.ok:Rule->Prop
 | .hold w v y=>znh w v∧plain y
 | .wen k y d=>k∈zys∧plain y∧d.ok
 | .instead k y w v=>k∈zwu∧plain y∧w∈turns k∧TurnOk w v
 | .may c d=>c<1000∧d.ok
def Rule.words:Rule->List Str
 | .hold w v y=>"hold" :: w::(v.words++y.words)
 | .wen k y d=>"when" :: k::(y.words++("do":Str)::d.words)
 | .instead k y w v=>"instead" :: k::(y.words++("do":Str)::w::v.words)
 | .may c d=>"may" :: toString (c:Int) :: "do" :: d.words
end Wm
namespace Wm
open PySem PySem.StrLaws PySem.Builtin.Str
def SL:Str:=⟨#[32,47,32]⟩
end Wm
namespace Wm
open PySem PySem.Spec PyProof.Rows
structure Marks (ms:List Str):Prop where
 ok:∀m∈ms,zvd m
 nd:ms.Nodup
 so:sortedS ms=true
 le:ms.length≤20
def CM:Str:=⟨#[44]⟩
def zobb:List Str->Str
 | []=>"-"
 | m::r=>yla CM (m::r)
structure Crd where
 name:Str
 cost:Nat
 force:Nat
 marks:List Str
 rules:List Rule
structure Crd.ok (c:Crd):Prop where
 name:zvd c.name
 cost:c.cost<1000
 force:c.force<1000
 marks:Marks c.marks
 rules:∀r∈c.rules,r.ok
 few:c.rules.length≤3
def Crd.head (c:Crd):List Str:=[c.name,toString (c.cost:Int),toString (c.force:Int),zobb c.marks]
def zddb (r:Rule):Str:=yla " " r.words
def Crd.text (c:Crd):Str:=yla SL (yla " " c.head::c.rules.map zddb)
end Wm
namespace Wm
open PySem PySem.Spec PyProof.Rows
end Wm
namespace K05
open PySem L2 PyProof.Rows Wm
variable {P:yya}{w:World}{K:yaa}{mg:Str->Option Value}{base:Heap}
def top (i:Nat):Stmt:=PySem.Challenge.pw_turnstack_k05_no_whom.main.body.getD i (.Pass ⟨0,0,0,0⟩)
abbrev zvn:Stmt:=top 13
abbrev znv:List Str:=["word"]
abbrev zzk:List Str:=["word"]
theorem zgs:zxa znv zzk (zja zvn):=scOf (by decide +kernel)
abbrev znj:Stmt:=top 14
abbrev zwq:List Str:=["word"]
abbrev zog:List Str:=["word"]
theorem zun:zxa zwq zog (zja znj):=scOf (by decide +kernel)
abbrev znl:Stmt:=top 15
abbrev zts:List Str:=["word","most"]
abbrev zzh:List Str:=["word","most"]
theorem zup:zxa zts zzh (zja znl):=scOf (by decide +kernel)
abbrev zrd:Stmt:=inClass (top 16) 0
abbrev zvi:List Str:=["self","text"]
abbrev ztd:List Str:=["self","text"]
theorem zsh:zxa zvi ztd (zja zrd):=scOf (by decide +kernel)
abbrev zkf:Stmt:=inClass (top 16) 1
abbrev zqp:List Str:=["self"]
abbrev zrf:List Str:=["self"]
theorem zkm:zxa zqp zrf (zja zkf):=scOf (by decide +kernel)
abbrev zdd:Stmt:=inClass (top 16) 3
abbrev zbi:List Str:=["self","word"]
abbrev zid:List Str:=["self"]
theorem zje:zxa zbi zid (zja zdd):=scOf (by decide +kernel)
abbrev zrc:Stmt:=inClass (top 16) 4
abbrev ztg:List Str:=["self","word"]
abbrev zsc:List Str:=["self"]
theorem zud:zxa ztg zsc (zja zrc):=scOf (by decide +kernel)
abbrev zne:Stmt:=inClass (top 16) 5
abbrev zfl:List Str:=["self"]
abbrev zqe:List Str:=["self"]
theorem zkj:zxa zfl zqe (zja zne):=scOf (by decide +kernel)
abbrev zbe:Stmt:=inClass (top 17) 0
abbrev zal:List Str:=["self","word","value","parts"]
abbrev zfe:List Str:=["self","word","value","parts"]
theorem zri:zxa zal zfe (zja zbe):=scOf (by decide +kernel)
abbrev zdg:Stmt:=inClass (top 17) 1
abbrev zcr:List Str:=["self","words"]
abbrev zjd:List Str:=["self"]
theorem zgi:zxa zcr zjd (zja zdg):=scOf (by decide +kernel)
abbrev zmj:Stmt:=top 18
abbrev zvq:List Str:=["text","words","whom"]
abbrev zng:List Str:=["text"]
theorem zif:zxa zvq zng (zja zmj):=scOf (by decide +kernel)
abbrev zlj:Stmt:=top 19
abbrev zuq:List Str:=["words","taken","missing","word"]
abbrev zmg:List Str:=["words"]
theorem zld:zxa zuq zmg (zja zlj):=scOf (by decide +kernel)
abbrev zii:Stmt:=top 20
abbrev zop:List Str:=["words","word"]
abbrev zpf:List Str:=["words","word"]
theorem zjm:zxa zop zpf (zja zii):=scOf (by decide +kernel)
abbrev znt:Stmt:=top 21
abbrev zwz:List Str:=["taken","whoms","word","value","many"]
abbrev ztq:List Str:=["taken"]
theorem ztf:zxa zwz ztq (zja znt):=scOf (by decide +kernel)
abbrev zqj:Stmt:=top 23
abbrev zzq:List Str:=["_law_state","_law_most","_law_script","_law_at","_law_cell"]
abbrev zqg:List Str:=["_law_state","_law_most"]
theorem zmd:zxa zzq zqg (zja zqj):=scOf (by decide +kernel)
abbrev zji:Stmt:=top 24
abbrev zpp:List Str:=["_law_state","_law_many","_law_letters","_law_size","_law_at","_law_base","_law_turn","_law_names_here","_law_k","_law_sign"]
abbrev zqf:List Str:=["_law_state","_law_many"]
theorem zkb:zxa zpp zqf (zja zji):=scOf (by decide +kernel)
abbrev zrj:Stmt:=top 25
abbrev zar:List Str:=["_law_state","_law_names_here","_law_way"]
abbrev zrg:List Str:=["_law_state","_law_names_here"]
theorem zfi:zxa zar zrg (zja zrj):=scOf (by decide +kernel)
abbrev zoj:Stmt:=top 26
abbrev zxq:List Str:=["_law_state","_law_names_here","_law_left","_law_way","_law_words","_law_used","_law_more","_law_again"]
abbrev zgd:List Str:=["_law_state","_law_names_here","_law_left"]
theorem zyb:zxa zxq zgd (zja zoj):=scOf (by decide +kernel)
abbrev zyf:Stmt:=top 27
abbrev zel:List Str:=["_law_word","_law_sign"]
abbrev zpe:List Str:=["_law_word"]
theorem zjf:zxa zel zpe (zja zyf):=scOf (by decide +kernel)
abbrev zdf:Stmt:=top 28
abbrev zui:List Str:=["_law_word","_law_sign"]
abbrev zsd:List Str:=["_law_word"]
theorem zte:zxa zui zsd (zja zdf):=scOf (by decide +kernel)
abbrev zke:Stmt:=top 29
abbrev zmh:List Str:=["_law_words","_law_at","_law_need","_law_used","_law_word"]
abbrev zzc:List Str:=["_law_words","_law_at"]
theorem zta:zxa zmh zzc (zja zke):=scOf (by decide +kernel)
abbrev zsj:Stmt:=top 30
abbrev zbr:List Str:=["_law_state","_law_text","_law_way","_law_at","_law_signs","_law_sign","_law_words","_law_k","_law_j","_law_some"]
abbrev zsg:List Str:=["_law_state","_law_text"]
theorem zfb:zxa zbr zsg (zja zsj):=scOf (by decide +kernel)
abbrev zpj:Stmt:=top 31
abbrev zyq:List Str:=["_law_text","_law_found","e","_law_others"]
abbrev zpg:List Str:=["_law_text"]
theorem zie:zxa zyq zpg (zja zpj):=scOf (by decide +kernel)
abbrev zol:Stmt:=top 32
abbrev zus:List Str:=["_law_state","_law_words","_law_k"]
abbrev zai:List Str:=["_law_state"]
theorem zcg:zxa zus zai (zja zol):=scOf (by decide +kernel)
abbrev zqab:Stmt:=top 33
abbrev zodb:List Str:=["_law_script","_law_state","_law_names_here","_law_good","_law_kept","_law_bad","_law_way","_law_due","_law_words"]
abbrev zmcb:List Str:=["_law_script"]
theorem zae:zxa zodb zmcb (zja zqab):=scOf (by decide +kernel)
abbrev zxk:Str:="abcdefghijklmnopqrstuvwxyz"
abbrev zyk:Str:="0123456789"
abbrev zad:List (Str×yak):=[("all",.flat (.int 0)),("self",.flat (.int 0)),("mine",.flat (.int 0)),("mark",.flat (.int 0)),("force",.flat (.int 0)),("not",.flat (.int 1)),("both",.flat (.int 2)),("any",.flat (.int 2))]
theorem onlZ {m:List Value->Prop}(h:m [])(us:List Value)(hl:us.length=0):m us:=by rw[yvg.mp hl];exact h
theorem onlS {m:List Value->Prop}{k:Nat}(h:∀a,∀us,us.length=k->m (a::us))(us:List Value)(hl:us.length=k+1):m us:=by
 obtain⟨a,t,rfl⟩:=List.exists_cons_of_length_eq_add_one hl;exact h a t (Nat.succ.inj hl)
@[elab_as_elim] theorem onl1 {m:List Value->Prop} (h:∀a,m [a]) (us:List Value) (hl:us.length=1):m us:=(onlS (m:=λt=>m (t)) λa=>onlZ (h a)) us hl
@[elab_as_elim] theorem onl2 {m:List Value->Prop} (h:∀a b,m [a,b]) (us:List Value) (hl:us.length=2):m us:=(onlS (m:=λt=>m (t)) λa=>onlS (m:=λt=>m (a::t)) λb=>onlZ (h a b)) us hl
@[elab_as_elim] theorem onl3 {m:List Value->Prop} (h:∀a b c,m [a,b,c]) (us:List Value) (hl:us.length=3):m us:=(onlS (m:=λt=>m (t)) λa=>onlS (m:=λt=>m (a::t)) λb=>onlS (m:=λt=>m (a::b::t)) λc=>onlZ (h a b c)) us hl
@[elab_as_elim] theorem onl4 {m:List Value->Prop} (h:∀a b c d,m [a,b,c,d]) (us:List Value) (hl:us.length=4):m us:=(onlS (m:=λt=>m (t)) λa=>onlS (m:=λt=>m (a::t)) λb=>onlS (m:=λt=>m (a::b::t)) λc=>onlS (m:=λt=>m (a::b::c::t)) λd=>onlZ (h a b c d)) us hl
@[elab_as_elim] theorem onl5 {m:List Value->Prop} (h:∀a b c d e,m [a,b,c,d,e]) (us:List Value) (hl:us.length=5):m us:=(onlS (m:=λt=>m (t)) λa=>onlS (m:=λt=>m (a::t)) λb=>onlS (m:=λt=>m (a::b::t)) λc=>onlS (m:=λt=>m (a::b::c::t)) λd=>onlS (m:=λt=>m (a::b::c::d::t)) λe=>onlZ (h a b c d e)) us hl
@[elab_as_elim] theorem onl6 {m:List Value->Prop} (h:∀a b c d e f,m [a,b,c,d,e,f]) (us:List Value) (hl:us.length=6):m us:=(onlS (m:=λt=>m (t)) λa=>onlS (m:=λt=>m (a::t)) λb=>onlS (m:=λt=>m (a::b::t)) λc=>onlS (m:=λt=>m (a::b::c::t)) λd=>onlS (m:=λt=>m (a::b::c::d::t)) λe=>onlS (m:=λt=>m (a::b::c::d::e::t)) λf=>onlZ (h a b c d e f)) us hl
set_option genInjectivity false in
set_option genSizeOf false in
structure Tf (K:yaa)(mg:Str->Option Value) where
 zzd:Gf K mg "is_name" "is_name" zvn
 zpc:Gf K mg "is_number" "is_number" znj
 zbd:Gf K mg "is_whole" "is_whole" znl
 zzb:Gf K mg "read_whom" "read_whom" zmj
 zoc:Gf K mg "take_whom" "take_whom" zlj
 zjc:Gf K mg "take_value" "take_value" zii
 zag:Gf K mg "built" "built" znt
 zda:Gf K mg "_law_take" "_law_take" zqj
 zkc:Gf K mg "_law_names" "_law_names" zji
 zqc:Gf K mg "_law_leaf" "_law_leaf" zrj
 zsa:Gf K mg "_law_whom" "_law_whom" zoj
 zsb:Gf K mg "_law_is_name" "_law_is_name" zyf
 zib:Gf K mg "_law_is_number" "_law_is_number" zdf
 zdb:Gf K mg "_law_behind_whom" "_law_behind_whom" zke
 zbc:Gf K mg "_law_bent" "_law_bent" zsj
 zac:Gf K mg "_law_told" "_law_told" zpj
 zcd:Gf K mg "_law_ten" "_law_ten" zol
 zxs:Gf K mg "law" "law" zqab
set_option genInjectivity false in
set_option genSizeOf false in
structure Tx (K:yaa)(mg:Str->Option Value) extends Tf K mg where
 zfc:Addr
 zvb:Cls K zfc
 ziu:mg "Words" = some (.ref zfc)
 zjb:If K zfc "__init__" "Words.__init__" zrd
 zqb:Mf K zfc "take" "Words.take" zkf
 zeb:Mf K zfc "take_name" "Words.take_name" zdd
 zab:Mf K zfc "take_number" "Words.take_number" zrc
 ztb:Mf K zfc "finish" "Words.finish" zne
 zcc:zff K zfc "words"
 zrb:zff K zfc "place"
 zub:Addr
 zee:Cls K zub
 zlx:mg "Whom" = some (.ref zub)
 znb:If K zub "__init__" "Whom.__init__" zbe
 zbb:Mf K zub "told" "Whom.told" zdg
 zde:zff K zub "word"
 zuc:zff K zub "value"
 zod:zff K zub "parts"
 zge:mg "ValueError" = none
 zws:mg "all" = none
 zov:mg "int" = none
 zlb:mg "isinstance" = none
 zwd:mg "len" = none
 zoh:mg "range" = none
 zsf:mg "reversed" = none
 zds:mg "str" = none
 zbm:mg "tuple" = none
 e_NoCard:ExK K mg "NoCard"
 e_FightError:ExK K mg "FightError"
 zcj:Addr
 zaj:mg "NotNow" = some (.ref zcj)
 zkh:Addr
 zeh:mg "NotSame" = some (.ref zkh)
 zlh:Addr
 zfh:mg "NoFight" = some (.ref zlh)
 zjn:Addr
 zbn:mg "NoRow" = some (.ref zjn)
 u_NoCard_FightError:L2.subIn K e_NoCard.c e_FightError.c=true
 v_NoCard_NoCard:ypa K (.ref e_NoCard.c) (.ref e_NoCard.c)=some true
 v_NoCard_ValueError:ypa K (.ref e_NoCard.c) (.type "ValueError")=some true
 v_NoCard_NotNow:ypa K (.ref e_NoCard.c) (.ref zcj)=some false
 v_NoCard_NotSame:ypa K (.ref e_NoCard.c) (.ref zkh)=some false
 v_NoCard_NoFight:ypa K (.ref e_NoCard.c) (.ref zlh)=some false
 v_NoCard_NoRow:ypa K (.ref e_NoCard.c) (.ref zjn)=some false
 zqo:Tok
 zgh:mg "LETTERS" = some (.str zxk zqo)
 zro:Tok
 zih:mg "FIGURES" = some (.str zyk zro)
 zpi:Tok
 zme:mg "MOST_WORDS" = some (.int 9 zpi)
 zlg:Addr
 zxh:mg "PARTS" = some (.ref zlg)
 zxm:KTD.tabLook (yij λb=>K.lookup b) (λb=>K.lookup b) zlg zad=true
theorem zgv (T:Tx K mg):Binds K T.zzd.d zzk []:=T.zzd.F.binds λ_ _ _ _ _ _ us hl=>onl1 (λ_=>rfl) us hl
theorem zoq (T:Tx K mg):Binds K T.zpc.d zog []:=T.zpc.F.binds λ_ _ _ _ _ _ us hl=>onl1 (λ_=>rfl) us hl
theorem zrs (T:Tx K mg):Binds K T.zbd.d zzh []:=T.zbd.F.binds λ_ _ _ _ _ _ us hl=>onl2 (λ_ _=>rfl) us hl
theorem zti (T:Tx K mg):Binds K T.zjb.d ztd []:=T.zjb.F.binds λ_ _ _ _ _ _ us hl=>onl2 (λ_ _=>rfl) us hl
theorem znf (T:Tx K mg):Binds K T.zqb.d zrf []:=T.zqb.F.binds λ_ _ _ _ _ _ us hl=>onl1 (λ_=>rfl) us hl
theorem zyh (T:Tx K mg):Binds K T.zeb.d zid []:=T.zeb.F.binds λ_ _ _ _ _ _ us hl=>onl1 (λ_=>rfl) us hl
theorem zjg (T:Tx K mg):Binds K T.zab.d zsc []:=T.zab.F.binds λ_ _ _ _ _ _ us hl=>onl1 (λ_=>rfl) us hl
theorem zdl (T:Tx K mg):Binds K T.ztb.d zqe []:=T.ztb.F.binds λ_ _ _ _ _ _ us hl=>onl1 (λ_=>rfl) us hl
theorem zvk (T:Tx K mg):Binds K T.znb.d zfe []:=T.znb.F.binds λ_ _ _ _ _ _ us hl=>onl4 (λ_ _ _ _=>rfl) us hl
theorem zkg (T:Tx K mg):Binds K T.zbb.d zjd []:=T.zbb.F.binds λ_ _ _ _ _ _ us hl=>onl1 (λ_=>rfl) us hl
theorem zsk (T:Tx K mg):Binds K T.zzb.d zng []:=T.zzb.F.binds λ_ _ _ _ _ _ us hl=>onl1 (λ_=>rfl) us hl
theorem znq (T:Tx K mg):Binds K T.zoc.d zmg []:=T.zoc.F.binds λ_ _ _ _ _ _ us hl=>onl1 (λ_=>rfl) us hl
theorem zjp (T:Tx K mg):Binds K T.zjc.d zpf []:=T.zjc.F.binds λ_ _ _ _ _ _ us hl=>onl2 (λ_ _=>rfl) us hl
theorem zoz (T:Tx K mg):Binds K T.zag.d ztq []:=T.zag.F.binds λ_ _ _ _ _ _ us hl=>onl1 (λ_=>rfl) us hl
theorem zna (T:Tx K mg):Binds K T.zda.d zqg []:=T.zda.F.binds λ_ _ _ _ _ _ us hl=>onl2 (λ_ _=>rfl) us hl
theorem zkp (T:Tx K mg):Binds K T.zkc.d zqf []:=T.zkc.F.binds λ_ _ _ _ _ _ us hl=>onl2 (λ_ _=>rfl) us hl
theorem zpq (T:Tx K mg):Binds K T.zqc.d zrg []:=T.zqc.F.binds λ_ _ _ _ _ _ us hl=>onl2 (λ_ _=>rfl) us hl
theorem zcf (T:Tx K mg):Binds K T.zsa.d zgd []:=T.zsa.F.binds λ_ _ _ _ _ _ us hl=>onl3 (λ_ _ _=>rfl) us hl
theorem zcl (T:Tx K mg):Binds K T.zsb.d zpe []:=T.zsb.F.binds λ_ _ _ _ _ _ us hl=>onl1 (λ_=>rfl) us hl
theorem zsi (T:Tx K mg):Binds K T.zib.d zsd []:=T.zib.F.binds λ_ _ _ _ _ _ us hl=>onl1 (λ_=>rfl) us hl
theorem zjh (T:Tx K mg):Binds K T.zdb.d zzc []:=T.zdb.F.binds λ_ _ _ _ _ _ us hl=>onl2 (λ_ _=>rfl) us hl
theorem zuk (T:Tx K mg):Binds K T.zbc.d zsg []:=T.zbc.F.binds λ_ _ _ _ _ _ us hl=>onl2 (λ_ _=>rfl) us hl
theorem ztk (T:Tx K mg):Binds K T.zac.d zpg []:=T.zac.F.binds λ_ _ _ _ _ _ us hl=>onl1 (λ_=>rfl) us hl
theorem zss (T:Tx K mg):Binds K T.zcd.d zai []:=T.zcd.F.binds λ_ _ _ _ _ _ us hl=>onl1 (λ_=>rfl) us hl
theorem zij (T:Tx K mg)(kb:K.In base):ysj base T.zlg zad:=KTD.text_of_look (λb o q=>kb b o q) T.zxm
abbrev LL:Str:="abcdefghijklmnopqrstuvwxyz"
abbrev FF:Str:="0123456789"
def inS (c:Nat)(u:Str):Bool:=!(ylb u ⟨#[c]⟩ 0 u.length 1).isEmpty
def allIn (t u:Str):Bool:=(t.cps.toList.map λc=>inS c u).all id
def zef (t:Str):Bool:=decide (V.str t=V.str "0")||(!decide (V.str ⟨#[t.cps.getD 0 0]⟩=V.str "0"))
def short (t:Str)(n:Int):Bool:=decide ((1:Int)≤((t.length:Nat):Int))&&decide (((t.length:Nat):Int)≤n)
def isName (t:Str):Bool:=short t 8&&allIn t LL
def isWhole (t:Str)(n:Int):Bool:=short t n&&(allIn t FF&&zef t)
def isNumber (t:Str):Bool:=isWhole t 3
theorem small {n:Nat}(h:n≤1000):n≤yfa:=ygh (zyg h)
theorem zam {t u:Str}{i c:Nat}(hc:t.cps[i]?=some c)(ha:((t.cps.toList.take i).map λc=>inS c u).all id=true)(h:inS c u=true):((t.cps.toList.take (i+1)).map λc=>inS c u).all id=true:=by
 have e:t.cps.toList[i]?=some c:=by simpa using hc
 rw[yog,e,yza,List.all_append,ha];simp[h]
theorem zwk {t u:Str}(ha:((t.cps.toList.take t.cps.size).map λc=>inS c u).all id=true):allIn t u=true:=by
 unfold allIn;rw[ync (by simp)] at ha;exact ha
theorem zlp {t u:Str}{i c:Nat}(hc:t.cps[i]?=some c)(h:¬ inS c u=true):allIn t u=false:=by
 unfold allIn;have e:t.cps.toList[i]?=some c:=by simpa using hc
 have hm:c∈t.cps.toList:=ygb e;cases q:((t.cps.toList.map λc=>inS c u).all id) with
 | false=>rfl
 | true =>
  have z:=yec.mp q (inS c u) (ytb.mpr ⟨c,hm,rfl⟩);exact absurd z h
theorem zvl {t:Str}(h:(1:Int)≤((t.length:Nat):Int)):atI t.cps.toList 0=some (t.cps.getD 0 0):=by
 have hl:0<t.cps.size:=by
  have e:t.length=t.cps.size:=rfl;omega
 have e:t.cps.toList[0]?=some (t.cps.getD 0 0):=by
  rw[yqh,yxd,ycg hl];rfl
 exact zin (j:=0) e
theorem zof {α:Type}{xs:List α}{i:Int}(h0:0≤i)(h:i<(xs.length:Int)):∃v,atI xs i=some v∧v∈xs:=by
 have hk:i.toNat<xs.length:=by omega
 have e:xs[i.toNat]?=some xs[i.toNat]:=ypb hk;have q:=zin e;rw[show ((i.toNat:Nat):Int)=i by omega] at q;exact⟨_,q,ygb e⟩
theorem zqz {ns:List Int}{i:Int}(h0:0≤i)(h:i<(ns.length:Int)):∃z,atI (ns.map V.int) i=some (.int z):=by
 obtain⟨v,hv,hm⟩:=zof (xs:=ns.map V.int) h0 (by rw[yba];exact h);obtain⟨z,_,rfl⟩:=ytb.mp hm;exact⟨z,hv⟩
theorem len_app (a b:Str):(a++b).length=a.length+b.length:=by
 show (a.cps++b.cps).size=a.cps.size+b.cps.size
 rw[Array.size_append]
def But (p:Addr)(H H':Hp):Prop:=∀b o,b≠p->H b=some o->H' b=some o
theorem But.refl (p:Addr)(H:Hp):But p H H:=λ_ _ _ h=>h
theorem But.trans {p:Addr}{H H1 H2:Hp}(a:But p H H1)(b:But p H1 H2):But p H H2:=λc o n h=>b c o n (a c o n h)
theorem But.laid {p q:Addr}{H:Hp}{o:HO}(h:H q=none):But p H (upd H q o):=λb u n e=>by rw[zoa (zka e h)];exact e
theorem But.put {p:Addr}{H:Hp}{o:HO}:But p H (upd H p o):=λb u n e=>by rw[zoa n];exact e
theorem But.same {p:Addr}{H H':Hp}(h:Same H H'):But p H H':=λb o _ e=>h b o e
theorem zma {H:Hp}{p:Addr}(h:H p=none)(o:HO):Same H (upd H p o):=λb u q=>by rw[zoa (zka q h)];exact q
def SqF (K:yaa)(H:Hp)(a:Addr)(xs:List V):Prop :=
 (∃o,H a=some (.frz o (.lst xs)))∨Ex3 λ(o:Obj) (its:Array Value) (n:Nat)=>K.lookup a=some o∧o.cls = .type "list" ∧ o.dict=none∧o.data = .seq its n∧its.size≤yfa∧Vals xs its.toList
theorem SqF.sq {K:yaa}{H:Hp}{a:Addr}{xs:List V}(h:SqF K H a xs):SqL K H a xs:=by
 rcases h with⟨o,h⟩|h
 ·exact .inl (.inr ⟨o,h⟩)
 ·exact .inr h
theorem SqF.of {K:yaa}{H:Hp}{a:Addr}{xs:List V}(O:Only H)(h:SqL K H a xs):SqF K H a xs:=by
 rcases h with (h|⟨o,h⟩)|h
 ·rcases O a with z|⟨o,ys,z⟩
  ·rw[z] at h;cases h
  ·rw[z] at h;cases h
 ·exact .inl ⟨o,h⟩
 ·exact .inr h
theorem SqF.keep {K:yaa}{H H':Hp}{a:Addr}{xs:List V}(h:SqF K H a xs)(k:∀o u,H a=some (.frz o u)->H' a=some (.frz o u)):SqF K H' a xs:=by
 rcases h with⟨o,h⟩|h
 ·exact .inl ⟨o,k _ _ h⟩
 ·exact .inr h
structure Tk (K:yaa)(H:Hp)(p:Addr)(k:Int):Prop where
 ex:Ex2 λa (ns:List Int)=>H p=some (.lst [.ref a,.int k])∧SqF K H a (ns.map V.int)∧ns.length≤63
 lo:0≤k
theorem Tk.go {K:yaa}{H H':Hp}{p:Addr}{k:Int}(T:Tk K H p k)(h:But p H H')(e:H' p=H p):Tk K H' p k:=by
 obtain⟨⟨a,ns,h1,h2,h3⟩,lo⟩:=T;exact⟨⟨a,ns,e.trans h1,h2.keep λo u z=>h a _ (zbf z h1 (by intro y;cases y)) z,h3⟩,lo⟩
theorem Tk.ne {K:yaa}{H:Hp}{p q:Addr}{k:Int}(T:Tk K H p k)(h:H q=none):p≠q:=by
 obtain⟨⟨a,ns,h1,_⟩,_⟩:=T;exact zka h1 h
theorem Tk.laid {K:yaa}{H:Hp}{p q:Addr}{k:Int}{o:HO}(T:Tk K H p k)(h:H q=none):Tk K (upd H q o) p k:=T.go (But.laid h) (zoa (T.ne h))
theorem Tk.same {K:yaa}{H H':Hp}{p:Addr}{k:Int}(T:Tk K H p k)(h:Same H H'):Tk K H' p k:=by
 obtain⟨⟨a,ns,h1,h2,h3⟩,lo⟩:=T;exact⟨⟨a,ns,h p _ h1,h2.keep λo u z=>h _ _ z,h3⟩,lo⟩
theorem Tk.other {K:yaa}{H:Hp}{p q:Addr}{k:Int}{us vs:List V}(T:Tk K H p k)(hq:H q=some (.lst us))(n:p≠q):Tk K (upd H q (.lst vs)) p k:=by
 obtain⟨⟨a,ns,h1,h2,h3⟩,lo⟩:=T;exact⟨⟨a,ns,by rw[zoa n];exact h1,h2.keep λo u z=>by rw[zoa (zbf z hq (by intro y;cases y))];exact z,h3⟩,lo⟩
theorem Tk.begin {K:yaa}{H:Hp}{p a:Addr}{ns:List Int}(hp:H p=none)(hS:SqF K H a (ns.map V.int))(h63:ns.length≤63):Tk K (upd H p (.lst [.ref a,.int 0])) p 0 :=
 ⟨⟨a,ns,zea,hS.keep λo u z=>by rw[zoa (zka z hp)];exact z,h63⟩,Int.le_refl 0⟩
def znab (K:yaa):Sp:=λvs H Q _=>Ex3 λp (k m:Int)=>vs=[.ref p,.int m]∧Tk K H p k∧k≤1000000∧0<m∧∀(r:Int) H',0≤r->r<m->But p H H'->Tk K H' p (k+1)->Q (.int r) H'
def zgx:Sp:=λvs H Q _=>∃t:Str,vs=[.str t]∧t.length≤1000∧∀H',Same H H'->Q (.bl (isName t)) H'
def zjr:Sp:=λvs H Q _=>∃t:Str,vs=[.str t]∧t.length≤1000∧∀H',Same H H'->Q (.bl (isNumber t)) H'
def ziy:Sp:=λvs H Q _=>Ex2 λ(t:Str) (n:Int)=>vs=[.str t,.int n]∧t.length≤1000∧∀H',Same H H'->Q (.bl (isWhole t n)) H'
def zyv (K:yaa):Sp:=λvs H Q _=>Ex2 λa (ns:List Int)=>vs=[.ref a]∧SqF K H a (ns.map V.int)∧ns.length≤63∧∀H',Q (.bl true) H'
abbrev zxab:R2:=λx y H Q=>Ex2 λi j=>x = .str i∧y = .str j∧Q (.bl (!(ylb j i 0 j.length 1).isEmpty)) H
theorem zwl {t L:Str}{σ:L2.St}{H:Hp}{Q:VK}(hz:t.length≤yfa)(q:∀p,H p=none->Q (.ref p) (upd H p (.lst ((t.cps.toList.map λc=>inS c L).map V.bl)))) :
  zvs (Its t) H (zcn 0) zdab (tOp zxab (tVar 0) (tC (.str L))) 1 [] σ Q:=by
 refine zbx (λi ys H'=>H'=H∧i≤t.cps.size∧ys=((t.cps.toList.take i).map λc=>inS c L).map V.bl) ⟨rfl,ylc _,rfl⟩ ?_ ?_ ?_
 ·rintro i ys H' ⟨_,hi,rfl⟩;rw[yba,yba,yeb];have e:t.length=t.cps.toList.length:=by simp[yvh]
  omega
 ·rintro i c ys H' hc ⟨rfl,hi,rfl⟩;refine⟨rfl,_,rfl,_,_,rfl,rfl,rfl,?_,?_⟩
  ·have hlt:i<t.cps.size:=(Array.getElem?_eq_some_iff.mp hc).1;exact hlt
  ·have e:t.cps.toList[i]?=some c:=by simpa using hc
   rw[yog,e,yza,yza];rfl
 ·rintro ys H' ⟨rfl,_,rfl⟩ p hp;have q':=q p hp;rw[ync (by simp)];exact q'
theorem zkab {t:Str}{r:Int}(h0:0≤r)(h1:r<((t.length:Nat):Int)):∃c,atI t.cps.toList r=some c:=by
 obtain⟨v,hv,_⟩:=zof (xs:=t.cps.toList) h0 (by
  have e:t.length=t.cps.toList.length:=by simp[yvh]
  omega)
 exact⟨v,hv⟩
section
variable {P:yya}{w:World}{K:yaa}{mg:Str->Option Value}{base:Heap}{f:Addr}{fd:yuc}
theorem zis (T:Tx K mg):FnOk P w K mg base CX0 2 T.zzd.f T.zzd.d zzk zgx:=by
 refine T.zzd.ok zgs ?_;rintro f c A o s H vs Q E hr ⟨t,rfl,hz,q⟩ X;have hz':=small hz;refine⟨_,  (zia (zya (ztr (zpm zlw zlw zga (zua zlc rfl T.zwd ybb (zaa (pv 0) zca)) zga) (zzn (zua (zbs rfl) rfl T.zws boot_all (zaa (zaq (own:=["sign"]) (cap:=[]) rfl (zkd.chk rfl rfl) .nil (zrr (pv 0)) (λ_ _ _ _=>(znc (i:=0) (show ybj (["sign"]:List Str) by decide +kernel) rfl (.inl rfl))) (λ_ _ _ _=>znm) (λ_ _ _ _=>by exact (zze zeo (pv 0) (zce (v:=.str zxk) rfl T.zgh ⟨_,rfl⟩) rfl))) zca)))))),?_⟩;refine⟨_,rfl,t,rfl,hz',_,_,rfl,rfl,_,rfl,?_⟩;refine ite2 (λc1=>?_) (λc1=>?_)
 ·refine⟨_,_,rfl,rfl,_,rfl,?_⟩;refine ite2 (λc2=>?_) (λc2=>?_)
  ·refine⟨_,rfl,t,rfl,?_⟩;refine zwl hz' λp hp=>?_;refine⟨p,_,rfl,SqL.of zea,?_⟩;have q':=q (upd H p (.lst ((t.cps.toList.map λc=>inS c LL).map V.bl))) (zma hp _);have e:isName t=allIn t LL:=by
    unfold isName short;rw[c1,c2,ygc,ygc]
   rw[e] at q';exact q'
  ·have q':=q H (Same.refl H);have e:isName t=false:=by
    unfold isName short;rw[ybc.mpr c2,yhe,yqb]
   rw[e] at q';exact q'
 ·refine⟨_,rfl,iteF ?_⟩;have q':=q H (Same.refl H);have e:isName t=false:=by
   unfold isName short;rw[ybc.mpr c1,yqb,yqb]
  rw[e] at q';exact q'
theorem zbq (T:Tx K mg):FnOk P w K mg base CX0 1 T.zbd.f T.zbd.d zzh ziy:=by
 refine T.zbd.ok zup ?_;rintro f c A o s H vs Q E hr ⟨t,n,rfl,hz,q⟩ X;have hz':=small hz;refine⟨_,  (zba (zgc (PW.pt (zuy (zvj (zew zlw zlw zga (zua zlc rfl T.zwd ybb (zaa (pv 0) zca)) (pv 1))) (zst (zvj (zpl (zua (zbs rfl) rfl T.zws boot_all (zaa (zaq (own:=["sign"]) (cap:=[]) rfl (zkd.chk rfl rfl) .nil (zrr (pv 0)) (λ_ _ _ _=>(znc (i:=0) (show ybj (["sign"]:List Str) by decide +kernel) rfl (.inl rfl))) (λ_ _ _ _=>znm) (λ_ _ _ _=>by exact (zze zeo (pv 0) (zce (v:=.str zyk) rfl T.zih ⟨_,rfl⟩) rfl))) zca)))))))
   (zia (zya zwf))
   zva)
  (zia (zya (zdbb (zze zve (pv 0) zfa (zcb _)) (zzn (zze zkw (zed zto (pv 0) zga (λ_ _=>rfl)) zfa (zcb _))))))),?_⟩
 refine⟨_,rfl,t,rfl,hz',_,_,rfl,rfl,_,rfl,?_⟩;refine ite2 (λc1=>?_) (λc1=>?_)
 ·refine⟨_,rfl,_,_,rfl,rfl,_,rfl,?_⟩;refine ite2 (λc2=>?_) (λc2=>?_)
  ·refine iteT ?_;have q':=q H (Same.refl H);have c2':decide (((t.length:Nat):Int)≤n)=false:=(by simpa using c2);have e:isWhole t n=false:=by
    unfold isWhole short;rw[c2',yhe,yqb]
   rw[e] at q';exact q'
  ·have c2':decide (((t.length:Nat):Int)≤n)=true:=by simpa using c2
   refine⟨_,rfl,t,rfl,?_⟩;refine zwl hz' λp hp=>?_;refine⟨p,_,rfl,SqL.of zea,_,rfl,?_⟩;have S1:=zma hp (.lst ((t.cps.toList.map λc=>inS c FF).map V.bl));have q':=q _ S1;have e0:isWhole t n=(allIn t FF&&zef t):=by
    unfold isWhole short;rw[c1,c2',ygc,ygc]
   rw[e0] at q';refine ite2 (λc3=>?_) (λc3=>?_)
   ·have c3':allIn t FF=false:=by simpa [allIn] using c3
    rw[c3',yqb] at q';exact q'
   ·have c3':allIn t FF=true:=by simpa [allIn] using c3
    rw[c3',ygc] at q';refine⟨_,rfl,rfl,_,rfl,?_⟩;refine ite2 (λc4=>?_) (λc4=>?_)
    ·have e:zef t=true:=by
      unfold zef;rw[c4,Bool.true_or]
     rw[e] at q';exact q'
    ·refine⟨_,rfl,t,_,_,rfl,rfl,hz',zvl (of_decide_eq_true c1),rfl,?_⟩;have e:zef t=(!decide (V.str ⟨#[t.cps.getD 0 0]⟩=V.str "0")):=by
      unfold zef;rw[ybc.mpr c4,Bool.false_or]
     rw[e] at q';exact q'
 ·refine⟨_,rfl,iteT (iteT ?_)⟩;have q':=q H (Same.refl H);have e:isWhole t n=false:=by
   unfold isWhole short;rw[ybc.mpr c1,yqb,yqb]
  rw[e] at q';exact q'
theorem zio (T:Tx K mg):FnOk P w K mg base CX0 2 T.zpc.f T.zpc.d zog zjr:=by
 refine T.zpc.ok zun ?_;rintro f c A o s H vs Q E hr ⟨t,rfl,hz,q⟩ X;refine⟨_,  (zia (zya (zpa (zbq T) hr rfl T.zbd.m T.zbd.F.kp (zrs T) .nil zpb (zaa (pv 0) (zaa zga zca))))),?_⟩;exact⟨_,rfl,t,3,rfl,hz,q⟩
end
section
seal PySem.wpAny
theorem zbcb:∀c:Nat,c<123->97≤c->inS c LL=true:=by decide +kernel
theorem zfq {n:Str}(h:zvd n):isName n=true:=by
 unfold isName short allIn;obtain⟨h1,h2,h3⟩:=h;rw[decide_eq_true (by omega),decide_eq_true (by omega),ygc,ygc,yec];intro b hb;obtain⟨c,hc,rfl⟩:=ytb.mp hb;exact zbcb c (by have:=h3 c hc;omega) (h3 c hc).1
theorem zlo:∀i:Nat,i<1000->isNumber (toString (i:Int):Str)=true:=by decide +kernel
theorem zdq:∀i:Nat,i<1000->ydg (toString (i:Int):Str)=some (i:Int):=by decide +kernel
theorem zdh {f:Str}{v:V}{r:List (Str×V)}:ypc f ((f,v)::r)=some v:=by rw[yvc,beq_self_eq_true]
theorem zwc {f g:Str}{v:V}{r:List (Str×V)}(h:¬ f=g):ypc f ((g,v)::r)=ypc f r:=by
 have e:(f==g)=false:=by simpa using h
 rw[yvc,e]
theorem zuj {f:Str}{v:V}:putF f v []=[(f,v)]:=rfl
theorem zvy {f:Str}{v u:V}{r:List (Str×V)}:putF f v ((f,u)::r)=(f,v)::r:=by
 show (if f=f then (f,v)::r else (f,u)::putF f v r)=_
 rw[if_pos rfl]
theorem zuf {f g:Str}{v u:V}{r:List (Str×V)}(h:¬ g=f):putF f v ((g,u)::r)=(g,u)::putF f v r:=by
 show (if g=f then (g,v)::r else (g,u)::putF f v r)=_
 rw[if_neg h]
def wfs (l:Addr)(k:Int):List (Str×V):=[("words",.ref l),("place",.int k)]
theorem zkbb:¬ (("words":Str) = "place"):=by decide +kernel
theorem zidb:¬ (("place":Str) = "words"):=by decide +kernel
theorem zdj (l:Addr)(k:Int):(wfs l k).lookup ("words":Str)=some (.ref l):=zdh
theorem zvg (l:Addr)(k:Int):(wfs l k).lookup ("place":Str)=some (.int k):=(zwc zidb).trans zdh
theorem zxx (l:Addr)(k j:Int):putF "place" (.int j) (wfs l k)=wfs l j:=(zuf zkbb).trans (congrArg _ zvy)
theorem zsv (l:Addr)(j:Int):putF "place" (.int j) (putF "words" (.ref l) [])=wfs l j:=(zuf zkbb).trans rfl
theorem zgl (l:Addr)(k:Int){m:Str}(h1:¬ m = "words")(h2:¬ m = "place"):(wfs l k).lookup m=none:=(zwc h1).trans ((zwc h2).trans rfl)
def WAt (C:Addr)(H:Hp)(p:Addr)(ws:List Str)(k:Nat):Prop:=Ex2 λdx l=>H p=some (.ins C dx (wfs l (k:Int)))∧H l=some (.lst (ws.map V.str))
theorem WAt.at {C:Addr}{H H':Hp}{p:Addr}{ws:List Str}{k:Nat}(h:WAt C H p ws k)(s:Same H H'):WAt C H' p ws k:=by
 obtain⟨dx,l,h1,h2⟩:=h;exact⟨dx,l,s _ _ h1,s _ _ h2⟩
theorem WAt.go {C:Addr}{H:Hp}{p dx l:Addr}{ws:List Str}{k j:Nat}(h1:H p=some (.ins C dx (wfs l (k:Int))))(h2:H l=some (.lst (ws.map V.str))):WAt C (upd H p (.ins C dx (wfs l (j:Int)))) p ws j:=by
 have n:l≠p:=zbf h2 h1 (by intro z;cases z);exact⟨dx,l,zea,by rw[zoa n];exact h2⟩
theorem But.of_same {p:Addr}{H H1 H2:Hp}(a:But p H H1)(b:Same H1 H2):But p H H2:=a.trans (But.same b)
theorem zzl {ws:List Str}{k:Nat}{u:Str}(h:ws[k]?=some u):atI (ws.map V.str) (k:Int)=some (.str u):=zin (by rw[yce,h];rfl)
def WdOk (u:Str):Prop:=u.length≤1000∧∀c∈u.cps.toList,c<256
theorem WdOk.rp {u:Str}(h:WdOk u):(yzf u).length≤1000000:=by
 have:=zpy h.2;have:=h.1;omega
def zgy (C:Addr):Sp:=λvs H Q _=>Ex3 λp dx (t:Str)=>vs=[.ref p,.str t]∧H p=some (.ins C dx [])∧t.length≤1000000∧∀H',WAt C H' p (yjb t " ") 0->But p H H'->Q .non H'
def zdy (C N:Addr):Sp:=λvs H Q E=>Ex3 λp (ws:List Str) (k:Nat)=>vs=[.ref p]∧WAt C H p ws k∧k≤ws.length∧(∀u H',ws[k]?=some u->WAt C H' p ws (k+1)->But p H H'->Q (.str u) H')∧(ws[k]?=none->E (.ref N) none H)
def zfy (C N:Addr):Sp:=λvs H Q E=>Ex3 λp (ws:List Str) (k:Nat)=>vs=[.ref p]∧WAt C H p ws k∧k≤ws.length∧(∀u∈ws,WdOk u)∧(∀u H',ws[k]?=some u->isName u=true->WAt C H' p ws (k+1)->But p H H'->Q (.str u) H')∧((∀u,ws[k]?=some u->isName u=false)->∀H',But p H H'->E (.ref N) none H')
def zit (C N:Addr):Sp:=λvs H Q E=>Ex3 λp (ws:List Str) (k:Nat)=>vs=[.ref p]∧WAt C H p ws k∧k≤ws.length∧(∀u∈ws,WdOk u)∧(∀(i:Nat) H',ws[k]?=some (toString (i:Int):Str)->i<1000->WAt C H' p ws (k+1)->But p H H'->Q (.int i) H')∧((∀u,ws[k]?=some u->isNumber u=false)->∀H',But p H H'->E (.ref N) none H')
def zjt (C N:Addr):Sp:=λvs H Q E=>Ex3 λp (ws:List Str) (k:Nat)=>vs=[.ref p]∧WAt C H p ws k∧k≤ws.length∧(k=ws.length->Q .non H)∧(k<ws.length->E (.ref N) none H)
theorem znw (T:Tx K mg):FnOk P w K mg base CX0 2 T.zjb.f T.zjb.d ztd (zgy T.zfc):=by
 refine T.zjb.ok zsh ?_;rintro f c A o s H vs Q E hr ⟨p,dx,t,rfl,hp,ht,q⟩ X;refine⟨_,  (zba (zyn (pv 0) (zue yxa yve ywe zvm (pv 1) (zaa zfa zca)) rfl)
  (zia (zyn (pv 0) zga rfl))),?_⟩
 refine⟨_,rfl,rfl,t,_,rfl,rfl,(by decide +kernel),(yab (Nat.add_le_add_right ht 2) (by decide)),λl hl=>?_⟩;have npl:p≠l:=zka hp hl;refine⟨_,rfl,p,_,dx,_,rfl,(by rw[zoa npl];exact hp),T.zvb,T.zcc,(by show 0<1000;decide),?_⟩;refine⟨_,rfl,p,_,dx,_,rfl,zea,T.zvb,T.zrb,(by show 1<1000;decide),?_⟩;refine q _ ⟨dx,l,?_,?_⟩ ?_
 ·rw[zea,zsv];rfl
 ·rw[zoa npl.symm,zoa npl.symm,zea]
 ·exact (But.laid hl).trans (But.put.trans But.put)
theorem zaf (T:Tx K mg):FnOk P w K mg base (CX1 P w) 2 T.zqb.f T.zqb.d zrf (zdy T.zfc T.e_NoCard.c):=by
 refine T.zqb.okx zkm ?_;rintro f c A o s H vs Q E hr ⟨p,ws,k,rfl,⟨dx,l,h1,h2⟩,hk,q,qe⟩ X;refine⟨_,  (zba (zgc (zra zve (zzf (pv 0) rfl) (zua zza rfl T.zwd ybb (zaa (zzf (pv 0) rfl) zca)) (zcb _))
   (zia (zye rfl rfl T.e_NoCard.m T.e_NoCard.q ztj zfa))
   zva)
  (zba (ztt (pv 0) zga zacb)
  (zia (zya (zed zec (zzf (pv 0) rfl) (zwa zak (zzf (pv 0) rfl) zga) (λ_ _=>rfl)))))),?_⟩
 have n:l≠p:=zbf h2 h1 (by intro z;cases z);refine⟨_,rfl,p,_,dx,_,_,rfl,h1,T.zvb,T.zrb,zvg _ _,_,rfl,p,_,dx,_,_,rfl,h1,T.zvb,T.zcc,zdj _ _,l,_,rfl,.inl (SqL.of h2),rfl,_,rfl,?_⟩;refine ite2 (λc=>?_) (λc=>?_)
 ·have c':=of_decide_eq_true c;injection c' with c'
  rw[yba] at c';exact qe (yzd (by omega))
 ·have c2:=λz=>c (decide_eq_true z);have hk2:k<ws.length:=by
   rcases Nat.lt_or_ge k ws.length with z|z
   ·exact z
   ·exfalso;apply c2;rw[yba,show k=ws.length by omega]
  have hu:=ypb hk2;refine⟨_,rfl,p,_,dx,_,_,rfl,h1,T.zvb,T.zrb,zvg _ _,_,_,rfl,rfl,dx,_,h1,(by show 2<1000;decide),?_⟩;rw[zxx];refine⟨_,rfl,p,_,dx,_,_,rfl,zea,T.zvb,T.zcc,zdj _ _,_,rfl,p,_,dx,_,_,rfl,zea,T.zvb,T.zrb,zvg _ _,_,_,rfl,rfl,l,_,_,_,rfl,rfl,SqL.of (by rw[zoa n];exact h2),(by rw[Int.add_sub_cancel];exact zzl hu),?_⟩;exact q _ _ hu (WAt.go (j:=k+1) h1 h2) But.put
theorem zdk (T:Tx K mg):FnOk P w K mg base (CX1 P w) 2 T.ztb.f T.ztb.d zqe (zjt T.zfc T.e_NoCard.c):=by
 refine T.ztb.okx zkj ?_;rintro f c A o s H vs Q E hr ⟨p,ws,k,rfl,⟨dx,l,h1,h2⟩,hk,q,qe⟩ X;refine⟨_,  (zia (zgc (zra zdo (zzf (pv 0) rfl) (zua zza rfl T.zwd ybb (zaa (zzf (pv 0) rfl) zca)) (zcb _))
   (zia (zye rfl rfl T.e_NoCard.m T.e_NoCard.q ztj zfa))
   zva)),?_⟩
 refine⟨_,rfl,p,_,dx,_,_,rfl,h1,T.zvb,T.zrb,zvg _ _,_,rfl,p,_,dx,_,_,rfl,h1,T.zvb,T.zcc,zdj _ _,l,_,rfl,.inl (SqL.of h2),_,_,rfl,rfl,_,rfl,?_⟩;refine ite2 (λc=>?_) (λc=>?_)
 ·have c':=of_decide_eq_true c;rw[yba] at c';exact qe (by omega)
 ·have c2:¬ ((k:Int)<(((ws.map V.str).length:Nat):Int)):=λz=>c (decide_eq_true z);rw[yba] at c2;exact q (by omega)
theorem zbh (T:Tx K mg):FnOk P w K mg base (CX1 P w) 3 T.zeb.f T.zeb.d zid (zfy T.zfc T.e_NoCard.c):=by
 refine T.zeb.okx zje ?_;rintro f c A o s H vs Q E hr ⟨p,ws,k,rfl,W,hk,ok,q,qe⟩ X;refine⟨_,  (zba (zqa (i:=1) zje.nd rfl (.inl rfl) (zxd (pv 0) T.zvb T.zqb.M (zaf T) hr (znf T) .nil zao))
  (zba (zgc (zvj (zpl (zpa (zis T) hr rfl T.zzd.m T.zzd.F.kp (zgv T) .nil zpb (zaa (pv 1) zca))))
   (zia (zye rfl rfl T.e_NoCard.m T.e_NoCard.q ztj (zbz (pv 1) zfa)))
   zva)
  (zia (zya (pv 1))))),?_⟩
 obtain⟨dx,l,h1,h2⟩:=id W;refine⟨_,rfl,p,dx,_,rfl,h1,zgl _ _ (by decide +kernel) (by decide +kernel),p,ws,k,rfl,W,hk,λu H1 hu W1 B1=>?_,λz=>qe (λu y=>by rw[z] at y;cases y) _ (But.refl p H)⟩;have hw:=ok u (ygb hu);refine⟨_,rfl,u,rfl,hw.1,λH2 S2=>?_⟩;cases e:isName u with
 | true =>
  refine⟨_,rfl,iteF ?_⟩;exact⟨_,rfl,q u H2 hu e (W1.at S2) (B1.of_same S2)⟩
 | false =>
  refine⟨_,rfl,iteT ?_⟩;exact⟨_,rfl,u,rfl,hw.rp,_,rfl,(by decide +kernel),qe (λu' y=>by rw[hu] at y;cases y;exact e) H2 (B1.of_same S2)⟩
theorem zxf (T:Tx K mg)(hn:∀u:Str,isNumber u=true->∃i:Nat,i<1000∧u=(toString (i:Int):Str)):FnOk P w K mg base (CX1 P w) 3 T.zab.f T.zab.d zsc (zit T.zfc T.e_NoCard.c):=by
 refine T.zab.okx zud ?_;rintro f c A o s H vs Q E hr ⟨p,ws,k,rfl,W,hk,ok,q,qe⟩ X;refine⟨_,  (zba (zqa (i:=1) zud.nd rfl (.inl rfl) (zxd (pv 0) T.zvb T.zqb.M (zaf T) hr (znf T) .nil zao))
  (zba (zgc (zvj (zpl (zpa (zio T) hr rfl T.zpc.m T.zpc.F.kp (zoq T) .nil zpb (zaa (pv 1) zca))))
   (zia (zye rfl rfl T.e_NoCard.m T.e_NoCard.q ztj (zbz (pv 1) zfa)))
   zva)
  (zia (zya (zah zgn rfl T.zov boot_int (zaa (pv 1) zca)))))),?_⟩
 obtain⟨dx,l,h1,h2⟩:=id W;refine⟨_,rfl,p,dx,_,rfl,h1,zgl _ _ (by decide +kernel) (by decide +kernel),p,ws,k,rfl,W,hk,λu H1 hu W1 B1=>?_,λz=>qe (λu y=>by rw[z] at y;cases y) _ (But.refl p H)⟩;have hw:=ok u (ygb hu);refine⟨_,rfl,u,rfl,hw.1,λH2 S2=>?_⟩;cases e:isNumber u with
 | true =>
  obtain⟨i,hi,rfl⟩:=hn u e;have hl:=zdu i hi;refine⟨_,rfl,iteF ?_⟩;exact⟨_,rfl,_,_,rfl,zdq i hi,(by omega),q i H2 hu hi (W1.at S2) (B1.of_same S2)⟩
 | false =>
  refine⟨_,rfl,iteT ?_⟩;exact⟨_,rfl,u,rfl,hw.rp,_,rfl,(by decide +kernel),qe (λu' y=>by rw[hu] at y;cases y;exact e) H2 (B1.of_same S2)⟩
def valV:Wv->V
 | .non=>.non
 | .name n=>.str n
 | .num i=>.int i
def hfs (w:Str)(v:V)(t:Addr):List (Str×V):=[("word",.str w),("value",v),("parts",.ref t)]
theorem zgdb:¬ (("value":Str) = "word"):=by decide +kernel
theorem zibb:¬ (("word":Str) = "value"):=by decide +kernel
theorem zmbb:¬ (("parts":Str) = "word"):=by decide +kernel
theorem zjbb:¬ (("word":Str) = "parts"):=by decide +kernel
theorem znbb:¬ (("parts":Str) = "value"):=by decide +kernel
theorem zlbb:¬ (("value":Str) = "parts"):=by decide +kernel
theorem ztw (w:Str)(v:V)(t:Addr):(hfs w v t).lookup ("word":Str)=some (.str w):=zdh
theorem zvo (w:Str)(v:V)(t:Addr):(hfs w v t).lookup ("value":Str)=some v:=(zwc zgdb).trans zdh
theorem zru (w:Str)(v:V)(t:Addr):(hfs w v t).lookup ("parts":Str)=some (.ref t):=(zwc zmbb).trans ((zwc znbb).trans zdh)
theorem zuw (w:Str)(v:V)(t:Addr):putF "parts" (.ref t) (putF "value" v (putF "word" (.str w) []))=hfs w v t:=by
 rw[zuj,zuf zibb,zuj,zuf zjbb,zuf zlbb,zuj];rfl
theorem zsu (w:Str)(v:V)(t:Addr){m:Str}(h1:¬ m = "word")(h2:¬ m = "value")(h3:¬ m = "parts"):(hfs w v t).lookup m=none:=(zwc h1).trans ((zwc h2).trans ((zwc h3).trans rfl))
theorem zjz {C D dx dy t l:Addr}{w:Str}{v:V}{k:Int}:HO.ins D dx (hfs w v t)≠HO.ins C dy (wfs l k):=by
 intro z;injection z with _ _ z
 exact absurd (congrArg yvd z) (by show ¬ (3=2);decide)
mutual
inductive IsW (D:Addr)(H:Hp):V->Wh->Prop where
 | mk {a dx t:Addr} {vs:List V} {w:Wh} (h1:H a=some (.ins D dx (hfs w.word (valV w.val) t))) (h2:H t=some (.tup vs)) (h3:IsWs D H vs w.parts):IsW D H (.ref a) w
inductive IsWs (D:Addr)(H:Hp):List V->List Wh->Prop where
 | nil:IsWs D H [] []
 | cons {v:V} {w:Wh} {vs:List V} {ws:List Wh}:IsW D H v w->IsWs D H vs ws->IsWs D H (v::vs) (w::ws)
end
mutual
theorem IsW.same {D:Addr}{H H':Hp}(s:Same H H'):∀{v:V} {w:Wh},IsW D H v w->IsW D H' v w
 | _,_,.mk h1 h2 h3=>.mk (s _ _ h1) (s _ _ h2) (h3.same s)
theorem IsWs.same {D:Addr}{H H':Hp}(s:Same H H'):∀{vs:List V} {ws:List Wh},IsWs D H vs ws->IsWs D H' vs ws
 | _,_,.nil=>.nil
 | _,_,.cons h t=>.cons (h.same s) (t.same s)
end
mutual
theorem IsW.but {D C p dy l:Addr}{k:Int}{H H':Hp}(b:But p H H')(hp:H p=some (.ins C dy (wfs l k))):∀{v:V} {w:Wh},IsW D H v w->IsW D H' v w
 | _,_,.mk h1 h2 h3=>.mk (b _ _ (zbf h1 hp zjz) h1) (b _ _ (zbf h2 hp (by intro z;cases z)) h2) (h3.but b hp)
theorem IsWs.but {D C p dy l:Addr}{k:Int}{H H':Hp}(b:But p H H')(hp:H p=some (.ins C dy (wfs l k))):∀{vs:List V} {ws:List Wh},IsWs D H vs ws->IsWs D H' vs ws
 | _,_,.nil=>.nil
 | _,_,.cons h t=>.cons (h.but b hp) (t.but b hp)
end
theorem IsWs.length {D:Addr}{H:Hp}:∀{vs:List V} {ws:List Wh},IsWs D H vs ws->vs.length=ws.length
 | _,_,.nil=>rfl
 | _,_,.cons _ t=>by rw[yta,yta,t.length]
theorem IsWs.split {D:Addr}{H:Hp}:∀{xs:List Wh} {vs:List V} {ys:List Wh},IsWs D H vs (xs++ys)->IsWs D H (vs.take xs.length) xs∧IsWs D H (vs.drop xs.length) ys
 | [],vs,ys,h=>⟨by rw[List.length_nil,List.take_zero];exact .nil,by rw[List.length_nil,yeg];exact h⟩
 | x::xs,_,ys,.cons h t=>by
  obtain⟨a,b⟩:=IsWs.split (xs:=xs) t;exact⟨.cons h a,b⟩
theorem IsWs.get {D:Addr}{H:Hp}:∀{vs:List V} {ws:List Wh} {i:Nat} {v:V},IsWs D H vs ws->vs[i]?=some v->∃w,ws[i]?=some w∧IsW D H v w
 | _,_,_,_,.nil,e=>by simp at e
 | _,_,0,_,.cons h t,e=>by
  rw[ytg] at e;cases e;exact⟨_,rfl,h⟩
 | _,_,i+1,_,.cons h t,e=>by
  rw[ynd] at e;obtain⟨w,h1,h2⟩:=t.get e;exact⟨w,by rw[ynd];exact h1,h2⟩
theorem zpk (xs:List V)(n:Nat):cutV xs none (some (n:Int))=xs.take n:=by
 unfold cutV;rw[HT.zlr,HT.zot,yeg,Nat.sub_zero]
 by_cases h:n≤xs.length
 ·rw[Nat.min_eq_left h]
 ·rw[Nat.min_eq_right (by omega),ync (ywa _),ync (by omega)]
theorem zqk (xs:List V)(n:Nat):cutV xs (some (n:Int)) none=xs.drop n:=by
 unfold cutV;rw[HT.zlr,HT.zot]
 by_cases h:n≤xs.length
 ·rw[Nat.min_eq_left h,ync (by rw[ywb];exact ywa _)]
 ·rw[Nat.min_eq_right (by omega),yrh,List.take_zero,List.drop_eq_nil_of_le (by omega)]
theorem zll (w:Wh):∀p∈w.parts,p.size<w.size:=by
 cases w<;>simp[Wh.parts,Wh.size]<;>omega
theorem zqm (w:Wh):w.parts.length≤2:=by
 cases w<;>simp[Wh.parts]
theorem zdx (w:Wh):w.val.words.length≤1:=by
 cases w<;>simp[Wh.val,Wv.words]
theorem zat {w:Wh}(h:w.ok)(hs:w.size≤9):(yla " " w.words).length≤200:=by
 have a:=zym " " w.words;have b:=w.zkn;have c:=zgr (l:=w.words.map (·.length)) (k:=8) (λx hx=>by
  obtain⟨u,hu,rfl⟩:=ytb.mp hx;exact (Wh.zwi h u hu).2.2)
 rw[yba] at c;have e:(" ":Str).length=1:=rfl;rw[e] at a;omega
theorem zaab {w:Wh}(h:w.ok):∀u∈w.val.words,znp u:=by
 intro u hu;refine Wh.zwi h u ?_;rw[w.zyi];exact yea _ (yzb _ hu)
theorem zft {w:Wh}(h:w.ok)(hs:w.size≤9):((w.word::(w.val.words++w.parts.map λp=>yla " " p.words)).map (·.length)).sum+(w.word::(w.val.words++w.parts.map λp=>yla " " p.words)).length*(" ":Str).length≤16777216:=by
 have c:=zgr (l:=(w.word::(w.val.words++w.parts.map λp=>yla " " p.words)).map (·.length)) (k:=200) (λx hx=>by
  obtain⟨u,hu,rfl⟩:=ytb.mp hx
  rcases yga.mp hu with e|e
  ·rw[e];have:=(w.zxe).2.2;omega
  ·rcases yia.mp e with e|e
   ·have:=(zaab h u e).2.2;omega
   ·obtain⟨p,hp,rfl⟩:=ytb.mp e;exact zat (Wh.zsm h p hp) (by have:=zll w p hp;omega))
 have n1:=zqm w;have n2:=zdx w;have e:(" ":Str).length=1:=rfl;rw[e];rw[yba] at c;have l:(w.word::(w.val.words++w.parts.map λp=>yla " " p.words)).length=1+(w.val.words.length+w.parts.length):=by
  rw[yta,yca,yba];omega
 rw[l] at c ⊢;omega
theorem zoo:∀i:Nat,i<1000->i.log2<1920:=by decide +kernel
theorem zur (w:Wh):yyd w.word zad=some (.flat (.int (w.parts.length:Nat))):=by
 cases w<;>rfl
def zmab (D:Addr):Sp:=λvs H Q _=>Ex5 λx dx t (u:Str) v=>vs=[.ref x,.str u,v,.ref t]∧H x=some (.ins D dx [])∧Q .non (upd H x (.ins D dx (hfs u v t)))
def zrn (D:Addr)(n:Nat):Sp:=λvs H Q _=>Ex2 λv (w:Wh)=>vs=[v]∧IsW D H v w∧w.ok∧w.depth≤n∧w.size≤9∧∀H',Same H H'->Q (.str (yla " " w.words)) H'
theorem zez (T:Tx K mg):FnOk P w K mg base CX0 2 T.znb.f T.znb.d zfe (zmab T.zub):=by
 refine T.znb.ok zri ?_;rintro f c A o s H vs Q E hr ⟨x,dx,t,u,v,rfl,hx,q⟩ X;refine⟨_,  (zba (zyn (pv 0) (pv 1) rfl)
  (zba (zyn (pv 0) (pv 2) rfl)
  (zia (zyn (pv 0) (pv 3) rfl)))),?_⟩
 refine⟨_,rfl,_,rfl,x,_,dx,_,rfl,hx,T.zee,T.zde,(by show 0<1000;decide),?_⟩;refine⟨_,rfl,_,rfl,x,_,dx,_,rfl,zea,T.zee,T.zuc,(by show 1<1000;decide),?_⟩;refine⟨_,rfl,_,rfl,x,_,dx,_,rfl,zea,T.zee,T.zod,(by rw[zuj,zuf zibb,zuj];show 2<1000;decide),?_⟩;show Q .non _
 rw[zdm,zdm,zuw];exact q
theorem zet (T:Tx K mg){n:Nat}(zdr:FnOk P w K mg base CX0 (n+2) T.zbb.f T.zbb.d zjd (zrn T.zub n)):FnOk P w K mg base CX0 (n+3) T.zbb.f T.zbb.d zjd (zrn T.zub (n+1)):=by
 refine T.zbb.ok zgi ?_;rintro f c A o s H vs Q E hr ⟨v,y,rfl,W,ok,hd,hs,q⟩ X;refine⟨_,  (zba (zqa (i:=1) zgi.nd rfl (.inl rfl) (zob (zaa (zzf (pv 0) rfl) zca)))
  (zba (zgc (zra zdz (zzf (pv 0) rfl) zyt (zcb _))
   (zia (zth (zue ycc yhd yid zch (pv 1) (zaa (zah zap rfl T.zds boot_str (zaa (zzf (pv 0) rfl) zca)) zca))))
   zva)
  (zba (zth (zue ycc PySem.F.slot_list_extend PySem.F.type_list_extend zfu (pv 1) (zaa (zaq (own:=["part"]) (cap:=[]) rfl (zkd.chk rfl rfl) .nil (zabb (zzf (pv 0) rfl)) (λ_ _ _ _=>(znc (i:=0) (show ybj (["part"]:List Str) by decide +kernel) rfl (.inl rfl))) (λ_ _ _ _=>znm) (λ_ _ _ _=>by exact (zxd (pv 0) T.zee T.zbb.M zdr hr (zkg T) .nil zpb))) zca)))
  (zia (zya (zue yxa ymb ynb zoe zfa (zaa (pv 1) zca))))))),?_⟩
 cases W with
 | @mk a dx t ps _ h1 h2 h3 =>
 refine⟨_,rfl,a,_,dx,_,_,rfl,h1,T.zee,T.zde,ztw _ _ _,sz1,λl hl=>?_⟩;have nal:a≠l:=zka h1 hl;have ntl:t≠l:=zka h2 hl;refine⟨_,rfl,a,_,dx,_,_,rfl,(by rw[zoa nal];exact h1),T.zee,T.zuc,zvo _ _ _,rfl,_,rfl,?_⟩;have S1:Same H (upd H l (.lst [.str y.word])):=zma hl _;refine ite2 (λc=>?g1) (λc=>?g2)
 case' g1 =>
  have nv:valV y.val ≠ .non:=by simpa using c
  have ev:∃u,y.val.words=[u]∧((valV y.val = .str u)∨∃i:Nat,i<1000∧valV y.val = .int i∧u=(toString (i:Int):Str)):=by
   cases y with
   | mark m=>exact⟨m,rfl,.inl rfl⟩
   | force i=>exact⟨_,rfl,.inr ⟨i,ok,rfl,rfl⟩⟩
   | _=>exact absurd rfl nv
  obtain⟨u,eu,hv⟩:=ev;have rd:∀H0 (Q':VK),Q' (.str u) H0->rStrAny [valV y.val] H0 Q':=by
   intro H0 Q' z;unfold rStrAny
   rcases hv with e|⟨i,hi,e,rfl⟩
   ·exact .inl ⟨u,by rw[e],z⟩
   ·exact .inr ⟨i,by rw[e],(by rw[yni];exact zoo i hi),z⟩
  refine⟨_,rfl,.inl ⟨rfl,_,SqL.of zea⟩,_,rfl,a,_,dx,_,valV y.val,rfl,(by rw[zoa nal];exact h1),T.zee,T.zuc,zvo _ _ _,?_⟩;show rStrAny [valV y.val] _ _
  refine rd _ _ ?_;refine⟨l,_,_,rfl,rfl,zea,(by show 1<yfa;decide),?_⟩;rw[zdm];have e2:upd H l (.lst ([.str y.word]++[.str u])) l=some (.lst ((y.word::y.val.words).map V.str)):=by rw[zea,eu];rfl
  have S2:Same H (upd H l (.lst ([.str y.word]++[.str u]))):=zma hl _;generalize upd H l (.lst ([.str y.word]++[.str u]))=H2 at *
 case' g2 =>
  have nv:valV y.val = .non:=by simpa using c
  have eu:y.val.words=[]:=by
   cases y with
   | mark m=>exact absurd nv (by intro z;cases z)
   | force i=>exact absurd nv (by intro z;cases z)
   | _=>rfl
  have e2:upd H l (.lst [.str y.word]) l=some (.lst ((y.word::y.val.words).map V.str)):=by rw[zea,eu];rfl
  have S2:=S1;clear S1;generalize upd H l (.lst [.str y.word])=H2 at *
 all_goals
  refine⟨_,rfl,.inl ⟨rfl,_,SqL.of e2⟩,_,rfl,a,_,dx,_,_,rfl,S2 _ _ h1,T.zee,T.zod,zru _ _ _,t,rfl,⟨_,SqT.of (S2 _ _ h2)⟩,?_⟩;refine zax (xs:=ps) (λi ys H'=>Same H2 H'∧i≤ps.length∧ys=(y.parts.take i).map λp=>V.str (yla " " p.words)) (λi ys H' z=>SqT.of (z.1 _ _ (S2 _ _ h2))) ⟨Same.refl _,ylc _,rfl⟩ ?_ ?_ ?_
  ·rintro i ys H' ⟨_,_,rfl⟩;rw[yba,yeb];have:=zqm y;exact small (by omega)
  ·rintro i x ys H' hx ⟨S3,hi,rfl⟩;obtain⟨p,hp,hw⟩:=h3.get hx;have hm:p∈y.parts:=ygb hp;have hw':=hw.same (S2.trans S3);cases hw' with
   | @mk a' dx' t' ps' _ k1 k2 k3 =>
   refine⟨rfl,_,rfl,a',dx',_,rfl,k1,zsu _ _ _ (by decide +kernel) (by decide +kernel) (by decide +kernel),.ref a',p,rfl,.mk k1 k2 k3,Wh.zsm ok p hm,?_,?_,λH4 S4=>⟨S3.trans S4,?_,?_⟩⟩
   ·have:=y.zjq p hm;omega
   ·have:=zll y p hm;omega
   ·exact (ydb.mp hx).1
   ·rw[yog,hp,yza];rfl
  ·rintro ys H' ⟨S3,_,rfl⟩ b hb;have e3:=S3 _ _ e2;have nlb:l≠b:=zka e3 hb;have hlen:=h3.length;have hpl:=zqm y;have hvl:=zdx y;rw[ync (by omega)];refine⟨l,b,_,_,rfl,rfl,(by rw[zoa nlb];exact e3),zea,?_,?_⟩
   ·rw[yba,yba,yta];exact small (by omega)
   ·refine⟨rfl,_,rfl," ",l,(y.word::(y.val.words++y.parts.map λp=>yla " " p.words)),rfl,rfl,SqL.of ?_,zft ok hs,?_⟩
    ·rw[zea];simp[ycj]
    ·have S4:Same H' (upd H' b (.lst (y.parts.map λp=>V.str (yla " " p.words)))):=zma hb _;rw[zzx];refine q _ λc o e=>?_;have ncl:c≠l:=zka e hl;rw[zoa ncl];exact S4 _ _ (S3 _ _ (S2 _ _ e))
theorem zgt (T:Tx K mg):FnOk P w K mg base CX0 2 T.zbb.f T.zbb.d zjd (zrn T.zub 0):=by
 have no:∀vs H Q E,¬ zrn T.zub 0 vs H Q E:=λvs H Q E h=>by
  obtain⟨v,y,_,_,_,hd,_⟩:=h;have:1≤y.depth:=by cases y<;>simp[Wh.depth]
  omega
 exact⟨λvs H Q E h=>absurd h (no vs H Q E),λA outer s H args us vs Q E _ _ _ _ h=>absurd h (no vs H Q E)⟩
theorem zfm (T:Tx K mg):∀n:Nat,FnOk P w K mg base CX0 (n+2) T.zbb.f T.zbb.d zjd (zrn T.zub n)
 | 0=>zgt T
 | n+1=>zet T (zfm T n)
def TkAt (H:Hp)(l:Addr)(fl:List (Str×Wv)):Prop:=∃as:List Addr,H l=some (.lst (as.map V.ref))∧as.length=fl.length∧∀(i:Nat) a (x:Str×Wv),as[i]?=some a->fl[i]?=some x->H a=some (.tup [.str x.1,valV x.2])
theorem TkAt.same {H H':Hp}{l:Addr}{fl:List (Str×Wv)}(h:TkAt H l fl)(s:Same H H'):TkAt H' l fl:=by
 obtain⟨as,h1,h2,h3⟩:=h;exact⟨as,s _ _ h1,h2,λi a x e1 e2=>s _ _ (h3 i a x e1 e2)⟩
theorem TkAt.but {H H':Hp}{l p C dy wl:Addr}{k:Int}{fl:List (Str×Wv)}(h:TkAt H l fl)(b:But p H H')(hp:H p=some (.ins C dy (wfs wl k))):TkAt H' l fl:=by
 obtain⟨as,h1,h2,h3⟩:=h;exact⟨as,b _ _ (zbf h1 hp (by intro z;cases z)) h1,h2,λi a x e1 e2=>b _ _ (zbf (h3 i a x e1 e2) hp (by intro z;cases z)) (h3 i a x e1 e2)⟩
theorem TkAt.snoc {H:Hp}{l a:Addr}{fl:List (Str×Wv)}{x:Str×Wv}(h:TkAt H l fl)(ha:H a=some (.tup [.str x.1,valV x.2])){as:List Addr}(hl:H l=some (.lst (as.map V.ref))):TkAt (upd H l (.lst (as.map V.ref++[.ref a]))) l (fl++[x]):=by
 obtain⟨as',h1,h2,h3⟩:=h;have e:as'=as:=by
  rw[h1] at hl;injection hl with hl
  injection hl with hl
  exact List.map_inj_right (λx y z=>by injection z) |>.mp hl
 subst e;refine⟨as'++[a],?_,?_,λi b y e1 e2=>?_⟩
 ·rw[zea,yza];rfl
 ·rw[yca,yca,h2];rfl
 ·by_cases hi:i<as'.length
  ·rw[ycd hi] at e1;rw[ycd (by omega)] at e2;have z:=h3 i b y e1 e2;rw[zoa (zbf z h1 (by intro z;cases z))];exact z
  ·have hi2:i<(as'++[a]).length:=(ydb.mp e1).1;rw[yca,ysb] at hi2;have ei:i=as'.length:=(by omega);rw[ymc (by omega),ei,yrh] at e1;rw[ymc (by omega),ei,h2,yrh] at e2;cases e1;cases e2;rw[zoa (zbf ha h1 (by intro z;cases z))];exact ha
def zky (D:Addr):Sp:=λvs H Q _=>Ex2 λl (y:Wh)=>vs=[.ref l]∧TkAt H l y.flat∧y.size≤9∧∀v H',Same H H'->IsW D H' v y->Q v H'
theorem zmk {ws rest:List Str}{k:Nat}{u:Str}(h:ws.drop k=u::rest):ws[k]?=some u∧ws.drop (k+1)=rest:=by
 constructor
 ·have e:(ws.drop k)[0]?=some u:=by rw[h];rfl
  rw[yqe] at e
  simpa using e
 ·rw[← ybf,h];rfl
theorem zmw (T:Tx K mg)(kb:K.In base):FnOk P w K mg base CX0 4 T.zag.f T.zag.d ztq (zky T.zub):=by
 refine T.zag.ok ztf ?_;rintro f c A o s H vs Q E hr ⟨l,y,rfl,⟨as,h1,h2,h3⟩,hs,q⟩ X;refine⟨_,  (zba (zqa (i:=1) ztf.nd rfl (.inl rfl) (zob zca))
  (zba (zxn yae rfl (zzp rfl T.zsf (zaa (pv 0) zca)) (zsr (n:=2) rfl (zle (znc (i:=2) ztf.nd rfl (.inl rfl)) (zle (znc (i:=3) ztf.nd rfl (.inl rfl)) zom)))
   (zba (zqa (i:=4) ztf.nd rfl (.inl rfl) (zed (zqx (zij T kb)) (zce (v:=.ref T.zlg) rfl T.zxh rfl) (pv 2) (λ_ _=>rfl)))
   (zia (zqa (i:=1) ztf.nd rfl (.inl rfl) (zwa znd (zob (zaa (zzt T.znb.M (zez T) hr rfl T.zlx (zvk T) .nil zpb (zaa (pv 2) (zaa (pv 3) (zaa (zah zfn rfl T.zbm boot_tuple (zaa (zgb zvc (pv 1) zxb (zwb (pv 4))) zca)) zca)))) zca)) (zgb zvc (pv 1) (zwb (pv 4)) zxb))))))
  (zia (zya (zed zec (pv 1) zga (λ_ _=>rfl)))))),?_⟩
 refine⟨sz0,λw0 hw0=>?_⟩;have S0:Same H (upd H w0 (.lst [])):=zma hw0 _;have fl:=y.zdn;have len:(as.map V.ref).length=y.size:=by rw[yba,h2,fl]
 refine⟨_,rfl,l,as.map V.ref,rfl,SqL.of (S0 _ _ h1),?_⟩;refine zmz (xs:=as.map V.ref) (λi σ H'=>Ex5 λwl vs o2 o3 o4=>σ=[some (.ref l),some (.ref wl),o2,o3,o4]∧Same H H'∧H' wl=some (.lst vs)∧IsWs T.zub H' vs (pend y (y.size-i))) ⟨w0,[],_,_,_,rfl,S0,zea,by rw[Nat.sub_zero,zjw];exact .nil⟩ (λi σ H' _ ⟨_,_,_,_,_,_,S',_⟩=>SqL.of (S' _ _ h1)) ?_ ?_
 ·rintro i x σ H' hi hx ⟨wl,vs,o2,o3,o4,rfl,S1,e1,W1⟩;rw[len] at hi hx;have hj:y.size-1-i<y.size:=by omega
  obtain⟨z,t,ez⟩:=zzy hj;have ef:=zaz ez;rw[yce] at hx;cases ea:as[y.size-1-i]? with
  | none =>
   rw[ea] at hx;cases hx
  | some a =>
  rw[ea] at hx;cases hx;have ha:=S1 _ _ (h3 _ _ _ ea ef);have ep:pend y (y.size-i)=z.parts++t:=by
   rw[show y.size-i=(y.size-1-i)+1 by omega];show step (pend y (y.size-1-i))=_
   rw[ez];rfl
  rw[ep] at W1;obtain⟨Wp,Wt⟩:=W1.split;have vl:=W1.length;rw[yca] at vl;have szp:=zyj y (y.size-i);have lez:(z.parts++t).length≤zse (z.parts++t):=by
   have go:∀l:List Wh,l.length≤zse l:=by
    intro l
    induction l with
    | nil=>exact ylc _
    | cons x r ih =>
     have e2:zse (x::r)=x.size+zse r:=(by simp[zse]);have:=x.size_pos;rw[e2,yta];omega
   exact go _
  rw[ep] at szp;rw[yca] at lez;refine⟨a,_,rfl,SqT.of ha,rfl,_,_,rfl,_,_,rfl,rfl,?_⟩;refine⟨_,rfl,_,_,rfl,rfl,zur z,?_⟩;refine⟨_,rfl,_,rfl,_,rfl,_,rfl,_,rfl,wl,vs,rfl,SqL.of e1,λs1 hs1=>?_⟩;have S2:=zma hs1 (.lst (cutV vs none (some ((z.parts.length:Nat):Int))));refine⟨s1,_,rfl,.inl ⟨SqL.of zea,λtp htp=>?_⟩⟩;have S3:=zma htp (.tup (cutV vs none (some ((z.parts.length:Nat):Int))));intro x dx nx ndx nex;refine⟨x,dx,tp,z.word,valV z.val,rfl,zea,rfl,?_⟩;rw[zdm];have etp:=zka (b:=x) (zea (H:=upd H' s1 (.lst (cutV vs none (some ((z.parts.length:Nat):Int))))) (a:=tp) (o:=.tup (cutV vs none (some ((z.parts.length:Nat):Int))))) nx;have etd:=zka (b:=dx) (zea (H:=upd H' s1 (.lst (cutV vs none (some ((z.parts.length:Nat):Int))))) (a:=tp) (o:=.tup (cutV vs none (some ((z.parts.length:Nat):Int))))) ndx;generalize hH3:upd (upd H' s1 (.lst (cutV vs none (some ((z.parts.length:Nat):Int))))) tp (.tup (cutV vs none (some ((z.parts.length:Nat):Int))))=H3 at *;have e3:H3 tp=some (.tup (vs.take z.parts.length)):=by rw[← hH3,zea,zpk]
  have S4:Same H3 (upd (upd H3 dx (.own x)) x (.ins T.zub dx (hfs z.word (valV z.val) tp))):=λb o e=>by
   rw[zoa (zka e nx),zoa (zka e ndx)];exact e
  have e4:upd (upd H3 dx (.own x)) x (.ins T.zub dx (hfs z.word (valV z.val) tp)) x=some (.ins T.zub dx (hfs z.word (valV z.val) tp)):=zea;generalize upd (upd H3 dx (.own x)) x (.ins T.zub dx (hfs z.word (valV z.val) tp))=H4 at *;have S14:Same H' H4:=S2.trans (S3.trans S4);refine⟨sz1,λq1 hq1=>?_⟩;have S5:=zma hq1 (.lst [.ref x]);refine⟨_,rfl,_,rfl,_,rfl,wl,vs,rfl,SqL.of (S5 _ _ (S14 _ _ e1)),λs2 hs2=>?_⟩;have e5:upd H4 q1 (.lst [.ref x]) q1=some (.lst [.ref x]):=zea;generalize upd H4 q1 (.lst [.ref x])=H5 at *;have S6:=zma hs2 (.lst (cutV vs (some ((z.parts.length:Nat):Int)) none));have e6:upd H5 s2 (.lst (cutV vs (some ((z.parts.length:Nat):Int)) none)) s2=some (.lst (vs.drop z.parts.length)):=by rw[zea,zqk]
  generalize upd H5 s2 (.lst (cutV vs (some ((z.parts.length:Nat):Int)) none))=H6 at *;refine⟨q1,s2,_,_,rfl,rfl,S6 _ _ e5,e6,?_,λr hr'=>?_⟩
  ·rw[ywb,ysb];exact small (by omega)
  have S7:=zma hr' (.lst ([.ref x]++vs.drop z.parts.length));have S37:Same H3 (upd H6 r (.lst ([.ref x]++vs.drop z.parts.length))):=S4.trans (S5.trans (S6.trans S7));have S17:Same H' (upd H6 r (.lst ([.ref x]++vs.drop z.parts.length))):=S14.trans (S5.trans (S6.trans S7));refine⟨r,_,_,_,_,rfl,S1.trans S17,zea,?_⟩;rw[show y.size-(i+1)=y.size-1-i by omega,ez];exact .cons (.mk ((S5.trans (S6.trans S7)) _ _ e4) (S37 _ _ e3) (Wp.same S17)) (Wt.same S17)
 ·rintro σ H' ⟨wl,vs,o2,o3,o4,rfl,S1,e1,W1⟩;rw[len,yrh] at W1;have W1':IsWs T.zub H' vs [y]:=W1;cases W1' with
  | cons hv ht =>
  cases ht;exact⟨_,rfl,wl,_,_,_,rfl,rfl,SqL.of e1,rfl,q _ H' S1 hv⟩
theorem ziz {c:Nat}{u:Str}:inS c u=true↔c∈u.cps.toList:=by
 unfold inS;rw[StrLaws.found_one,decide_eq_true_eq]
theorem zocb:∀c∈LL.cps.toList,97≤c∧c≤122:=by decide +kernel
theorem zrcb:∀c∈FF.cps.toList,48≤c∧c<58:=by decide +kernel
theorem zmp {t u:Str}(h:allIn t u=true):∀c∈t.cps.toList,c∈u.cps.toList:=by
 unfold allIn at h;rw[yec] at h;intro c hc;exact ziz.mp (h _ (ytf hc))
theorem zkr {t:Str}{n:Int}(h:short t n=true):1≤t.length∧(t.length:Int)≤n:=by
 unfold short at h;rw[yxb,decide_eq_true_eq,decide_eq_true_eq] at h;omega
theorem znu {u:Str}(h:isName u=true):zvd u:=by
 unfold isName at h;rw[yxb] at h;obtain⟨h1,h2⟩:=h;have z:=zkr h1;exact⟨z.1,by omega,λc hc=>zocb c (zmp h2 c hc)⟩
theorem num1:∀x:Nat,x<10->(⟨#[48+x]⟩:Str)=(toString ((x:Nat):Int):Str):=by decide +kernel
theorem num2:∀x:Nat,x<10->∀y:Nat,y<10->x≠0->(⟨#[48+x,48+y]⟩:Str)=(toString ((10*x+y:Nat):Int):Str):=by decide +kernel
theorem num3:∀x:Nat,x<10->∀y:Nat,y<10->∀z:Nat,z<10->x≠0->(⟨#[48+x,48+y,48+z]⟩:Str)=(toString ((100*x+10*y+z:Nat):Int):Str):=by decide +kernel
theorem zek (u:Str)(h:isNumber u=true):∃i:Nat,i<1000∧u=(toString (i:Int):Str):=by
 unfold isNumber isWhole at h;rw[yxb,yxb] at h;obtain⟨h1,h2,h3⟩:=h;have z:=zkr h1;have d:=λc hc=>zrcb c (zmp h2 c hc);obtain⟨⟨l⟩⟩:=u;have zl:1≤l.length∧(l.length:Int)≤3:=z;have nz:∀(a b:Nat) (r:List Nat),l=a::b::r->a≠48:=by
  rintro a b r rfl e;subst e;unfold zef at h3;rw[Bool.or_eq_true,decide_eq_true_eq] at h3
  rcases h3 with h3|h3
  ·injection h3 with h3
   have:=congrArg yvh h3;have e1:(⟨(48::b::r).toArray⟩:Str).length=r.length+2:=(by show (48::b::r).toArray.size=_;simp);rw[e1] at this;exact absurd this (by show ¬ (r.length+2=1);omega)
  ·exact absurd h3 (show ¬ ((!decide (V.str ⟨#[48]⟩=V.str "0"))=true) by decide +kernel)
 match l,zl,d,nz with
 | [a],_,d,_ =>
  have:=d a (by simp);exact⟨a-48,by omega,by rw[← num1 (a-48) (by omega),show 48+(a-48)=a by omega]⟩
 | [a,b],_,d,nz =>
  have h1:=d a (by simp);have h2:=d b (by simp);have h3:=nz _ _ _ rfl;exact⟨10*(a-48)+(b-48),by omega,by rw[← num2 (a-48) (by omega) (b-48) (by omega) (by omega),show 48+(a-48)=a by omega,show 48+(b-48)=b by omega]⟩
 | [a,b,c],_,d,nz =>
  have h1:=d a (by simp);have h2:=d b (by simp);have h4:=d c (by simp);have h3:=nz _ _ _ rfl;exact⟨100*(a-48)+10*(b-48)+(c-48),by omega,by rw[← num3 (a-48) (by omega) (b-48) (by omega) (c-48) (by omega) (by omega),show 48+(a-48)=a by omega,show 48+(b-48)=b by omega,show 48+(c-48)=c by omega]⟩
 | a::b::c::e::r,hz,_,_=>exact absurd hz.2 (by simp only[yta];omega)
def ar (u:Str):Option Nat:=match yyd u zad with
 | some (.flat (.int i))=>some i.toNat
 | _=>none
def rdV (ws:List Str)(u:Str)(k:Nat):Option (Wv×Nat) :=
 if u = "mark" then (ws[k]?).bind λn=>if isName n=true then some (.name n,k+1) else none
 else if u = "force" then (ws[k]?).bind λn=>if isNumber n=true then (ydg n).map λi=>(.num i.toNat,k+1) else none
 else some (.non,k)
def rd1 (ws:List Str)(k:Nat):Option (Str×Nat×Wv×Nat):=(ws[k]?).bind λu=>(ar u).bind λa=>(rdV ws u (k+1)).map λ(v,j)=>(u,a,v,j)
def rdL (ws:List Str):Nat->Nat->Nat->List (Str×Wv)->Option (List (Str×Wv)×Nat)
 | _,0,k,fl=>some (fl,k)
 | 0,_+1,_,_=>none
 | f+1,n+1,k,fl=>(rd1 ws k).bind λ(u,a,v,j)=>rdL ws f (n+a) j (fl++[(u,v)])
theorem znk {u:Str}{d:yak}:∀{D:List (Str×yak)},yyd u D=some d->(u,d)∈D
 | [],h=>by cases h
 | (x,e)::D,h=>by
  have h':(if decide (u=x)=true then some e else yyd u D)=some d:=h
  by_cases c:u=x
  ·rw[if_pos (decide_eq_true c)] at h';cases h';rw[c];exact yua
  ·rw[if_neg (by simpa using c)] at h';exact yea _ (znk h')
theorem zcs {u:Str}{a:Nat}(h:ar u=some a):(u = "all" ∧ a=0)∨(u = "self" ∧ a=0)∨(u = "mine" ∧ a=0)∨(u = "mark" ∧ a=0)∨(u = "force" ∧ a=0)∨(u = "not" ∧ a=1)∨(u = "both" ∧ a=2)∨(u = "any" ∧ a=2):=by
 unfold ar at h;cases e:yyd u zad with
 | none =>
  rw[e] at h;cases h
 | some d =>
  rw[e] at h;have m:=znk e;simp only[zad,yga,yyb,or_false,yck] at m
  rcases m with⟨m1,m2⟩|⟨m1,m2⟩|⟨m1,m2⟩|⟨m1,m2⟩|⟨m1,m2⟩|⟨m1,m2⟩|⟨m1,m2⟩|⟨m1,m2⟩<;>subst m2<;>have h':=yva h
  ·exact .inl ⟨m1,h'.symm⟩
  ·exact .inr (.inl ⟨m1,h'.symm⟩)
  ·exact .inr (.inr (.inl ⟨m1,h'.symm⟩))
  ·exact .inr (.inr (.inr (.inl ⟨m1,h'.symm⟩)))
  ·exact .inr (.inr (.inr (.inr (.inl ⟨m1,h'.symm⟩))))
  ·exact .inr (.inr (.inr (.inr (.inr (.inl ⟨m1,h'.symm⟩)))))
  ·exact .inr (.inr (.inr (.inr (.inr (.inr (.inl ⟨m1,h'.symm⟩))))))
  ·exact .inr (.inr (.inr (.inr (.inr (.inr (.inr ⟨m1,h'.symm⟩))))))
theorem zeg {ws:List Str}{u:Str}{k:Nat}(h1:u ≠ "mark")(h2:u ≠ "force"):rdV ws u k=some (.non,k):=by
 unfold rdV;rw[if_neg h1,if_neg h2]
theorem drop_cons {ws:List Str}{k:Nat}{u:Str}(h:ws[k]?=some u):ws.drop k=u::ws.drop (k+1):=by
 obtain⟨hk,rfl⟩:=ydb.mp h;exact List.drop_eq_getElem_cons hk
theorem zbw {ws:List Str}{k j:Nat}{v:Wv}(h:rdV ws "mark" k=some (v,j)):∃n,v = .name n∧zvd n∧j=k+1∧ws[k]?=some n:=by
 unfold rdV at h;rw[if_pos rfl] at h;cases e:ws[k]? with
 | none=>rw[e] at h;cases h
 | some n =>
  rw[e] at h;have h':(if isName n=true then some ((.name n:Wv),k+1) else none)=some (v,j):=h
  by_cases c:isName n=true
  ·rw[if_pos c] at h';cases h';exact⟨n,rfl,znu c,rfl,rfl⟩
  ·rw[if_neg c] at h';cases h'
theorem zqt {ws:List Str}{k j:Nat}{v:Wv}(h:rdV ws "force" k=some (v,j)):∃i:Nat,v = .num i∧i<1000∧j=k+1∧ws[k]?=some (toString (i:Int):Str):=by
 unfold rdV at h;rw[if_neg (by decide +kernel),if_pos rfl] at h;cases e:ws[k]? with
 | none=>rw[e] at h;cases h
 | some n =>
  rw[e] at h;have h':(if isNumber n=true then (ydg n).map λi=>((.num i.toNat:Wv),k+1) else none)=some (v,j):=h
  by_cases c:isNumber n=true
  ·rw[if_pos c] at h';obtain⟨i,hi,rfl⟩:=zek n c;rw[zdq i hi] at h';have h2:=yva h';injection h2 with h3 h4
   exact⟨i,h3.symm,hi,h4.symm,rfl⟩
  ·rw[if_neg c] at h';cases h'
theorem zwab {ws:List Str}{k j a:Nat}{u:Str}{v:Wv}(h:rd1 ws k=some (u,a,v,j)):ws[k]?=some u∧ar u=some a∧rdV ws u (k+1)=some (v,j):=by
 unfold rd1 at h;cases e:ws[k]? with
 | none=>rw[e] at h;cases h
 | some x =>
  rw[e] at h;have h':((ar x).bind λa=>(rdV ws x (k+1)).map λ(v,j)=>(x,a,v,j))=some (u,a,v,j):=h;cases e2:ar x with
  | none=>rw[e2] at h';cases h'
  | some b =>
   rw[e2] at h';have h2:((rdV ws x (k+1)).map λ(v,j)=>(x,b,v,j))=some (u,a,v,j):=h';cases e3:rdV ws x (k+1) with
   | none=>rw[e3] at h2;cases h2
   | some y =>
    rw[e3] at h2;obtain⟨v',j'⟩:=y;have h3:=yva h2;cases h3;exact⟨rfl,e2,e3⟩
theorem zuab {ws:List Str}{k j a:Nat}{u:Str}{v:Wv}(h:rd1 ws k=some (u,a,v,j))(ps:List Wh)(hp:ps.length=a)(ok:∀p∈ps,p.ok) :
  ∃y:Wh,y.word=u∧y.val=v∧y.parts=ps∧y.ok∧ws.drop k=(u::v.words)++ws.drop j:=by
 obtain⟨h1,h2,h3⟩:=zwab h;have plain:u ≠ "mark"->u ≠ "force"->v = .non∧ws.drop k=(u::v.words)++ws.drop j:=λn1 n2=>by
  rw[zeg n1 n2] at h3;have h4:=yva h3;injection h4 with h5 h6
  subst h5 h6;exact⟨rfl,drop_cons h1⟩
 have nil:a=0->ps=[]:=λz=>yvg.mp (hp.trans z)
 rcases zcs h2 with⟨e,z⟩|⟨e,z⟩|⟨e,z⟩|⟨e,z⟩|⟨e,z⟩|⟨e,z⟩|⟨e,z⟩|⟨e,z⟩
 ·obtain⟨p1,p2⟩:=plain (by rw[e];decide +kernel) (by rw[e];decide +kernel);exact⟨.all,e.symm,p1.symm,(nil z).symm,True.intro,p2⟩
 ·obtain⟨p1,p2⟩:=plain (by rw[e];decide +kernel) (by rw[e];decide +kernel);exact⟨.self,e.symm,p1.symm,(nil z).symm,True.intro,p2⟩
 ·obtain⟨p1,p2⟩:=plain (by rw[e];decide +kernel) (by rw[e];decide +kernel);exact⟨.mine,e.symm,p1.symm,(nil z).symm,True.intro,p2⟩
 ·rw[e] at h3;obtain⟨n,rfl,ok1,rfl,h4⟩:=zbw h3;exact⟨.mark n,e.symm,rfl,(nil z).symm,ok1,by rw[drop_cons h1,drop_cons h4];rfl⟩
 ·rw[e] at h3;obtain⟨i,rfl,ok1,rfl,h4⟩:=zqt h3;exact⟨.force i,e.symm,rfl,(nil z).symm,ok1,by rw[drop_cons h1,drop_cons h4];rfl⟩
 ·obtain⟨p1,p2⟩:=plain (by rw[e];decide +kernel) (by rw[e];decide +kernel)
  match ps,hp.trans z,ok with
  | [x],_,ok=>exact⟨.not x,e.symm,p1.symm,rfl,ok x (by simp),p2⟩
 ·obtain⟨p1,p2⟩:=plain (by rw[e];decide +kernel) (by rw[e];decide +kernel)
  match ps,hp.trans z,ok with
  | [x,y],_,ok=>exact⟨.both x y,e.symm,p1.symm,rfl,⟨ok x (by simp),ok y (by simp)⟩,p2⟩
 ·obtain⟨p1,p2⟩:=plain (by rw[e];decide +kernel) (by rw[e];decide +kernel)
  match ps,hp.trans z,ok with
  | [x,y],_,ok=>exact⟨.any x y,e.symm,p1.symm,rfl,⟨ok x (by simp),ok y (by simp)⟩,p2⟩
theorem zsab {ws:List Str}:∀{f n k:Nat} {fl fl':List (Str×Wv)} {j:Nat},rdL ws f n k fl=some (fl',j)->∃ys:List Wh,ys.length=n∧(∀y∈ys,y.ok)∧fl'=fl++zgf ys∧zse ys≤f∧ws.drop k=zre ys++ws.drop j:=by
 intro f
 induction f with
 | zero =>
  intro n k fl fl' j h;cases n with
  | zero =>
   have h2:=yva (show some (fl,k)=some (fl',j) by rw[← h];simp[rdL]);cases h2;exact⟨[],rfl,by simp,by simp[zgf],by simp[zse],by simp[zre]⟩
  | succ n=>simp[rdL] at h
 | succ f ih =>
  intro n k fl fl' j h;cases n with
  | zero =>
   have h2:=yva (show some (fl,k)=some (fl',j) by rw[← h];simp[rdL]);cases h2;exact⟨[],rfl,by simp,by simp[zgf],by simp[zse],by simp[zre]⟩
  | succ n =>
   have h2:((rd1 ws k).bind λ(u,a,v,j)=>rdL ws f (n+a) j (fl++[(u,v)]))=some (fl',j):=h;cases e:rd1 ws k with
   | none=>rw[e] at h2;cases h2
   | some x =>
    obtain⟨u,a,v,i⟩:=x;rw[e] at h2;obtain⟨ys,l1,o1,f1,s1,d1⟩:=ih (show rdL ws f (n+a) i (fl++[(u,v)])=some (fl',j) from h2);obtain⟨y,y1,y2,y3,y4,y5⟩:=zuab e (ys.take a) (by rw[yeb];omega) (λp hp=>o1 p (yef hp));have ep:y.parts++ys.drop a=ys:=(by rw[y3];exact ysh a ys);refine⟨y::ys.drop a,by rw[yta,ywb];omega,?_,?_,?_,?_⟩
    ·intro p hp
     rcases yga.mp hp with z|z
     ·rw[z];exact y4
     ·exact o1 p (yff z)
    ·rw[zvf,ep,y1,y2,f1,yze];rfl
    ·rw[zrh,ep];omega
    ·rw[zbg,ep,y1,y2,y5,d1];simp
theorem zry {ws:List Str}{k j:Nat}{fl:List (Str×Wv)}(h:rdL ws 9 1 k []=some (fl,j)):∃y:Wh,y.ok∧y.size≤9∧fl=y.flat∧ws.drop k=y.words++ws.drop j:=by
 obtain⟨ys,l1,o1,f1,s1,d1⟩:=zsab h
 match ys,l1,o1,f1,s1,d1 with
 | [y],_,o1,f1,s1,d1 =>
  rw[ywd,zlk] at f1;rw[zph] at d1;exact⟨y,o1 y (by simp),(by simpa [zse] using s1),f1,d1⟩
theorem zmdb (y:Wh):ar y.word=some y.parts.length:=by
 unfold ar;rw[zur];rfl
theorem zmf {i:Nat}(h:i<1000){ws:List Str}{k:Nat}(e:ws[k]?=some (toString (i:Int):Str)):rdV ws "force" k=some (.num i,k+1):=by
 unfold rdV;rw[if_neg (by decide +kernel),if_pos rfl,e];show (if isNumber (toString (i:Int):Str)=true then _ else _)=_
 rw[if_pos (zlo i h),zdq i h];rfl
theorem zvab {ws rest:List Str}{k:Nat}{y:Wh}(ok:y.ok)(h:ws.drop k=y.word::(y.val.words++rest)):rd1 ws k=some (y.word,y.parts.length,y.val,k+1+y.val.words.length)∧ws.drop (k+1+y.val.words.length)=rest:=by
 obtain⟨u1,u2⟩:=zmk h;have dr:ws.drop (k+1+y.val.words.length)=rest:=by rw[← ybf,u2,List.drop_left]
 refine⟨?_,dr⟩;have z:rdV ws y.word (k+1)=some (y.val,k+1+y.val.words.length):=by
  cases y with
  | mark n =>
   have e:=(zmk (rest:=rest) u2).1;show rdV ws "mark" (k+1)=_
   unfold rdV;rw[if_pos rfl,e];show (if isName n=true then _ else _)=_
   rw[if_pos (zfq ok)];rfl
  | force i=>exact zmf ok (zmk (rest:=rest) u2).1
  | not a=>exact zeg (show ("not":Str) ≠ "mark" by decide +kernel) (show ("not":Str) ≠ "force" by decide +kernel)
  | both a b=>exact zeg (show ("both":Str) ≠ "mark" by decide +kernel) (show ("both":Str) ≠ "force" by decide +kernel)
  | any a b=>exact zeg (show ("any":Str) ≠ "mark" by decide +kernel) (show ("any":Str) ≠ "force" by decide +kernel)
  | _=>exact zeg (by decide +kernel) (by decide +kernel)
 unfold rd1;rw[u1];show (ar y.word).bind _=_
 rw[zmdb];show (rdV ws y.word (k+1)).map _=_
 rw[z];rfl
theorem ztab {ws:List Str}:∀{f k:Nat} {fl:List (Str×Wv)} {ys:List Wh} {rest:List Str},(∀y∈ys,y.ok)->zse ys≤f->ws.drop k=zre ys++rest->rdL ws f ys.length k fl=some (fl++zgf ys,k+(zre ys).length):=by
 intro f
 induction f with
 | zero =>
  intro k fl ys rest ok hs hd;cases ys with
  | nil=>simp[rdL,zgf,zre]
  | cons y t=>exact absurd (ztn (ws:=y::t) (by simp)) (by omega)
 | succ f ih =>
  intro k fl ys rest ok hs hd;cases ys with
  | nil=>simp[rdL,zgf,zre]
  | cons y t =>
   rw[zbg] at hd;obtain⟨z1,z2⟩:=zvab (rest:=zre (y.parts++t)++rest) (ok y (by simp)) (by rw[hd];simp);show ((rd1 ws k).bind λ(u,a,v,j)=>rdL ws f (t.length+a) j (fl++[(u,v)]))=_
   rw[z1];show rdL ws f (t.length+y.parts.length) (k+1+y.val.words.length) (fl++[(y.word,y.val)])=_
   have zz:=ih (k:=k+1+y.val.words.length) (fl:=fl++[(y.word,y.val)]) (ys:=y.parts++t) (rest:=rest) (λp hp=>by
    rcases yia.mp hp with e|e
    ·exact Wh.zsm (ok y (by simp)) p e
    ·exact ok p (yea _ e)) (by rw[zrh] at hs;omega) z2
   rw[yca] at zz;rw[yhj t.length,zz,zvf,zbg];simp;omega
theorem zcw {ws rest:List Str}{k:Nat}{y:Wh}(ok:y.ok)(hs:y.size≤9)(hd:ws.drop k=y.words++rest):rdL ws 9 1 k []=some (y.flat,k+y.words.length):=by
 have z:=ztab (ws:=ws) (f:=9) (k:=k) (fl:=[]) (ys:=[y]) (rest:=rest) (λp hp=>by rw[yqa.mp hp];exact ok) (by simpa [zse] using hs) (by rw[zph];exact hd);rw[zlk,zph] at z;exact z
theorem zjx {ws:List Str}{k:Nat}{n:Str}(e:ws[k]?=some n)(h:isName n=true):rdV ws "mark" k=some (.name n,k+1):=by
 unfold rdV;rw[if_pos rfl,e];show (if isName n=true then _ else _)=_
 rw[if_pos h]
theorem zwp {ws:List Str}{k:Nat}(h:∀u,ws[k]?=some u->isName u=false):rdV ws "mark" k=none:=by
 unfold rdV;rw[if_pos rfl];cases e:ws[k]? with
 | none=>rfl
 | some n =>
  show (if isName n=true then _ else _)=_
  rw[if_neg (by rw[h n e];simp)]
theorem zxp {ws:List Str}{k:Nat}(h:∀u,ws[k]?=some u->isNumber u=false):rdV ws "force" k=none:=by
 unfold rdV;rw[if_neg (by decide +kernel),if_pos rfl];cases e:ws[k]? with
 | none=>rfl
 | some n =>
  show (if isNumber n=true then _ else _)=_
  rw[if_neg (by rw[h n e];simp)]
theorem zsl {ws:List Str}{k:Nat}{u:Str}(h:ws[k]?=some u):k+1≤ws.length:=(ydb.mp h).1
def zbdb (C N:Addr):Sp:=λvs H Q E=>Ex4 λp (ws:List Str) (k:Nat) (u:Str)=>vs=[.ref p,.str u]∧WAt C H p ws k∧k≤ws.length∧(∀u∈ws,WdOk u)∧(∀v j H',rdV ws u k=some (v,j)->j≤ws.length->WAt C H' p ws j->But p H H'->Q (valV v) H')∧(rdV ws u k=none->∀H',But p H H'->E (.ref N) none H')
theorem zrm (T:Tx K mg):FnOk P w K mg base (CX1 P w) 4 T.zjc.f T.zjc.d zpf (zbdb T.zfc T.e_NoCard.c):=by
 refine T.zjc.okx zjm ?_;rintro f c A o s H vs Q E hr ⟨p,ws,k,u,rfl,W,hk,ok,q,qe⟩ X;refine⟨_,  (zba (zgc (zra zve (pv 1) zfa (zcb _))
   (zia (zya (zxd (pv 0) T.zvb T.zeb.M (zbh T) hr (zyh T) .nil zao)))
   zva)
  (zba (zgc (zra zve (pv 1) zfa (zcb _))
   (zia (zya (zxd (pv 0) T.zvb T.zab.M (zxf T zek) hr (zjg T) .nil zao)))
   zva)
  (zia (zya zyt)))),?_⟩
 obtain⟨dx,l,h1,h2⟩:=id W;refine⟨_,rfl,rfl,_,rfl,?_⟩;refine ite2 (λc=>?_) (λc=>?_)
 ·have c':=of_decide_eq_true c;injection c' with c'
  subst c';exact⟨_,rfl,p,dx,_,rfl,h1,zgl _ _ (by decide +kernel) (by decide +kernel),p,ws,k,rfl,W,hk,ok,λn H1 hn nm W1 B1=>q _ _ H1 (zjx hn nm) (zsl hn) W1 B1,λz H1 B1=>qe (zwp z) H1 B1⟩
 have n1:u ≠ "mark":=λz=>c (by rw[z];exact decide_eq_true rfl);refine⟨_,rfl,rfl,_,rfl,?_⟩;refine ite2 (λc=>?_) (λc=>?_)
 ·have c':=of_decide_eq_true c;injection c' with c'
  subst c';exact⟨_,rfl,p,dx,_,rfl,h1,zgl _ _ (by decide +kernel) (by decide +kernel),p,ws,k,rfl,W,hk,ok,λi H1 hn hi W1 B1=>q (.num i) _ H1 (zmf hi hn) (zsl hn) W1 B1,λz H1 B1=>qe (zxp z) H1 B1⟩
 have n2:u ≠ "force":=λz=>c (by rw[z];exact decide_eq_true rfl);exact q .non k H (zeg n1 n2) hk W (But.refl p H)
theorem zicb {u:Str}(h:ywj u zad=true):∃a:Nat,ar u=some a∧yyd u zad=some (.flat (.int (a:Int))):=by
 rw[← yoi] at h;unfold ar;cases e:yyd u zad with
 | none=>rw[e] at h;cases h
 | some d =>
  have m:=znk e;simp only[zad,yga,yyb,or_false,yck] at m
  rcases m with⟨m1,m2⟩|⟨m1,m2⟩|⟨m1,m2⟩|⟨m1,m2⟩|⟨m1,m2⟩|⟨m1,m2⟩|⟨m1,m2⟩|⟨m1,m2⟩<;>subst m2<;>exact⟨_,rfl,rfl⟩
theorem zgcb {u:Str}(h:ywj u zad=false):ar u=none:=by
 rw[← yoi] at h;unfold ar;cases e:yyd u zad with
 | none=>rfl
 | some d=>rw[e] at h;cases h
theorem zqy {ws:List Str}{f n k:Nat}{fl:List (Str×Wv)}:rdL ws (f+1) (n+1) k fl=(rd1 ws k).bind λ(u,a,v,j)=>rdL ws f (n+a) j (fl++[(u,v)]):=rfl
theorem zzi {ws:List Str}{f n k:Nat}{fl:List (Str×Wv)}(h:rd1 ws k=none):rdL ws (f+1) (n+1) k fl=none:=by
 rw[zqy,h];rfl
theorem zrt {ws:List Str}{k:Nat}(h:ws[k]?=none):rd1 ws k=none:=by
 unfold rd1;rw[h];rfl
theorem znr {ws:List Str}{k:Nat}{u:Str}(h:ws[k]?=some u)(z:ar u=none):rd1 ws k=none:=by
 unfold rd1;rw[h];show (ar u).bind _=_
 rw[z];rfl
theorem zfg {ws:List Str}{k a:Nat}{u:Str}(h:ws[k]?=some u)(z:ar u=some a):rd1 ws k=(rdV ws u (k+1)).map λ(v,j)=>(u,a,v,j):=by
 unfold rd1;rw[h];show (ar u).bind _=_
 rw[z];rfl
theorem zmr {ws:List Str}{f k:Nat}{fl:List (Str×Wv)}:rdL ws f 0 k fl=some (fl,k):=by
 cases f<;>rfl
def zadb (C D N:Addr):Sp:=λvs H Q E=>Ex3 λp (ws:List Str) (k:Nat)=>vs=[.ref p]∧WAt C H p ws k∧k≤ws.length∧(∀u∈ws,WdOk u)∧(∀(y:Wh) (j:Nat) v H',rdL ws 9 1 k []=some (y.flat,j)->y.ok->y.size≤9->ws.drop k=y.words++ws.drop j->j≤ws.length->WAt C H' p ws j->But p H H'->IsW D H' v y->Q v H')∧(rdL ws 9 1 k []=none->∀H',But p H H'->E (.ref N) none H')
theorem zgo (T:Tx K mg)(kb:K.In base):FnOk P w K mg base (CX1 P w) 5 T.zoc.f T.zoc.d zmg (zadb T.zfc T.zub T.e_NoCard.c):=by
 refine T.zoc.okx zld ?_;rintro f c A o s H vs Q E hr ⟨p,ws,k,rfl,W,hk,ok,q,qe⟩ X;refine⟨_,  (zba (zqa (i:=1) zld.nd rfl (.inl rfl) (zob zca))
  (zba (zqa (i:=2) zld.nd rfl (.inl rfl) zga)
  (zba (zpr PassesOwn.leaving (zra zfo (pv 2) zga (zcb _))
   (zba (zgc (zra zve (zua zza rfl T.zwd ybb (zaa (pv 1) zca)) (zce (v:=.int 9) rfl T.zme ⟨_,rfl⟩) (zcb _))
    (zia (zye rfl rfl T.e_NoCard.m T.e_NoCard.q ztj zfa))
    zva)
   (zba (zqa (i:=3) zld.nd rfl (.inl rfl) (zxd (pv 0) T.zvb T.zqb.M (zaf T).up hr (znf T) .nil zao))
   (zba (zgc (zra (zbo (zij T kb)) (pv 3) (zce (v:=.ref T.zlg) rfl T.zxh rfl) rfl)
    (zia (zye rfl rfl T.e_NoCard.m T.e_NoCard.q ztj (zbz (pv 3) zfa)))
    zva)
   (zba (zth (zue ycc yhd yid zch (pv 1) (zaa (zlf (zaa (pv 3) (zaa (zpa (zrm T) hr rfl T.zjc.m T.zjc.F.kp (zjp T) .nil zao (zaa (pv 0) (zaa (pv 3) zca))) zca))) zca)))
   (zia (zzab (i:=2) zld.nd rfl (.inl rfl) (zwa zak (zed (zqx (zij T kb)) (zce (v:=.ref T.zlg) rfl T.zxh rfl) (pv 3) (λ_ _=>rfl)) zga) zzbb)))))))
  (zia (zya (zpa (zmw T kb) hr rfl T.zag.m T.zag.F.kp (zoz T) .nil zpb (zaa (pv 1) zca))))))),?_⟩
 refine⟨sz0,λl hl=>?_⟩;refine⟨λm σ H'=>Ex5 λ(j k' n:Nat) (fl:List (Str×Wv)) o=>m=9-j∧σ=[some (.ref p),some (.ref l),some (.int (n:Nat)),o]∧j≤9∧fl.length=j∧But p H H'∧WAt T.zfc H' p ws k'∧k'≤ws.length∧rdL ws 9 1 k []=rdL ws (9-j) n k' fl∧TkAt H' l fl,⟨_,0,k,1,[],none,rfl,rfl,ylc _,rfl,But.laid hl,W.at (zma hl _),hk,rfl,[],zea,rfl,λi a x e=>by simp at e⟩,?_⟩;rintro m σ H' ⟨j,k',n,fl,o,rfl,rfl,hj,hfl,B,W',hk',hr',TA⟩;refine⟨_,rfl,_,_,rfl,rfl,_,rfl,?_⟩;obtain⟨as,t1,t2,t3⟩:=id TA;refine ite2 (λc=>?_) (λc=>?_)
 ·have c':(0:Int)<((n:Nat):Int):=of_decide_eq_true c;obtain⟨n',rfl⟩:∃n',n=n'+1:=⟨n-1,by omega⟩;refine⟨_,fun σ' H' n=>n,?_⟩;refine⟨_,rfl,l,_,rfl,.inl (SqL.of t1),rfl,_,rfl,?_⟩;refine ite2 (λc1=>?_) (λc1=>?_)
  ·have c1':=of_decide_eq_true c1;injection c1' with c1'
   rw[yba] at c1';have e9:j=9:=(by omega);subst e9;exact qe (by rw[hr'];rfl) H' B
  have hj9:j<9:=by
   rcases Nat.lt_or_ge j 9 with z|z
   ·exact z
   ·exfalso;apply c1;rw[yba,t2,hfl,show j=9 by omega];rfl
  have ef:9-j=(9-(j+1))+1:=by omega
  obtain⟨dx,wl,w1,w2⟩:=id W';refine⟨_,rfl,p,dx,_,rfl,w1,zgl _ _ (by decide +kernel) (by decide +kernel),p,ws,k',rfl,W',hk',λu H1 u1 W1 B1=>?_,λz=>qe (by rw[hr',ef];exact zzi (zrt z)) H' B⟩;have kws:k'<ws.length:=(ydb.mp u1).1;have hw:=ok u (ygb u1);refine⟨_,rfl,_,rfl,rfl,_,rfl,?_⟩;cases ek:ywj u zad with
  | false =>
   refine iteT ?_;exact⟨_,rfl,u,rfl,hw.rp,_,rfl,(by decide +kernel),qe (by rw[hr',ef];exact zzi (znr u1 (zgcb ek))) H1 (B.trans B1)⟩
  | true =>
  refine iteF ?_;obtain⟨a,ea,ed⟩:=zicb ek;have TA1:=TA.but B1 w1;obtain⟨dx1,wl1,w11,w12⟩:=id W1;have t11:=B1 _ _ (zbf t1 w1 (by intro z;cases z)) t1;refine⟨_,rfl,.inl ⟨rfl,_,SqL.of t11⟩,_,rfl,_,rfl,_,rfl,p,ws,k'+1,u,rfl,W1,kws,ok,λv j' H2 hv hj' W2 B2=>?_,λz H2 B2=>qe (by rw[hr',ef];exact zzi (by rw[zfg u1 ea,z];rfl)) H2 ((B.trans B1).trans B2)⟩;have TA2:=TA1.but B2 w11;have t12:=B2 _ _ (zbf t11 w11 (by intro z;cases z)) t11;refine⟨sz2,λb hb=>?_⟩;have S3:=zma hb (.tup [.str u,valV v]);have TA3:=TA2.same S3;have t13:=S3 _ _ t12;have e3:upd H2 b (.tup [.str u,valV v]) b=some (.tup [.str u,valV v]):=zea;generalize upd H2 b (.tup [.str u,valV v])=H3 at *;have W3:=W2.at S3;obtain⟨dx3,wl3,w31,w32⟩:=id W3;have npl:p≠l:=zbf w31 t13 (by intro z;cases z);have nwl:wl3≠l:=by
   intro z;rw[z,t13] at w32;injection w32 with w32
   injection w32 with w32
   cases ws with
   | nil=>exact absurd kws (by simp)
   | cons u r =>
    cases as with
    | nil=>simp at w32
    | cons b r'=>simp at w32
  refine⟨l,_,_,rfl,rfl,t13,?_,?_⟩
  ·rw[yba];exact zyg (by omega)
  have TA4:=TA3.snoc (x:=(u,v)) e3 t13;have W4:WAt T.zfc (upd H3 l (.lst (as.map V.ref++[.ref b]))) p ws j':=⟨dx3,wl3,by rw[zoa npl];exact w31,by rw[zoa nwl];exact w32⟩;have B4:But p H (upd H3 l (.lst (as.map V.ref++[.ref b]))):=λb o n e=>by
   rw[zoa (zka e hl)];exact S3 _ _ (B2 _ _ n (B1 _ _ n (B _ _ n e)))
  have em:(((n'+1:Nat):Nat):Int)+(((a:Nat):Int)-1)=(((n'+a:Nat):Nat):Int):=by omega
  refine⟨_,rfl,_,rfl,_,_,rfl,rfl,ed,_,_,rfl,rfl,_,_,rfl,rfl,?_⟩;refine⟨9-(j+1),by omega,j+1,j',n'+a,fl++[(u,v)],_,rfl,(by rw[← em];rfl),hj9,(by rw[yca,hfl];rfl),B4,W4,hj',?_,TA4⟩;rw[hr',ef,zqy,zfg u1 ea,hv];rfl
 ·have c':¬ (0:Int)<((n:Nat):Int):=of_decide_eq_false (ybc.mpr c);have en:n=0:=by omega
  subst en;rw[zmr] at hr';obtain⟨y,y1,y2,y3,y4⟩:=zry hr';subst y3;refine⟨_,rfl,l,y,rfl,TA,y2,λv H2 S2 IW=>?_⟩;exact q y k' v H2 hr' y1 y2 y4 hk' (W'.at S2) (B.of_same S2) IW
def isWh (ws:List Str):Bool:=match rdL ws 9 1 0 [] with
 | some (_,j)=>decide (j=ws.length)
 | none=>false
theorem zgq {ws:List Str}(h:rdL ws 9 1 0 []=none):isWh ws=false:=by
 unfold isWh;rw[h]
theorem zzm {ws:List Str}{fl:List (Str×Wv)}{j:Nat}(h:rdL ws 9 1 0 []=some (fl,j)):isWh ws=decide (j=ws.length):=by
 unfold isWh;rw[h]
theorem zmu {y:Wh}(ok:y.ok)(hs:y.size≤9):isWh y.words=true:=by
 rw[zzm (zcw (ws:=y.words) (rest:=[]) (k:=0) ok hs (by simp))];simp
def TxOk (t:Str):Prop:=t.length≤1000000∧∀u∈yjb t " ",WdOk u
def NoTx (K:yaa)(H:Hp)(v:V):Prop:=∃ty,TyOf K H v ty∧ypa K ty (.type "str")=some false
def zey (K:yaa)(D N:Addr):Sp:=λvs H Q E=>∃v,vs=[v]∧((∃t,v = .str t∧TxOk t∧(∀(y:Wh) v H',isWh (yjb t " ")=true->y.ok->y.size≤9->yjb t " " = y.words->Same H H'->IsW D H' v y->Q v H')∧(isWh (yjb t " ")=false->∀H',Same H H'->E (.ref N) none H'))∨(NoTx K H v∧E (.ref N) none H))
theorem zmi (T:Tx K mg)(kb:K.In base):FnOk P w K mg base (CX1 P w) 7 T.zzb.f T.zzb.d zng (zey K T.zub T.e_NoCard.c):=by
 refine T.zzb.okx zif ?_;rintro f c A o s H vs Q E hr ⟨v0,rfl,hv⟩ X;refine⟨_,  (zba (zgc (zvj (zpl (zua zmq rfl T.zlb yjd (zaa (pv 0) (zaa (zau (v:=.ty "str") rfl T.zds boot_str rfl) zca)))))
   (zia (zye rfl rfl T.e_NoCard.m T.e_NoCard.q ztj zfa))
   zva)
  (zba (zqa (i:=1) zif.nd rfl (.inl rfl) (zzt T.zjb.M (znw T).up hr rfl T.ziu (zti T) .nil zpb (zaa (pv 0) zca)))
  (zba (zqa (i:=2) zif.nd rfl (.inl rfl) (zpa (zgo T kb).up hr rfl T.zoc.m T.zoc.F.kp (znq T) .nil zao (zaa (pv 1) zca)))
  (zba (zth (zxd (pv 1) T.zvb T.ztb.M (zdk T).up hr (zdl T) .nil zao))
  (zia (zya (pv 2))))))),?_⟩
 rcases hv with⟨t,rfl,tk,q,qe⟩|⟨⟨ty,ht,hk⟩,qe⟩
 ·refine⟨_,rfl,_,_,.type "str",true,rfl,TyOf.str _,.inl ⟨"str",rfl,rfl⟩,true,rfl,?_⟩;refine iteF ?_;refine⟨_,rfl,?_⟩;intro x dx nx ndx nex;refine⟨x,dx,_,rfl,zea,tk.1,λH1 W1 B1=>⟨rfl,?_⟩⟩;have S1:Same H H1:=λb o e=>B1 b o (zka e nx) (by rw[zoa (zka e nx),zoa (zka e ndx)];exact e);have sb:∀{H2:Hp},But x H1 H2->Same H H2:=λB2 b o e=>B2 b o (zka e nx) (S1 b o e);refine⟨_,rfl,x,yjb t " ",0,rfl,W1,ylc _,tk.2,λy j v H2 hr' ok hs hd hj W2 B2 IW=>?_,λz H2 B2=>qe (zgq z) H2 (sb B2)⟩;obtain⟨dx2,l2,w1,w2⟩:=id W2;refine⟨_,rfl,x,dx2,_,rfl,w1,zgl _ _ (by decide +kernel) (by decide +kernel),x,yjb t " ",j,rfl,W2,hj,λej=>?_,λej=>qe (by rw[zzm hr'];exact decide_eq_false (by omega)) H2 (sb B2)⟩;subst ej;rw[yeg,List.drop_length,ynf] at hd;exact⟨_,rfl,q y v H2 (by rw[zzm hr'];exact decide_eq_true rfl) ok hs hd (sb B2) IW⟩
 ·refine⟨_,rfl,_,_,ty,false,rfl,ht,.inl ⟨"str",rfl,hk⟩,false,rfl,?_⟩;exact iteT qe
theorem zrk:ytd "ValueError" = some (.type "ValueError"):=by decide +kernel
def badV (H:Hp)(r:V):Prop:=Ex2 λt l=>r = .ref t∧H t=some (.tup [.bl true,.bl true,.ref l])∧H l=some (.lst [.bl false,.bl false,.bl false,.bl false])
def spLT (K:yaa):Sp:=λvs H Q _=>∃v,vs=[v]∧((∃t,v = .str t∧TxOk t∧(isWh (yjb t " ")=true->∀H',Same H H'->Q (.str t) H')∧(isWh (yjb t " ")=false->∀r H',Same H H'->badV H' r->Q r H'))∨(NoTx K H v∧∀r H',Same H H'->badV H' r->Q r H'))
theorem zni (T:Tx K mg)(kb:K.In base):FnOk P w K mg base CX0 12 T.zac.f T.zac.d zpg (spLT K):=by
 refine T.zac.ok zie ?_;rintro f c A o s H vs Q E hr ⟨v0,rfl,hv⟩ X;refine⟨_,  (zba (zyab (k:=2) rfl rfl rfl T.e_FightError.m T.e_FightError.q zie.nd rfl rfl (λE1 E pn hP=>(zia (zqa (i:=1) zie.nd rfl (.inl rfl) (zxd (zpa (zmi T kb).up hr rfl T.zzb.m T.zzb.F.kp (zsk T) .nil hP (zaa (pv 0) zca)) T.zee T.zbb.M (zfm T 9) hr (zkg T) .nil zpb)))) λz=>(zba (zqa (i:=3) zie.nd rfl (.inl rfl) (zob (zaa (zua (zmc K) rfl T.zlb yjd (zaa (pv 2) (zaa (zce (v:=.ref T.zcj) rfl T.zaj rfl) zca))) (zaa (zua (zmc K) rfl T.zlb yjd (zaa (pv 2) (zaa (zce (v:=.ref T.zkh) rfl T.zeh rfl) zca))) (zaa (zua (zmc K) rfl T.zlb yjd (zaa (pv 2) (zaa (zce (v:=.ref T.zlh) rfl T.zfh rfl) zca))) (zaa (zua (zmc K) rfl T.zlb yjd (zaa (pv 2) (zaa (zce (v:=.ref T.zjn) rfl T.zbn rfl) zca))) zca))))))
   (zia (zya (zlf (zaa (zua (zmc K) rfl T.zlb yjd (zaa (pv 2) (zaa (zce (v:=.ref T.e_NoCard.c) rfl T.e_NoCard.m rfl) zca))) (zaa (zua (zmc K) rfl T.zlb yjd (zaa (pv 2) (zaa (zau (v:=.ty "ValueError") rfl T.zge zrk rfl) zca))) (zaa (pv 3) zca))))))))
  (zia (zya (pv 1)))),?_⟩
 refine⟨_,rfl,_,rfl,?_⟩
 rcases hv with⟨t,rfl,tk,q,qe⟩|⟨nt,qe⟩
 ·refine .inl ⟨t,rfl,tk,λy v H1 hw ok hs e S1 IW=>?_,λhw H1 S1=>⟨⟨_,rfl,T.e_NoCard.q,T.u_NoCard_FightError⟩,fun σ x hl hx=>?_⟩⟩
  ·have IW':=id IW;cases IW' with
   | @mk a dx t5 ps _ g1 g2 g3 =>
   refine⟨a,dx,_,rfl,g1,zsu _ _ _ (by decide +kernel) (by decide +kernel) (by decide +kernel),_,y,rfl,IW,ok,yab y.zyr hs,hs,λH2 S2=>?_⟩;have et:yla " " y.words=t:=by
    rw[← e];exact yrd t " "
   rw[et];exact⟨_,rfl,q hw H2 (S1.trans S2)⟩
  ·match σ,hl with
   | [o0,o1,o2,o3],_ =>
   refine⟨_,rfl,x,_,_,false,rfl,zea,T.e_NoCard.z,.inr ⟨_,rfl,T.v_NoCard_NotNow⟩,_,rfl,x,_,_,false,rfl,zea,T.e_NoCard.z,.inr ⟨_,rfl,T.v_NoCard_NotSame⟩,_,rfl,x,_,_,false,rfl,zea,T.e_NoCard.z,.inr ⟨_,rfl,T.v_NoCard_NoFight⟩,_,rfl,x,_,_,false,rfl,zea,T.e_NoCard.z,.inr ⟨_,rfl,T.v_NoCard_NoRow⟩,sz4,λl hl=>?_⟩;have hx1:upd (upd H1 x (excO x (.ref T.e_NoCard.c))) l (.lst [.bl false,.bl false,.bl false,.bl false]) x=some (excO x (.ref T.e_NoCard.c)):=by
    rw[zoa (zka zea hl)];exact zea
   refine⟨_,rfl,x,_,_,true,rfl,hx1,T.e_NoCard.z,.inr ⟨_,rfl,T.v_NoCard_NoCard⟩,_,rfl,x,_,_,true,rfl,hx1,T.e_NoCard.z,.inl ⟨_,rfl,T.v_NoCard_ValueError⟩,_,rfl,sz3,λt ht=>?_⟩;exact qe hw (.ref t) _ (S1.trans ((zma hx _).trans ((zma hl _).trans (zma ht _)))) ⟨t,l,rfl,zea,zma ht _ _ _ zea⟩
 ·refine .inr ⟨nt,⟨_,rfl,T.e_NoCard.q,T.u_NoCard_FightError⟩,fun σ x hl hx=>?_⟩
  ·have S1:Same H H:=λ_ _ z=>z
   match σ,hl with
   | [o0,o1,o2,o3],_ =>
   refine⟨_,rfl,x,_,_,false,rfl,zea,T.e_NoCard.z,.inr ⟨_,rfl,T.v_NoCard_NotNow⟩,_,rfl,x,_,_,false,rfl,zea,T.e_NoCard.z,.inr ⟨_,rfl,T.v_NoCard_NotSame⟩,_,rfl,x,_,_,false,rfl,zea,T.e_NoCard.z,.inr ⟨_,rfl,T.v_NoCard_NoFight⟩,_,rfl,x,_,_,false,rfl,zea,T.e_NoCard.z,.inr ⟨_,rfl,T.v_NoCard_NoRow⟩,sz4,λl hl=>?_⟩;have hx1:upd (upd H x (excO x (.ref T.e_NoCard.c))) l (.lst [.bl false,.bl false,.bl false,.bl false]) x=some (excO x (.ref T.e_NoCard.c)):=by
    rw[zoa (zka zea hl)];exact zea
   refine⟨_,rfl,x,_,_,true,rfl,hx1,T.e_NoCard.z,.inr ⟨_,rfl,T.v_NoCard_NoCard⟩,_,rfl,x,_,_,true,rfl,hx1,T.e_NoCard.z,.inl ⟨_,rfl,T.v_NoCard_ValueError⟩,_,rfl,sz3,λt ht=>?_⟩;exact qe (.ref t) _ (S1.trans ((zma hx _).trans ((zma hl _).trans (zma ht _)))) ⟨t,l,rfl,zea,zma ht _ _ _ zea⟩
theorem zjs {t:Str}(h:decide (V.int ((t.length:Nat):Int)=V.int 1)=true):zef t=true:=by
 have h':=of_decide_eq_true h;injection h' with h'
 obtain⟨⟨l⟩⟩:=t;have hl:l.length=1:=by
  have:((l.length:Nat):Int)=1:=h';omega
 match l,hl with
 | [c],_ =>
 unfold zef
 by_cases e:c=48
 ·subst e;decide +kernel
 ·have z:decide (V.str ⟨#[c]⟩=V.str "0")=false:=decide_eq_false λy=>e (by
   injection y with y
   have y2:=congrArg (λs:Str=>s.cps.getD 0 0) y;exact y2)
  have z2:decide (V.str ⟨#[(⟨[c].toArray⟩:Str).cps.getD 0 0]⟩=V.str "0")=false:=z;rw[z2];simp
theorem zeq {t:Str}(h:¬ V.int ((t.length:Nat):Int)=V.int 1):zef t = !decide (V.str ⟨#[t.cps.getD 0 0]⟩=V.str "0"):=by
 unfold zef;have z:decide (V.str t=V.str "0")=false:=decide_eq_false λy=>h (by
  injection y with y
  rw[y];rfl)
 rw[z,Bool.false_or]
theorem zck (T:Tx K mg):FnOk P w K mg base CX0 1 T.zsb.f T.zsb.d zpe zgx:=by
 refine T.zsb.ok zjf ?_;rintro f c A o s H vs Q E hr ⟨t,rfl,hz,q⟩ X;have hz':=small hz;have q:=q H (Same.refl H);refine⟨_,  (zba (zxn yae rfl (zrr (pv 0)) (znc (i:=1) zjf.nd rfl (.inl rfl))
   (zia (zgc (zra zli (pv 1) zfa rfl)
    (zia (zya zwf))
    zva)))
  (zia (zya (zpm zdo zdo zga (zua zlc rfl T.zwd ybb (zaa (pv 0) zca)) zga)))),?_⟩
 refine⟨_,rfl,t,rfl,zvu (λi σ H'=>H'=H∧((t.cps.toList.take i).map λc=>inS c LL).all id=true∧∃o,σ=[some (.str t),o]) ⟨rfl,rfl,_,rfl⟩ ?_ ?_⟩
 ·rintro i c σ H' hc ⟨rfl,ha,o,rfl⟩;refine⟨_,rfl,_,_,rfl,rfl,_,rfl,?_⟩;refine ite2 (λhn=>?_) (λhn=>?_)
  ·have z:¬ inS c LL=true:=λz=>by
    have hn':(!(inS c LL))=true:=hn;rw[z] at hn';cases hn'
   have e:isName t=false:=by
    unfold isName;rw[zlp hc z,yhe]
   rw[e] at q;exact q
  ·have z:inS c LL=true:=by
    cases e:inS c LL with
    | true=>rfl
    | false =>
     refine absurd ?_ hn;show (!(inS c LL))=true
     rw[e];rfl
   exact⟨rfl,zam hc ha z,_,rfl⟩
 ·rintro σ H' ⟨rfl,ha,o,rfl⟩;have e:isName t=(decide ((0:Int)<((t.length:Nat):Int))&&decide (((t.length:Nat):Int)<9)):=by
   unfold isName short;rw[zwk ha,Bool.and_true]
   congr 1<;>(rw[decide_eq_decide];omega)
  rw[e] at q;refine⟨_,rfl,t,rfl,hz',_,_,rfl,rfl,_,rfl,?_⟩;refine ite2 (λc1=>?_) (λc1=>?_)
  ·rw[c1,ygc] at q;exact⟨_,_,rfl,rfl,q⟩
  ·rw[ybc.mpr c1,yqb] at q;exact q
theorem zuh (T:Tx K mg):FnOk P w K mg base CX0 1 T.zib.f T.zib.d zsd zjr:=by
 refine T.zib.ok zte ?_;rintro f c A o s H vs Q E hr ⟨t,rfl,hz,q⟩ X;have hz':=small hz;have q:=q H (Same.refl H);refine⟨_,  (zba (zxn yae rfl (zrr (pv 0)) (znc (i:=1) zte.nd rfl (.inl rfl))
   (zia (zgc (zra zli (pv 1) zfa rfl)
    (zia (zya zwf))
    zva)))
  (zia (zya (ztr (zpm zdo zdo zga (zua zlc rfl T.zwd ybb (zaa (pv 0) zca)) zga) (zzn (zdbb (zze zve (zua zlc rfl T.zwd ybb (zaa (pv 0) zca)) zga (zcb _)) (zzn (zze zkw (zed zto (pv 0) zga (λ_ _=>rfl)) zfa (zcb _))))))))),?_⟩
 refine⟨_,rfl,t,rfl,zvu (λi σ H'=>H'=H∧((t.cps.toList.take i).map λc=>inS c FF).all id=true∧∃o,σ=[some (.str t),o]) ⟨rfl,rfl,_,rfl⟩ ?_ ?_⟩
 ·rintro i c σ H' hc ⟨rfl,ha,o,rfl⟩;refine⟨_,rfl,_,_,rfl,rfl,_,rfl,?_⟩;refine ite2 (λhn=>?_) (λhn=>?_)
  ·have z:¬ inS c FF=true:=λz=>by
    have hn':(!(inS c FF))=true:=hn;rw[z] at hn';cases hn'
   have e:isNumber t=false:=by
    unfold isNumber isWhole;rw[zlp hc z,yqb,yhe]
   rw[e] at q;exact q
  ·have z:inS c FF=true:=by
    cases e:inS c FF with
    | true=>rfl
    | false =>
     refine absurd ?_ hn;show (!(inS c FF))=true
     rw[e];rfl
   exact⟨rfl,zam hc ha z,_,rfl⟩
 ·rintro σ H' ⟨rfl,ha,o,rfl⟩;have e:isNumber t=((decide ((0:Int)<((t.length:Nat):Int))&&decide (((t.length:Nat):Int)<4))&&zef t):=by
   unfold isNumber isWhole short;rw[zwk ha,ygc]
   congr 1
   congr 1<;>(rw[decide_eq_decide];omega)
  rw[e] at q;refine⟨_,rfl,t,rfl,hz',_,_,rfl,rfl,_,rfl,?_⟩;refine ite2 (λc1=>?_) (λc1=>?_)
  ·refine⟨_,_,rfl,rfl,_,rfl,?_⟩;refine ite2 (λc2=>?_) (λc2=>?_)
   ·rw[c1,c2,ygc,ygc] at q;refine⟨_,rfl,t,rfl,hz',rfl,_,rfl,?_⟩;refine ite2 (λc3=>?_) (λc3=>?_)
    ·rw[zjs c3] at q;exact q
    ·rw[zeq (λz=>c3 (decide_eq_true z))] at q;exact⟨_,rfl,t,_,_,rfl,rfl,hz',zvl (by have:=of_decide_eq_true c1;omega),rfl,q⟩
   ·rw[ybc.mpr c2,yhe,yqb] at q;exact q
  ·rw[ybc.mpr c1,yqb,yqb] at q;exact⟨_,rfl,iteF q⟩
theorem zpu {u:Str}:∀{ss:List Str},u∈ss->inV (.str u) (ss.map V.str)=true
 | x::ss,h=>by
  show (eqV (.str x) (.str u)||inV (.str u) (ss.map V.str))=true
  rcases yga.mp h with h|h
  ·subst h;simp[eqV]
  ·rw[zpu h,Bool.or_true]
theorem zxc {u:Str}{ss:List Str}:inV (.str u) (ss.map V.str)=true↔u∈ss:=by
 refine⟨λh=>?_,zpu⟩;unfold inV at h;obtain⟨y,hy,e⟩:=List.any_eq_true.mp h;obtain⟨z,hz,rfl⟩:=ytb.mp hy;have e':z=u:=by simpa [eqV] using e
 rw[← e'];exact hz
def spBe:Sp:=λvs H Q _=>Ex2 λl (ws:List Str)=>vs=[.ref l,.int 0]∧H l=some (.lst (ws.map V.str))∧(∀u∈ws,WdOk u)∧∀(r:Int) H',Same H H'->(r=((ws.length:Nat):Int)↔isWh ws=true)->Q (.int r) H'
def Rk (ws:List Str)(j n k:Nat):Prop:=(j≤9∧∃fl,rdL ws 9 1 0 []=rdL ws (9-j) n k fl)∨(9<j∧isWh ws=false)
theorem Rk.bad {ws:List Str}{j n k:Nat}(h:Rk ws j (n+1) k)(z:rd1 ws k=none):isWh ws=false:=by
 rcases h with⟨h1,fl,h2⟩|⟨_,h⟩
 ·refine zgq (h2.trans ?_);cases e:9-j with
  | zero=>rfl
  | succ f=>exact zzi z
 ·exact h
theorem Rk.go {ws:List Str}{j n k a i:Nat}{u:Str}{v:Wv}(h:Rk ws j (n+1) k)(z:rd1 ws k=some (u,a,v,i)):Rk ws (j+1) (n+a) i:=by
 rcases h with⟨h1,fl,h2⟩|⟨h1,h2⟩
 ·cases e:9-j with
  | zero =>
   rw[e] at h2;exact .inr ⟨by omega,zgq h2⟩
  | succ f =>
   rw[e] at h2;refine .inl ⟨by omega,fl++[(u,v)],?_⟩;rw[show 9-(j+1)=f by omega];have h3:rdL ws (f+1) (n+1) k fl=rdL ws f (n+a) i (fl++[(u,v)]):=by
    rw[zqy,z];rfl
   exact h2.trans h3
 ·exact .inr ⟨by omega,h2⟩
theorem Rk.fin {ws:List Str}{j k:Nat}(h:Rk ws j 0 k):isWh ws=(decide (j≤9)&&decide (k=ws.length)):=by
 rcases h with⟨h1,fl,h2⟩|⟨h1,h2⟩
 ·rw[zmr] at h2;rw[zzm h2,decide_eq_true h1,ygc]
 ·rw[h2,decide_eq_false (by omega),yqb]
theorem ziv {u:Str}(h:u∈(["both","any"]:List Str)):ar u=some 2:=by
 simp only[yga,yyb,or_false] at h
 rcases h with h|h<;>rw[h]<;>rfl
theorem zkv {u:Str}(h:u∈(["all","self","mine","mark","force"]:List Str)):ar u=some 0:=by
 simp only[yga,yyb,or_false] at h
 rcases h with h|h|h|h|h<;>rw[h]<;>rfl
theorem zjv {u:Str}(h1:u∉(["both","any"]:List Str))(h2:u∉(["all","self","mine","mark","force"]:List Str))(h3:u ≠ "not"):ar u=none:=by
 cases e:ar u with
 | none=>rfl
 | some a =>
  exfalso
  rcases zcs e with⟨e,_⟩|⟨e,_⟩|⟨e,_⟩|⟨e,_⟩|⟨e,_⟩|⟨e,_⟩|⟨e,_⟩|⟨e,_⟩
  ·exact h2 (by rw[e];simp)
  ·exact h2 (by rw[e];simp)
  ·exact h2 (by rw[e];simp)
  ·exact h2 (by rw[e];simp)
  ·exact h2 (by rw[e];simp)
  ·exact h3 e
  ·exact h1 (by rw[e];simp)
  ·exact h1 (by rw[e];simp)
theorem zgg (T:Tx K mg):FnOk P w K mg base CX0 2 T.zdb.f T.zdb.d zzc spBe:=by
 refine T.zdb.ok zta ?_;rintro f c A o s H vs Q E hr ⟨l,ws,rfl,hl,ok,q⟩ X;have bad:isWh ws=false->∀H',Same H H'->Q (.int (-1)) H':=λz H' S=>q (-1) H' S ⟨λy=>by omega,λy=>by rw[z] at y;cases y⟩;refine⟨_,  (zba (zqa (i:=2) zta.nd rfl (.inl rfl) zga)
  (zba (zqa (i:=3) zta.nd rfl (.inl rfl) zga)
  (zba (zpr yae (zra zfo (pv 2) zga (zcb _))
   (zba (zgc (PW.pt (zuy (zra zdo (pv 1) zga (zcb _)) (zst (zra zfbb (pv 1) (zua zza rfl T.zwd ybb (zaa (pv 0) zca)) (zcb _)))))
    (zia (zya (zxt znn zga)))
    zva)
   (zba (zqa (i:=4) zta.nd rfl (.inl rfl) (zed zec (pv 0) (pv 1) (λ_ _=>rfl)))
   (zba (zqa (i:=1) zta.nd rfl (.inl rfl) (zwa zic (pv 1) zga))
   (zba (zqa (i:=3) zta.nd rfl (.inl rfl) (zwa zic (pv 3) zga))
   (zba (zgc (zra zbk (pv 4) (zlf (zaa zfa (zaa zfa zca))) rfl)
    (zba (zgc (PW.pt (zuy (zra zfbb (pv 1) (zua zza rfl T.zwd ybb (zaa (pv 0) zca)) (zcb _)) (zst (PW.pt (zor (zra zve (pv 4) zfa (zcb _)) (zmm (zvj (zpl (zpa (zck T) hr rfl T.zsb.m T.zsb.F.kp (zcl T) .nil zpb (zaa (zed zec (pv 0) (pv 1) (λ_ _=>rfl)) zca))))))))))
     (zia (zya (zxt znn zga)))
     zva)
    (zba (zgc (PW.pt (zor (zra zve (pv 4) zfa (zcb _)) (zmm (zvj (zpl (zpa (zuh T) hr rfl T.zib.m T.zib.F.kp (zsi T) .nil zpb (zaa (zed zec (pv 0) (pv 1) (λ_ _=>rfl)) zca)))))))
     (zia (zya (zxt znn zga)))
     zva)
    (zia (zqa (i:=1) zta.nd rfl (.inl rfl) (zwa zic (pv 1) zga)))))
    zva)
   (zia (zgc (zra zbk (pv 4) (zlf (zaa zfa (zaa zfa zca))) rfl)
    (zia (zqa (i:=2) zta.nd rfl (.inl rfl) (zwa zic (pv 2) zga)))
    (zia (zgc (zra zbk (pv 4) (zlf (zaa zfa (zaa zfa (zaa zfa (zaa zfa (zaa zfa zca)))))) rfl)
     (zia (zqa (i:=2) zta.nd rfl (.inl rfl) (zwa zak (pv 2) zga)))
     (zia (zgc (zra zkw (pv 4) zfa (zcb _))
      (zia (zya (zxt znn zga)))
      zva))))))))))))
  (zba (zgc (zra zfo (pv 3) zga (zcb _))
   (zia (zya (zxt znn zga)))
   zva)
  (zia (zya (pv 1))))))),?_⟩
 refine⟨λm σ H'=>Ex4 λ(j k n:Nat) o=>m=ws.length-k∧σ=[some (.ref l),some (.int (k:Nat)),some (.int (n:Nat)),some (.int (j:Nat)),o]∧k≤ws.length∧Same H H'∧Rk ws j n k,⟨_,0,0,1,none,rfl,rfl,ylc _,Same.refl H,.inl ⟨ylc _,[],rfl⟩⟩,?_⟩;rintro m σ H' ⟨j,k,n,o,rfl,rfl,hk,S,R⟩;refine⟨_,rfl,_,_,rfl,rfl,_,rfl,?_⟩;have hl':=S _ _ hl;refine ite2 (λc=>?_) (λc=>?_)
 ·have c':(0:Int)<((n:Nat):Int):=of_decide_eq_true c;obtain⟨n',rfl⟩:∃n',n=n'+1:=⟨n-1,by omega⟩;refine⟨_,fun σ' H' n=>n,?_⟩;refine⟨_,rfl,_,_,rfl,rfl,_,rfl,?_⟩;refine ite2 (λc1=>absurd (of_decide_eq_true c1) (by omega)) (λc1=>?_);refine⟨_,rfl,_,rfl,l,_,rfl,.inl (SqL.of hl'),_,_,rfl,rfl,_,rfl,?_⟩;refine ite2 (λc2=>?_) (λc2=>?_)
  ·have c2':=of_decide_eq_true c2;rw[yba] at c2';exact⟨_,rfl,bad (R.bad (zrt (yzd (by omega)))) H' S⟩
  have c2':¬ (((k:Nat):Int)≥(((ws.map V.str).length:Nat):Int)):=λz=>c2 (decide_eq_true z);rw[yba] at c2';have hu:=ypb (show k<ws.length by omega);generalize ws[k]=u at hu;refine⟨_,rfl,_,rfl,l,_,_,_,rfl,rfl,SqL.of hl',zzl hu,_,rfl,_,_,rfl,rfl,_,rfl,_,_,rfl,rfl,?_⟩;refine⟨_,rfl,sz2,λtp htp=>⟨tp,_,rfl,.inr (SqT.of zea),rfl,rfl,_,rfl,?_⟩⟩;have S1:=S.trans (zma htp (.tup [.str "mark",.str "force"]));have hl1:=S1 _ _ hl;have hm1:(((n'+1:Nat):Nat):Int)-1=((n':Nat):Int):=by omega
  refine ite2 (λc3=>?_) (λc3=>?_)
  ·have m3:=zxc (ss:=["mark","force"]).mp c3
   rcases yga.mp m3 with e|e
   ·subst e;refine⟨_,rfl,_,rfl,l,_,rfl,.inl (SqL.of hl1),_,_,rfl,rfl,_,rfl,?_⟩;refine ite2 (λc4=>?_) (λc4=>?_)
    ·have c4':=of_decide_eq_true c4;rw[yba] at c4';have en:ws[k+1]?=none:=yzd (by omega);exact⟨_,rfl,bad (R.bad (by rw[zfg hu (a:=0) rfl,zwp (λu y=>by rw[en] at y;cases y)];rfl)) _ S1⟩
    have c4':¬ (((k:Nat):Int)+1≥(((ws.map V.str).length:Nat):Int)):=λz=>c4 (decide_eq_true z);rw[yba] at c4';have hn:=ypb (show k+1<ws.length by omega);generalize ws[k+1]=nn at hn;have hw:=ok nn (ygb hn);refine⟨_,rfl,rfl,_,rfl,?_⟩;refine ite2 (λ_=>?_) (λc=>absurd (decide_eq_true rfl) c);refine⟨_,rfl,_,rfl,l,_,_,_,rfl,rfl,SqL.of hl1,zzl (k:=k+1) hn,nn,rfl,hw.1,λH2 S12=>?_⟩;have S2:=S1.trans S12;have hl2:=S12 _ _ hl1;cases en:isName nn with
    | false=>exact⟨_,rfl,iteT ⟨_,rfl,bad (R.bad (by rw[zfg hu (a:=0) rfl,zwp (λu y=>by rw[hn] at y;cases y;exact en)];rfl)) _ S2⟩⟩
    | true =>
    refine⟨_,rfl,iteF ?_⟩;refine⟨_,rfl,rfl,_,rfl,?_⟩;refine ite2 (λc=>absurd c (by decide +kernel)) (λ_=>?_);refine⟨_,rfl,_,_,rfl,rfl,?_⟩;have hv:=zjx hn en;have hk2:k+2≤ws.length:=(by omega);refine⟨_,rfl,sz2,λtq htq=>⟨tq,_,rfl,.inr (SqT.of zea),rfl,rfl,_,rfl,?_⟩⟩;have S3:=S2.trans (zma htq (.tup [.str "both",.str "any"]));refine ite2 (λc5=>?_) (λc5=>?_)
    ·have ea:ar "mark" = some 2:=ziv (zxc (ss:=["both","any"]).mp c5);exact⟨_,rfl,_,_,rfl,rfl,ws.length-(k+2),by omega,j+1,k+2,n'+2,_,rfl,rfl,hk2,S3,R.go (by rw[zfg hu ea,hv];rfl)⟩
    refine⟨_,rfl,sz5,λtr htr=>⟨tr,_,rfl,.inr (SqT.of zea),rfl,rfl,_,rfl,?_⟩⟩;have S4:=S3.trans (zma htr (.tup [.str "all",.str "self",.str "mine",.str "mark",.str "force"]));refine ite2 (λc6=>?_) (λc6=>?_)
    ·have ea:ar "mark" = some 0:=zkv (zxc (ss:=["all","self","mine","mark","force"]).mp c6);exact⟨_,rfl,_,_,rfl,rfl,ws.length-(k+2),by omega,j+1,k+2,n',_,rfl,(by rw[← hm1];rfl),hk2,S4,R.go (a:=0) (by rw[zfg hu ea,hv];rfl)⟩
    refine⟨_,rfl,rfl,_,rfl,?_⟩;refine ite2 (λc7=>?_) (λc7=>?_)
    ·have n7:("mark":Str) ≠ "not":=λz=>by rw[z] at c7;exact absurd c7 (by decide +kernel)
     exact⟨_,rfl,bad (R.bad (znr hu (zjv (λz=>c5 (zxc (ss:=["both","any"]).mpr z)) (λz=>c6 (zxc (ss:=["all","self","mine","mark","force"]).mpr z)) n7))) _ S4⟩
    ·have ea:ar "mark" = some 1:=by
      have z:("mark":Str) = "not":=by
       rcases yth (("mark":Str) = "not") with z|z
       ·exact z
       ·exact absurd (show (!decide (V.str "mark" = V.str "not"))=true by rw[decide_eq_false (λy=>z (by injection y))];rfl) c7
      rw[z];rfl
     exact⟨ws.length-(k+2),by omega,j+1,k+2,n'+1,_,rfl,rfl,hk2,S4,R.go (by rw[zfg hu ea,hv];rfl)⟩
   ·have e:=yqa.mp e;subst e;refine⟨_,rfl,_,rfl,l,_,rfl,.inl (SqL.of hl1),_,_,rfl,rfl,_,rfl,?_⟩;refine ite2 (λc4=>?_) (λc4=>?_)
    ·have c4':=of_decide_eq_true c4;rw[yba] at c4';have en:ws[k+1]?=none:=yzd (by omega);exact⟨_,rfl,bad (R.bad (by rw[zfg hu (a:=0) rfl,zxp (λu y=>by rw[en] at y;cases y)];rfl)) _ S1⟩
    have c4':¬ (((k:Nat):Int)+1≥(((ws.map V.str).length:Nat):Int)):=λz=>c4 (decide_eq_true z);rw[yba] at c4';have hn:=ypb (show k+1<ws.length by omega);generalize ws[k+1]=nn at hn;have hw:=ok nn (ygb hn);refine⟨_,rfl,rfl,_,rfl,?_⟩;refine ite2 (λc=>absurd c (by decide +kernel)) (λ_=>?_);refine⟨_,rfl,rfl,_,rfl,?_⟩;refine ite2 (λ_=>?_) (λc=>absurd (decide_eq_true rfl) c);refine⟨_,rfl,_,rfl,l,_,_,_,rfl,rfl,SqL.of hl1,zzl (k:=k+1) hn,nn,rfl,hw.1,λH2 S12=>?_⟩;have S2:=S1.trans S12;have hl2:=S12 _ _ hl1;cases en:isNumber nn with
    | false=>exact⟨_,rfl,iteT ⟨_,rfl,bad (R.bad (by rw[zfg hu (a:=0) rfl,zxp (λu y=>by rw[hn] at y;cases y;exact en)];rfl)) _ S2⟩⟩
    | true =>
    refine⟨_,rfl,iteF ?_⟩;refine⟨_,rfl,_,_,rfl,rfl,?_⟩;obtain⟨ii,hii,rfl⟩:=zek nn en;have hv:=zmf hii hn;have hk2:k+2≤ws.length:=(by omega);refine⟨_,rfl,sz2,λtq htq=>⟨tq,_,rfl,.inr (SqT.of zea),rfl,rfl,_,rfl,?_⟩⟩;have S3:=S2.trans (zma htq (.tup [.str "both",.str "any"]));refine ite2 (λc5=>?_) (λc5=>?_)
    ·have ea:ar "force" = some 2:=ziv (zxc (ss:=["both","any"]).mp c5);exact⟨_,rfl,_,_,rfl,rfl,ws.length-(k+2),by omega,j+1,k+2,n'+2,_,rfl,rfl,hk2,S3,R.go (by rw[zfg hu ea,hv];rfl)⟩
    refine⟨_,rfl,sz5,λtr htr=>⟨tr,_,rfl,.inr (SqT.of zea),rfl,rfl,_,rfl,?_⟩⟩;have S4:=S3.trans (zma htr (.tup [.str "all",.str "self",.str "mine",.str "mark",.str "force"]));refine ite2 (λc6=>?_) (λc6=>?_)
    ·have ea:ar "force" = some 0:=zkv (zxc (ss:=["all","self","mine","mark","force"]).mp c6);exact⟨_,rfl,_,_,rfl,rfl,ws.length-(k+2),by omega,j+1,k+2,n',_,rfl,(by rw[← hm1];rfl),hk2,S4,R.go (a:=0) (by rw[zfg hu ea,hv];rfl)⟩
    refine⟨_,rfl,rfl,_,rfl,?_⟩;refine ite2 (λc7=>?_) (λc7=>?_)
    ·have n7:("force":Str) ≠ "not":=λz=>by rw[z] at c7;exact absurd c7 (by decide +kernel)
     exact⟨_,rfl,bad (R.bad (znr hu (zjv (λz=>c5 (zxc (ss:=["both","any"]).mpr z)) (λz=>c6 (zxc (ss:=["all","self","mine","mark","force"]).mpr z)) n7))) _ S4⟩
    ·have ea:ar "force" = some 1:=by
      have z:("force":Str) = "not":=by
       rcases yth (("force":Str) = "not") with z|z
       ·exact z
       ·exact absurd (show (!decide (V.str "force" = V.str "not"))=true by rw[decide_eq_false (λy=>z (by injection y))];rfl) c7
      rw[z];rfl
     exact⟨ws.length-(k+2),by omega,j+1,k+2,n'+1,_,rfl,rfl,hk2,S4,R.go (by rw[zfg hu ea,hv];rfl)⟩
  have S2:=S1;have m3:u∉(["mark","force"]:List Str):=λz=>c3 (zxc (ss:=["mark","force"]).mpr z);have hv:rdV ws u (k+1)=some (.non,k+1):=zeg (λz=>m3 (by rw[z];simp)) (λz=>m3 (by rw[z];simp));have hk2:k+1≤ws.length:=by omega
  refine⟨_,rfl,sz2,λtq htq=>⟨tq,_,rfl,.inr (SqT.of zea),rfl,rfl,_,rfl,?_⟩⟩;have S3:=S2.trans (zma htq (.tup [.str "both",.str "any"]));refine ite2 (λc5=>?_) (λc5=>?_)
  ·have ea:ar u=some 2:=ziv (zxc (ss:=["both","any"]).mp c5);exact⟨_,rfl,_,_,rfl,rfl,ws.length-(k+1),by omega,j+1,k+1,n'+2,_,rfl,rfl,hk2,S3,R.go (by rw[zfg hu ea,hv];rfl)⟩
  refine⟨_,rfl,sz5,λtr htr=>⟨tr,_,rfl,.inr (SqT.of zea),rfl,rfl,_,rfl,?_⟩⟩;have S4:=S3.trans (zma htr (.tup [.str "all",.str "self",.str "mine",.str "mark",.str "force"]));refine ite2 (λc6=>?_) (λc6=>?_)
  ·have ea:ar u=some 0:=zkv (zxc (ss:=["all","self","mine","mark","force"]).mp c6);exact⟨_,rfl,_,_,rfl,rfl,ws.length-(k+1),by omega,j+1,k+1,n',_,rfl,(by rw[← hm1];rfl),hk2,S4,R.go (a:=0) (by rw[zfg hu ea,hv];rfl)⟩
  refine⟨_,rfl,rfl,_,rfl,?_⟩;refine ite2 (λc7=>?_) (λc7=>?_)
  ·have n7:u ≠ "not":=λz=>by rw[z] at c7;exact absurd c7 (by decide +kernel)
   exact⟨_,rfl,bad (R.bad (znr hu (zjv (λz=>c5 (zxc (ss:=["both","any"]).mpr z)) (λz=>c6 (zxc (ss:=["all","self","mine","mark","force"]).mpr z)) n7))) _ S4⟩
  ·have ea:ar u=some 1:=by
    have z:u = "not":=by
     rcases yth (u = "not") with z|z
     ·exact z
     ·exact absurd (show (!decide (V.str u=V.str "not"))=true by rw[decide_eq_false (λy=>z (by injection y))];rfl) c7
    rw[z];rfl
   exact⟨ws.length-(k+1),by omega,j+1,k+1,n'+1,_,rfl,rfl,hk2,S4,R.go (by rw[zfg hu ea,hv];rfl)⟩
 ·have c':¬ (0:Int)<((n:Nat):Int):=of_decide_eq_false (ybc.mpr c);have en:n=0:=by omega
  subst en;have rf:=R.fin;refine⟨_,rfl,_,_,rfl,rfl,_,rfl,?_⟩;refine ite2 (λc1=>?_) (λc1=>?_)
  ·have c1':=of_decide_eq_true c1;exact⟨_,rfl,bad (by rw[rf,decide_eq_false (by omega),yqb]) H' S⟩
  ·have c1':¬ ((9:Int)<((j:Nat):Int)):=λz=>c1 (decide_eq_true z);refine⟨_,rfl,q _ H' S ?_⟩;rw[rf,decide_eq_true (by omega),ygc,decide_eq_true_eq];omega
section
variable {P:yya}{w:World}{K:yaa}{mg:Str->Option Value}{base:Heap}{f:Addr}{fd:yuc}
theorem zla (T:Tx K mg):FnOk P w K mg base CX0 2 T.zda.f T.zda.d zqg (znab K):=by
 refine T.zda.ok zmd ?_;rintro f c A o s H vs Q E hr ⟨p,k,m,rfl,TT,hk,hm,q⟩ X;refine⟨_,  (zba (zqa (i:=2) zmd.nd rfl (.inl rfl) (zed zec (pv 0) zga (λ_ _=>rfl)))
  (zba (zqa (i:=3) zmd.nd rfl (.inl rfl) (zed zec (pv 0) zga (λ_ _=>rfl)))
  (zba (zqr (zwa zic (pv 3) zga) (zbbb (pv 0) zga set_list))
  (zba (zqa (i:=4) zmd.nd rfl (.inl rfl) (zwa zco (zwa zco (pv 3) (pv 3)) zga))
  (zba (zgc (zra zfo (zua zza rfl T.zwd ybb (zaa (pv 2) zca)) zga (zcb _))
   (zia (zqa (i:=4) zmd.nd rfl (.inl rfl) (zwa zic (zwa zic (pv 4) (zwa zrl (zed zec (pv 2) (zwa zrl (pv 3) (zua zza rfl T.zwd ybb (zaa (pv 2) zca))) (λ_ _=>rfl)) zga)) (zwa zco (zwa zbu (pv 3) (zua zza rfl T.zwd ybb (zaa (pv 2) zca))) zga))))
   zva)
  (zia (zya (zwa zrl (zwa zbu (zwa zrl (zwa zco (zwa zic (pv 4) zga) zga) zga) zga) (pv 1))))))))),?_⟩
 obtain⟨⟨a,ns,h1,h2,h3⟩,lo⟩:=TT;refine⟨_,rfl,p,_,_,_,rfl,rfl,SqL.of h1,rfl,?_⟩;refine⟨_,rfl,p,_,_,_,rfl,rfl,SqL.of h1,rfl,?_⟩;refine⟨_,rfl,_,_,rfl,rfl,_,rfl,p,_,_,_,rfl,rfl,h1,rfl,?_⟩;have B:But p H (upd H p (.lst [.ref a,.int (k+1)])):=But.put;have T1:Tk K (upd H p (.lst [.ref a,.int (k+1)])) p (k+1):=⟨⟨a,ns,zea,h2.keep λo u z=>by rw[zoa (zbf z h1 (by intro y;cases y))];exact z,h3⟩,by omega⟩;have S1:SqL K (upd H p (.lst [.ref a,.int (k+1)])) a (ns.map V.int):=(h2.keep λo u z=>by rw[zoa (zbf z h1 (by intro y;cases y))];exact z).sq;have hl:(ns.map V.int).length=ns.length:=yba _;have big:∀c:Int,0≤c % m∧c % m<m:=λc=>⟨yte c (by omega),ysd c hm⟩;refine⟨_,rfl,_,rfl,_,_,rfl,rfl,.inl ⟨by omega,by omega⟩,_,_,rfl,rfl,.inr ⟨by decide,by decide⟩,?_⟩;refine⟨_,rfl,a,_,rfl,.inl S1,_,_,rfl,rfl,_,rfl,?_⟩;refine ite2 (λc=>?_) (λc=>?_)
 ·have c':(0:Int)<(((ns.map V.int).length:Nat):Int):=of_decide_eq_true c;have n0:0≤k % (((ns.map V.int).length:Nat):Int):=yte k (by omega);have n1:k % (((ns.map V.int).length:Nat):Int)<(((ns.map V.int).length:Nat):Int):=ysd k c';obtain⟨z,hz⟩:=zqz (ns:=ns) n0 (by omega);refine⟨_,rfl,_,rfl,_,rfl,_,rfl,a,_,rfl,.inl S1,_,_,rfl,rfl,c',a,_,_,_,rfl,rfl,S1,hz,_,_,rfl,rfl,(by show (0:Int)<2147483647;decide),_,_,rfl,rfl,?_⟩;refine⟨_,rfl,_,rfl,a,_,rfl,.inl S1,_,_,rfl,rfl,⟨c',by omega⟩,_,_,rfl,rfl,.inr ⟨by decide,by decide⟩,_,_,rfl,rfl,?_⟩;refine⟨_,rfl,_,_,rfl,rfl,_,_,rfl,rfl,.inr ⟨by decide,by decide⟩,_,_,rfl,rfl,(by show (0:Int)<2147483629;decide),_,_,rfl,rfl,⟨by decide,by decide⟩,_,rfl,_,_,rfl,rfl,hm,?_⟩;exact q _ _ (big _).1 (big _).2 B T1
 ·refine⟨_,rfl,_,_,rfl,rfl,_,_,rfl,rfl,.inr ⟨by decide,by decide⟩,_,_,rfl,rfl,(by show (0:Int)<2147483629;decide),_,_,rfl,rfl,⟨by decide,by decide⟩,_,rfl,_,_,rfl,rfl,hm,?_⟩;exact q _ _ (big _).1 (big _).2 B T1
end
theorem ztx {c d:Bool}{U A B:Prop}(hu:(if d=true then A else B)->U)(h1:c=true->d=true->A)(h2:B):if c=true then U else (if false=true then A else B):=by
 cases c with
 | true =>
  refine iteT (hu ?_);cases d with
  | true=>exact iteT (h1 rfl rfl)
  | false=>exact iteF h2
 | false=>exact iteF (iteF h2)
theorem zqcb {r:Int}(h0:0≤r)(h1:r<26):∃c,atI LL.cps.toList r=some c∧97≤c∧c≤122:=by
 have e:LL.cps.toList.length=26:=by decide +kernel
 obtain⟨v,hv,hm⟩:=zof (xs:=LL.cps.toList) h0 (by rw[e];exact h1);have q:∀c∈LL.cps.toList,97≤c∧c≤122:=by decide +kernel
 exact⟨v,hv,q v hm⟩
def sgn (c:Nat):Str:=⟨#[c]⟩
theorem zyd:∀cs:List Nat,(yla "" (cs.map sgn)).cps.toList=cs
 | []=>rfl
 | [c]=>rfl
 | c::d::r=>by
  have ih:=zyd (d::r);have e:yla "" ((c::d::r).map sgn)=sgn c ++ "" ++ yla "" ((d::r).map sgn):=rfl;rw[e];show ((#[c]++("":Str).cps)++(yla "" ((d::r).map sgn)).cps).toList=_
  rw[yqf,ih];rfl
theorem zen (a b:Str):(a++b).cps.toList=a.cps.toList++b.cps.toList:=by
 show (a.cps++b.cps).toList=_
 rw[yqf]
theorem zgz {cs:List Nat}{a c:Nat}(h1:1≤cs.length)(h8:cs.length≤8)(ha:a<cs.length)(hc:97≤c∧c≤122)(hs:∀x∈cs,97≤x∧x≤122) :
  zvd (yla "" ((cs.take a).map sgn)++sgn c++yla "" ((cs.drop (a+1)).map sgn)):=by
 have e:(yla "" ((cs.take a).map sgn)++sgn c++yla "" ((cs.drop (a+1)).map sgn)).cps.toList=cs.take a++[c]++cs.drop (a+1):=by
  rw[zen,zen,zyd,zyd];rfl
 have el:(yla "" ((cs.take a).map sgn)++sgn c++yla "" ((cs.drop (a+1)).map sgn)).length=cs.length:=by
  have q:=congrArg yvd e;rw[yad,yca,yca,yeb,ywb,ysb] at q;show (yla "" ((cs.take a).map sgn)++sgn c++yla "" ((cs.drop (a+1)).map sgn)).cps.size=_
  omega
 refine⟨by omega,by omega,?_⟩;rw[e];intro x hx
 rcases yia.mp hx with hx|hx
 ·rcases yia.mp hx with hx|hx
  ·exact hs x (yef hx)
  ·have e:x=c:=by simpa using hx
   rw[e];exact hc
 ·exact hs x (yff hx)
theorem zei {cs:List Nat}(h:cs.length≤8):((cs.map sgn).map (·.length)).sum+(cs.map sgn).length*("":Str).length≤16777216∧(yla "" (cs.map sgn)).length≤8:=by
 have c:=zgr (l:=(cs.map sgn).map (·.length)) (k:=1) (λx hx=>by
  obtain⟨u,hu,rfl⟩:=ytb.mp hx;obtain⟨c,_,rfl⟩:=ytb.mp hu;exact ywa 1)
 rw[yba,yba] at c;have e:("":Str).length=0:=rfl;have q:=congrArg yvd (zyd cs);rw[yad] at q;refine⟨?_,?_⟩
 ·rw[e];omega
 ·show (yla "" (cs.map sgn)).cps.size≤8;omega
theorem zncb:∀n:Nat,n<26->LL.cps.toList[n]?=some (97+n):=by decide +kernel
theorem zpcb {r:Int}{c:Nat}(h0:0≤r)(h1:r<26)(h:atI LL.cps.toList r=some c):(c:Int)=97+r:=by
 have q:=zin (zncb r.toNat (by omega));rw[show ((r.toNat:Nat):Int)=r by omega] at q;have e:=yva (h.symm.trans q);omega
def nmOf (cs:List Nat)(a c:Nat):Str:=yla "" ((cs.take a).map sgn)++sgn c++yla "" ((cs.drop (a+1)).map sgn)
theorem zpw {cs:List Nat}{a c d:Nat}(h:nmOf cs a c=nmOf cs a d):c=d:=by
 have e:=congrArg (λz:Str=>z.cps.toList) h;have f:∀x,(nmOf cs a x).cps.toList=cs.take a++([x]++cs.drop (a+1)):=λx=>by
  unfold nmOf;rw[zen,zen,zyd,zyd,yze];rfl
 simp only[f] at e;have e2:=List.append_cancel_left e;injection e2
structure Nm (H:Hp)(nl:Addr)(ns:List Str):Prop where
 at_:H nl=some (.lst (ns.map V.str))
 len:ns.length=4
 ok:∀n∈ns,zvd n
 nd:ns.Nodup
theorem Nm.ne {K:yaa}{H:Hp}{nl p:Addr}{ns:List Str}{k:Int}(h:Nm H nl ns)(t:Tk K H p k):nl≠p:=by
 obtain⟨⟨a,zs,h1,_⟩,_⟩:=t;refine zbf h.at_ h1 λz=>?_;injection z with z
 have e:=congrArg yvd z;rw[yba,h.len] at e;exact absurd e (by show ¬ (4=2);decide)
theorem Nm.but {K:yaa}{H H':Hp}{nl p:Addr}{ns:List Str}{k:Int}(h:Nm H nl ns)(t:Tk K H p k)(b:But p H H'):Nm H' nl ns:=⟨b _ _ (h.ne t) h.at_,h.len,h.ok,h.nd⟩
theorem Nm.same {H H':Hp}{nl:Addr}{ns:List Str}(h:Nm H nl ns)(b:Same H H'):Nm H' nl ns:=⟨b _ _ h.at_,h.len,h.ok,h.nd⟩
def zjy (K:yaa):Sp:=λvs H Q _=>Ex2 λp (k:Int)=>vs=[.ref p,.int 4]∧Tk K H p k∧k≤100000∧∀nl (ns:List Str) (k':Int) H',But p H H'->Tk K H' p k'->k'≤k+20->Nm H' nl ns->Q (.ref nl) H'
theorem ztm (T:Tx K mg):FnOk P w K mg base CX0 3 T.zkc.f T.zkc.d zqf (zjy K):=by
 refine T.zkc.ok zkb ?_;rintro f c A o s H vs Q E hr ⟨p,k,rfl,T0,hk,q⟩ X;refine⟨_,  (zba (zqa (i:=2) zkb.nd rfl (.inr rfl) zfa)
  (zba (zqa (i:=3) zkb.nd rfl (.inl rfl) (zwa zic zga (zpa (zla T) hr rfl T.zda.m T.zda.F.kp (zna T) .nil zpb (zaa (pv 0) (zaa zga zca)))))
  (zba (zqa (i:=4) zkb.nd rfl (.inl rfl) (zpa (zla T) hr rfl T.zda.m T.zda.F.kp (zna T) .nil zpb (zaa (pv 0) (zaa (pv 3) zca))))
  (zba (zwy (i:=5) zkb.nd rfl (.inl rfl) (own:=["_law_k"]) (cap:=["_law_letters","_law_state"]) rfl (zkd.chk rfl rfl) (.cons (j:=2) rfl (.inl rfl) (.inl rfl) (.cons (j:=0) rfl (.inl rfl) (.inl rfl) .nil)) (zxj rfl T.zoh (zaa (pv 3) zca)) (λ_ _ _ _=>(znc (i:=0) (show ybj (["_law_k","_law_letters","_law_state"]:List Str) by decide +kernel) rfl (.inl rfl))) (λ_ _ _ _=>znm) (λ_ _ _ _=>by exact (zed zto (pv 1) (zpa (zla T) hr rfl T.zda.m T.zda.F.kp (zna T) .nil zpb (zaa (pv 2) (zaa zga zca))) (λ_ _=>rfl))))
  (zba (zqa (i:=6) zkb.nd rfl (.inl rfl) (zpa (zla T) hr rfl T.zda.m T.zda.F.kp (zna T) .nil zpb (zaa (pv 0) (zaa zga zca))))
  (zba (zqa (i:=7) zkb.nd rfl (.inl rfl) (zob zca))
  (zba (zxn yae rfl (zxj rfl T.zoh (zaa (pv 1) zca)) (znc (i:=8) zkb.nd rfl (.inl rfl))
   (zba (zqa (i:=9) zkb.nd rfl (.inl rfl) (zed zto (pv 2) (zwa zrl (zwa zic (pv 6) (zwa zco zga (pv 8))) zga) (λ_ _=>rfl)))
   (zia (zth (zue ycc yhd yid zch (pv 7) (zaa (zwa ztc (zwa ztc (zue yxa ymb ynb zoe zfa (zaa (zgb zvc (pv 5) zxb (zwb (pv 4))) zca)) (pv 9)) (zue yxa ymb ynb zoe zfa (zaa (zgb zvc (pv 5) (zwb (zwa zic (pv 4) zga)) zxb) zca))) zca))))))
  (zia (zya (pv 7)))))))))),?_⟩
 refine⟨_,rfl,p,k,8,rfl,T0,by omega,by decide,λr1 H1 a1 b1 B1 T1=>⟨_,_,rfl,rfl,?_⟩⟩;refine⟨_,rfl,_,rfl,p,_,1+r1,rfl,T1,by omega,by omega,λr2 H2 a2 b2 B2 T2=>?_⟩;obtain⟨m,hm⟩:∃m:Nat,1+r1=(m:Int):=⟨(1+r1).toNat,by omega⟩;obtain⟨a,rfl⟩:∃a:Nat,r2=(a:Int):=⟨r2.toNat,by omega⟩;rw[hm] at b2;have B12:But p H H2:=B1.trans B2;refine⟨_,rfl,1+r1,rfl,by omega,by omega,?_⟩;rw[hm,ywi];refine zqs (λi ys H'=>Ex2 λ(cs:List Nat) (k':Int)=>ys=(cs.map sgn).map V.str∧cs.length=i∧i≤m∧(∀c∈cs,97≤c∧c≤122)∧But p H H'∧Tk K H' p k'∧k'≤k+2+i) ⟨[],_,rfl,rfl,ylc _,by simp,B12,T2,by omega⟩ ?_ ?_ ?_
 ·rintro i ys H' ⟨cs,k',rfl,h1,h2,_⟩;rw[yba,yba];exact small (by omega)
 ·rintro i ys H' hi ⟨cs,k',rfl,h1,h2,h3,B',T',hk'⟩;refine⟨rfl,_,rfl,_,rfl,p,k',26,rfl,T',by omega,by decide,λr H5 r0 r1' B5 T5=>?_⟩;obtain⟨c,hc,hc'⟩:=zqcb r0 r1';refine⟨LL,r,c,rfl,rfl,(by decide +kernel),hc,cs++[c],k'+1,?_,?_,hi,?_,B'.trans B5,T5,by omega⟩
  ·rw[yza,yza];rfl
  ·rw[yca,h1];rfl
  ·intro x hx
   rcases yia.mp hx with hx|hx
   ·exact h3 x hx
   ·have e:x=c:=by simpa using hx
    rw[e];exact hc'
 ·rintro ys H3 ⟨cs,k3,rfl,h1,h2,h3,B3,T3,hk3⟩ bl hbl;have T4:=T3.laid (o:=.lst ((cs.map sgn).map V.str)) hbl;have B4:But p H (upd H3 bl (.lst ((cs.map sgn).map V.str))):=B3.trans (But.laid hbl);have e4:upd H3 bl (.lst ((cs.map sgn).map V.str)) bl=some (.lst ((cs.map sgn).map V.str)):=zea;have npb:bl≠p:=ywc (T3.ne hbl);generalize upd H3 bl (.lst ((cs.map sgn).map V.str))=H4 at *;refine⟨_,rfl,p,_,26,rfl,T4,by omega,by decide,λr5 H5 a5 b5 B5 T5=>?_⟩;have e5:=B5 _ _ npb e4;refine⟨sz0,λnl hnl=>?_⟩;have nbn:bl≠nl:=zka e5 hnl;have S6:Same H5 (upd H5 nl (.lst [])):=zma hnl _;have f6:upd H5 nl (.lst []) nl=some (.lst (([]:List Str).map V.str)):=zea;generalize upd H5 nl (.lst [])=H6 at *;refine⟨_,rfl,4,rfl,by decide,by decide,?_⟩;refine zwo (lo:=0) (n:=4) (λi σ H'=>Ex3 λ(ns:List Str) o8 o9=>σ=[some (.ref p),some (.int 4),some (.str LL),some (.int (1+r1)),some (.int (a:Int)),some (.ref bl),some (.int r5),some (.ref nl),o8,o9]∧H' nl=some (.lst (ns.map V.str))∧ns.length=i∧(∀n∈ns,zvd n)∧ns.Nodup∧(∀n∈ns,Ex2 λ(j:Nat) (d:Nat)=>j<i∧atI LL.cps.toList ((r5+5*(0+(j:Int))) % 26)=some d∧n=nmOf cs a d)∧Same H5 H') ⟨[],_,_,rfl,f6,rfl,by simp,.nil,by simp,S6⟩ ?_ ?_
  ·rintro i σ H' hi ⟨ns,o8,o9,rfl,f',hl,hok,hnd,hwh,S'⟩;have e':=S' _ _ e5;have hq0:0≤(r5+5*(0+(i:Int))) % 26:=yte _ (by decide);have hq1:(r5+5*(0+(i:Int))) % 26<26:=ysd _ (by decide);obtain⟨c,hc,hc'⟩:=zqcb hq0 hq1;refine⟨_,rfl,_,rfl,_,rfl,_,_,rfl,rfl,.inl ⟨by decide,by decide⟩,_,_,rfl,rfl,_,_,rfl,rfl,(by show (0:Int)<26;decide),LL,_,c,rfl,rfl,(by decide +kernel),hc,?_⟩;have tk8:=zei (cs:=cs.take a) (by rw[yeb];omega);have dr8:=zei (cs:=cs.drop (a+1)) (by rw[ywb];omega);have ct:cutV ((cs.map sgn).map V.str) none (some (a:Int))=((cs.take a).map sgn).map V.str:=(by rw[zpk,ypi,ypi]);have cd:cutV ((cs.map sgn).map V.str) (some ((a+1:Nat):Int)) none=((cs.drop (a+1)).map sgn).map V.str:=(by rw[zqk,yqi,yqi]);refine⟨_,rfl,.inl ⟨rfl,_,SqL.of f'⟩,rfl,_,rfl,_,rfl,_,rfl,bl,_,rfl,SqL.of e',λs1 hs1=>?_⟩;rw[ct];refine⟨"",s1,_,rfl,rfl,SqL.of zea,tk8.1,_,rfl,_,_,rfl,rfl,?_,?_⟩
   ·have e1:(⟨#[c]⟩:Str).length=1:=rfl;exact small (by omega)
   have S1:=zma hs1 (.lst (((cs.take a).map sgn).map V.str));refine⟨rfl,_,rfl,_,rfl,_,_,rfl,rfl,_,rfl,bl,_,rfl,SqL.of (S1 _ _ e'),λs2 hs2=>?_⟩;have ea:(a:Int)+1=((a+1:Nat):Int):=(by omega);rw[ea,cd];refine⟨"",s2,_,rfl,rfl,SqL.of zea,dr8.1,_,_,rfl,rfl,?_,?_⟩
   ·have e1:(⟨#[c]⟩:Str).length=1:=rfl;rw[len_app];exact small (by omega)
   have S2:=zma hs2 (.lst (((cs.drop (a+1)).map sgn).map V.str));have S12:=S1.trans S2;refine⟨nl,_,_,rfl,rfl,S12 _ _ f',?_,?_⟩
   ·rw[yba];exact zyg (by omega)
   have nm:=zgz (cs:=cs) (a:=a) (c:=c) (by omega) (by omega) (by omega) hc' h3;have S7:Same H5 (upd (upd (upd H' s1 (.lst (((cs.take a).map sgn).map V.str))) s2 (.lst (((cs.drop (a+1)).map sgn).map V.str))) nl (.lst (ns.map V.str++[.str (yla "" ((cs.take a).map sgn)++sgn c++yla "" ((cs.drop (a+1)).map sgn))]))):=λb o e=>by
    rw[zoa (zka e hnl)];exact S12 _ _ (S' _ _ e)
   refine⟨ns++[yla "" ((cs.take a).map sgn)++sgn c++yla "" ((cs.drop (a+1)).map sgn)],_,_,rfl,?_,?_,?_,?_,?_,S7⟩
   ·rw[yza];exact zea
   ·rw[yca,hl];rfl
   ·intro x hx
    rcases yia.mp hx with hx|hx
    ·exact hok x hx
    ·have e:=yqa.mp hx;rw[e];exact nm
   ·rw[List.nodup_append];refine⟨hnd,List.pairwise_singleton _ _,λx hx y hy z=>?_⟩;rw[yqa.mp hy] at z;obtain⟨j,d,hj,hd,rfl⟩:=hwh x hx;have z':nmOf cs a d=nmOf cs a c:=z;have ed:=zpw z';subst ed;have u1:=zpcb hq0 hq1 hc;have u2:=zpcb (yte _ (by decide)) (ysd _ (by decide)) hd;have hi':i<4:=hi;omega
   ·intro x hx
    rcases yia.mp hx with hx|hx
    ·obtain⟨j,d,hj,hd⟩:=hwh x hx;exact⟨j,d,by omega,hd⟩
    ·exact⟨i,c,by omega,hc,yqa.mp hx⟩
  ·rintro σ H' ⟨ns,o8,o9,rfl,f',hl,hok,hnd,_,S'⟩;exact⟨_,rfl,q nl ns _ H' ((B4.trans B5).of_same S') (T5.same S') (by omega) ⟨f',hl,hok,hnd⟩⟩
theorem zvt {ns:List Str}{r:Int}(hl:ns.length=4)(hok:∀n∈ns,zvd n)(h0:0≤r)(h1:r<8):∃n:Str,atI (ns.map V.str++[V.str "all",V.str "do",V.str "not",V.str "mark"]) r=some (.str n)∧zvd n:=by
 obtain⟨v,hv,hm⟩:=zof (xs:=ns.map V.str++[V.str "all",V.str "do",V.str "not",V.str "mark"]) h0 (by rw[yca,yba,hl];exact h1)
 rcases yia.mp hm with hm|hm
 ·obtain⟨n,hn,rfl⟩:=ytb.mp hm;exact⟨n,hv,hok n hn⟩
 ·have q:∀u∈(["all","do","not","mark"]:List Str),1≤u.length∧u.length≤8∧∀c∈u.cps.toList,97≤c∧c≤122:=by decide +kernel
  simp only[yga,yyb,or_false] at hm
  rcases hm with e|e|e|e<;>subst e<;>exact⟨_,hv,q _ (by simp)⟩
theorem zgw {x y r:Int}(h0:0≤r)(h1:r<2)(hx:0≤x∧x<1000)(hy:0≤y∧y<6):∃i:Nat,atI [V.int x,V.int y] r=some (.int (i:Int))∧i<1000:=by
 obtain⟨v,hv,hm⟩:=zof (xs:=[V.int x,V.int y]) h0 h1;simp only[yga,yyb,or_false] at hm
 rcases hm with e|e
 ·subst e;exact⟨x.toNat,by rw[yrf hx.1];exact hv,by omega⟩
 ·subst e;exact⟨y.toNat,by rw[yrf hy.1];exact hv,by omega⟩
theorem zwt {r:Int}(h0:0≤r)(h1:r<3):∃y:Wh,atI [V.str "all",V.str "self",V.str "mine"] r=some (.str y.word)∧y.words=[y.word]∧y.ok∧y.size=1:=by
 obtain⟨v,hv,hm⟩:=zof (xs:=[V.str "all",V.str "self",V.str "mine"]) h0 h1;simp only[yga,yyb,or_false] at hm
 rcases hm with e|e|e<;>subst e
 ·exact⟨.all,hv,rfl,True.intro,rfl⟩
 ·exact⟨.self,hv,rfl,True.intro,rfl⟩
 ·exact⟨.mine,hv,rfl,True.intro,rfl⟩
def zoab (K:yaa):Sp:=λvs H Q _=>Ex4 λp nl (ns:List Str) (k:Int)=>vs=[.ref p,.ref nl]∧Tk K H p k∧k≤200000∧Nm H nl ns∧∀l (y:Wh) (k':Int) H',But p H H'->Tk K H' p k'->k'≤k+4->y.ok->y.size=1->H' l=some (.lst (y.words.map V.str))->Q (.ref l) H'
def zjj (K:yaa)(n:Nat):Sp:=λvs H Q _=>Ex5 λp nl (ns:List Str) (k:Int) (m:Nat)=>vs=[.ref p,.ref nl,.int m]∧Tk K H p k∧k+5*m≤100000∧Nm H nl ns∧1≤m∧m≤n∧m≤9 ∧
 ∀t l (y:Wh) (k':Int) H',But p H H'->Tk K H' p k'->k'≤k+5*y.size->y.ok->y.size≤m->H' t=some (.tup [.ref l,.int y.size])->H' l=some (.lst (y.words.map V.str))->Q (.ref t) H'
theorem zxi {y:Wh}(h:y.size≤9):y.words.length≤18:=by
 have:=y.zkn;omega
theorem zjo (T:Tx K mg):FnOk P w K mg base CX0 3 T.zqc.f T.zqc.d zrg (zoab K):=by
 refine T.zqc.ok zfi ?_;rintro f c A o s H vs Q E hr ⟨p,nl,ns,k,rfl,T0,hk,N0,q⟩ X;refine⟨_,  (zba (zqa (i:=2) zfi.nd rfl (.inl rfl) (zpa (zla T) hr rfl T.zda.m T.zda.F.kp (zna T) .nil zpb (zaa (pv 0) (zaa zga zca))))
  (zba (zgc (zra zdo (pv 2) zga (zcb _))
   (zia (zya (zob (zaa zfa (zaa (zed zec (zwa znd (pv 1) (zob (zaa zfa (zaa zfa (zaa zfa (zaa zfa zca)))))) (zpa (zla T) hr rfl T.zda.m T.zda.F.kp (zna T) .nil zpb (zaa (pv 0) (zaa (zwa zic (zua zza rfl T.zwd ybb (zaa (pv 1) zca)) zga) zca))) (λ_ _=>rfl)) zca)))))
   zva)
  (zba (zgc (zra zdo (pv 2) zga (zcb _))
   (zia (zya (zob (zaa zfa (zaa (zah zqi rfl T.zds boot_str (zaa (zed zec (zob (zaa (zpa (zla T) hr rfl T.zda.m T.zda.F.kp (zna T) .nil zpb (zaa (pv 0) (zaa zga zca))) (zaa (zpa (zla T) hr rfl T.zda.m T.zda.F.kp (zna T) .nil zpb (zaa (pv 0) (zaa zga zca))) zca))) (zpa (zla T) hr rfl T.zda.m T.zda.F.kp (zna T) .nil zpb (zaa (pv 0) (zaa zga zca))) (λ_ _=>rfl)) zca)) zca)))))
   zva)
  (zia (zya (zob (zaa (zed zec (zob (zaa zfa (zaa zfa (zaa zfa zca)))) (zpa (zla T) hr rfl T.zda.m T.zda.F.kp (zna T) .nil zpb (zaa (pv 0) (zaa zga zca))) (λ_ _=>rfl)) zca))))))),?_⟩
 refine⟨_,rfl,p,k,7,rfl,T0,by omega,by decide,λr1 H1 a1 b1 B1 T1=>?_⟩;have N1:=N0.but T0 B1;refine⟨_,rfl,_,_,rfl,rfl,_,rfl,?_⟩;refine ite2 (λc1=>?_) (λc1=>?_)
 ·refine⟨_,rfl,sz4,λl1 hl1=>?_⟩;have S1:=zma hl1 (.lst [.str "all",.str "do",.str "not",.str "mark"]);have N2:=N1.same S1;refine⟨nl,l1,_,_,rfl,rfl,N2.at_,zea,?_,λl2 hl2=>?_⟩
  ·rw[yba,N0.len];exact (by decide:4+4≤yfa)
  have S2:=zma hl2 (.lst (ns.map V.str++[.str "all",.str "do",.str "not",.str "mark"]));have N3:=N2.same S2;have T3:=(T1.same S1).same S2;have e3:upd (upd H1 l1 (.lst [.str "all",.str "do",.str "not",.str "mark"])) l2 (.lst (ns.map V.str++[.str "all",.str "do",.str "not",.str "mark"])) l2=some (.lst (ns.map V.str++[.str "all",.str "do",.str "not",.str "mark"])):=zea;have B3:But p H (upd (upd H1 l1 (.lst [.str "all",.str "do",.str "not",.str "mark"])) l2 (.lst (ns.map V.str++[.str "all",.str "do",.str "not",.str "mark"]))):=B1.of_same (S1.trans S2);have n3:l2≠p:=ywc ((T1.same S1).ne hl2);generalize upd (upd H1 l1 (.lst [.str "all",.str "do",.str "not",.str "mark"])) l2 (.lst (ns.map V.str++[.str "all",.str "do",.str "not",.str "mark"]))=H3 at *;have el:(((ns.map V.str).length:Nat):Int)=4:=by rw[yba,N0.len];rfl
  refine⟨_,rfl,_,rfl,nl,_,rfl,.inl (SqL.of N3.at_),_,_,rfl,rfl,p,_,_,rfl,T3,by omega,(by rw[el];decide),λr4 H4 a4 b4 B4 T4=>?_⟩;obtain⟨n,hn,hok⟩:=zvt N0.len N0.ok a4 (by rw[el] at b4;exact b4);refine⟨l2,_,_,_,rfl,rfl,SqL.of (B4 _ _ n3 e3),hn,sz2,λl3 hl3=>?_⟩;exact q l3 (.mark n) _ _ (B3.trans (B4.trans (But.laid hl3))) (T4.laid hl3) (by omega) hok rfl zea
 ·refine⟨_,rfl,_,_,rfl,rfl,_,rfl,?_⟩;refine ite2 (λc2=>?_) (λc2=>?_)
  ·refine⟨_,rfl,p,_,1000,rfl,T1,by omega,by decide,λr2 H2 a2 b2 B2 T2=>?_⟩;refine⟨_,rfl,p,_,6,rfl,T2,by omega,by decide,λr3 H3 a3 b3 B3 T3=>?_⟩;refine⟨sz2,λl1 hl1=>?_⟩;have e1:upd H3 l1 (.lst [.int r2,.int r3]) l1=some (.lst [.int r2,.int r3]):=zea;refine⟨_,rfl,p,_,2,rfl,T3.laid hl1,by omega,by decide,λr4 H4 a4 b4 B4 T4=>?_⟩;have e4:=B4 l1 _ (ywc (T3.ne hl1)) e1;obtain⟨i,hi,hi'⟩:=zgw a4 b4 ⟨a2,b2⟩ ⟨a3,b3⟩;refine⟨l1,_,_,_,rfl,rfl,SqL.of e4,hi,_,rfl,(by rw[yni];exact zoo i hi'),sz2,λl3 hl3=>?_⟩;exact q l3 (.force i) _ _ (B1.trans (B2.trans (B3.trans ((But.laid hl1).trans (B4.trans (But.laid hl3)))))) (T4.laid hl3) (by omega) hi' rfl zea
  ·refine⟨sz3,λl1 hl1=>?_⟩;have e1:upd H1 l1 (.lst [.str "all",.str "self",.str "mine"]) l1=some (.lst [.str "all",.str "self",.str "mine"]):=zea;refine⟨_,rfl,p,_,3,rfl,T1.laid hl1,by omega,by decide,λr4 H4 a4 b4 B4 T4=>?_⟩;have e4:=B4 l1 _ (ywc (T1.ne hl1)) e1;obtain⟨y,hy,hw,hok,hsz⟩:=zwt a4 b4;refine⟨l1,_,_,_,rfl,rfl,SqL.of e4,hy,sz1,λl3 hl3=>?_⟩;exact q l3 y _ _ (B1.trans ((But.laid hl1).trans (B4.trans (But.laid hl3)))) (T4.laid hl3) (by omega) hok hsz (by rw[hw];exact zea)
theorem zns (T:Tx K mg){n:Nat}(zug:FnOk P w K mg base CX0 (n+3) T.zsa.f T.zsa.d zgd (zjj K n)):FnOk P w K mg base CX0 (n+4) T.zsa.f T.zsa.d zgd (zjj K (n+1)):=by
 refine T.zsa.ok zyb ?_;rintro f c A o s H vs Q E hr ⟨p,nl,ns,k,m,rfl,T0,hk,N0,m1,m2,m9,q⟩ X;refine⟨_,  (zba (zqa (i:=3) zyb.nd rfl (.inl rfl) (zpa (zla T).up hr rfl T.zda.m T.zda.F.kp (zna T) .nil zpb (zaa (pv 0) (zaa zga zca))))
  (zba (zgc (PW.pt (zor (zra zfo (pv 3) zga (zcb _)) (zmm (zra zfo (pv 2) zga (zcb _)))))
   (zba (zqr (zpa zug hr rfl T.zsa.m T.zsa.F.kp (zcf T) .nil zpb (zaa (pv 0) (zaa (pv 1) (zaa (zwa zak (pv 2) zga) zca)))) (zsr (n:=2) rfl (zle (znc (i:=4) zyb.nd rfl (.inl rfl)) (zle (znc (i:=5) zyb.nd rfl (.inl rfl)) zom))))
   (zia (zya (zlf (zaa (zwa znd (zob (zaa zfa zca)) (pv 4)) (zaa (zwa zic (pv 5) zga) zca))))))
   zva)
  (zba (zgc (PW.pt (zor (zra zfo (pv 3) zga (zcb _)) (zmm (zra zfo (pv 2) zga (zcb _)))))
   (zba (zqr (zpa zug hr rfl T.zsa.m T.zsa.F.kp (zcf T) .nil zpb (zaa (pv 0) (zaa (pv 1) (zaa (zwa zak (pv 2) zga) zca)))) (zsr (n:=2) rfl (zle (znc (i:=4) zyb.nd rfl (.inl rfl)) (zle (znc (i:=5) zyb.nd rfl (.inl rfl)) zom))))
   (zba (zqr (zpa zug hr rfl T.zsa.m T.zsa.F.kp (zcf T) .nil zpb (zaa (pv 0) (zaa (pv 1) (zaa (zwa zak (zwa zak (pv 2) zga) (pv 5)) zca)))) (zsr (n:=2) rfl (zle (znc (i:=6) zyb.nd rfl (.inl rfl)) (zle (znc (i:=7) zyb.nd rfl (.inl rfl)) zom))))
   (zia (zya (zlf (zaa (zwa znd (zwa znd (zob (zaa (zed zec (zob (zaa zfa (zaa zfa zca))) (zwa zrl (pv 3) zga) (λ_ _=>rfl)) zca)) (pv 4)) (pv 6)) (zaa (zwa zic (zwa zic zga (pv 5)) (pv 7)) zca)))))))
   zva)
  (zia (zya (zlf (zaa (zpa (zjo T).up hr rfl T.zqc.m T.zqc.F.kp (zpq T) .nil zpb (zaa (pv 0) (zaa (pv 1) zca))) (zaa zga zca)))))))),?_⟩
 refine⟨_,rfl,p,k,8,rfl,T0,by omega,by decide,λr1 H1 a1 b1 B1 T1=>?_⟩;have N1:=N0.but T0 B1;refine⟨_,rfl,_,_,rfl,rfl,_,rfl,?_⟩;refine ztx (d:=decide ((1:Int)<(m:Int))) (λz=>⟨_,rfl,_,_,rfl,rfl,_,rfl,z⟩) (λc1 c2=>?_) ?_
 ·have c2':(1:Int)<(m:Int):=of_decide_eq_true c2;refine⟨_,rfl,_,rfl,_,rfl,_,_,rfl,rfl,p,nl,ns,k+1,m-1,(by rw[show ((m-1:Nat):Int)=(m:Int)-1 by omega];rfl),T1,by omega,N1,by omega,by omega,by omega,λt l y k' H2 B2 T2 hk2 ok hsz et el=>?_⟩;refine⟨t,_,rfl,SqT.of et,rfl,_,_,rfl,_,_,rfl,rfl,?_⟩;refine⟨sz1,λl1 hl1=>?_⟩;have S1:=zma hl1 (.lst [.str "not"]);refine⟨_,rfl,l1,l,_,_,rfl,rfl,zea,S1 _ _ el,?_,λl2 hl2=>?_⟩
  ·rw[yba,ysb];have:=zxi (y:=y) (by omega);exact small (by omega)
  have S2:=zma hl2 (.lst ([.str "not"]++y.words.map V.str));refine⟨_,rfl,_,_,rfl,rfl,sz2,λt2 ht2=>?_⟩;have e2:upd (upd H2 l1 (.lst [.str "not"])) l2 (.lst ([.str "not"]++y.words.map V.str)) l2=some (.lst ((Wh.not y).words.map V.str)):=zea;have S3:=zma ht2 (.tup [.ref l2,.int ((y.size:Int)+1)]);refine q t2 l2 (.not y) k' _ (B1.trans (B2.of_same (S1.trans (S2.trans S3)))) (T2.same (S1.trans (S2.trans S3))) ?_ ok ?_ ?_ (S3 _ _ e2)
  ·show k'≤k+5*((y.size+1:Nat):Int);omega
  ·show y.size+1≤m;omega
  ·rw[zea];rfl
 refine⟨_,rfl,_,_,rfl,rfl,_,rfl,?_⟩;refine ztx (d:=decide ((2:Int)<(m:Int))) (λz=>⟨_,rfl,_,_,rfl,rfl,_,rfl,z⟩) (λc1 c2=>?_) ?_
 ·have c2':(2:Int)<(m:Int):=of_decide_eq_true c2;refine⟨_,rfl,_,rfl,_,rfl,_,_,rfl,rfl,p,nl,ns,k+1,m-2,(by rw[show ((m-2:Nat):Int)=(m:Int)-2 by omega];rfl),T1,by omega,N1,by omega,by omega,by omega,λt l y k2 H2 B2 T2 hk2 ok hsz et el=>?_⟩;refine⟨t,_,rfl,SqT.of et,rfl,_,_,rfl,_,_,rfl,rfl,?_⟩;have yp:=y.size_pos;have N2:=N1.but T1 B2;refine⟨_,rfl,_,rfl,_,rfl,_,_,rfl,rfl,_,rfl,_,_,rfl,rfl,p,nl,ns,k2,m-1-y.size,(by rw[show ((m-1-y.size:Nat):Int)=(m:Int)-1-(y.size:Int) by omega];rfl),T2,by omega,N2,by omega,by omega,by omega,λt' l' y' k3 H3 B3 T3 hk3 ok' hsz' et' el'=>?_⟩;refine⟨t',_,rfl,SqT.of et',rfl,_,_,rfl,_,_,rfl,rfl,?_⟩;have nlp:l≠p:=by
   obtain⟨⟨a,zs,h1,_⟩,_⟩:=T2;refine zbf el h1 λz=>?_;injection z with z
   cases ey:y.words with
   | nil=>exact absurd ey y.zcm
   | cons u r =>
    rw[ey] at z;injection z with z _
    cases z
  have el3:=B3 _ _ nlp el;refine⟨sz2,λl1 hl1=>?_⟩;have S1:=zma hl1 (.lst [.str "both",.str "any"]);have hq0:0≤r1 % 2:=yte _ (by decide);have hq1:r1 % 2<2:=ysd _ (by decide);obtain⟨z,hz,hz'⟩:∃z:Wh,atI [V.str "both",V.str "any"] (r1 % 2)=some (.str z.word)∧z.words=z.word::(y.words++y'.words)∧z.ok∧z.size=y.size+y'.size+1:=by
   obtain⟨v,hv,hm⟩:=zof (xs:=[V.str "both",V.str "any"]) hq0 hq1;simp only[yga,yyb,or_false] at hm
   rcases hm with e|e<;>subst e
   ·exact⟨.both y y',hv,rfl,⟨ok,ok'⟩,rfl⟩
   ·exact⟨.any y y',hv,rfl,⟨ok,ok'⟩,rfl⟩
  obtain⟨zw,zok,zs⟩:=hz';refine⟨_,rfl,_,_,rfl,rfl,(by show (0:Int)<2;decide),l1,_,_,_,rfl,rfl,SqL.of zea,hz,sz1,λl2 hl2=>?_⟩;have S2:=zma hl2 (.lst [.str z.word]);have w1:=zxi (y:=y) (by omega);have w2:=zxi (y:=y') (by omega);refine⟨_,rfl,l2,l,_,_,rfl,rfl,zea,(S1.trans S2) _ _ el3,?_,λl3 hl3=>?_⟩
  ·rw[yba,ysb];exact small (by omega)
  have S3:=zma hl3 (.lst ([.str z.word]++y.words.map V.str));refine⟨_,rfl,l3,l',_,_,rfl,rfl,zea,(S1.trans (S2.trans S3)) _ _ el',?_,λl4 hl4=>?_⟩
  ·rw[yca,yba,yba,ysb];exact small (by omega)
  have S4:=zma hl4 (.lst (([.str z.word]++y.words.map V.str)++y'.words.map V.str));refine⟨_,rfl,_,_,rfl,rfl,_,rfl,_,_,rfl,rfl,sz2,λt2 ht2=>?_⟩;have S5:=zma ht2 (.tup [.ref l4,.int (1+(y.size:Int)+(y'.size:Int))]);have S15:=S1.trans (S2.trans (S3.trans (S4.trans S5)));refine q t2 l4 z k3 _ (B1.trans (B2.trans (B3.of_same S15))) (T3.same S15) ?_ zok ?_ ?_ ?_
  ·rw[zs];omega
  ·omega
  ·rw[zea,zs,show (((y.size+y'.size+1:Nat)):Int)=1+(y.size:Int)+(y'.size:Int) by omega]
  ·refine S5 _ _ ?_;rw[zea,zw,yob,yza];simp
 ·refine⟨_,rfl,_,rfl,p,nl,ns,k+1,rfl,T1,by omega,N1,λl y k' H2 B2 T2 hk2 ok hsz el=>?_⟩;refine⟨sz2,λt2 ht2=>?_⟩;have S3:=zma ht2 (.tup [.ref l,.int 1]);refine q t2 l y k' _ (B1.trans (B2.of_same S3)) (T2.same S3) (by rw[hsz];omega) ok (by omega) ?_ (S3 _ _ el);rw[zea,hsz];rfl
theorem zos (T:Tx K mg):FnOk P w K mg base CX0 3 T.zsa.f T.zsa.d zgd (zjj K 0):=by
 have no:∀vs H Q E,¬ zjj K 0 vs H Q E:=λvs H Q E h=>by
  obtain⟨p,nl,ns,k,m,_,_,_,_,m1,m2,_⟩:=h;omega
 exact⟨λvs H Q E h=>absurd h (no vs H Q E),λA outer s H args us vs Q E _ _ _ _ h=>absurd h (no vs H Q E)⟩
theorem zno (T:Tx K mg):∀n:Nat,FnOk P w K mg base CX0 (n+3) T.zsa.f T.zsa.d zgd (zjj K n)
 | 0=>zos T
 | n+1=>zns T (zno T n)
def Sm (t:Str)(L:Nat):Prop:=t.length≤L∧∀c∈t.cps.toList,c<256
theorem Sm.up {t:Str}{L M:Nat}(h:Sm t L)(le:L≤M):Sm t M:=⟨yab h.1 le,h.2⟩
theorem Sm.app {a b:Str}{L M:Nat}(h:Sm a L)(g:Sm b M):Sm (a++b) (L+M):=by
 refine⟨by rw[len_app];have:=h.1;have:=g.1;omega,λc hc=>?_⟩;have e:(a++b).cps.toList=a.cps.toList++b.cps.toList:=by
  show (a.cps++b.cps).toList=_
  simp
 rw[e] at hc
 rcases yia.mp hc with z|z
 ·exact h.2 c z
 ·exact g.2 c z
def tot (ws:List Str):Nat:=(ws.map (·.length)).sum+ws.length
theorem zqd (a b:List Str):tot (a++b)=tot a+tot b:=by
 unfold tot;rw[yza,List.sum_append,yca];omega
theorem zgj (u:Str):tot [u]=u.length+1:=by
 unfold tot;simp
theorem zfr (ws:List Str)(k:Nat):tot (ws.take k)+tot (ws.drop k)=tot ws:=by
 rw[← zqd,ysh]
theorem zwv (ws:List Str)(k:Nat):tot (ws.drop k)≤tot ws:=by
 have:=zfr ws k;omega
theorem zct (ws:List Str)(k:Nat):tot (ws.drop (k+1))≤tot (ws.drop k):=by
 rw[← ybf];exact zwv _ _
theorem zwh {c:Nat}:∀{ws:List Str},c∈(yla " " ws).cps.toList->c=32∨∃u∈ws,c∈u.cps.toList:=by
 intro ws h;have e:=zfd 32 ws;have h':c∈jl 32 (ws.map λw=>w.cps.toList):=by rw[← e];exact h
 have go:∀xs:List (List Nat),c∈jl 32 xs->c=32∨∃x∈xs,c∈x:=by
  intro xs
  induction xs with
  | nil=>intro h;cases h
  | cons x r ih =>
   intro h;cases r with
   | nil=>exact .inr ⟨x,by simp,h⟩
   | cons y r =>
    have h2:c∈x++32::jl 32 (y::r):=h
    rcases yia.mp h2 with z|z
    ·exact .inr ⟨x,by simp,z⟩
    ·rcases yga.mp z with z|z
     ·exact .inl z
     ·rcases ih z with z|⟨q,hq,hc⟩
      ·exact .inl z
      ·exact .inr ⟨q,yea _ hq,hc⟩
 rcases go _ h' with z|⟨x,hx,hc⟩
 ·exact .inl z
 ·obtain⟨u,hu,rfl⟩:=ytb.mp hx;exact .inr ⟨u,hu,hc⟩
theorem zqh {ws:List Str}{L:Nat}(h:tot ws≤L)(hc:∀u∈ws,∀c∈u.cps.toList,c<256):Sm (yla " " ws) L:=by
 refine⟨?_,λc z=>?_⟩
 ·have a:=zym " " ws;have e:(" ":Str).length=1:=rfl;rw[e,Nat.mul_one] at a;exact yab a h
 ·rcases zwh z with y|⟨u,hu,y⟩
  ·omega
  ·exact hc u hu c y
theorem zox (c:Nat):∀{xs:List (List Nat)},xs≠[]->(jl c xs).length+1=(xs.map (·.length)).sum+xs.length
 | [],h=>absurd rfl h
 | [x],_=>by simp[jl]
 | x::y::r,_=>by
  have ih:=zox c (xs:=y::r) (by simp);show (x++c::jl c (y::r)).length+1=_
  rw[yca,yta,yob,yse,yta (a:=x)];omega
theorem znx (c:Nat):∀{xs:List (List Nat)} {x:List Nat},x∈xs->∀d∈x,d∈jl c xs
 | [y],x,h,d,hd=>by
  have e:x=y:=by simpa using h
  rw[← e];exact hd
 | y::z::r,x,h,d,hd=>by
  show d∈y++c::jl c (z::r)
  rcases yga.mp h with e|e
  ·rw[← e];exact yzb _ hd
  ·exact yra _ (yea _ (znx c e d hd))
theorem split_list (t:Str):jl 32 ((yjb t " ").map λw=>w.cps.toList)=t.cps.toList:=by
 rw[← zfd];exact congrArg (λs:Str=>s.cps.toList) (yrd t " ")
theorem zqn (t:Str):tot (yjb t " ")=t.length+1:=by
 have a:=zox 32 (xs:=(yjb t " ").map λw=>w.cps.toList) (by simpa using zgm t " ");rw[split_list] at a;have e:t.cps.toList.length=t.length:=by simp[yvh]
 rw[e] at a;rw[a];unfold tot;rw[yph,yba]
 congr 2
theorem zmx {x:Nat}:∀{l:List Nat},x∈l->x≤l.sum
 | y::r,h=>by
  rw[yse]
  rcases yga.mp h with e|e
  ·omega
  ·have:=zmx e;omega
theorem zir {t:Str}{L:Nat}(h:Sm t L):∀u∈yjb t " ",Sm u L:=by
 intro u hu;refine⟨?_,λc hc=>?_⟩
 ·have a:=zqn t;have b:u.length≤((yjb t " ").map (·.length)).sum:=zmx (ytf hu);have d:0<(yjb t " ").length:=List.length_pos_of_mem hu;unfold tot at a;have:=h.1;omega
 ·refine h.2 c ?_;rw[← split_list];exact znx 32 (ytf hu) c hc
theorem Sm.tx {t:Str}(h:Sm t 1000):TxOk t:=⟨yab h.1 (by decide),λu hu=>zir h u hu⟩
@[elab_as_elim] theorem laid {H:Hp} {l:Addr} {o:HO} {motive:Hp->Prop} (hl:H l=none) (h:∀H1,Same H H1->H1 l=some o->motive H1):motive (upd H l o):=h _ (zma hl o) zea
theorem ztp {t:Str}{lo hi:Option Int}:∀c∈(yki t lo hi).cps.toList,c∈t.cps.toList:=by
 intro c hc;unfold yki at hc
 split at hc
 ·exact hc
 ·have hc':c∈(Builtin.Str.strSliceIndices lo hi 1 t.length).filterMap (t.cps[·]?):=by simpa using hc
  obtain⟨i,_,e⟩:=ybd.mp hc';exact ygb (by rw[yqh];exact e)
theorem Sm.slice {t:Str}{L:Nat}(h:Sm t L)(lo hi:Option Int){t':Str}(e:t'=yki t lo hi)(l:t'.length≤t.length):Sm t' L:=by
 refine⟨yab l h.1,λc hc=>h.2 c ?_⟩;rw[e] at hc;exact ztp c hc
abbrev SG:Str:="abelmnortuz 0129-/,.:AZ_\n\t+*"
theorem zmv:SG.length=28:=by decide +kernel
theorem zndb:∀c∈SG.cps.toList,c<256:=by decide +kernel
theorem zly {r:Int}{c:Nat}(h:atI SG.cps.toList r=some c)(h0:0≤r):Sm ⟨#[c]⟩ 1:=by
 refine⟨by show 1≤1;decide,λd hd=>?_⟩;have e:d=c:=by simpa using hd
 rw[e];have m:c∈SG.cps.toList:=by
  have z:=h;unfold atI at z;cases e:ixN SG.cps.toList.length r with
  | none=>rw[e] at z;cases z
  | some j =>
   rw[e] at z;exact ygb z
 exact zndb c m
abbrev SL:List Str:=(["all","self","mine","mark","force","not","both","any","do","each","one","come","leave","hurt"]:List Str)++(["gain","lack","lose","score","draw","none","here","less","more","as","per","mute","/"]:List Str)++(["steal","be","hold","when","instead","may","","0","00","999","1000","-","a","abcdefghi"]:List Str)
theorem zlcb:SL.all (λu=>decide (u.length≤10)&&u.cps.toList.all λc=>decide (c<256))=true:=by decide +kernel
theorem zlv {r:Int}(h0:0≤r)(h1:r<41):∃u:Str,atI (SL.map V.str) r=some (.str u)∧Sm u 10:=by
 obtain⟨v,hv,hm⟩:=zof (xs:=SL.map V.str) h0 h1;obtain⟨u,hu,rfl⟩:=ytb.mp hm;have z:=yec.mp zlcb u hu;rw[yxb,decide_eq_true_eq,yec] at z;exact⟨u,hv,z.1,λc hc=>of_decide_eq_true (z.2 c hc)⟩
theorem jsz {ys:List Str}{n:Nat}(h:tot ys≤n)(hn:n≤1000):(ys.map (·.length)).sum+ys.length*(" ":Str).length≤16777216:=by
 have e:(" ":Str).length=1:=rfl;rw[e,Nat.mul_one];unfold tot at h;omega
def zpab (K:yaa):Sp:=λvs H Q _=>Ex4 λp (k:Int) (t:Str) (L:Nat)=>vs=[.ref p,.str t]∧Tk K H p k∧k≤10000∧Sm t L∧L≤450∧∀t' k' H',Sm t' (2*L+20)->But p H H'->Tk K H' p k'->k'≤k+10->Q (.str t') H'
theorem zoi (T:Tx K mg):FnOk P w K mg base CX0 3 T.zbc.f T.zbc.d zsg (zpab K):=by
 refine T.zbc.ok zfb ?_;rintro f c A o s H vs Q E hr ⟨p,k,t,L,rfl,T0,hk,sm,hL,q⟩ X;have lt:=sm.1;have hz:t.length≤yfa:=small (by omega);refine⟨_,  (zba (zqa (i:=2) zfb.nd rfl (.inl rfl) (zpa (zla T) hr rfl T.zda.m T.zda.F.kp (zna T) .nil zpb (zaa (pv 0) (zaa zga zca))))
  (zba (zqa (i:=3) zfb.nd rfl (.inl rfl) (zpa (zla T) hr rfl T.zda.m T.zda.F.kp (zna T) .nil zpb (zaa (pv 0) (zaa (zwa zic (zua zlc rfl T.zwd ybb (zaa (pv 1) zca)) zga) zca))))
  (zba (zqa (i:=4) zfb.nd rfl (.inl rfl) zfa)
  (zba (zqa (i:=5) zfb.nd rfl (.inl rfl) (zed zto (pv 4) (zpa (zla T) hr rfl T.zda.m T.zda.F.kp (zna T) .nil zpb (zaa (pv 0) (zaa (zua zlc rfl T.zwd ybb (zaa (pv 4) zca)) zca))) (λ_ _=>rfl)))
  (zba (zgc (zra zve (pv 2) zga (zcb _))
   (zia (zya (zwa ztc (zgb zkl (pv 1) zxb (zwb (pv 3))) (zgb zkl (pv 1) (zwb (zwa zic (pv 3) zga)) zxb))))
   zva)
  (zba (zgc (zra zve (pv 2) zga (zcb _))
   (zia (zya (zwa ztc (zwa ztc (zgb zkl (pv 1) zxb (zwb (pv 3))) (pv 5)) (zgb zkl (pv 1) (zwb (pv 3)) zxb))))
   zva)
  (zba (zgc (zra zve (pv 2) zga (zcb _))
   (zia (zya (zwa ztc (zwa ztc (zgb zkl (pv 1) zxb (zwb (pv 3))) (pv 5)) (zgb zkl (pv 1) (zwb (zwa zic (pv 3) zga)) zxb))))
   zva)
  (zba (zqa (i:=6) zfb.nd rfl (.inl rfl) (zue yxa yve ywe zvm (pv 1) (zaa zfa zca)))
  (zba (zqa (i:=7) zfb.nd rfl (.inl rfl) (zpa (zla T) hr rfl T.zda.m T.zda.F.kp (zna T) .nil zpb (zaa (pv 0) (zaa (zua zza rfl T.zwd ybb (zaa (pv 6) zca)) zca))))
  (zba (zqa (i:=8) zfb.nd rfl (.inl rfl) (zpa (zla T) hr rfl T.zda.m T.zda.F.kp (zna T) .nil zpb (zaa (pv 0) (zaa (zua zza rfl T.zwd ybb (zaa (pv 6) zca)) zca))))
  (zba (zgc (zra zve (pv 2) zga (zcb _))
   (zia (zya (zue yxa ymb ynb zoe zfa (zaa (zwa znd (zgb zvc (pv 6) zxb (zwb (pv 7))) (zgb zvc (pv 6) (zwb (zwa zic (pv 7) zga)) zxb)) zca))))
   zva)
  (zba (zgc (zra zve (pv 2) zga (zcb _))
   (zia (zya (zue yxa ymb ynb zoe zfa (zaa (zwa znd (zwa znd (zgb zvc (pv 6) zxb (zwb (pv 7))) (zob (zaa (zed zec (pv 6) (pv 8) (λ_ _=>rfl)) zca))) (zgb zvc (pv 6) (zwb (pv 7)) zxb)) zca))))
   zva)
  (zba (zgc (zra zve (pv 2) zga (zcb _))
   (zia (zya (zue yxa ymb ynb zoe zfa (zaa (zwa znd (zwa znd (zgb zvc (pv 6) zxb (zwb (pv 7))) (zob (zaa (zed zec (pv 6) (pv 8) (λ_ _=>rfl)) zca))) (zgb zvc (pv 6) (zwb (zwa zic (pv 7) zga)) zxb)) zca))))
   zva)
  (zba (zqa (i:=9) zfb.nd rfl (.inl rfl) (zob (zaa zfa (zaa zfa (zaa zfa (zaa zfa (zaa zfa (zaa zfa (zaa zfa (zaa zfa (zaa zfa (zaa zfa (zaa zfa (zaa zfa (zaa zfa (zaa zfa zca))))))))))))))))
  (zba (zqa (i:=9) zfb.nd rfl (.inl rfl) (zwa znd (pv 9) (zob (zaa zfa (zaa zfa (zaa zfa (zaa zfa (zaa zfa (zaa zfa (zaa zfa (zaa zfa (zaa zfa (zaa zfa (zaa zfa (zaa zfa (zaa zfa zca))))))))))))))))
  (zba (zqa (i:=9) zfb.nd rfl (.inl rfl) (zwa znd (pv 9) (zob (zaa zfa (zaa zfa (zaa zfa (zaa zfa (zaa zfa (zaa zfa (zaa zfa (zaa zfa (zaa zfa (zaa zfa (zaa zfa (zaa zfa (zaa zfa (zaa zfa zca)))))))))))))))))
  (zba (zgc (zra zve (pv 2) zga (zcb _))
   (zia (zya (zue yxa ymb ynb zoe zfa (zaa (zwa znd (zwa znd (zgb zvc (pv 6) zxb (zwb (pv 7))) (zob (zaa (zed zec (pv 9) (zpa (zla T) hr rfl T.zda.m T.zda.F.kp (zna T) .nil zpb (zaa (pv 0) (zaa (zua zza rfl T.zwd ybb (zaa (pv 9) zca)) zca))) (λ_ _=>rfl)) zca))) (zgb zvc (pv 6) (zwb (zwa zic (pv 7) zga)) zxb)) zca))))
   zva)
  (zia (zya (zue yxa ymb ynb zoe zfa (zaa (zwa znd (zwa znd (zgb zvc (pv 6) zxb (zwb (pv 7))) (zob (zaa (zed zec (pv 9) (zpa (zla T) hr rfl T.zda.m T.zda.F.kp (zna T) .nil zpb (zaa (pv 0) (zaa (zua zza rfl T.zwd ybb (zaa (pv 9) zca)) zca))) (λ_ _=>rfl)) zca))) (zgb zvc (pv 6) (zwb (pv 7)) zxb)) zca))))))))))))))))))))),?_⟩
 refine⟨_,rfl,p,k,8,rfl,T0,by omega,by decide,λway H1 w0 w1 B1 T1=>?_⟩;refine⟨_,rfl,_,rfl,t,rfl,hz,_,_,rfl,rfl,p,_,_,rfl,T1,by omega,by omega,λat1 H2 a0 a1 B2 T2=>?_⟩;refine⟨_,rfl,_,rfl,_,rfl,_,rfl,(by rw[zmv];decide),p,_,_,rfl,T2,by omega,(by rw[zmv];decide),λr H3 r0 r1 B3 T3=>?_⟩;obtain⟨c,hc⟩:=zkab (t:=SG) r0 r1;refine⟨_,_,c,rfl,rfl,(by rw[zmv];decide),hc,?_⟩;have sc:=zly hc r0;have B:=B1.trans (B2.trans B3);have ret3:∀{t':Str},Sm t' (2*L+20)->Q (.str t') H3:=λz=>q _ _ H3 z B T3 (by omega);refine⟨_,rfl,rfl,_,rfl,?_⟩;refine ite2 (λ_=>?_) (λ_=>?_)
 ·refine⟨_,rfl,_,rfl,_,rfl,t,rfl,hz,λta ea la=>?_⟩;refine⟨_,rfl,_,rfl,_,_,rfl,rfl,_,rfl,t,rfl,hz,λtb eb lb=>?_⟩;have sa:=sm.slice _ _ ea la;have sb:=sm.slice _ _ eb lb;exact⟨_,_,rfl,rfl,small (by have:=sa.1;have:=sb.1;omega),ret3 ((sa.app sb).up (by omega))⟩
 refine⟨_,rfl,rfl,_,rfl,?_⟩;refine ite2 (λ_=>?_) (λ_=>?_)
 ·refine⟨_,rfl,_,rfl,_,rfl,t,rfl,hz,λta ea la=>?_⟩;have sa:=sm.slice _ _ ea la;refine⟨_,rfl,_,_,rfl,rfl,small (by have:=sa.1;have:=sc.1;omega),?_⟩;refine⟨_,rfl,_,rfl,_,rfl,t,rfl,hz,λtb eb lb=>?_⟩;have sb:=sm.slice _ _ eb lb;exact⟨_,_,rfl,rfl,small (by have:=(sa.app sc).1;have:=sb.1;omega),ret3 (((sa.app sc).app sb).up (by omega))⟩
 refine⟨_,rfl,rfl,_,rfl,?_⟩;refine ite2 (λ_=>?_) (λ_=>?_)
 ·refine⟨_,rfl,_,rfl,_,rfl,t,rfl,hz,λta ea la=>?_⟩;have sa:=sm.slice _ _ ea la;refine⟨_,rfl,_,_,rfl,rfl,small (by have:=sa.1;have:=sc.1;omega),?_⟩;refine⟨_,rfl,_,rfl,_,_,rfl,rfl,_,rfl,t,rfl,hz,λtb eb lb=>?_⟩;have sb:=sm.slice _ _ eb lb;exact⟨_,_,rfl,rfl,small (by have:=(sa.app sc).1;have:=sb.1;omega),ret3 (((sa.app sc).app sb).up (by omega))⟩
 refine⟨_,rfl,rfl,t,_,rfl,rfl,(by decide +kernel),(by have:yfa=16777216:=rfl;omega),λl hl=>?_⟩;have hws:=zir sm;have htt:=zqn t;have hne:=zgm t " ";generalize yjb t " " = ws at *;have wl0:0<ws.length:=List.length_pos_iff.mpr hne;have wlt:ws.length≤460:=by
  unfold tot at htt;omega
 have T4:=T3.laid (o:=.lst (ws.map V.str)) hl;have pl:=T3.ne hl;have B4:But p H (upd H3 l (.lst (ws.map V.str))):=B.trans (But.laid hl);have e4:upd H3 l (.lst (ws.map V.str)) l=some (.lst (ws.map V.str)):=zea;generalize upd H3 l (.lst (ws.map V.str))=H4 at *;refine⟨_,rfl,_,rfl,l,_,rfl,.inl (SqL.of e4),p,_,_,rfl,T4,by omega,(by rw[yba];omega),λkk H5 k0 k1 B5 T5=>?_⟩;obtain⟨kn,rfl⟩:=ywg k0;have e5:=B5 _ _ (ywc pl) e4;refine⟨_,rfl,_,rfl,l,_,rfl,.inl (SqL.of e5),p,_,_,rfl,T5,by omega,(by rw[yba];omega),λjj H6 j0 j1 B6 T6=>?_⟩;obtain⟨jn,rfl⟩:=ywg j0;have e6:=B6 _ _ (ywc pl) e5;have BB:But p H H6:=B4.trans (B5.trans B6);rw[yba] at k1 j1;have hj:=ypb (show jn<ws.length by omega);generalize ws[jn]=wj at hj;have sj:=hws wj (ygb hj);have tk1:=zfr ws kn;have tk2:=zct ws kn;have cT:∀u∈ws.take kn,∀c∈u.cps.toList,c<256:=λu hu=>(hws u (yef hu)).2;have cD:∀j,∀u∈ws.drop j,∀c∈u.cps.toList,c<256:=λj u hu=>(hws u (yff hu)).2;have xT:cutV (ws.map V.str) none (some ((kn:Nat):Int))=(ws.take kn).map V.str:=by rw[zpk,ypi]
 have xD:∀j:Nat,cutV (ws.map V.str) (some ((j:Nat):Int)) none=(ws.drop j).map V.str:=λj=>by rw[zqk,yqi]
 have xD1:cutV (ws.map V.str) (some (((kn:Nat):Int)+1)) none=(ws.drop (kn+1)).map V.str:=xD (kn+1);refine⟨_,rfl,rfl,_,rfl,?_⟩;refine ite2 (λ_=>?_) (λ_=>?_)
 ·refine⟨rfl,_,rfl,_,rfl,_,rfl,l,_,rfl,SqL.of e6,λs1 hs1=>?_⟩;rw[xT];refine laid hs1 λHa Sa ea=>?_;refine⟨_,rfl,_,rfl,_,_,rfl,rfl,_,rfl,l,_,rfl,SqL.of (Sa _ _ e6),λs2 hs2=>?_⟩;rw[xD1];refine laid hs2 λHb Sb eb=>?_;refine⟨s1,s2,_,_,rfl,rfl,Sb _ _ ea,eb,small (by rw[yba,yba,yeb,ywb];omega),λc hc=>?_⟩;rw[← yza];refine laid hc λHc Sc ec=>?_;have tt:tot (ws.take kn++ws.drop (kn+1))≤2*L+20:=by rw[zqd];omega
  exact⟨" ",c,_,rfl,rfl,SqL.of ec,jsz tt (by omega),q _ _ Hc (zqh tt (λu hu=>(yia.mp hu).elim (cT u) (cD _ u))) (((BB.of_same Sa).of_same Sb).of_same Sc) (((T6.same Sa).same Sb).same Sc) (by omega)⟩
 refine⟨_,rfl,rfl,_,rfl,?_⟩;refine ite2 (λ_=>?_) (λ_=>?_)
 ·refine⟨rfl,_,rfl,_,rfl,_,rfl,l,_,rfl,SqL.of e6,λs1 hs1=>?_⟩;rw[xT];refine laid hs1 λHa Sa ea=>?_;have Ta:=T6.same Sa;have Ba:=BB.of_same Sa;have el:=Sa _ _ e6;have hwj:=hj;have swj:=sj;refine⟨_,rfl,_,rfl,l,_,_,_,rfl,rfl,SqL.of el,zzl hj,sz1,λm1 hm1=>?_⟩;refine laid hm1 λHm Sm1 em=>?_;refine⟨s1,m1,_,_,rfl,rfl,Sm1 _ _ ea,em,small (by rw[yba,yeb];show _+1≤1000;omega),λc1 hc1=>?_⟩;refine laid hc1 λHn Sn en=>?_;refine⟨_,rfl,_,rfl,_,rfl,l,_,rfl,SqL.of (Sn _ _ (Sm1 _ _ el)),λs2 hs2=>?_⟩;rw[xD kn];refine laid hs2 λHb Sb eb=>?_;refine⟨c1,s2,_,_,rfl,rfl,Sb _ _ en,eb,small (by rw[yca,yba,yba,yeb,ywb];show _+1+_≤1000;omega),λc hc=>?_⟩;rw[show ((ws.take kn).map V.str++[V.str wj])++(ws.drop (kn)).map V.str=((ws.take kn++[wj])++ws.drop (kn)).map V.str by simp];refine laid hc λHc Sc ec=>?_;have tt:tot ((ws.take kn++[wj])++ws.drop (kn))≤2*L+20:=by
   rw[zqd,zqd,zgj];have:=swj.1;omega
  exact⟨" ",c,_,rfl,rfl,SqL.of ec,jsz tt (by omega),q _ _ Hc (zqh tt (λu hu=>(yia.mp hu).elim (λhu=>(yia.mp hu).elim (cT u) (λhu=>by rw[yqa.mp hu];exact swj.2)) (cD _ u))) ((((Ba.of_same Sm1).of_same Sn).of_same Sb).of_same Sc) ((((Ta.same Sm1).same Sn).same Sb).same Sc) (by omega)⟩
 refine⟨_,rfl,rfl,_,rfl,?_⟩;refine ite2 (λ_=>?_) (λ_=>?_)
 ·refine⟨rfl,_,rfl,_,rfl,_,rfl,l,_,rfl,SqL.of e6,λs1 hs1=>?_⟩;rw[xT];refine laid hs1 λHa Sa ea=>?_;have Ta:=T6.same Sa;have Ba:=BB.of_same Sa;have el:=Sa _ _ e6;have hwj:=hj;have swj:=sj;refine⟨_,rfl,_,rfl,l,_,_,_,rfl,rfl,SqL.of el,zzl hj,sz1,λm1 hm1=>?_⟩;refine laid hm1 λHm Sm1 em=>?_;refine⟨s1,m1,_,_,rfl,rfl,Sm1 _ _ ea,em,small (by rw[yba,yeb];show _+1≤1000;omega),λc1 hc1=>?_⟩;refine laid hc1 λHn Sn en=>?_;refine⟨_,rfl,_,rfl,_,_,rfl,rfl,_,rfl,l,_,rfl,SqL.of (Sn _ _ (Sm1 _ _ el)),λs2 hs2=>?_⟩;rw[xD1];refine laid hs2 λHb Sb eb=>?_;refine⟨c1,s2,_,_,rfl,rfl,Sb _ _ en,eb,small (by rw[yca,yba,yba,yeb,ywb];show _+1+_≤1000;omega),λc hc=>?_⟩;rw[show ((ws.take kn).map V.str++[V.str wj])++(ws.drop (kn+1)).map V.str=((ws.take kn++[wj])++ws.drop (kn+1)).map V.str by simp];refine laid hc λHc Sc ec=>?_;have tt:tot ((ws.take kn++[wj])++ws.drop (kn+1))≤2*L+20:=by
   rw[zqd,zqd,zgj];have:=swj.1;omega
  exact⟨" ",c,_,rfl,rfl,SqL.of ec,jsz tt (by omega),q _ _ Hc (zqh tt (λu hu=>(yia.mp hu).elim (λhu=>(yia.mp hu).elim (cT u) (λhu=>by rw[yqa.mp hu];exact swj.2)) (cD _ u))) ((((Ba.of_same Sm1).of_same Sn).of_same Sb).of_same Sc) ((((Ta.same Sm1).same Sn).same Sb).same Sc) (by omega)⟩
 refine⟨(by show 14≤yfa;decide),λq1 hq1=>?_⟩;refine laid hq1 λHp1 Sp1 ep1=>?_;refine⟨_,rfl,(by show 13≤yfa;decide),λq2 hq2=>?_⟩;refine laid hq2 λHp2 Sp2 ep2=>?_;refine⟨q1,q2,_,_,rfl,rfl,Sp2 _ _ ep1,ep2,(by show 27≤yfa;decide),λq3 hq3=>?_⟩;refine laid hq3 λHp3 Sp3 ep3=>?_;refine⟨_,rfl,(by show 14≤yfa;decide),λq4 hq4=>?_⟩;refine laid hq4 λHp4 Sp4 ep4=>?_;refine⟨q3,q4,_,_,rfl,rfl,Sp4 _ _ ep3,ep4,(by show 41≤yfa;decide),λsl hsl=>?_⟩;have Tp4:=(((T6.same Sp1).same Sp2).same Sp3).same Sp4;have psl:=Tp4.ne hsl;refine laid hsl λHp5 Sp5 es=>?_;have T7:=Tp4.same Sp5;have S67:=Sp1.trans (Sp2.trans (Sp3.trans (Sp4.trans Sp5)));have B7:=BB.of_same S67;have e7:=S67 _ _ e6;refine⟨_,rfl,rfl,_,rfl,?_⟩;refine ite2 (λ_=>?_) (λ_=>?_)
 ·refine⟨rfl,_,rfl,_,rfl,_,rfl,l,_,rfl,SqL.of e7,λs1 hs1=>?_⟩;rw[xT];refine laid hs1 λHa Sa ea=>?_;refine⟨_,rfl,_,rfl,_,rfl,sl,_,rfl,.inl (SqL.of (Sa _ _ es)),p,_,_,rfl,T7.same Sa,by omega,(by show (0:Int)<41;decide),λr Hr r0 r1 Br Ta=>?_⟩;have Tz:=T7.same Sa;have Ba:=(B7.of_same Sa).trans Br;have np:∀{b:Addr} {o:HO},Ha b=some o->b≠p->Hr b=some o:=λe n=>Br _ _ n e;have el:=np (Sa _ _ e7) (ywc pl);have ea:=np ea (T7.ne hs1).symm;obtain⟨wj,hat,swj0⟩:=zlv r0 r1;have swj:Sm wj 10:=swj0;refine⟨sl,_,_,_,rfl,rfl,SqL.of (np (Sa _ _ es) (ywc psl)),hat,sz1,λm1 hm1=>?_⟩;refine laid hm1 λHm Sm1 em=>?_;refine⟨s1,m1,_,_,rfl,rfl,Sm1 _ _ ea,em,small (by rw[yba,yeb];show _+1≤1000;omega),λc1 hc1=>?_⟩;refine laid hc1 λHn Sn en=>?_;refine⟨_,rfl,_,rfl,_,_,rfl,rfl,_,rfl,l,_,rfl,SqL.of (Sn _ _ (Sm1 _ _ el)),λs2 hs2=>?_⟩;rw[xD1];refine laid hs2 λHb Sb eb=>?_;refine⟨c1,s2,_,_,rfl,rfl,Sb _ _ en,eb,small (by rw[yca,yba,yba,yeb,ywb];show _+1+_≤1000;omega),λc hc=>?_⟩;rw[show ((ws.take kn).map V.str++[V.str wj])++(ws.drop (kn+1)).map V.str=((ws.take kn++[wj])++ws.drop (kn+1)).map V.str by simp];refine laid hc λHc Sc ec=>?_;have tt:tot ((ws.take kn++[wj])++ws.drop (kn+1))≤2*L+20:=by
   rw[zqd,zqd,zgj];have:=swj.1;omega
  exact⟨" ",c,_,rfl,rfl,SqL.of ec,jsz tt (by omega),q _ _ Hc (zqh tt (λu hu=>(yia.mp hu).elim (λhu=>(yia.mp hu).elim (cT u) (λhu=>by rw[yqa.mp hu];exact swj.2)) (cD _ u))) ((((Ba.of_same Sm1).of_same Sn).of_same Sb).of_same Sc) ((((Ta.same Sm1).same Sn).same Sb).same Sc) (by omega)⟩
 refine⟨rfl,_,rfl,_,rfl,_,rfl,l,_,rfl,SqL.of e7,λs1 hs1=>?_⟩;rw[xT];refine laid hs1 λHa Sa ea=>?_;refine⟨_,rfl,_,rfl,_,rfl,sl,_,rfl,.inl (SqL.of (Sa _ _ es)),p,_,_,rfl,T7.same Sa,by omega,(by show (0:Int)<41;decide),λr Hr r0 r1 Br Ta=>?_⟩;have Tz:=T7.same Sa;have Ba:=(B7.of_same Sa).trans Br;have np:∀{b:Addr} {o:HO},Ha b=some o->b≠p->Hr b=some o:=λe n=>Br _ _ n e;have el:=np (Sa _ _ e7) (ywc pl);have ea:=np ea (T7.ne hs1).symm;obtain⟨wj,hat,swj0⟩:=zlv r0 r1;have swj:Sm wj 10:=swj0;refine⟨sl,_,_,_,rfl,rfl,SqL.of (np (Sa _ _ es) (ywc psl)),hat,sz1,λm1 hm1=>?_⟩;refine laid hm1 λHm Sm1 em=>?_;refine⟨s1,m1,_,_,rfl,rfl,Sm1 _ _ ea,em,small (by rw[yba,yeb];show _+1≤1000;omega),λc1 hc1=>?_⟩;refine laid hc1 λHn Sn en=>?_;refine⟨_,rfl,_,rfl,_,rfl,l,_,rfl,SqL.of (Sn _ _ (Sm1 _ _ el)),λs2 hs2=>?_⟩;rw[xD kn];refine laid hs2 λHb Sb eb=>?_;refine⟨c1,s2,_,_,rfl,rfl,Sb _ _ en,eb,small (by rw[yca,yba,yba,yeb,ywb];show _+1+_≤1000;omega),λc hc=>?_⟩;rw[show ((ws.take kn).map V.str++[V.str wj])++(ws.drop (kn)).map V.str=((ws.take kn++[wj])++ws.drop (kn)).map V.str by simp];refine laid hc λHc Sc ec=>?_;have tt:tot ((ws.take kn++[wj])++ws.drop (kn))≤2*L+20:=by
  rw[zqd,zqd,zgj];have:=swj.1;omega
 exact⟨" ",c,_,rfl,rfl,SqL.of ec,jsz tt (by omega),q _ _ Hc (zqh tt (λu hu=>(yia.mp hu).elim (λhu=>(yia.mp hu).elim (cT u) (λhu=>by rw[yqa.mp hu];exact swj.2)) (cD _ u))) ((((Ba.of_same Sm1).of_same Sn).of_same Sb).of_same Sc) ((((Ta.same Sm1).same Sn).same Sb).same Sc) (by omega)⟩
abbrev TW:List Str:=["not","both","any"]
theorem ztz {r:Int}(h0:0≤r)(h1:r<3):∃u:Str,atI [V.str "not",V.str "both",V.str "any"] r=some (.str u)∧u∈TW:=by
 obtain⟨v,hv,hm⟩:=zof (xs:=TW.map V.str) h0 h1;obtain⟨u,hu,rfl⟩:=ytb.mp hm;exact⟨u,hv,hu⟩
theorem zkcb:∀u∈TW,Sm u 4:=by
 intro u hu;have z:TW.all (λu=>decide (u.length≤4)&&u.cps.toList.all λc=>decide (c<256))=true:=by decide +kernel
 have z:=yec.mp z u hu;rw[yxb,decide_eq_true_eq,yec] at z;exact⟨z.1,λc hc=>of_decide_eq_true (z.2 c hc)⟩
theorem zex {ys:List Str}{n:Nat}(h:∀u∈ys,u.length≤n):tot ys≤ys.length*(n+1):=by
 induction ys with
 | nil=>simp[tot]
 | cons a r ih =>
  have z:=ih λu hu=>h u (yea _ hu);have y:=h a (by simp);rw[show a::r=[a]++r from rfl,zqd,zgj,yca,ysb,ytj];omega
theorem zux:∀c∈("all":Str).cps.toList,c<256:=by decide +kernel
def zcdb (K:yaa):Sp:=λvs H Q _=>Ex2 λp (k:Int)=>vs=[.ref p]∧Tk K H p k∧k≤10000∧∀t' k' H',Sm t' 1000->But p H H'->Tk K H' p k'->k'≤k+10->Q (.str t') H'
theorem zcq (T:Tx K mg):FnOk P w K mg base CX0 3 T.zcd.f T.zcd.d zai (zcdb K):=by
 refine T.zcd.ok zcg ?_;rintro f c A o s H vs Q E hr ⟨p,k,rfl,T0,hk,q⟩ X;refine⟨_,  (zba (zqa (i:=1) zcg.nd rfl (.inl rfl) (zob zca))
  (zba (zxn yae rfl (zxj rfl T.zoh (zaa zga zca)) (znc (i:=2) zcg.nd rfl (.inl rfl))
   (zia (zth (zue ycc yhd yid zch (pv 1) (zaa (zed zec (zob (zaa zfa (zaa zfa (zaa zfa zca)))) (zpa (zla T) hr rfl T.zda.m T.zda.F.kp (zna T) .nil zpb (zaa (pv 0) (zaa zga zca))) (λ_ _=>rfl)) zca)))))
  (zia (zya (zue yxa ymb ynb zoe zfa (zaa (zwa znd (pv 1) (zwa zebb (zob (zaa zfa zca)) (zwa zic (zwa zic zga (zue ycc yxg yyg zmo (pv 1) (zaa zfa zca))) (zue ycc yxg yyg zmo (pv 1) (zaa zfa zca))))) zca)))))),?_⟩
 refine⟨sz0,λl hl=>?_⟩;have pl:=T0.ne hl;refine⟨9,rfl,by decide,by decide,?_⟩;refine zwo (λi σ H'=>Ex2 λ(ys:List Str) o=>σ=[some (.ref p),some (.ref l),o]∧ys.length=i∧(∀u∈ys,u∈TW)∧H' l=some (.lst (ys.map V.str))∧But p H H'∧Tk K H' p (k+i)) ⟨[],_,rfl,rfl,by simp,zea,But.laid hl,by rw[show k+((0:Nat):Int)=k by omega];exact T0.laid hl⟩ ?_ ?_
 ·rintro i σ H' hi ⟨ys,o,rfl,hy,hm,el,B,Tk1⟩;refine⟨_,rfl,.inl ⟨rfl,_,SqL.of el⟩,sz3,λa ha=>?_⟩;have pa:=Tk1.ne ha;refine laid ha λHa Sa ea=>?_;have hi9:i<9:=hi;refine⟨_,rfl,p,_,3,rfl,Tk1.same Sa,by omega,by decide,λr Hr r0 r1 Br Tr=>?_⟩;obtain⟨u,hat,hu⟩:=ztz r0 r1;have el2:=Br _ _ (ywc pl) (Sa _ _ el);refine⟨a,_,_,_,rfl,rfl,SqL.of (Br _ _ (ywc pa) ea),hat,l,_,_,rfl,rfl,el2,(by rw[yba,hy];exact zyg (by omega)),?_⟩;refine⟨ys++[u],_,rfl,by rw[yca,hy];rfl,λv hv=>?_,by rw[zea,yza];rfl,λb o n e=>?_,?_⟩
  ·rcases yia.mp hv with z|z
   ·exact hm v z
   ·rw[yqa.mp z];exact hu
  ·rw[zoa (zka e hl)];exact Br _ _ n (Sa _ _ (B _ _ n e))
  ·rw[show k+(((i+1:Nat):Nat):Int)=k+(i:Int)+1 by omega];exact Tr.other el2 pl
 ·rintro σ H' ⟨ys,o,rfl,hy,hm,el,B,Tk1⟩;have hy9:ys.length=9:=hy;refine⟨rfl,_,rfl,sz1,λal hal=>?_⟩;refine laid hal λHa Sa ea=>?_;have el2:=Sa _ _ el;refine⟨_,rfl,.inl ⟨rfl,_,SqL.of el2⟩,l,ys,_,rfl,rfl,el2,λn1 h1=>⟨_,_,rfl,rfl,?_⟩⟩;refine⟨_,rfl,.inl ⟨rfl,_,SqL.of el2⟩,l,ys,_,rfl,rfl,el2,λn2 h2=>⟨_,_,rfl,rfl,?_⟩⟩;have hN:((1:Int)+(n1:Int)+(n2:Int)).toNat≤19:=by omega
  refine⟨al,_,_,rfl,rfl,ea,(by show -(2 ^ 63:Int)≤1+(n1:Int)+(n2:Int);omega),(by show 1+(n1:Int)+(n2:Int)<2 ^ 63;omega),(by show 1*((1:Int)+(n1:Int)+(n2:Int)).toNat≤yfa;exact small (by omega)),λrl hrl=>?_⟩;refine laid hrl λHb Sb eb=>?_;rw[show (yoa ((1:Int)+(n1:Int)+(n2:Int)).toNat [V.str "all"]).flatten=(yoa ((1:Int)+(n1:Int)+(n2:Int)).toNat ("all":Str)).map V.str by rw[List.flatten_replicate_singleton,List.map_replicate]] at eb;generalize ((1:Int)+(n1:Int)+(n2:Int)).toNat=N at *;refine⟨l,rl,_,_,rfl,rfl,Sb _ _ el2,eb,small (by rw[yba,yba,ykc];omega),λc hc=>?_⟩;rw[← yza];refine laid hc λHc Sc ec=>?_;have tt:tot (ys++yoa N ("all":Str))≤1000:=by
   rw[zqd];have z1:=zex (ys:=ys) (n:=4) λu hu=>(zkcb u (hm u hu)).1;have z2:=zex (ys:=yoa N ("all":Str)) (n:=3) λu hu=>by
    rw[yle hu];decide +kernel
   rw[ykc] at z2;rw[hy9] at z1;omega
  exact⟨" ",c,_,rfl,rfl,SqL.of ec,jsz tt (ywa _),q _ _ Hc (zqh tt (λu hu=>(yia.mp hu).elim (λz=>(zkcb u (hm u z)).2) (λz=>by rw[yle z];exact zux))) (((B.of_same Sa).of_same Sb).of_same Sc) (((Tk1.same Sa).same Sb).same Sc) (by show k+((9:Nat):Int)≤k+10;omega)⟩
theorem zku (c:Nat)(y:List Nat):∀xs:List (List Nat),jl c (xs++[y])=(xs.map (· ++ [c])).flatten++y
 | []=>rfl
 | x::r=>by
  have ih:=zku c y r;cases r with
  | nil=>simp[jl]
  | cons z r =>
   show x++c::jl c ((z::r)++[y])=_
   rw[ih];simp
theorem zcy {a b:Str}(h:a.cps.toList=b.cps.toList):a=b:=by
 obtain⟨a⟩:=a;obtain⟨b⟩:=b;have h1:a.toList=b.toList:=h;rw[ynj.mp h1]
theorem zyw (us:List Str)(n:Nat):(yoa n (us.map λu=>u.cps.toList++[32]).flatten).flatten=((((yoa n us).flatten).map λw=>w.cps.toList).map (· ++ [32])).flatten:=by
 induction n with
 | zero=>simp
 | succ n ih =>
  rw[yub,ykb,ih,yub,ykb,yza,yza,yke];simp[yph,ycj]
theorem zpt {x:Str}{us:List Str}(hx:x.cps.toList=(us.map λu=>u.cps.toList++[32]).flatten)(hu:∀u∈us,32∉u.cps.toList∧WdOk u)(n:Nat)(hn:x.length*n≤900000):TxOk (repS x n ++ "all"):=by
 have e:repS x n ++ "all" = yla " " ((yoa n us).flatten++[("all":Str)]):=by
  refine zcy ?_;have j:=zfd 32 ((yoa n us).flatten++[("all":Str)]);refine Eq.trans ?_ j.symm;rw[yza,List.map_singleton,zku];have z:(repS x n++("all":Str)).cps.toList=(repS x n).cps.toList++("all":Str).cps.toList:=by
   show ((repS x n).cps++("all":Str).cps).toList=_
   simp
  rw[z,zwn,hx,zyw]
 have ok:∀u∈(yoa n us).flatten++[("all":Str)],32∉u.cps.toList∧WdOk u:=by
  intro u h
  rcases yia.mp h with h|h
  ·obtain⟨l,hl,hm⟩:=List.mem_flatten.mp h;rw[yle hl] at hm;exact hu u hm
  ·rw[yqa.mp h];exact⟨by decide +kernel,by decide +kernel,zux⟩
 refine⟨?_,λu h=>?_⟩
 ·rw[len_app,zlm];have:("all":Str).length=3:=by decide +kernel
  omega
 ·have e2:yjb (yla " " ((yoa n us).flatten++[("all":Str)])) " " = (yoa n us).flatten++[("all":Str)]:=zjl (c:=32) (by simp) λw hw=>(ok w hw).1;rw[e,e2] at h;exact (ok u h).2
theorem zrv:∀(y:Wh),y.ok->∀u∈y.words,∀c∈u.cps.toList,c<256:=by
 have lit:∀u∈(["all","self","mine","mark","force","not","both","any"]:List Str),∀c∈u.cps.toList,c<256:=by decide +kernel
 intro y
 induction y with
 | all=>intro _ u h;exact lit u (by rw[yqa.mp h];simp)
 | self=>intro _ u h;exact lit u (by rw[yqa.mp h];simp)
 | mine=>intro _ u h;exact lit u (by rw[yqa.mp h];simp)
 | mark n =>
  intro ok u h
  rcases yga.mp h with e|e
  ·exact lit u (by rw[e];simp)
  ·rw[yqa.mp e];intro c hc;have:=ok.2.2 c hc;omega
 | force i =>
  intro ok u h
  rcases yga.mp h with e|e
  ·exact lit u (by rw[e];simp)
  ·rw[yqa.mp e];intro c hc;have:=zko i ok c hc;omega
 | not a ih =>
  intro ok u h
  rcases yga.mp h with e|e
  ·exact lit u (by rw[e];simp)
  ·exact ih ok u e
 | both a b iha ihb =>
  intro ok u h
  rcases yga.mp h with e|e
  ·exact lit u (by rw[e];simp)
  ·rcases yia.mp e with e|e
   ·exact iha ok.1 u e
   ·exact ihb ok.2 u e
 | any a b iha ihb =>
  intro ok u h
  rcases yga.mp h with e|e
  ·exact lit u (by rw[e];simp)
  ·rcases yia.mp e with e|e
   ·exact iha ok.1 u e
   ·exact ihb ok.2 u e
theorem zlz {y:Wh}(ok:y.ok)(hs:y.size≤9):Sm (yla " " y.words) 200:=by
 refine⟨zat ok hs,λc z=>?_⟩
 rcases zwh z with e|⟨u,hu,e⟩
 ·omega
 ·exact zrv y ok u hu c e
mutual
theorem IsW.butL {D p:Addr}{H H':Hp}{xs:List V}(b:But p H H')(hp:H p=some (.lst xs)):∀{v:V} {w:Wh},IsW D H v w->IsW D H' v w
 | _,_,.mk h1 h2 h3=>.mk (b _ _ (zbf h1 hp (by intro z;cases z)) h1) (b _ _ (zbf h2 hp (by intro z;cases z)) h2) (h3.butL b hp)
theorem IsWs.butL {D p:Addr}{H H':Hp}{xs:List V}(b:But p H H')(hp:H p=some (.lst xs)):∀{vs:List V} {ws:List Wh},IsWs D H vs ws->IsWs D H' vs ws
 | _,_,.nil=>.nil
 | _,_,.cons h t=>.cons (h.butL b hp) (t.butL b hp)
end
theorem IsW.tk {K:yaa}{D p:Addr}{H H':Hp}{k:Int}{v:V}{y:Wh}(h:IsW D H v y)(T:Tk K H p k)(b:But p H H'):IsW D H' v y:=by
 obtain⟨⟨a,ns,h1,_⟩,_⟩:=T;exact h.butL b h1
theorem zzg {c:TT}{a rest:TS}{D:Ends}{σ:L2.St}{H:Hp}(M:L2.St->Hp->Prop)(hR:∀ σ' H',M σ' H'->rest D σ' H')(h:∀R:L2.St->Hp->Prop,(∀ σ' H',M σ' H'->R σ' H')->tIfS c a zby { D with nx:=R } σ H):tSeq (tIfS c a zby) rest D σ H:=h _ hR
abbrev dBad:PyData:=.tuple [.bool true,.bool true,.list [.bool false,.bool false,.bool false,.bool false]]
theorem badV.dv {K:yaa}{H:Hp}{r:V}(h:badV H r):DV K H r dBad:=by
 obtain⟨t,l,rfl,h1,h2⟩:=h;exact .tup (SqT.of h1) (.cons (.bl _) (.cons (.bl _) (.cons (.lst (SqL.of h2) (.cons (.bl _) (.cons (.bl _) (.cons (.bl _) (.cons (.bl _) .nil))))) .nil)))
theorem badV.same {H H':Hp}{r:V}(h:badV H r)(s:Same H H'):badV H' r:=by
 obtain⟨t,l,rfl,h1,h2⟩:=h;exact⟨t,l,rfl,s _ _ h1,s _ _ h2⟩
theorem zuz {r:Int}(h0:0≤r)(h1:r<3):∃x:Str,atI [V.str "not ",V.str "any ",V.str "both all "] r=some (.str x)∧0<x.length∧x.length≤9∧∀n:Nat,n≤10000->TxOk (repS x n ++ "all"):=by
 obtain⟨v,hv,hm⟩:=zof (xs:=[V.str "not ",V.str "any ",V.str "both all "]) h0 h1;simp only[yga,yyb,or_false] at hm;have a1:(("not ":Str)).length=4:=by decide +kernel
 have a2:(("any ":Str)).length=4:=by decide +kernel
 have a3:(("both all ":Str)).length=9:=by decide +kernel
 rcases hm with e|e|e<;>subst e
 ·exact⟨_,hv,by rw[a1];decide,by rw[a1];decide,λn hn=>zpt (us:=["not"]) (by decide +kernel) (by unfold WdOk;decide +kernel) n (by rw[a1];omega)⟩
 ·exact⟨_,hv,by rw[a2];decide,by rw[a2];decide,λn hn=>zpt (us:=["any"]) (by decide +kernel) (by unfold WdOk;decide +kernel) n (by rw[a2];omega)⟩
 ·exact⟨_,hv,by rw[a3];decide,by rw[a3];decide,λn hn=>zpt (us:=["both","all"]) (by decide +kernel) (by unfold WdOk;decide +kernel) n (by rw[a3];omega)⟩
theorem ztv {y:Wh}(ok:y.ok)(hs:y.size≤9):(y.words.map (·.length)).sum+y.words.length*(" ":Str).length≤16777216:=by
 have b:=zxi hs;have c:=zgr (l:=y.words.map (·.length)) (k:=8) (λx hx=>by
  obtain⟨u,hu,rfl⟩:=ytb.mp hx;exact (Wh.zwi ok u hu).2.2)
 rw[yba] at c;have e:(" ":Str).length=1:=rfl;rw[e];omega
def zjcb (K:yaa)(tb:Str)(H:Hp)(bv du:V):Prop:=(bv = .str tb∧isWh (yjb tb " ")=true∧du = .str tb)∨(bv = .str tb∧isWh (yjb tb " ")=false∧badV H du)∨(NoTx K H bv∧badV H du)
theorem zuv {t:Str}(h:TxOk t):∀c∈t.cps.toList,c<256:=by
 intro c hc;have e:=yrd t " ";rw[← e] at hc
 rcases zwh hc with z|⟨u,hu,z⟩
 ·omega
 ·exact (h.2 u hu).2 c z
theorem zkt {t:Str}(h:TxOk t):ycf (.str t)=true:=by
 have z:=zuv h;have y:PyData.strOk t=true:=by
  unfold PyData.strOk;rw[← Array.all_toList,yec];intro c hc;exact decide_eq_true (by have:=z c hc;omega)
 unfold ycf;simp[PyData.canLay0,PyData.canLay,PyData.depth,y]
theorem zlt:ycf dBad=true:=by decide +kernel
theorem zxv {K:yaa}{tb:Str}{H:Hp}{bv du:V}{Q:VK}{E:XK}(tx:TxOk tb)(hc:zjcb K tb H bv du)(k:∀r H',Same H H'->(∃d,DV K H' r d∧DV K H' du d∧ycf d=true)->Q r H'):spLT K [bv] H Q E:=by
 refine⟨bv,rfl,?_⟩
 rcases hc with⟨rfl,h1,rfl⟩|⟨rfl,h1,h2⟩|⟨h1,h2⟩
 ·exact .inl ⟨tb,rfl,tx,(λ_ H' S=>k _ H' S ⟨.str tb,.str _,.str _,zkt tx⟩),(λz=>by rw[h1] at z;cases z)⟩
 ·exact .inl ⟨tb,rfl,tx,(λz=>by rw[h1] at z;cases z),(λ_ r H' S b=>k r H' S ⟨dBad,b.dv,(h2.same S).dv,zlt⟩)⟩
 ·exact .inr ⟨h1,λr H' S b=>k r H' S ⟨dBad,b.dv,(h2.same S).dv,zlt⟩⟩
theorem zgbb (T:Tx K mg)(kb:K.In base):FnOk P w K mg base CX0 13 T.zxs.f T.zxs.d zmcb (zyv K):=by
 refine T.zxs.ok zae ?_;rintro f c A o s H vs Q E hr ⟨a,ns,rfl,hS,h63,q⟩ X;refine⟨_,  (zba (zqa (i:=1) zae.nd rfl (.inl rfl) (zob (zaa (pv 0) (zaa zga zca))))
  (zba (zqa (i:=2) zae.nd rfl (.inl rfl) (zpa (ztm T).up hr rfl T.zkc.m T.zkc.F.kp (zkp T) .nil zpb (zaa (pv 1) (zaa zga zca))))
  (zba (zqa (i:=3) zae.nd rfl (.inl rfl) (zue yxa ymb ynb zoe zfa (zaa (zed zybb (zpa (zno T 9) hr rfl T.zsa.m T.zsa.F.kp (zcf T) .nil zpb (zaa (pv 1) (zaa (pv 2) (zaa zga zca)))) zga (λ_ _=>rfl)) zca)))
  (zba (zqa (i:=4) zae.nd rfl (.inl rfl) (zpa (zmi T kb).up hr rfl T.zzb.m T.zzb.F.kp (zsk T) .nil zfdb (zaa (pv 3) zca)))
  (zba (zqa (i:=5) zae.nd rfl (.inl rfl) (zpa (zoi T).up hr rfl T.zbc.m T.zbc.F.kp (zuk T) .nil zpb (zaa (pv 1) (zaa (pv 3) zca))))
  (zba (zgc (zra zve (zpa (zla T).up hr rfl T.zda.m T.zda.F.kp (zna T) .nil zpb (zaa (pv 1) (zaa zga zca))) zga (zcb _))
   (zia (zqa (i:=5) zae.nd rfl (.inl rfl) (zpa (zoi T).up hr rfl T.zbc.m T.zbc.F.kp (zuk T) .nil zpb (zaa (pv 1) (zaa (pv 5) zca)))))
   zva)
  (zba (zqa (i:=6) zae.nd rfl (.inl rfl) (zpa (zla T).up hr rfl T.zda.m T.zda.F.kp (zna T) .nil zpb (zaa (pv 1) (zaa zga zca))))
  (zba (zgc (zra zve (pv 6) zga (zcb _))
   (zia (zqa (i:=5) zae.nd rfl (.inl rfl) (zpa (zcq T).up hr rfl T.zcd.m T.zcd.F.kp (zss T) .nil zpb (zaa (pv 1) zca))))
   zva)
  (zba (zgc (zra zve (pv 6) zga (zcb _))
   (zia (zqa (i:=5) zae.nd rfl (.inl rfl) (zwa ztc (zwa zcz (zed zec (zob (zaa zfa (zaa zfa (zaa zfa zca)))) (zpa (zla T).up hr rfl T.zda.m T.zda.F.kp (zna T) .nil zpb (zaa (pv 1) (zaa zga zca))) (λ_ _=>rfl)) (zwa zic zga (zpa (zla T).up hr rfl T.zda.m T.zda.F.kp (zna T) .nil zpb (zaa (pv 1) (zaa zga zca))))) zfa)))
   zva)
  (zba (zqa (i:=7) zae.nd rfl (.inl rfl) (pv 5))
  (zba (zqa (i:=8) zae.nd rfl (.inl rfl) (zue yxa yve ywe zvm (pv 5) (zaa zfa zca)))
  (zba (zgc (zra zkw (zpa (zgg T).up hr rfl T.zdb.m T.zdb.F.kp (zjh T) .nil zpb (zaa (pv 8) (zaa zga zca))) (zua zza rfl T.zwd ybb (zaa (pv 8) zca)) (zcb _))
   (zia (zqa (i:=7) zae.nd rfl (.inl rfl) (zlf (zaa zwf (zaa zwf (zaa (zob (zaa zwf (zaa zwf (zaa zwf (zaa zwf zca))))) zca))))))
   zva)
  (zba (zgc (zra zve (pv 6) zga (zcb _))
   (zba (zqa (i:=5) zae.nd rfl (.inl rfl) (zed zec (zob (zaa zyt (zaa zga (zaa zwf (zaa (zob (zaa zfa zca)) (zaa (zlf (zaa zfa zca)) zca)))))) (zpa (zla T).up hr rfl T.zda.m T.zda.F.kp (zna T) .nil zpb (zaa (pv 1) (zaa zga zca))) (λ_ _=>rfl)))
   (zia (zqa (i:=7) zae.nd rfl (.inl rfl) (zlf (zaa zwf (zaa zwf (zaa (zob (zaa zwf (zaa zwf (zaa zwf (zaa zwf zca))))) zca)))))))
   zva)
  (zia (zya (ztr (zze (zkx hr.units) (zpa (zni T kb) hr rfl T.zac.m T.zac.F.kp (ztk T) .nil zpb (zaa (pv 5) zca)) (pv 7) (zcb _)) (ztr (zze zve (zxd (pv 4) T.zee T.zbb.M (zfm T 9).up hr (zkg T) .nil zpb) (pv 3) (zcb _)) (zzn (zze (zkx hr.units) (zpa (zni T kb) hr rfl T.zac.m T.zac.F.kp (ztk T) .nil zpb (zaa (pv 3) zca)) (pv 3) (zcb _)))))))))))))))))))),?_⟩
 refine⟨_,rfl,sz2,λp hp=>?_⟩;have T0:Tk K (upd H p (.lst [.ref a,.int 0])) p 0:=Tk.begin hp hS h63;refine⟨_,rfl,p,0,rfl,T0,by decide,λnl nms k1 H1 B1 T1 hk1 N1=>?_⟩;refine⟨rfl,_,rfl,_,rfl,p,nl,nms,k1,9,rfl,T1,by omega,N1,by decide,by decide,by decide,λt l y k2 H2 B2 T2 hk2 ok hsz et el=>?_⟩;refine⟨t,_,_,_,rfl,rfl,SqT.of et,rfl," ",l,y.words,rfl,rfl,SqL.of el,ztv ok hsz,?_⟩;have es:yjb (yla " " y.words) " " = y.words:=zjl (c:=32) y.zcm (λu hu=>(Wh.zwi ok u hu).1);have gs:=zlz ok hsz;have wg:isWh (yjb (yla " " y.words) " ")=true:=by rw[es];exact zmu ok hsz
 generalize hgd:yla " " y.words=gd at *;have gt:=(gs.up (by decide)).tx;refine⟨_,rfl,_,rfl,.inl ⟨gd,rfl,gt,λy3 v3 H3 _ ok3 hs3 e3 S3 W3=>?_,λz=>by rw[wg] at z;cases z⟩⟩;have eg:yla " " y3.words=gd:=by
  rw[← e3];exact yrd gd " "
 have T3:=T2.same S3;refine⟨_,rfl,_,rfl,p,k2,gd,200,rfl,T3,by omega,gs,by decide,λt4 k4 H4 sm4 B4 T4 hk4=>?_⟩;have W4:=W3.tk T3 B4
 try dsimp only[zcn]
 refine zzg (fun σ' H'=>Ex2 λ(tb:Str) (kb:Int)=>σ'=[some (.ref a),some (.ref p),some (.ref nl),some (.str gd),some v3,some (.str tb),none,none,none]∧Sm tb 1000∧Tk K H' p kb∧kb≤1000∧IsW T.zub H' v3 y3) ?_ ?_
 case refine_2 =>
  intro R hR;refine⟨_,rfl,p,_,2,rfl,T4,by omega,by decide,λr H5 r0 r1 B5 T5=>⟨rfl,_,rfl,?_⟩⟩;have W5:=W4.tk T4 B5;refine ite2 (λ_=>?_) (λ_=>?_)
  ·refine⟨_,rfl,_,rfl,p,_,t4,420,rfl,T5,by omega,sm4,by decide,λt6 k6 H6 sm6 B6 T6 hk6=>?_⟩;exact hR _ _ ⟨t6,k6,rfl,sm6.up (by decide),T6,by omega,W5.tk T5 B6⟩
  ·exact hR _ _ ⟨t4,_,rfl,sm4.up (by decide),T5,by omega,W5⟩
 rintro σ7 H7 ⟨t7,k7,rfl,sm7,T7,hk7,W7⟩;refine⟨_,rfl,p,_,8,rfl,T7,by omega,by decide,λway H8 w0 w1 B8 T8=>?_⟩;have W8:=W7.tk T7 B8
 try dsimp only[zcn]
 refine zzg (fun σ' H'=>Ex2 λ(tb:Str) (kb:Int)=>σ'=[some (.ref a),some (.ref p),some (.ref nl),some (.str gd),some v3,some (.str tb),some (.int way),none,none]∧TxOk tb∧Tk K H' p kb∧kb≤1100∧IsW T.zub H' v3 y3) ?_ ?_
 case refine_2 =>
  intro R hR;refine⟨_,rfl,rfl,_,rfl,?_⟩;refine ite2 (λ_=>?_) (λ_=>?_)
  ·refine⟨_,rfl,p,_,rfl,T8,by omega,λt6 k6 H6 sm6 B6 T6 hk6=>?_⟩;exact hR _ _ ⟨t6,k6,rfl,sm6.tx,T6,by omega,W8.tk T8 B6⟩
  ·exact hR _ _ ⟨t7,_,rfl,sm7.tx,T8,by omega,W8⟩
 rintro σ9 H9 ⟨t9,k9,rfl,tx9,T9,hk9,W9⟩
 try dsimp only[zcn]
 refine zzg (fun σ' H'=>Ex2 λ(tb:Str) (kb:Int)=>σ'=[some (.ref a),some (.ref p),some (.ref nl),some (.str gd),some v3,some (.str tb),some (.int way),none,none]∧TxOk tb∧Tk K H' p kb∧kb≤1200∧IsW T.zub H' v3 y3) ?_ ?_
 case refine_2 =>
  intro R hR;refine⟨_,rfl,rfl,_,rfl,?_⟩;refine ite2 (λ_=>?_) (λ_=>?_)
  ·refine⟨sz3,λrl hrl=>?_⟩;have prl:=T9.ne hrl;refine laid hrl λHa Sa ea=>?_;have Ta:=T9.same Sa;refine⟨_,rfl,p,_,3,rfl,Ta,by omega,by decide,λr Hb r0 r1 Bb Tb=>?_⟩;have Wb:=(W9.same Sa).tk Ta Bb;obtain⟨x,hat,x0,x9,hx⟩:=zuz r0 r1;refine⟨rl,_,_,_,rfl,rfl,SqL.of (Bb _ _ (ywc prl) ea),hat,?_⟩;refine⟨_,rfl,p,_,2000,rfl,Tb,by omega,by decide,λr2 Hc r20 r21 Bc Tc=>?_⟩;have hn:(3+r2).toNat≤2003:=(by omega);have hxn:x.length*(3+r2).toNat≤9*2003:=Nat.mul_le_mul x9 hn;have tx:=hx (3+r2).toNat (by omega);refine⟨_,_,rfl,rfl,_,_,rfl,rfl,(by show (1:Int)<3+r2;omega),x0,(by show x.length*(3+r2).toNat≤1000000;omega),?_⟩;refine⟨_,_,rfl,rfl,?_,?_⟩
   ·rw[zlm];have:("all":Str).length=3:=by decide +kernel
    have:yfa=16777216:=rfl;show x.length*(3+r2).toNat+("all":Str).length≤yfa
    omega
   ·exact hR _ _ ⟨_,_,rfl,tx,Tc,by omega,Wb.tk Tb Bc⟩
  ·exact hR _ _ ⟨t9,_,rfl,tx9,T9,by omega,W9⟩
 rintro σa Ha ⟨tb,ka,rfl,txa,Ta,hka,Wa⟩;refine⟨_,rfl,_,rfl,rfl,tb,_,rfl,rfl,(by decide +kernel),(by have:=txa.1;have:yfa=16777216:=rfl;omega),λwl hwl=>?_⟩;refine laid hwl λHb Sb eb=>?_;have Tb:=Ta.same Sb;have Wb:=Wa.same Sb
 try dsimp only[zcn]
 refine zzg (fun σ' H'=>Ex2 λdu (kb:Int)=>σ'=[some (.ref a),some (.ref p),some (.ref nl),some (.str gd),some v3,some (.str tb),some (.int way),some du,some (.ref wl)]∧Tk K H' p kb∧kb≤1200∧IsW T.zub H' v3 y3∧((isWh (yjb tb " ")=true∧du = .str tb)∨(isWh (yjb tb " ")=false∧badV H' du))) ?_ ?_
 case refine_2 =>
  intro R hR;refine⟨_,rfl,wl,_,rfl,eb,txa.2,λr Hc Sc hr'=>?_⟩;refine⟨_,rfl,wl,_,rfl,.inl (SqL.of (Sc _ _ eb)),rfl,_,rfl,?_⟩;rw[yba];refine ite2 (λc=>?_) (λc=>?_)
  ·have wf:isWh (yjb tb " ")=false:=by
    cases e:isWh (yjb tb " ") with
    | false=>rfl
    | true =>
     have z:=hr'.mpr e;rw[z,decide_eq_true rfl] at c;cases c
   refine⟨sz4,λdl hdl=>?_⟩;refine laid hdl λHd1 Sd1 ed1=>?_;refine⟨sz3,λdt hdt=>?_⟩;refine laid hdt λHd2 Sd2 ed2=>?_;have bv:badV Hd2 (.ref dt):=⟨dt,dl,rfl,ed2,Sd2 _ _ ed1⟩;exact hR _ _ ⟨.ref dt,_,rfl,((Tb.same Sc).same Sd1).same Sd2,by omega,((Wb.same Sc).same Sd1).same Sd2,.inr ⟨wf,bv⟩⟩
  ·have wt:isWh (yjb tb " ")=true:=by
    refine hr'.mp ?_
    rcases yth (r=(((yjb tb " ").length:Nat):Int)) with z|z
    ·exact z
    ·exfalso;apply c;rw[decide_eq_false (λy=>z (by injection y))];rfl
   exact hR _ _ ⟨.str tb,_,rfl,Tb.same Sc,by omega,Wb.same Sc,.inl ⟨wt,rfl⟩⟩
 rintro σb He ⟨du,ke,rfl,Te,hke,We,hdu⟩
 try dsimp only[zcn]
 refine zzg (fun σ' H'=>Ex2 λbv du=>σ'=[some (.ref a),some (.ref p),some (.ref nl),some (.str gd),some v3,some bv,some (.int way),some du,some (.ref wl)]∧IsW T.zub H' v3 y3∧zjcb K tb H' bv du) ?_ ?_
 case refine_2 =>
  intro R hR;refine⟨_,rfl,rfl,_,rfl,?_⟩;refine ite2 (λ_=>?_) (λ_=>?_)
  ·refine⟨sz1,λl1 hl1=>?_⟩;refine laid hl1 λHf1 Sf1 ef1=>?_;refine⟨sz1,λl2 hl2=>?_⟩;refine laid hl2 λHf2 Sf2 ef2=>?_;refine⟨sz5,λl3 hl3=>?_⟩;have Tf2:=(Te.same Sf1).same Sf2;have n1:=(Te.ne hl1).symm;have n2:=((Te.same Sf1).ne hl2).symm;have n3:=(Tf2.ne hl3).symm;refine laid hl3 λHf3 Sf3 ef3=>?_;have Tf3:=Tf2.same Sf3;refine⟨_,rfl,p,_,5,rfl,Tf3,by omega,by decide,λr Hr r0 r1 Br Tr=>?_⟩;obtain⟨v,hv,hm⟩:=zof (xs:=[V.non,V.int 5,V.bl true,V.ref l1,V.ref l2]) r0 r1;have g1:=Br _ _ n1 (Sf3 _ _ (Sf2 _ _ ef1));have g2:=Br _ _ n2 (Sf3 _ _ ef2);have Wr:=(((We.same Sf1).same Sf2).same Sf3).tk Tf3 Br;refine⟨l3,_,_,_,rfl,rfl,SqL.of (Br _ _ n3 ef3),hv,?_⟩;refine⟨sz4,λdl hdl=>?_⟩;refine laid hdl λHd1 Sd1 ed1=>?_;refine⟨sz3,λdt hdt=>?_⟩;refine laid hdt λHd2 Sd2 ed2=>?_;have bv:badV Hd2 (.ref dt):=⟨dt,dl,rfl,ed2,Sd2 _ _ ed1⟩;refine hR _ _ ⟨v,.ref dt,rfl,(Wr.same Sd1).same Sd2,.inr (.inr ⟨?_,bv⟩)⟩;simp only[yga,yyb,or_false] at hm
   rcases hm with e|e|e|e|e<;>subst e
   ·exact⟨_,.non,rfl⟩
   ·exact⟨_,.int _,rfl⟩
   ·exact⟨_,.bl _,rfl⟩
   ·exact⟨_,.lst (Sd2 _ _ (Sd1 _ _ g1)),rfl⟩
   ·exact⟨_,.tup (Sd2 _ _ (Sd1 _ _ g2)),rfl⟩
  ·exact hR _ _ ⟨.str tb,du,rfl,We,hdu.elim (λz=>.inl ⟨rfl,z.1,z.2⟩) (λz=>.inr (.inl ⟨rfl,z.1,z.2⟩))⟩
 rintro σc Hg ⟨bv,du,rfl,Wg,hc⟩;refine⟨_,rfl,?_⟩;dsimp only[tNil,yie,ywd,ynf];refine zxv txa hc λr Hh Sh hd=>?_;obtain⟨d,d1,d2,d3⟩:=hd;refine⟨_,rfl,d,d,d1,d2,d3,d3,_,rfl,?_⟩;rw[SeqAt.eqv_refl _ (yeh d3)];refine iteT ?_;have Wh:=Wg.same Sh;have Wh':=id Wh;cases Wh' with
 | @mk a5 dx5 t5 ps5 _ g1 g2 g3 =>
 refine⟨_,rfl,a5,dx5,_,rfl,g1,zsu _ _ _ (by decide +kernel) (by decide +kernel) (by decide +kernel),_,y3,rfl,Wh,ok3,yab y3.zyr hs3,hs3,λHi Si=>?_⟩;refine⟨_,rfl,rfl,_,rfl,?_⟩;have et:decide (V.str (yla " " y3.words)=V.str gd)=true:=decide_eq_true (by rw[eg]);rw[et];refine iteT ?_;refine⟨_,rfl,_,rfl,.inl ⟨gd,rfl,gt,λ_ Hj Sj=>?_,λz=>by rw[wg] at z;cases z⟩⟩;have sg:=zkt gt;refine⟨_,rfl,.str gd,.str gd,.str _,.str _,sg,sg,?_⟩;rw[SeqAt.eqv_refl _ (yeh sg)];exact q Hj
end
def mkT {K:yaa}{h:Heap}{mg:Str->Option Value}(X:K.In h)(G:h.Ns ysa mg){C_Words:Addr}{C_Whom:Addr}{E_NoCard:Addr}{E_FightError:Addr}{A_NotNow:Addr}{A_NotSame:Addr}{A_NoFight:Addr}{A_NoRow:Addr}{t_LETTERS:Tok}{t_FIGURES:Tok}{t_MOST_WORDS:Tok}{A_PARTS:Addr}(tf:Tf K mg)
  (zcx:yib K ysa "Words" = some (some (.ref C_Words)))
  (ziw:ypd K C_Words yig=true)
  (zvw:ybe K C_Words=true)
  (zfw:yxe K C_Words=true)
  (zzv:yna K (.ref C_Words) "__setattr__" = some (some (.builtin "object.__setattr__")))
  (y_Words___init__:If K C_Words "__init__" "Words.__init__" zrd)
  (y_Words_take:Mf K C_Words "take" "Words.take" zkf)
  (y_Words_take_name:Mf K C_Words "take_name" "Words.take_name" zdd)
  (y_Words_take_number:Mf K C_Words "take_number" "Words.take_number" zrc)
  (y_Words_finish:Mf K C_Words "finish" "Words.finish" zne)
  (zcc:yna K (.ref C_Words) "words" = some none)
  (zrb:yna K (.ref C_Words) "place" = some none)
  (zsz:yib K ysa "Whom" = some (some (.ref C_Whom)))
  (zyy:ypd K C_Whom yig=true)
  (zkz:ybe K C_Whom=true)
  (zxy:yxe K C_Whom=true)
  (zny:yna K (.ref C_Whom) "__setattr__" = some (some (.builtin "object.__setattr__")))
  (y_Whom___init__:If K C_Whom "__init__" "Whom.__init__" zbe)
  (y_Whom_told:Mf K C_Whom "told" "Whom.told" zdg)
  (zde:yna K (.ref C_Whom) "word" = some none)
  (zuc:yna K (.ref C_Whom) "value" = some none)
  (zod:yna K (.ref C_Whom) "parts" = some none)
  (zge:yib K ysa "ValueError" = some none)
  (zws:yib K ysa "all" = some none)
  (zov:yib K ysa "int" = some none)
  (zlb:yib K ysa "isinstance" = some none)
  (zwd:yib K ysa "len" = some none)
  (zoh:yib K ysa "range" = some none)
  (zsf:yib K ysa "reversed" = some none)
  (zds:yib K ysa "str" = some none)
  (zbm:yib K ysa "tuple" = some none)
  (aE_NoCard:yib K ysa "NoCard" = some (some (.ref E_NoCard)))
  (xE_NoCard:L2.ExcC K E_NoCard)
  (n1E_NoCard:yna K (.ref E_NoCard) "__getattribute__" = some (some (.builtin "BaseException.__getattribute__")))
  (n2E_NoCard:yna K (.ref E_NoCard) "__getattr__" = some none)
  (n3E_NoCard:yna K (.ref E_NoCard) "__class__" = some (some (.builtin "object.__class__")))
  (n4E_NoCard:yre K (.ref E_NoCard) (.type "BaseException")=some true)
  (n5E_NoCard:yre K (.ref E_NoCard) (.type "object")=some true)
  (n6E_NoCard:(yif K E_NoCard).isSome=true)
  (aE_FightError:yib K ysa "FightError" = some (some (.ref E_FightError)))
  (xE_FightError:L2.ExcC K E_FightError)
  (n1E_FightError:yna K (.ref E_FightError) "__getattribute__" = some (some (.builtin "BaseException.__getattribute__")))
  (n2E_FightError:yna K (.ref E_FightError) "__getattr__" = some none)
  (n3E_FightError:yna K (.ref E_FightError) "__class__" = some (some (.builtin "object.__class__")))
  (n4E_FightError:yre K (.ref E_FightError) (.type "BaseException")=some true)
  (n5E_FightError:yre K (.ref E_FightError) (.type "object")=some true)
  (n6E_FightError:(yif K E_FightError).isSome=true)
  (zaj:yib K ysa "NotNow" = some (some (.ref A_NotNow)))
  (zeh:yib K ysa "NotSame" = some (some (.ref A_NotSame)))
  (zfh:yib K ysa "NoFight" = some (some (.ref A_NoFight)))
  (zbn:yib K ysa "NoRow" = some (some (.ref A_NoRow)))
  (u_NoCard_FightError:L2.subIn K E_NoCard E_FightError=true)
  (v_NoCard_NoCard:ypa K (.ref E_NoCard) (.ref E_NoCard)=some true)
  (v_NoCard_ValueError:ypa K (.ref E_NoCard) (.type "ValueError")=some true)
  (v_NoCard_NotNow:ypa K (.ref E_NoCard) (.ref A_NotNow)=some false)
  (v_NoCard_NotSame:ypa K (.ref E_NoCard) (.ref A_NotSame)=some false)
  (v_NoCard_NoFight:ypa K (.ref E_NoCard) (.ref A_NoFight)=some false)
  (v_NoCard_NoRow:ypa K (.ref E_NoCard) (.ref A_NoRow)=some false)
  (zgh:yib K ysa "LETTERS" = some (some (.str zxk t_LETTERS)))
  (zih:yib K ysa "FIGURES" = some (some (.str zyk t_FIGURES)))
  (zme:yib K ysa "MOST_WORDS" = some (some (.int 9 t_MOST_WORDS)))
  (zxh:yib K ysa "PARTS" = some (some (.ref A_PARTS)))
  (zxm:KTD.tabLook (yij λb=>K.lookup b) (λb=>K.lookup b) A_PARTS zad=true):Tx K mg :=
 { tf with zfc:=C_Words,ziu:=yfc X G zcx,zvb:=⟨ziw,zvw,zfw,zzv⟩,zjb:=y_Words___init__,zqb:=y_Words_take,zeb:=y_Words_take_name,zab:=y_Words_take_number,ztb:=y_Words_finish,zcc:=zcc,zrb:=zrb,zub:=C_Whom,zlx:=yfc X G zsz,zee:=⟨zyy,zkz,zxy,zny⟩,znb:=y_Whom___init__,zbb:=y_Whom_told,zde:=zde,zuc:=zuc,zod:=zod,zge:=ydc X G zge,zws:=ydc X G zws,zov:=ydc X G zov,zlb:=ydc X G zlb,zwd:=ydc X G zwd,zoh:=ydc X G zoh,zsf:=ydc X G zsf,zds:=ydc X G zds,zbm:=ydc X G zbm,e_NoCard:=⟨E_NoCard,yfc X G aE_NoCard,xE_NoCard,⟨n1E_NoCard,n2E_NoCard,n3E_NoCard,n4E_NoCard,n5E_NoCard,n6E_NoCard⟩⟩,e_FightError:=⟨E_FightError,yfc X G aE_FightError,xE_FightError,⟨n1E_FightError,n2E_FightError,n3E_FightError,n4E_FightError,n5E_FightError,n6E_FightError⟩⟩,zcj:=A_NotNow,zaj:=yfc X G zaj,zkh:=A_NotSame,zeh:=yfc X G zeh,zlh:=A_NoFight,zfh:=yfc X G zfh,zjn:=A_NoRow,zbn:=yfc X G zbn,u_NoCard_FightError:=u_NoCard_FightError,v_NoCard_NoCard:=v_NoCard_NoCard,v_NoCard_ValueError:=v_NoCard_ValueError,v_NoCard_NotNow:=v_NoCard_NotNow,v_NoCard_NotSame:=v_NoCard_NotSame,v_NoCard_NoFight:=v_NoCard_NoFight,v_NoCard_NoRow:=v_NoCard_NoRow,zqo:=t_LETTERS,zgh:=yfc X G zgh,zro:=t_FIGURES,zih:=yfc X G zih,zpi:=t_MOST_WORDS,zme:=yfc X G zme,zlg:=A_PARTS,zxh:=yfc X G zxh,zxm:=zxm }
theorem all_mk {l:ynh}{w:World}{K:yaa}{mg:Str->Option Value}{fa:Addr}(hfa:mg "law" = some (.ref fa))(T:Tx K mg) :
  ∃fd:yuc,(∀(s:Shared) (v:Value),yui s fd ⟨[v],[]⟩ [("_law_script",v)])∧∀base:Heap,K.In base->base.Ns ysa mg->FnOk l.prog w K mg base CX0 13 fa fd ["_law_script"] (zyv K):=by
 cases zsbb T.zxs hfa;refine⟨_,(λs v=>?_),λbase kb _=>zgbb T kb⟩;obtain⟨oc,od,kV,doc,pm,an,cdv,ct,osl,e,lk,hcd⟩:=T.zxs.F.ex;rw[e];exact .of_eq rfl
theorem walk {l:ynh}{q:yya}{loose:List Str}{XP:(Str->Option Value)->Heap->Prop}{YP:World->Heap->Prop}{d:DefRec}{K:Params->yaa}(hn:l.most=some 63)(hdf:d.params.defaults=[])
  (hY:∀(w:World) (h:Heap),YP w h->(K w.params).In h)
  (F:∀(w:World) (mg:Str->Option Value) fa (h:Heap),(K w.params).In h->h.Ns ysa mg->mg d.name=some (.ref fa) →
   ∃fd:yuc,(∀(s:Shared) (u:Value),yui s fd ⟨[u],[]⟩ [("_law_script",u)])∧∀base:Heap,(K w.params).In base->base.Ns ysa mg->FnOk l.prog w (K w.params) mg base CX0 13 fa fd ["_law_script"] (zyv (K w.params))) :
  yzj q loose XP YP l.row.toRowW d [] (λf vs=>yvj f vs) :=
 L2.zyx (n:=63) (k:=13) (x:="_law_script") (CX:=λ_=>CX0) (sp:=λw=>zyv (K w.params)) hn (by decide) hdf ⟨rfl,by decide,by decide⟩ hY F (λ_ _ a ns hl hO hS=>⟨a,ns,rfl,SqF.of hO hS,hl,λ_=>rfl⟩) λ_ _ _ _ _ z=>z
end K05
namespace PySem.W.Fast
def tw5722064895222618031:=()
def tw16946411673469943367:=()
def tw11828285141736790420:=()
def tw192676317396341815:=()
def tw2597650592566527074:=()
def tw5787382241975906182:=()
def tw4193221039260806090:=()
def tw576011673484979076:=()
def tw17332444505493547637:=()
def tw10291034014209620409:=()
def tw15482252351942032705:=()
def tw3287605889124450875:=()
def tw16769359758859038609:=()
def tw17565302881221901095:=()
def tw12850383070024183015:=()
def tw5788752578196822769:=()
def tw372953908549953450:=()
def tw8469424752493381418:=()
def tw795109986309656211:=()
def tw12715857033594469084:=()
def tw3401030729015782134:=()
def tw3228737956651001616:=()
def tw17862632568566794560:=()
def tw12855415189503362507:=()
def tw5997724300533846674:=()
def tw5223283102007187227:=()
def tw13963532088714240610:=()
def tw13505597160520017688:=()
def tw8056682976573178060:=()
def tw7452732450586464270:=()
def tw12258961911015057082:=()
def tw3884940636933304518:=()
def tw7498610841782082083:=()
def tw6396657151922906822:=()
def tw458599728785738853:=()
def tw6282249643817050212:=()
def tw17628609891464527191:=()
def tw9302003832656407717:=()
def tw6468162140579151624:=()
def tw797179535759654074:=()
def tw8309641859496027313:=()
def tw16869250458588006202:=()
def tw1208848387095414856:=()
def tw6029018065234461987:=()
def tw16197523917657733571:=()
def tw337601661367322264:=()
def tw6114825567629617058:=()
def tw10560706059952274866:=()
def tw2756209900995991803:=()
def tw7986562896539178776:=()
def tw3122614931575693564:=()
def tw16773922050663975067:=()
def tw16793253314551692233:=()
def tw8449607341195359890:=()
def tw3424341101026163680:=()
def tw8329507287970472913:=()
def tw9611630840839247908:=()
def tw17560940102705487835:=()
def tw9945567583896926804:=()
def tw15194143153113613873:=()
def tw17499450114838139826:=()
def tw14643471402618105967:=()
def tw14614248894007080508:=()
def tw44527450565516568:=()
def tw3526739191892563819:=()
def tw14204004250251699805:=()
def tw14960682867011993016:=()
def tw8698445181208288256:=()
def tw13684510844043145127:=()
def tw10210471706471651199:=()
def tw1194524770154901245:=()
def tw1539323665029923435:=()
def tw18256385510394120584:=()
def tw9653677796602407081:=()
def tw5732152755818439792:=()
def tw13711861640100617043:=()
def tw17150329324979749996:=()
def tw6641156815744077670:=()
def tw160787092122543922:=()
def tw8189756587846152813:=()
def tw6943039084849683378:=()
def tw9229935068376471120:=()
def tw13800864038764714295:=()
def tw2085768882702531286:=()
def tw7579924554904426162:=()
def tw5875550045124504363:=()
def tw4613163600190276182:=()
def tw15627824035821187475:=()
def tw538302404110039261:=()
def tw6457159527674023695:=()
def tw10571233601317114763:=()
def tw13806505359625531347:=()
def tw4094013375091332210:=()
def tw4385195578722729184:=()
def tw9912141115759756332:=()
def tw666362352899516070:=()
def tw9297811732036042704:=()
def tw4309004105680988975:=()
def tw2874203480566103626:=()
def tw6769100420328800315:=()
def tw2475806895122641203:=()
def tw15066495810127069175:=()
def tw5211949482696154022:=()
def tw8417012968458698547:=()
def tw14798569919602100684:=()
def tw10819427948695645526:=()
def tw10096609923612525153:=()
def tw8634270433689333285:=()
def tw12404136805067467146:=()
def tw2646698550035422380:=()
def tw15340557949944212178:=()
def tw8784784459136722:=()
def tw12322276585715350307:=()
def tw13313848662415472304:=()
def tw3743279326903074306:=()
def tw17240737095221050011:=()
def tw5335391040871597565:=()
def tw10775670932865000853:=()
def tw8989732692250445176:=()
def tw8742307320990296988:=()
def tw12515353133919174677:=()
def tw8598536879834042886:=()
def tw4305226020855962677:=()
def tw10744245060808866858:=()
def tw8088153011029455419:=()
def tw17919298730747792778:=()
def tw4586658093831546115:=()
def tw9341087500413307636:=()
def tw3527652819778392677:=()
def tw3555025792324710042:=()
def tw3060191959999773866:=()
def tw3286980404768558543:=()
def tw9277124377055169642:=()
def tw12621267679458136636:=()
def tw2408050791531191931:=()
def tw13877027164217388000:=()
def tw13275726769048459248:=()
def tw16874378465911272499:=()
def tw14080744797193620110:=()
def tw8768110353092300562:=()
def tw10481308957097168371:=()
def tw12959175053070398587:=()
def tw15001406893713237777:=()
def tw8132761724569484207:=()
def tw5428096756268213574:=()
def tw16247191331889523347:=()
def tw3836702177808540297:=()
def tw11503741839131069748:=()
def tw17408479923070163337:=()
def tw8941411090958667944:=()
def tw17842943475501394235:=()
def tw10974233925913746364:=()
def tw16396374530409113113:=()
def tw2905331438372911932:=()
def tw1145630881451807248:=()
def tw4055057159771333053:=()
def tw2429195619157631440:=()
def tw10157355310042672772:=()
def tw6536561492571702605:=()
def tw165405315222359763:=()
def tw13051852308460994475:=()
def tw4212161034860987835:=()
def tw8901499969703957456:=()
def tw6571507114912675595:=()
def tw17378639949051065512:=()
def tw14418242345138712415:=()
def tw1743188856070795905:=()
def tw2291815694871613573:=()
def tw13960738253907692287:=()
def tw5887280236322154303:=()
def tw18133021043899148375:=()
def tw18376950316615317939:=()
def tw15969176961284672409:=()
def tw5823664153250724352:=()
def tw5464194930030706915:=()
def tw15736892799505556359:=()
def tw10793714684735141805:=()
def tw5133080662366099300:=()
def tw4338799462459876270:=()
def tw8240681481600033934:=()
def tw8339281662896032434:=()
def tw12193438962750544256:=()
def tw11194897067279443472:=()
def tw7907744447923576964:=()
def tw9379108566784728556:=()
def tw11193482850589783659:=()
def tw15709185066001603078:=()
def tw6136339045000039916:=()
def tw17559334945026267173:=()
def tw12127624935040234950:=()
def tw16472084601090553357:=()
def tw9126913771706494837:=()
def tw2313823857345636810:=()
end PySem.W.Fast
open PySem PySem.W PyProof.Rows
set_option maxRecDepth 100000 in
set_option maxHeartbeats 0 in
theorem PySem.Challenge.cw_turnstack_k05_no_whom_holds : PySem.Challenge.rw_turnstack_k05_no_whom.Holds := by
  w_on; o_law; k_head; (case hw => w_witness2)
  k_fill
  refine K05.walk (l := PySem.Challenge.rw_turnstack_k05_no_whom) rfl rfl (fun w h Y => PySem.W.kIn_of Y) ?F
  case F =>
    intro w mg fa h KX G hmg
    refine' K05.all_mk hmg (K05.mkT KX G ⟨L2.gf_of KX G ?qca ?qda ?qea ?qfa, L2.gf_of KX G ?qga ?qha ?qia ?qja, L2.gf_of KX G ?qka ?qla ?qma ?qna, L2.gf_of KX G ?qxb ?qyb ?qzb ?qac, L2.gf_of KX G ?qbc ?qcc ?qdc ?qec, L2.gf_of KX G ?qfc ?qgc ?qhc ?qic, L2.gf_of KX G ?qjc ?qkc ?qlc ?qmc, L2.gf_of KX G ?qnc ?qoc ?qpc ?qqc, L2.gf_of KX G ?qrc ?qsc ?qtc ?quc, L2.gf_of KX G ?qvc ?qwc ?qxc ?qyc, L2.gf_of KX G ?qzc ?qad ?qbd ?qcd, L2.gf_of KX G ?qdd ?qed ?qfd ?qgd, L2.gf_of KX G ?qhd ?qid ?qjd ?qkd, L2.gf_of KX G ?qld ?qmd ?qnd ?qod, L2.gf_of KX G ?qpd ?qqd ?qrd ?qsd, L2.gf_of KX G ?qtd ?qud ?qvd ?qwd, L2.gf_of KX G ?qxd ?qyd ?qzd ?qae, L2.gf_of KX G ?qbe ?qce ?qde ?qee⟩ ?qaa ?qfe ?qge ?qhe ?qie (L2.if_of ?qoa ?qpa ?qqa ?qra ?qsa ?qje ?qke) (L2.mf_of ?qta ?qua ?qva ?qwa ?qxa) (L2.mf_of ?qya ?qza ?qab ?qbb ?qcb) (L2.mf_of ?qdb ?qeb ?qfb ?qgb ?qhb) (L2.mf_of ?qib ?qjb ?qkb ?qlb ?qmb) ?qle ?qme ?qba ?qne ?qoe ?qpe ?qqe (L2.if_of ?qnb ?qob ?qpb ?qqb ?qrb ?qre ?qse) (L2.mf_of ?qsb ?qtb ?qub ?qvb ?qwb) ?qte ?que ?qve ?qwe ?qxe ?qye ?qze ?qaf ?qbf ?qcf ?qdf ?qef ?qff ?qgf ?qhf ?qif ?qjf ?qkf ?qlf ?qmf ?qnf ?qof ?qpf ?qqf ?qrf ?qsf ?qtf ?quf ?qvf ?qwf ?qxf ?qyf ?qzf ?qag ?qbg ?qcg ?qdg ?qeg ?qfg ?qgg ?qhg ?qig ?qjg ?qkg)
    case qaa | qba | qca | qda | qea | qfa | qga | qha | qia | qja | qka | qla | qma | qna | qoa | qpa | qqa | qra | qsa | qta | qua | qva | qwa | qxa | qya | qza | qab | qbb | qcb | qdb | qeb | qfb | qgb | qhb | qib | qjb | qkb | qlb | qmb | qnb | qob | qpb | qqb | qrb | qsb | qtb | qub | qvb | qwb | qxb | qyb | qzb | qac | qbc | qcc | qdc | qec | qfc | qgc | qhc | qic | qjc | qkc | qlc | qmc | qnc | qoc | qpc | qqc | qrc | qsc | qtc | quc | qvc | qwc | qxc | qyc | qzc | qad | qbd | qcd | qdd | qed | qfd | qgd | qhd | qid | qjd | qkd | qld | qmd | qnd | qod | qpd | qqd | qrd | qsd | qtd | qud | qvd | qwd | qxd | qyd | qzd | qae | qbe | qce | qde | qee | qfe | qge | qhe | qie | qje | qke | qle | qme | qne | qoe | qpe | qqe | qre | qse | qte | que | qve | qwe | qxe | qye | qze | qaf | qbf | qcf | qdf | qef | qff => k_is
    case qgf => (unfold L2.ExcC; first | k_exc | k_is | kernel_rfl)
    case qhf | qif | qjf => k_is
    case qkf | qlf | qmf => first | kit_is | k_is | kernel_rfl
    case qnf => k_is
    case qof => (unfold L2.ExcC; first | k_exc | k_is | kernel_rfl)
    case qpf | qqf | qrf => k_is
    case qsf | qtf | quf => first | kit_is | k_is | kernel_rfl
    case qvf | qwf | qxf | qyf => k_is
    case qzf | qag | qbg | qcg | qdg | qeg | qfg => first | kit_is | k_is | kernel_rfl
    case qgg | qhg | qig | qjg => k_is
    case qkg => first | kernel_rfl | (unfold L2.TupK; kernel_rfl)
