import PyProof.Rows.All
import Wide.All
import OpenK.AllK
import Wide.FinOn
import Lean
import PyProof.EqAt
import PyProof.EqKinds
import PyProof.TupleCall
import PyProof.StrBlockL
import KE.KSortKey
import PyProof.Rows.SortStr
import PyProof.ListRange
import KE.KLam
import PyProof.StationsW
import PyProof.Rows.SortRuns
import PyProof.CollectWalk
import PyProof.DictWalks
import PyProof.Rows.SeqMore
import PyProof.ZipIter
import PyProof.Rows.ZipGen
import PySem.Challenge.RW_tworeadings_k06_answers_by_hand
open List renaming length_map→Zni,length_append→Znl,mem_map→Znm,getElem?_eq_getElem→Znp,getElem?_map→Znq,map_map→Znr,mem_append→Zns,mem_singleton→Znt,getD_eq_getElem?_getD→Znv,getElem?_eq_some_iff→Znw,size_toArray→Zny,mem_cons→Znz,range→ZnB,mem_cons_of_mem→ZnC,mem_of_getElem?→ZnD,mem_cons_self→ZnF,replicate→ZnL,length_take→ZnM,map_cons→ZnN,append_assoc→ZnO,map_congr_left→ZnP,length_singleton→ZnT,eq_nil_of_length_eq_zero→ZnU,length_drop→ZnV,not_mem_nil→ZnX,length_cons→ZnZ,all_eq_true→Zn1,map_append→Zn2,mem_append_right→Zn5,length_reverse→Zoa,length_range→Zod,length→Zoe,perm_append_comm→Zof,take_of_length_le→Zok,replicate_succ→Zom,extract_eq_take_drop→Zon,take_append_drop→Zoo,mem_range→Zoq,take_length→Zor,flatten_cons→Zos,Perm→Zou,foldl_cons→Zov,any_eq_true→Zox,lookup_cons→Zoy,nodup_cons→ZoA,mem_append_left→ZoC,getElem_mem→ZoD,pairwise_iff_getElem→ZoF,append_nil→ZoG,mem_of_mem_drop→ZoK,mem_of_mem_take→ZoL,takeWhile_cons→ZoQ,mem_filterMap→ZoS,drop_zero→ZoW,mem_iff_getElem→ZoX,nodup_append→ZoZ,length_pos_iff→Zo1,drop_of_length_le→Zo6,find?_cons→Zo8,length_filter_le→Zo9,length_nil→Zpa,pairwise_map→Zpg,isPrefixOf_iff_prefix→Zph,drop_eq_getElem_cons→Zpk,getElem?_append_left→Zpm,getElem?_eq_none_iff→Zpn,filterMap_cons→Zps,filter_eq_self→Zpt,lookup→Zpu,map_id→Zpv,eq_of_mem_replicate→Zpw,filter_append→ZpC,isPerm_iff→ZpD,pairwise_cons→ZpE,contains_iff_mem→ZpM,eq_nil_iff_forall_not_mem→ZpN,length_replicate→ZpO,mem_iff_getElem?→ZpP,ext_getElem→ZpW,any_cons→Zp0,sum_cons→Zp1,length_flatten→Zp4,mem_filter→Zp5,of_mem_zip→Zp6,getElem?_append_right→Zqd,all_map→Zqf,map_nil→Zqg,drop_left→Zqj,nodup_nil→Zqk,filterMap_cons_none→Zqn,filterMap_cons_some→Zqo,foldl_append→Zqp,getElem_take→Zqq,reverse_cons→Zqr,reverse_perm→Zqs,map_take→ZqB,prefix_iff_eq_take→ZqC,cons_append→ZqM,map_snd_zip→ZqN,mem_flatten→ZqO,filterMap_reverse→ZqS,getElem?_set_self→ZqT,count_cons→Zq0,nil_append→Zq1,range_succ→Zq2,singleton_append→Zq3,getElem?_set_ne→Zre,drop_drop→Zrg
open PySem.W renaming Frag→Znj,nsIn→ZnI,mg_none_of→Zn0,findIn→Zn4,emptyDict→Zn6,kitOne→Zoc,instObj→Zoh,mg_of→Zoi,keepIn→Zoj,fnOf→Zop,kia_one→Zow,CodeHd→Zo4,codeIn→Zo5,makesIn→Zpe,plainGet→Zpq,Looks→ZpG,excIn→ZpH,kla_obj→ZpI,hasDictIn→ZpK,kla_makeFunctionHit→Zqa,plainGet_of→Zqb,callWith_K→Zqh,isFn→Zqi,lookIn→Zql,kla_makeFunction→Zqx,methodObj→Zqy,plainOver→Zqz,specialIn→ZqA,makes_of→ZqR,cellsFrom_some→ZqW,OpenLaw→Zq9,methodCall_KW→Zra,takerIn→Zrb,takesIn→Zrc,looks_findIn→Zrf,kla_fn→Zrh,hideAll_get→Zrl,ke_carried→Zrp,mroIn→Zrq,of_hideAll→Zrr
open PySem.Heap renaming get?_push_of_some→Znk,get?_push_size→Znu,lt_size→Znx,get?_update_other→Zn7,get?_update_self→Zoz,size_push→ZoV,SameBut→Zo7,size_update→ZqL,FlyingW→ZqY
open Nat renaming le_refl→Znn,zero_le→ZnH,ne_of_lt→ZnK,lt_of_lt_of_le→ZnQ,le_trans→Zog,min_eq_left→ZoH,lt_of_le_of_lt→ZoJ,zero_add→ZoN,lt_of_succ_lt→ZoO,lt_succ_of_lt→ZoP,lt_irrefl→ZoT,le_succ→Zpb,le_add_right→Zpo,lt_succ_self→Zpp,le_of_eq→Zpx,le_of_lt→Zpy,ne_of_gt→Zpz,le_mul_of_pos_right→ZpF,lt_succ_of_le→ZpJ,mul_le_mul_right→ZpZ,not_lt_zero→Zp7,add_sub_cancel_left→ZqD,lt_of_not_le→ZqP,min_eq_right→ZqQ,lt_or_ge→Zq4,min_le_left→Zq5,sub_zero→Zq6,add_le_add_left→Zrj,pow_pos→Zrk
open PySem renaming boot_len→Zno,Spec→ZnJ,mem_of_lookup→ZoR,Within→Zrd,evalArgs_none→Zrm
open Bool renaming and_eq_true→ZnA,false_ne_true→ZnE,eq_iff_iff→ZnW,not_eq_true'→Zn3,false_eq_true→ZoI,false_and→ZoU,true_and→Zo0,and_eq_true_iff→Zpi,not_eq_true→ZpV,eq_false_iff→Zqm,noConfusion→ZqK,or_eq_true→ZqX
open PySem.F renaming plainAttrs_list→ZnG,slot_list_append→ZnR,type_list_append→ZnS,plainAttrs_str→Zol,plain_max_loop→ZoE,slot_dict_setdefault→ZoM,plainAttrs_dict→Zo2,plain_list_iadd→Zo3,slot_str_startswith→Zpc,type_str_startswith→Zpd,args_dict_setdefault_3→ZpQ,slot_dict_get→ZpR,slot_dict_len→ZpS,slot_str_join→ZpT,type_str_join→ZpU,entry_dict_setdefault→ZpX,type_dict_setdefault→Zp2,entry_proto_collect→Zp8,plain_proto_collect→Zp9,excBase_ValueError→Zqe,slot_dict_values→Zqt,slot_list_extend→Zqu,slot_str_getitem→Zqv,type_list_extend→Zqw,args_dict_get_2→ZqE,entry_list_iadd→ZqF,slot_str_lstrip→ZqG,type_str_lstrip→ZqH,entry_dict_get→ZqU,entry_max_loop→ZqV,slot_list_pop→Zq7,type_list_pop→Zq8
open Array renaming getElem?_toList→ZnY,length_toList→Zn8,toList_append→Zn9,perm_iff_toList_perm→Zob,toList_extract→ZoB,toList_push→Zpf,getElem?_eq_getElem→Zpj,toList_reverse→ZpY,Perm→Zp3,toList_setIfInBounds→Zqc,toList_map→ZqI,toList_zip→ZqJ,toList_modify→Zri,mk→Zrn,size_extract→Zro
open Int renaming ofNat→Zot,toNat→ZoY,toNat_of_nonneg→Zpr,emod_lt_of_pos→ZpA,emod_nonneg→ZpB,zero_add→ZpL,natCast_mul→ZqZ
open PySem.List renaming filterMap_getElem?_range_length→Zpl
set_option Elab.async false
set_option linter.all false
set_option maxRecDepth 100000
namespace L2
open PySem PySem.Spec PyProof.Rows
abbrev Key:=Sum Int Str
def Zc9:Key→Value→Bool
 | .inl k,v=>Value.isInt k v
 | .inr x,v=>Value.isStrOf x v
def keyH (w:World):Key→Int
 | .inl k=>hashInt k
 | .inr x=>hashStr w x
theorem keyIs_shape:∀ {k:Key}{v:Value},Zc9 k v=true→(∃ i t,k=Sum.inl i∧v=Value.int i t)∨(∃ x t,k=Sum.inr x∧v=Value.str x t)
 | .inl i,v,h=>by
  obtain ⟨t,e⟩:=Value.isInt_shape (k:=i) (v:=v) h;exact .inl ⟨i,t,rfl,e⟩
 | .inr x,v,h=>by
  obtain ⟨t,e⟩:=Value.isStrOf_shape (x:=x) (v:=v) h;exact .inr ⟨x,t,rfl,e⟩
theorem ZiF (i:Int) (t:Tok):Zc9 (.inl i) (.int i t)=true:=by simp [Zc9,Value.isInt]
theorem ZiG (x:Str) (t:Tok):Zc9 (.inr x) (.str x t)=true:=by simp [Zc9,Value.isStrOf]
theorem Zmi (a b:Int):decide ((Sum.inl a:Key)=Sum.inl b)=(a == b):=by
 by_cases e:a=b
 ·subst e; simp
 ·have h:¬ (Sum.inl a:Key)=Sum.inl b:=fun q=>e (Sum.inl.inj q);rw [decide_eq_false h];exact (beq_eq_false_iff_ne.mpr e).symm
theorem Zml (a b:Str):decide ((Sum.inr a:Key)=Sum.inr b)=decide (a=b):=by
 by_cases e:a=b
 ·subst e; simp
 ·have h:¬ (Sum.inr a:Key)=Sum.inr b:=fun q=>e (Sum.inr.inj q);rw [decide_eq_false h,decide_eq_false e]
theorem Zmj (a:Int) (b:Str):decide ((Sum.inl a:Key)=Sum.inr b)=false:=decide_eq_false (fun q=>nomatch q)
theorem Zmk (a:Str) (b:Int):decide ((Sum.inr a:Key)=Sum.inl b)=false:=decide_eq_false (fun q=>nomatch q)
def Zy (prog:Program) (w:World):PySem.KeyKind prog w Key where
 is:=Zc9
 hash:=keyH w
 inj:=fun v a b ha hb=>by
  rcases keyIs_shape ha with ⟨i,t,rfl,rfl⟩ | ⟨x,t,rfl,rfl⟩
  ·rcases keyIs_shape hb with ⟨j,u,rfl,e⟩ | ⟨y,u,rfl,e⟩
   ·injection e with e1 _; rw [e1]
   ·exact nomatch e
  ·rcases keyIs_shape hb with ⟨j,u,rfl,e⟩ | ⟨y,u,rfl,e⟩
   ·exact nomatch e
   ·injection e with e1 _; rw [e1]
 byValue:=fun k v h=>by
  rcases keyIs_shape h with ⟨i,t,rfl,rfl⟩ | ⟨x,t,rfl,rfl⟩ <;> rfl
 pyHash:=fun hv h=>by
  rcases keyIs_shape hv with ⟨i,t,rfl,rfl⟩ | ⟨x,t,rfl,rfl⟩
  ·exact wpAny_pyHash_int h
  ·exact wpAny_pyHash_str h
 eqBool:=fun hu hv h=>by
  rcases keyIs_shape hu with ⟨i,t,rfl,rfl⟩ | ⟨x,t,rfl,rfl⟩
  ·rcases keyIs_shape hv with ⟨j,u,rfl,rfl⟩ | ⟨y,u,rfl,rfl⟩
   ·rw [Zmi] at h; exact wpAny_eqBool_int h
   ·rw [Zmj] at h; exact SeqAt.EqAt.int_str i t y u _ _ _ _ h
  ·rcases keyIs_shape hv with ⟨j,u,rfl,rfl⟩ | ⟨y,u,rfl,rfl⟩
   ·rw [Zmk] at h; exact SeqAt.EqAt.str_int x t j u _ _ _ _ h
   ·rw [Zml] at h; exact wpAny_eqBool_str h
 «strs»:=fun k x t v h=>by
  rcases keyIs_shape h with ⟨i,u,rfl,e⟩ | ⟨y,u,rfl,e⟩
  ·exact nomatch e
  ·injection e with e1 _
   subst e1;cases v <;> rfl
theorem ZgZ (prog:Program) (w:World) (k:Key) (v:Value):(Zy prog w).is k v=Zc9 k v:=rfl
theorem ZfX (prog:Program) (w:World) (i:Int) (t:Tok):(Zy prog w).is (.inl i) (.int i t)=true:=ZiF i t
theorem ZfY (prog:Program) (w:World) (x:Str) (t:Tok):(Zy prog w).is (.inr x) (.str x t)=true:=ZiG x t
inductive V where
 | non | bl (b:Bool) | int (i:Int) | str (x:Str) | byt (b:Array UInt8) | flt (b:UInt64) | ref (a:Addr) | ty (n:String)
 deriving DecidableEq
def RelV:V→Value→Prop
 | .non,u=>u=Value.none
 | .bl b,u=>u=Value.bool b
 | .int i,u=>∃ t,u=Value.int i t
 | .str x,u=>∃ t,u=Value.str x t
 | .byt b,u=>∃ t,u=Value.bytes b t
 | .flt b,u=>∃ t,u=Value.float b t
 | .ref a,u=>u=Value.ref a
 | .ty n,u=>u=Value.type n
abbrev ZA:List V→List Value→Prop:=Paired RelV
theorem ZA.length {xs:List V}{us:List Value} (r:ZA xs us):xs.length=us.length:=Paired.length r
theorem ZA.get:∀ {xs:List V}{us:List Value}{i:Nat}{x:V},ZA xs us→xs[i]?=some x→∃ u,us[i]?=some u∧RelV x u
 | _,_,_,_,.nil,e=>by simp at e
 | _,_,0,_,.cons r _,e=>by simp at e; subst e; exact ⟨_,rfl,r⟩
 | _,_,i+1,x,.cons _ t,e=>by
  obtain ⟨u,h1,h2⟩:=ZA.get (i:=i) (x:=x) t (by simpa using e);exact ⟨u,by simpa using h1,h2⟩
theorem ZA.set {x:V}{u:Value} (r:RelV x u):∀ {xs:List V}{us:List Value} (i:Nat),ZA xs us→ZA (xs.set i x) (us.set i u)
 | _,_,_,.nil=>.nil
 | _,_,0,.cons _ t=>.cons r t
 | _,_,i+1,.cons q t=>.cons q (ZA.set r i t)
theorem ZA.append:∀ {xs ys:List V}{us ws:List Value},ZA xs us→ZA ys ws→ZA (xs++ys) (us++ws)
 | _,_,_,_,.nil,s=>s
 | _,_,_,_,.cons r t,s=>.cons r (ZA.append t s)
theorem ZA.take:∀ {xs:List V}{us:List Value} (n:Nat),ZA xs us→ZA (xs.take n) (us.take n)
 | _,_,0,_=>.nil
 | _,_,_+1,.nil=>.nil
 | _,_,n+1,.cons r t=>.cons r (ZA.take n t)
theorem ZA.drop:∀ {xs:List V}{us:List Value} (n:Nat),ZA xs us→ZA (xs.drop n) (us.drop n)
 | _,_,0,r=>r
 | _,_,_+1,.nil=>.nil
 | _,_,n+1,.cons _ t=>ZA.drop n t
theorem ZA.none_of:∀ {xs:List V}{us:List Value}{i:Nat},ZA xs us→xs[i]?=none→us[i]?=none:=fun {xs us i} r e=>by
 have h1:=r.length;have h2:xs.length≤i:=Zpn.mp e;exact Zpn.mpr (by omega)
def ZaC:Option V→Option Value→Prop
 | some v,some u=>RelV v u
 | none,none=>True
 | _,_=>False
def KV {κ:Type}:List (κ × V)→List (κ × Value)→Prop:=Paired fun (p:κ × V) (q:κ × Value)=>p.1=q.1∧RelV p.2 q.2
def kV:Key→V
 | .inl i=>.int i
 | .inr x=>.str x
inductive HO where
 | lst (xs:List V)
 | tup (xs:List V)
 | dK (kvs:List (Key × V)) | dT (kvs:List (List Key × V))
 | set (S:Int→Bool) (n:Nat)
 | ins (C dx:Addr) (fs:List (Str × V))
 | own (x:Addr)
 | xd (fs:List (Str × V))
 | met (f x:Addr)
 | rng (lo hi:Int)
 | frz (o:Obj) (u:HO)
 | tbl (ps:Array Value)
 | ext (φ:Heap→Prop)
abbrev Hp:=Addr→Option HO
def upd (H:Hp) (a:Addr) (o:HO):Hp:=fun b=>if b=a then some o else H b
theorem Za {H:Hp}{a:Addr}{o:HO}:upd H a o a=some o:=by unfold upd; rw [if_pos rfl]
theorem Zp {H:Hp}{a b:Addr}{o:HO} (h:b≠a):upd H a o b=H b:=by unfold upd; rw [if_neg h]
theorem Jp {H:Hp}{a:Addr}{o u:HO}:upd (upd H a o) a u=upd H a u:=by
 funext b; unfold upd; split <;> rfl
theorem Ye {H:Hp}{a b:Addr}{o u:HO} (h:H a=some o) (h':H b=some u) (d:o≠u):a≠b:=by
 intro e; subst e; rw [h] at h'; exact d (Option.some.inj h')
theorem ne_of_none {H:Hp}{a b:Addr}{o:HO} (h:H a=some o) (h':H b=none):a≠b:=by
 intro e; subst e; rw [h] at h'; cases h'
section
variable (P:Program) (w:World)
def Yh (H:Hp) (h:Heap) (a:Addr):HO→Prop
 | .lst xs=>xs.length≤sizeLine∧∃ (its:List Value) (n:Nat),ZA xs its∧h.get? a=some { cls:=.type "list",data:=.seq its.toArray n }
 | .tup xs=>xs.length≤sizeLine∧∃ its:List Value,ZA xs its∧IsTup h a its.toArray
 | .dK kvs=>kvs.length≤sizeLine∧(a == sysModules)=false∧∃ vs,KV kvs vs∧h.DictOf (Zy P w) a vs
 | .dT kvs=>kvs.length≤sizeLine∧(a == sysModules)=false∧∃ xs:List (List Key × Addr × Value),
   Paired (fun (p:List Key × V) (q:List Key × Addr × Value)=>p.1=q.1∧H q.2.1=some (.tup (p.1.map kV))∧RelV p.2 q.2.2) kvs xs∧
   ∃ o es ep,h.get? a=some o∧o.ExactDict∧o.data=.dict es ep∧es.toList=xs.map (entryOfKey (tupleKind (Zy P w)))∧(xs.map (·.1)).Nodup
 | .set S n=>h.SetOf (intKind P w) a S n
 | .ins C dx fs=>H dx=some (.own a)∧fs.length≤1000∧dx≠a∧h.get? a=some (Zoh C dx)∧
   ∃ mA,h.Ns1 dx mA∧(∀ f,ZaC (fs.lookup f) (mA f))∧Zrd mA (fs.map (·.1))
 | .own _=>∃ o,h.get? a=some o
 | .xd fs=>∃ mA,h.Ns1 a mA∧∀ f,ZaC (fs.lookup f) (mA f)
 | .rng lo hi=>∃ t u v,h.get? a=some { cls:=.type "range",data:=.fields #[.int lo t,.int hi u,.int 1 v] }
 | .frz o u=>h.get? a=some o∧Yh H h a u
 | .tbl ps=>h.get? a=some { cls:=.none,data:=.fields ps }
 | .met f x=>h.get? a=some (Zqy (.ref f) (.ref x))
 | .ext φ=>φ h∧(∃ o,h.get? a=some o)∧∀ h1 h2:Heap,φ h1→(∀ o,h1.get? a=some o→h2.get? a=some o)→φ h2
def HOk (H:Hp) (h:Heap):Prop:=∀ a o,H a=some o→Yh P w H h a o
end
section
variable {P:Program}{w:World}{H H':Hp}{h h':Heap}{a:Addr}{o:HO}
theorem Yh.lt (x:Yh P w H h a o):a < h.objs.size:=by
 cases o with
 | lst xs=>obtain ⟨_,_,_,_,e⟩:=x; exact Znx e
 | tup xs=>obtain ⟨_,_,_,p⟩:=x; exact p.lt
 | dK kvs=>obtain ⟨_,_,_,_,o,_,_,e,_⟩:=x; exact Znx e
 | dT kvs=>obtain ⟨_,_,_,_,o,_,_,e,_⟩:=x; exact Znx e
 | set S n=>obtain ⟨o,_,_,_,e,_⟩:=x; exact Znx e
 | ins C dx fs=>obtain ⟨_,_,_,e,_⟩:=x; exact Znx e
 | own y=>obtain ⟨_,e⟩:=x; exact Znx e
 | xd fs=>obtain ⟨_,⟨_,_,_,e,_⟩,_⟩:=x; exact Znx e
 | rng lo hi=>obtain ⟨_,_,_,e⟩:=x; exact Znx e
 | frz ob u=>obtain ⟨e,_⟩:=x; exact Znx e
 | tbl ps=>exact Znx (show h.get? a=some _ from x)
 | met f y=>exact Znx (show h.get? a=some _ from x)
 | ext φ=>obtain ⟨_,⟨_,e⟩,_⟩:=x; exact Znx e
theorem Paired.mapP {α β:Type}{F G:α→β→Prop}:∀ {l₁:List α}{l₂:List β},Paired F l₁ l₂→(∀ a b,F a b→G a b)→Paired G l₁ l₂
 | _,_,.nil,_=>.nil
 | _,_,.cons r t,f=>.cons (f _ _ r) (Paired.mapP t f)
theorem Yh.stay (x:Yh P w H h a o) (k:∀ b u,(b=a∨H b=some (.own a))→h.get? b=some u→h'.get? b=some u)
  (ho:∀ b,H b=some (.own a)→H' b=some (.own a)) (ht:∀ b xs,H b=some (.tup xs)→H' b=some (.tup xs)):Yh P w H' h' a o:=by
 induction o with
 | lst xs=>obtain ⟨z,its,n,r,e⟩:=x; exact ⟨z,its,n,r,k _ _ (.inl rfl) e⟩
 | tup xs=>obtain ⟨z,its,r,ob,e,c⟩:=x; exact ⟨z,its,r,ob,k _ _ (.inl rfl) e,c⟩
 | dK kvs=>obtain ⟨z,y,vs,r,ob,es,ep,e,c⟩:=x; exact ⟨z,y,vs,r,ob,es,ep,k _ _ (.inl rfl) e,c⟩
 | dT kvs=>
  obtain ⟨z,y,xs,r,ob,es,ep,e,c⟩:=x;exact ⟨z,y,xs,Paired.mapP r fun p q z=>⟨z.1,ht _ _ z.2.1,z.2.2⟩,ob,es,ep,k _ _ (.inl rfl) e,c⟩
 | set S n=>obtain ⟨ob,es,ep,t,e,c⟩:=x; exact ⟨ob,es,ep,t,k _ _ (.inl rfl) e,c⟩
 | ins C dx fs=>
  obtain ⟨d,z,ne,e,mA,⟨od,es,ep,e2,c⟩,r⟩:=x;exact ⟨ho _ d,z,ne,k _ _ (.inl rfl) e,mA,⟨od,es,ep,k _ _ (.inr d) e2,c⟩,r⟩
 | own y=>obtain ⟨ob,e⟩:=x; exact ⟨ob,k _ _ (.inl rfl) e⟩
 | xd fs=>obtain ⟨mA,⟨od,es,ep,e,c⟩,r⟩:=x; exact ⟨mA,⟨od,es,ep,k _ _ (.inl rfl) e,c⟩,r⟩
 | rng lo hi=>obtain ⟨t,u,v,e⟩:=x; exact ⟨t,u,v,k _ _ (.inl rfl) e⟩
 | frz ob u ih=>obtain ⟨e,q⟩:=x; exact ⟨k _ _ (.inl rfl) e,ih q⟩
 | tbl ps=>
  have e:h.get? a=some { cls:=.none,data:=.fields ps }:=x;show h'.get? a=some { cls:=.none,data:=.fields ps };exact k a _ (.inl rfl) e
 | met f y=>
  have e:h.get? a=some (Zqy (.ref f) (.ref y)):=x;show h'.get? a=some (Zqy (.ref f) (.ref y));exact k a _ (.inl rfl) e
 | ext φ=>obtain ⟨p,⟨o,e⟩,st⟩:=x; exact ⟨st _ _ p fun o q=>k _ _ (.inl rfl) q,⟨o,k _ _ (.inl rfl) e⟩,st⟩
theorem HOk.lt (x:HOk P w H h) (e:H a=some o):a < h.objs.size:=(x a o e).lt
theorem HOk.fresh (x:HOk P w H h) (e:h.objs.size≤a):H a=none:=by
 cases q:H a with
 | none=>rfl
 | some u=>exact absurd (ZnQ (x.lt q) e) (ZoT _)
theorem HOk.kept (x:HOk P w H h) (k:∀ b u,h.get? b=some u→h'.get? b=some u):HOk P w H h':=fun a o e=>
 (x a o e).stay (fun b u _ q=>k b u q) (fun _ q=>q) fun _ _ q=>q
theorem HOk.laid (x:HOk P w H h) (k:∀ b u,h.get? b=some u→h'.get? b=some u) (hp:h.objs.size≤a) (new:Yh P w (upd H a o) h' a o):HOk P w (upd H a o) h':=fun b u e=>by
 have hn:=x.fresh hp;by_cases hb:b=a
 ·subst hb; rw [Za] at e; cases e; exact new
 ·rw [Zp hb] at e;exact (x b u e).stay (fun c v _ q=>k c v q) (fun c q=>by rw [Zp (ne_of_none q hn)]; exact q) fun c xs q=>by rw [Zp (ne_of_none q hn)]; exact q
end
def Rd (H:Hp) (a:Addr) (u:HO):Prop:=H a=some u∨∃ o,H a=some (.frz o u)
theorem Rd.ok {P:Program}{w:World}{H:Hp}{h:Heap}{a:Addr}{u:HO} (r:Rd H a u) (x:HOk P w H h):Yh P w H h a u:=by
 rcases r with r | ⟨o,r⟩
 ·exact x a u r
 ·obtain ⟨_,q⟩:=x a _ r;exact q
def Mut:Option HO→Prop
 | some (.lst _)=>True
 | some (.dK _)=>True
 | some (.dT _)=>True
 | some (.set _ _)=>True
 | some (.ins _ _ _)=>True
 | some (.ext _)=>True
 | _=>False
section
variable {P:Program}{w:World}{H:Hp}{h h':Heap}{x e:Addr}{o':HO}
theorem HOk.write (ok:HOk P w H h) (mu:Mut (H x)) (he:e=x∨H e=some (.own x)) (k:∀ b u,b≠e→h.get? b=some u→h'.get? b=some u) (heo:∃ u,h'.get? e=some u)
  (new:Yh P w (upd H x o') h' x o'):HOk P w (upd H x o') h':=fun b u q=>by
 have nown:∀ c y,H c=some (.own y)→c≠x:=fun c y r z=>by subst z; rw [r] at mu; exact mu
 have ntup:∀ c xs,H c=some (.tup xs)→c≠x:=fun c xs r z=>by subst z; rw [r] at mu; exact mu
 by_cases hb:b=x
 ·subst hb; rw [Za] at q; cases q; exact new
 ·rw [Zp hb] at q;by_cases hbe:b=e
  ·have q':H b=some (.own x):=by
    rcases he with z | z
    ·exact absurd (hbe.trans z) hb
    ·rw [hbe]; exact z
   rw [q] at q'; cases q';obtain ⟨v,hv⟩:=heo;exact ⟨v,by rw [hbe]; exact hv⟩
  ·refine (ok b u q).stay (fun c v hc r=>k c v ?_ r) (fun c r=>by rw [Zp (nown c b r)]; exact r) fun c xs r=>by rw [Zp (ntup c xs r)]; exact r
   rcases hc with rfl | hc
   ·exact hbe
   ·rintro rfl;rcases he with z | z
    ·exact nown c b hc z
    ·rw [hc] at z; cases z; exact hb rfl
end
structure Un (fs ex:List Addr) (H H':Hp) (h h':Heap):Prop where
 keep:∀ b o,h.get? b=some o→H b=none→b ∉ fs→b ∉ ex→h'.get? b=some o
 slot:∀ b o,h.get? b=some o→H b=none→b∈fs→b ∉ ex→∃ sl,h'.get? b=some { o with slots:=sl }
 free:∀ b o,h.get? b=some o→H b=none→b ∉ ex→H' b=none
 there:∀ b o,h.get? b=some o→b ∉ ex→∃ o',h'.get? b=some o'
 tups:∀ b xs,H b=some (.tup xs)→H' b=some (.tup xs)
 frzs:∀ b o u,H b=some (.frz o u)→H' b=some (.frz o u)
 tbls:∀ b ps,H b=some (.tbl ps)→∃ more,H' b=some (.tbl (ps++more))
section
variable {fs fs' ex ex':List Addr}{H H1 H2:Hp}{h h1 h2 h':Heap}{a x e:Addr}{o:HO}
theorem Un.any (u:Un fs ex H H1 h h1) {b:Addr}{ob:Obj} (q:h.get? b=some ob) (n:H b=none) (hx:b ∉ ex):∃ sl,h1.get? b=some { ob with slots:=sl }:=by
 by_cases hb:b∈fs
 ·exact u.slot b ob q n hb hx
 ·exact ⟨ob.slots,u.keep b ob q n hb hx⟩
theorem Un.kept (k:∀ b u,h.get? b=some u→h'.get? b=some u):Un fs ex H H h h':=
 ⟨fun b ob q _ _ _=>k b ob q,fun b ob q _ _ _=>⟨ob.slots,k b ob q⟩,fun _ _ _ n _=>n,fun b ob q _=>⟨ob,k b ob q⟩,fun _ _ q=>q,fun _ _ _ q=>q,fun _ ps q=>⟨#[],by rw [q]; simp⟩⟩
theorem Un.refl:Un fs ex H H h h:=Un.kept fun _ _ q=>q
theorem Un.laid (k:∀ b u,h.get? b=some u→h'.get? b=some u) (hp:h.objs.size≤a) (hn:H a=none):Un fs ex H (upd H a o) h h' where
 keep:=fun b u q _ _ _=>k b u q
 slot:=fun b u q _ _ _=>⟨u.slots,k b u q⟩
 free:=fun b u q n _=>by rw [Zp (ZnK (ZnQ (Znx q) hp))]; exact n
 there:=fun b u q _=>⟨u,k b u q⟩
 tups:=fun b xs q=>by rw [Zp (ne_of_none q hn)]; exact q
 frzs:=fun b u xs q=>by rw [Zp (ne_of_none q hn)]; exact q
 tbls:=fun b ps q=>⟨#[],by rw [Zp (ne_of_none q hn),q]; simp⟩
theorem Un.write (mu:Mut (H x)) (he:e=x∨H e=some (.own x)) (k:∀ b u,b≠e→h.get? b=some u→h'.get? b=some u) (heo:∃ u,h'.get? e=some u):Un fs ex H (upd H x o) h h':=by
 have hx:∀ b,H b=none→b≠x:=fun b n z=>by subst z; rw [n] at mu; exact mu
 have hb:∀ b,H b=none→b≠e:=fun b n z=>by
  subst z;rcases he with r | r
  ·exact hx b n r
  ·rw [n] at r; cases r
 have hm:∀ b u,H b=some u→¬ Mut (some u)→b≠x:=fun b u q nm z=>by subst z; rw [q] at mu; exact nm mu
 refine ⟨fun b u q n _ _=>k b u (hb b n) q,fun b u q n _ _=>⟨u.slots,k b u (hb b n) q⟩,fun b u q n _=>by rw [Zp (hx b n)]; exact n,fun b u q _=>?_,
  fun b xs q=>by rw [Zp (hm b _ q fun z=>z)]; exact q,fun b u xs q=>by rw [Zp (hm b _ q fun z=>z)]; exact q,fun b ps q=>⟨#[],by rw [Zp (hm b _ q fun z=>z),q]; simp⟩⟩
 by_cases hbe:b=e
 ·subst hbe; exact heo
 ·exact ⟨u,k b u hbe q⟩
end
def trk (h:Heap) (H:Hp):List Addr:=(ZnB h.objs.size).filter fun a=>(H a).isSome
def ZeM (h:Heap) (H:Hp):Heap:=PySem.W.hideAll h (trk h H)
theorem Ziw (h:Heap) (H:Hp):(ZeM h H).objs.size=h.objs.size:=PySem.W.hideAll_size _ _
theorem Zc3 {h:Heap}{H:Hp}{b:Addr}{o:Obj} (e:h.get? b=some o) (n:H b=none):(ZeM h H).get? b=some o:=
 Zrl _ e fun hm=>by
  have q:(H b).isSome=true:=(Zp5.mp hm).2;rw [n] at q; simp at q
theorem Zlk {h:Heap}{H:Hp}{b:Addr}{o:Obj} (e:(ZeM h H).get? b=some o):h.get? b=some o∧H b=none:=by
 have e':h.get? b=some o:=Zrr (trk h H) e;refine ⟨e',?_⟩;cases q:H b with
 | none=>rfl
 | some x=>
  have hm:b∈trk h H:=Zp5.mpr ⟨Zoq.mpr (Znx e'),by simp [q]⟩;have z:(ZeM h H).get? b=none:=PySem.W.hideAll_none (trk h H) hm;rw [z] at e; cases e
def ZbB (g h:Heap) (L:Addr):List (Addr × Obj):=(ZnB h.objs.size).filterMap fun a=>if a=L∨(g.get? a).isSome=true then none else (h.get? a).map fun o=>(a,o)
theorem ZfT {g h:Heap}{L a:Addr}{o:Obj} (h1:a≠L) (h2:g.get? a=none) (h3:h.get? a=some o):(a,o)∈ZbB g h L:=
 ZoS.mpr ⟨a,Zoq.mpr (Znx h3),by simp [h1,h2,h3]⟩
theorem Zdl {g h:Heap}{L:Addr}{p:Addr × Obj} (hp:p∈ZbB g h L):p.1≠L∧g.get? p.1=none∧h.get? p.1=some p.2:=by
 obtain ⟨b,_,e⟩:=ZoS.mp hp;split at e
 ·cases e
 ·rename_i hn;cases q:h.get? b with
  | none=>rw [q] at e; simp at e
  | some u=>
   rw [q] at e;simp only [Option.map_some,Option.some.injEq] at e;subst e;refine ⟨fun z=>hn (.inl z),?_,q⟩;show g.get? b=none;cases r:g.get? b with
   | none=>rfl
   | some v=>exact (hn (.inr (by simp [r]))).elim
theorem Zj6 {g h:Heap}{L:Addr}:News g L h (ZbB g h L):=fun p hp=>let ⟨a,b,c⟩:=Zdl hp; ⟨c,a,b⟩
structure Mod (K:Znj) (mg:Str→Option Value) (base:Heap):Prop where
 kin:K.In base
 glob:base.Ns mainGlobals mg
 blt:∃ mb,base.Ns builtinsNs mb∧∀ x:Str,x≠"__name__"→mb x=bootBuiltins x
 nolimit:base.NoLimit
structure Cx where
 prog:Program
 w:World
 K:Znj
 mg:Str→Option Value
 base:Heap
 A:Around
 N:List Str
 s₀:Shared
 H₀:Hp
 env:Env
 outer:List Env
 stack:List Env
 ex:List Addr
 fn:Str→Bool
 calm:Bool
 pn:List (Addr × Obj)
 xe:Value→Shared→Prop
def frs (l:List Env):List Addr:=l.filterMap (·.frame)
abbrev Cx.fs (X:Cx):List Addr:=frs X.outer
def Vis (sc:Scope) (x:Str):Prop:=sc.names.lookup x=some .local∨sc.names.lookup x=some .cell∨sc.names.lookup x=some .free
def Loc (sc:Scope) (x:Str):Prop:=sc.names.lookup x=some .local∨sc.names.lookup x=some .cell
def Look (env:Env) (h:Heap) (m:Str→Option Value) (x:Str) (u:Value):Prop:=
 (env.kindOf x=some .local∧m x=some u)∨((env.kindOf x=some .cell∨env.kindOf x=some .free)∧∃ c,env.cells.lookup x=some c∧h.IsCell c (some u))
structure Cx.Ok (X:Cx):Prop where
 mod:Mod X.K X.mg X.base
 kind:X.env.scope.kind=.function
 glob:X.env.globals=mainGlobals
 blt:X.env.builtins=builtinsNs
 above:X.s₀.heap.objs.size≤X.env.locals
 inj:∀ x y c,X.env.cells.lookup x=some c→X.env.cells.lookup y=some c→x=y
 has:∀ x,(X.env.kindOf x=some .cell∨X.env.kindOf x=some .free)→∃ c,X.env.cells.lookup x=some c
 cab:∀ x c,X.fn x=true→X.env.cells.lookup x=some c→X.s₀.heap.objs.size≤c
 hd:X.calm=true→X.A.handled=none
 frames:X.A.frames=some X.stack
 stk:X.stack=X.outer∨(X.stack=X.env :: X.outer∧X.env.frame=some X.env.locals)
 exf:∀ b∈X.ex,b≠X.env.locals∧∀ x c,X.env.cells.lookup x=some c→c≠b
 bs:∀ b o,X.base.get? b=some o→X.s₀.heap.get? b=some o∧X.H₀ b=none
 bsz:X.base.objs.size≤X.s₀.heap.objs.size
 noex:∀ b o,X.base.get? b=some o→b ∉ X.ex
 exfs:∀ b∈X.ex,b ∉ X.fs
 funs:X.s₀.heap.FunFrames X.base X.outer
 frf:∀ b∈X.fs,X.H₀ b=none
structure Inv (X:Cx) (pins:List (Addr × Obj)) (σ:List (Option V)) (H:Hp) (s:Shared):Prop where
 ok:X.Ok
 os:s.os=X.s₀.os
 bare:AllBare s.gens
 base:Un X.fs X.ex X.H₀ H X.s₀.heap s.heap
 loc:∃ m,s.heap.Ns X.env.locals m∧∀ (i:Nat) (x:Str) (v:V),X.N[i]?=some x→σ[i]?=some (some v)→Vis X.env.scope x→∃ u,RelV v u∧Look X.env s.heap m x u
 cell:∀ x c,X.env.cells.lookup x=some c→∃ v,s.heap.IsCell c v
 free:H X.env.locals=none
 freeC:∀ x c,X.env.cells.lookup x=some c→H c=none
 pin:∀ p∈X.pn++pins,s.heap.get? p.1=some p.2∧H p.1=none∧p.1≠X.env.locals∧p.1 ∉ X.fs∧∀ v,p.2.data≠.cell v
 hok:HOk X.prog X.w H s.heap
 len:σ.length=X.N.length
section
variable {X:Cx}{pins:List (Addr × Obj)}{σ:List (Option V)}{H H':Hp}{s:Shared}{h':Heap}
theorem Cx.Ok.nofr (ok:X.Ok) {b:Addr}{o:Obj} (e:X.base.get? b=some o):b ∉ X.fs:=fun hb=>by
 have:=(ok.funs.mem hb).1;rw [e] at this; cases this
theorem Inv.bs (I:Inv X pins σ H s):∀ b o,X.base.get? b=some o→s.heap.get? b=some o∧H b=none:=fun b o e=>
 ⟨I.base.keep b o (I.ok.bs b o e).1 (I.ok.bs b o e).2 (I.ok.nofr e) (I.ok.noex b o e),I.base.free b o (I.ok.bs b o e).1 (I.ok.bs b o e).2 (I.ok.noex b o e)⟩
theorem Inv.bk (I:Inv X pins σ H s):∀ b o,X.base.get? b=some o→s.heap.get? b=some o:=fun b o e=>(I.bs b o e).1
theorem Inv.mod (I:Inv X pins σ H s):Mod X.K X.mg X.base:=I.ok.mod
theorem Inv.kIn (I:Inv X pins σ H s):X.K.In s.heap:=I.ok.mod.kin.keeps I.bk
theorem Inv.nolimit (I:Inv X pins σ H s):s.heap.NoLimit:=I.ok.mod.nolimit.keeps I.bk
theorem Inv.fr (I:Inv X pins σ H s):∃ m,Fr X.base X.env.locals s.heap m:=
 let ⟨m,hn,_⟩:=I.loc
 ⟨m,hn,I.bk,Zog I.ok.bsz I.ok.above⟩
theorem Inv.lt (I:Inv X pins σ H s):X.env.locals < s.heap.objs.size:=let ⟨_,hn,_⟩:=I.loc; hn.lt
theorem Inv.sz (I:Inv X pins σ H s):X.s₀.heap.objs.size≤s.heap.objs.size:=Zog I.ok.above (Zpy I.lt)
theorem Inv.nofs (I:Inv X pins σ H s) {a:Addr} (h:s.heap.objs.size≤a):a ∉ X.fs:=fun hb=>by
 obtain ⟨_,o,ho,_⟩:=I.ok.funs.mem hb;exact absurd (ZnQ (Znx ho) (Zog I.sz h)) (ZoT _)
theorem Inv.cne (I:Inv X pins σ H s):∀ x c,X.env.cells.lookup x=some c→c≠X.env.locals:=fun x c e z=>by
 obtain ⟨v,o,ho,hd⟩:=I.cell x c e;obtain ⟨m,⟨o',es,ep,ho',hd',_⟩,_⟩:=I.loc;rw [z,ho'] at ho; cases ho; rw [hd'] at hd; cases hd
theorem Inv.funs (I:Inv X pins σ H s):s.heap.FunFrames X.base X.outer:=by
 have all:∀ (l:List Env),(∀ b∈frs l,b∈X.fs)→X.s₀.heap.FunFrames X.base l→s.heap.FunFrames X.base l:=by
  intro l;induction l with
  | nil=>intro _ _; trivial
  | cons env r ih=>
   intro hs hl;obtain ⟨hk,⟨L,o,hf,hn,ho,hd⟩,hr⟩:=hl;have hL:L∈X.fs:=hs L (by unfold frs; rw [Zps,hf]; exact ZnF);obtain ⟨sl,e⟩:=I.base.slot L o ho (I.ok.frf L hL) hL fun z=>I.ok.exfs L z hL;exact ⟨hk,⟨L,_,hf,hn,e,hd⟩,ih (fun b hb=>hs b (by unfold frs; rw [Zps,hf]; exact ZnC _ hb)) hr⟩
 exact all X.outer (fun _ hb=>hb) I.ok.funs
theorem Inv.stack (I:Inv X pins σ H s):s.heap.FunFrames X.base X.stack:=by
 rcases I.ok.stk with e | ⟨e,hf⟩
 ·rw [e]; exact I.funs
 ·rw [e];obtain ⟨m,hn,_⟩:=I.loc;refine .cons (by rw [I.ok.kind]; decide) hf hn ?_ I.funs;exact Heap.get?_none_of_le (Zog I.ok.bsz I.ok.above)
theorem Inv.stkSub (I:Inv X pins σ H s):∀ b∈frs X.stack,b∈X.env.locals :: X.fs:=fun b hb=>by
 rcases I.ok.stk with e | ⟨e,hf⟩
 ·rw [e] at hb; exact ZnC _ hb
 ·rw [e] at hb;unfold frs at hb;rw [Zps,hf] at hb;exact hb
theorem Inv.stkFree (I:Inv X pins σ H s):∀ b∈frs X.stack,H b=none:=fun b hb=>by
 rcases Znz.mp (I.stkSub b hb) with e | hb
 ·rw [e]; exact I.free
 ·obtain ⟨_,o,ho,_⟩:=I.ok.funs.mem hb;exact I.base.free b o ho (I.ok.frf b hb) fun z=>I.ok.exfs b z hb
theorem Inv.step {g':Array GenState}{t':Nat}{d':Drawn}{ch:List Addr} (I:Inv X pins σ H s)
  (hch:∀ b∈ch,(b∈X.ex∨X.s₀.heap.objs.size≤b)∧b≠X.env.locals∧(∀ x c,X.env.cells.lookup x=some c→c≠b)∧∀ p∈X.pn++pins,p.1≠b)
  (keep:∀ b o,b≠X.env.locals→b ∉ X.fs→b ∉ ch→s.heap.get? b=some o→H b=none→h'.get? b=some o)
  (slot:∀ b o,b≠X.env.locals→b∈X.fs→b ∉ ch→s.heap.get? b=some o→H b=none→∃ sl,h'.get? b=some { o with slots:=sl }) (free:∀ b o,b ∉ ch→s.heap.get? b=some o→H b=none→H' b=none)
  (there:∀ b o,b ∉ ch→s.heap.get? b=some o→∃ o',h'.get? b=some o')
  (tups:∀ b xs,H b=some (.tup xs)→H' b=some (.tup xs)) (frzs:∀ b o u,H b=some (.frz o u)→H' b=some (.frz o u)) (tbls:∀ b ps,H b=some (.tbl ps)→∃ more,H' b=some (.tbl (ps++more)))
  (ns:∀ m,s.heap.Ns X.env.locals m→h'.Ns X.env.locals m) (hok:HOk X.prog X.w H' h') (hg:AllBare g'):
  Inv X pins σ H' { s with heap:=h',gens:=g',drawn:=d',toks:=t' }:=by
 have neL:∀ b o,X.s₀.heap.get? b=some o→b≠X.env.locals:=fun b o e=>ZnK (ZnQ (Znx e) I.ok.above);have neC:∀ b o,X.s₀.heap.get? b=some o→b ∉ X.ex→b ∉ ch:=fun b o e hx hb=>by
  rcases (hch b hb).1 with z | z
  ·exact hx z
  ·exact absurd (ZnQ (Znx e) z) (ZoT _)
 have cellK:∀ x c,X.env.cells.lookup x=some c→∀ v,s.heap.IsCell c v→h'.IsCell c v:=fun x c e v ⟨o,ho,hd⟩=>by
  have nch:c ∉ ch:=fun z=>(hch c z).2.2.1 x c e rfl;by_cases hc:c∈X.fs
  ·obtain ⟨sl,q⟩:=slot c o (I.cne x c e) hc nch ho (I.freeC x c e);exact ⟨_,q,hd⟩
  ·exact ⟨o,keep c o (I.cne x c e) hc nch ho (I.freeC x c e),hd⟩
 refine ⟨I.ok,I.os,hg,⟨fun b o e n hb hx=>?_,fun b o e n hb hx=>?_,fun b o e n hx=>?_,fun b o e hx=>?_,fun b xs e=>tups b xs (I.base.tups b xs e),fun b o xs e=>frzs b o xs (I.base.frzs b o xs e),fun b ps e=>?_⟩,?_,fun x c e=>?_,?_,fun x c e=>?_,fun p hp=>?_,hok,I.len⟩
 ·exact keep b o (neL b o e) hb (neC b o e hx) (I.base.keep b o e n hb hx) (I.base.free b o e n hx)
 ·obtain ⟨sl,e1⟩:=I.base.slot b o e n hb hx;obtain ⟨sl',e2⟩:=slot b _ (neL b o e) hb (neC b o e hx) e1 (I.base.free b o e n hx);exact ⟨sl',e2⟩
 ·obtain ⟨o',e1⟩:=I.base.there b o e hx;exact free b o' (neC b o e hx) e1 (I.base.free b o e n hx)
 ·obtain ⟨o',e1⟩:=I.base.there b o e hx;exact there b o' (neC b o e hx) e1
 ·obtain ⟨m1,e1⟩:=I.base.tbls b ps e;obtain ⟨m2,e2⟩:=tbls b _ e1;exact ⟨m1++m2,by rw [e2,Array.append_assoc]⟩
 ·obtain ⟨m,hn,hl⟩:=I.loc;refine ⟨m,ns m hn,fun i x v e1 e2 e3=>?_⟩;obtain ⟨u,r,l⟩:=hl i x v e1 e2 e3;refine ⟨u,r,?_⟩;rcases l with l | ⟨k,c,e,z⟩
  ·exact .inl l
  ·exact .inr ⟨k,c,e,cellK x c e _ z⟩
 ·obtain ⟨v,z⟩:=I.cell x c e;exact ⟨v,cellK x c e v z⟩
 ·obtain ⟨m,⟨o,_,_,ho,_⟩,_⟩:=I.loc;exact free _ o (fun z=>(hch _ z).2.1 rfl) ho I.free
 ·obtain ⟨v,o,ho,hd⟩:=I.cell x c e;exact free c o (fun z=>(hch c z).2.2.1 x c e rfl) ho (I.freeC x c e)
 ·obtain ⟨e,n,ne,nf,d⟩:=I.pin p hp;have nch:p.1 ∉ ch:=fun z=>(hch p.1 z).2.2.2 p hp rfl;exact ⟨keep p.1 p.2 ne nf nch e n,free p.1 p.2 nch e n,ne,nf,d⟩
theorem Inv.un {t':Nat} (I:Inv X pins σ H s) (u:Un X.fs [] H H' s.heap h') (hok:HOk X.prog X.w H' h'):Inv X pins σ H' { s with heap:=h',toks:=t' }:=by
 obtain ⟨m,⟨o,es,ep,ho,r⟩,_⟩:=id I.loc;obtain ⟨sl,hL⟩:=u.any ho I.free (by simp);exact I.step (g':=s.gens) (d':=s.drawn) (ch:=[]) (fun _ z=>nomatch z) (fun b o _ hb _ e n=>u.keep b o e n hb (by simp)) (fun b o _ hb _ e n=>u.slot b o e n hb (by simp)) (fun b o _ e n=>u.free b o e n (by simp)) (fun b o _ e=>u.there b o e (by simp)) u.tups u.frzs u.tbls (fun m' hm=>by
  obtain ⟨o',es',ep',ho',r'⟩:=hm;rw [ho] at ho'; cases ho';exact ⟨_,es',ep',hL,r'⟩) hok I.bare
theorem Inv.call {g':Array GenState}{t':Nat}{d':Drawn}{ch:List Addr} (I:Inv X pins σ H s) (u:Un (frs X.stack) ch H H' s.heap h') (hok:HOk X.prog X.w H' h') (hg:AllBare g')
  (hch:∀ b∈ch,(b∈X.ex∨X.s₀.heap.objs.size≤b)∧b≠X.env.locals∧(∀ x c,X.env.cells.lookup x=some c→c≠b)∧∀ p∈X.pn++pins,p.1≠b):
  Inv X pins σ H' { s with heap:=h',gens:=g',drawn:=d',toks:=t' }:=by
 obtain ⟨m,⟨o,es,ep,ho,r⟩,_⟩:=id I.loc;obtain ⟨sl,hL⟩:=u.any ho I.free fun z=>(hch _ z).2.1 rfl;exact I.step (ch:=ch) hch (fun b o hL hb hc e n=>u.keep b o e n (fun z=>(Znz.mp (I.stkSub b z)).elim hL hb) hc) (fun b o _ _ hc e n=>u.any e n hc) (fun b o hc e n=>u.free b o e n hc) (fun b o hc e=>u.there b o e hc) u.tups u.frzs u.tbls (fun m' hm=>by
  obtain ⟨o',es',ep',ho',r'⟩:=hm;rw [ho] at ho'; cases ho';exact ⟨_,es',ep',hL,r'⟩) hok hg
theorem Inv.turned {t':Nat}{it:Addr} (I:Inv X pins σ H s) (k:∀ b o,b≠it→s.heap.get? b=some o→h'.get? b=some o) (hn:H it=none) (hL:it≠X.env.locals)
  (h1:it∈X.ex∨X.s₀.heap.objs.size≤it) (h2:∀ x c,X.env.cells.lookup x=some c→c≠it) (h3:∀ p∈X.pn++pins,p.1≠it):Inv X pins σ H { s with heap:=h',toks:=t' }:=by
 have nit:∀ b u,H b=some u→b≠it:=fun b u e z=>by rw [z,hn] at e; cases e
 refine I.step (g':=s.gens) (d':=s.drawn) (ch:=[it]) (fun b hb=>?_) (fun b o _ _ hc e _=>k b o (fun z=>hc (by simp [z])) e) (fun b o _ _ hc e _=>⟨o.slots,k b o (fun z=>hc (by simp [z])) e⟩) (fun _ _ _ _ n=>n)
  (fun b o hc e=>⟨o,k b o (fun z=>hc (by simp [z])) e⟩) (fun _ _ e=>e) (fun _ _ _ e=>e) (fun b ps e=>⟨#[],by rw [e]; simp⟩) (fun m hm=>?_) (fun b u e=>?_) I.bare
 ·have e:b=it:=by simpa using hb
  subst e;exact ⟨h1,hL,h2,h3⟩
 ·obtain ⟨o,es,ep,ho,r⟩:=hm;exact ⟨o,es,ep,k _ o (Ne.symm hL) ho,r⟩
 ·refine (I.hok b u e).stay (fun c v hc q=>k c v ?_ q) (fun _ q=>q) fun _ _ q=>q;rcases hc with z | z
  ·rw [z]; exact nit b u e
  ·exact nit c _ z
theorem Inv.tok (I:Inv X pins σ H s) (t:Nat):Inv X pins σ H { s with toks:=t }:=I.un (h':=s.heap) (t':=t) Un.refl I.hok
theorem Inv.kept {t':Nat} (I:Inv X pins σ H s) (k:∀ b u,s.heap.get? b=some u→h'.get? b=some u):Inv X pins σ H { s with heap:=h',toks:=t' }:=I.un (Un.kept k) (I.hok.kept k)
theorem Inv.laid {a:Addr}{o:HO}{t':Nat} (I:Inv X pins σ H s) (k:∀ b u,s.heap.get? b=some u→h'.get? b=some u) (hp:s.heap.objs.size≤a) (new:Yh X.prog X.w (upd H a o) h' a o):
  Inv X pins σ (upd H a o) { s with heap:=h',toks:=t' }:=I.un (Un.laid k hp (I.hok.fresh hp)) (I.hok.laid k hp new)
theorem Inv.write {x e:Addr}{o:HO}{t':Nat} (I:Inv X pins σ H s) (mu:Mut (H x)) (he:e=x∨H e=some (.own x)) (k:∀ b u,b≠e→s.heap.get? b=some u→h'.get? b=some u) (heo:∃ u,h'.get? e=some u)
  (new:Yh X.prog X.w (upd H x o) h' x o):Inv X pins σ (upd H x o) { s with heap:=h',toks:=t' }:=I.un (Un.write mu he k heo) (I.hok.write mu he k heo new)
theorem Inv.pins_of {pins':List (Addr × Obj)} (I:Inv X pins σ H s) (h:∀ p∈pins',s.heap.get? p.1=some p.2∧H p.1=none∧p.1≠X.env.locals∧p.1 ∉ X.fs∧∀ v,p.2.data≠.cell v):Inv X pins' σ H s:=
 ⟨I.ok,I.os,I.bare,I.base,I.loc,I.cell,I.free,I.freeC,fun p hp=>(Zns.mp hp).elim (fun z=>I.pin p (ZoC _ z)) (h p),I.hok,I.len⟩
theorem nodup_ix {N:List Str} (hN:N.Nodup) {i j:Nat}{x:Str} (a:N[i]?=some x) (b:N[j]?=some x):i=j:=by
 obtain ⟨h1,e1⟩:=Znw.mp a;obtain ⟨h2,e2⟩:=Znw.mp b;exact (List.getElem_inj hN).mp (e1.trans e2.symm)
theorem store_ok2 {M:Model}{A:Around}{E:Value→Shared→Prop}{i:Nat}{x:Str}{v:V}{u:Value}{Q:Unit→Shared→Prop} (I:Inv X pins σ H s) (hN:X.N.Nodup) (hi:X.N[i]?=some x) (hx:Loc X.env.scope x) (r:RelV v u)
  (h:∀ s',Inv X pins (σ.set i (some v)) H s'→(∃ a,Zo7 a s.heap s'.heap∧(a=X.env.locals∨X.env.cells.lookup x=some a))→Q () s') (hf:X.fn x=true∨X.env.scope.names.lookup x=some .local:=by first | exact .inl rfl | exact .inr rfl | assumption):wpAny M A (storeName X.env x u) Q E s:=by
 obtain ⟨m,hn,hl⟩:=id I.loc;have hcls:(X.env.scope.kind == .class || (X.env.scope.kind == .module && X.env.locals != X.env.globals))=false:=by rw [I.ok.kind]; rfl
 have hiσ:i < σ.length:=by rw [I.len]; exact (Znw.mp hi).1
 have cne:=I.cne;have tracked:∀ {a:Addr}{h':Heap},(∃ o,s.heap.get? a=some o∧H a=none)→Zo7 a s.heap h'→HOk X.prog X.w H h':=fun {a h'} ha hs b ob e=>by
  obtain ⟨_,_,hfree⟩:=ha;refine (I.hok b ob e).stay (fun c w' hc q=>(hs.2 c ?_).trans q) (fun _ q=>q) fun _ _ q=>q;rintro rfl;rcases hc with rfl | hc
  ·rw [hfree] at e; cases e
  ·rw [hfree] at hc; cases hc
 rcases hx with hk | hk
 ·refine wpAny_storeName_local hk hn (fun h' hn' hs=>?_) hcls;obtain ⟨oL,_,_,hoL,_⟩:=id hn;refine h _ ⟨I.ok,I.os,I.bare,⟨fun b o e n hb hx=>?_,fun b o e n hb hx=>?_,I.base.free,fun b o e hx=>?_,I.base.tups,I.base.frzs,I.base.tbls⟩,⟨_,hn',fun j y v' e1 e2 e3=>?_⟩,fun y c e=>?_,I.free,I.freeC,fun p hp=>?_,tracked ⟨oL,hoL,I.free⟩ hs,by simpa using I.len⟩ ⟨_,hs,.inl rfl⟩
  ·exact (hs.2 b (ZnK (ZnQ (Znx e) I.ok.above))).trans (I.base.keep b o e n hb hx)
  ·obtain ⟨sl,e1⟩:=I.base.slot b o e n hb hx;exact ⟨sl,(hs.2 b (ZnK (ZnQ (Znx e) I.ok.above))).trans e1⟩
  ·obtain ⟨o',e1⟩:=I.base.there b o e hx;exact ⟨o',(hs.2 b (ZnK (ZnQ (Znx e) I.ok.above))).trans e1⟩
  ·by_cases hj:j=i
   ·subst hj;rw [hi] at e1; cases e1;rw [ZqT hiσ] at e2;cases e2;exact ⟨u,r,.inl ⟨hk,by simp⟩⟩
   ·rw [Zre (Ne.symm hj)] at e2;obtain ⟨u',r',q⟩:=hl j y v' e1 e2 e3;refine ⟨u',r',?_⟩;rcases q with ⟨k,e⟩ | ⟨k,c,e,z⟩
    ·refine .inl ⟨k,?_⟩;have:y≠x:=fun e=>hj (nodup_ix hN e1 (e ▸ hi));simp [this,e]
    ·exact .inr ⟨k,c,e,z.sameBut hs (cne y c e)⟩
  ·obtain ⟨w',z⟩:=I.cell y c e;exact ⟨w',z.sameBut hs (cne y c e)⟩
  ·obtain ⟨e,n,ne,nf,d⟩:=I.pin p hp;exact ⟨(hs.2 p.1 ne).trans e,n,ne,nf,d⟩
 ·have hfn:X.fn x=true:=by
   rcases hf with z | z
   ·exact z
   ·rw [z] at hk; cases hk
  obtain ⟨c,hc⟩:=I.ok.has x (.inl hk);obtain ⟨w',z⟩:=I.cell x c hc;refine wpAny_storeName_cell I.ok.kind hk hc z (fun h' hc' hs=>?_);obtain ⟨oc,hoc,hocd⟩:=id z;refine h { s with heap:=h' } ⟨I.ok,I.os,I.bare,⟨fun b o e n hb hx=>?_,fun b o e n hb hx=>?_,I.base.free,fun b o e hx=>?_,I.base.tups,I.base.frzs,I.base.tbls⟩,⟨m,hn.sameBut hs (Ne.symm (cne x c hc)),fun j y v' e1 e2 e3=>?_⟩,fun y c' e=>?_,I.free,I.freeC,fun p hp=>?_,tracked ⟨oc,hoc,I.freeC x c hc⟩ hs,by simpa using I.len⟩ ⟨c,hs,.inr hc⟩
  ·exact (hs.2 b (ZnK (ZnQ (Znx e) (I.ok.cab x c hfn hc)))).trans (I.base.keep b o e n hb hx)
  ·obtain ⟨sl,e1⟩:=I.base.slot b o e n hb hx;exact ⟨sl,(hs.2 b (ZnK (ZnQ (Znx e) (I.ok.cab x c hfn hc)))).trans e1⟩
  ·obtain ⟨o',e1⟩:=I.base.there b o e hx;exact ⟨o',(hs.2 b (ZnK (ZnQ (Znx e) (I.ok.cab x c hfn hc)))).trans e1⟩
  ·by_cases hj:j=i
   ·subst hj;rw [hi] at e1; cases e1;rw [ZqT hiσ] at e2;cases e2;exact ⟨u,r,.inr ⟨.inl hk,c,hc,hc'⟩⟩
   ·rw [Zre (Ne.symm hj)] at e2;obtain ⟨u',r',q⟩:=hl j y v' e1 e2 e3;refine ⟨u',r',?_⟩;rcases q with q | ⟨k,c',e,z'⟩
    ·exact .inl q
    ·refine .inr ⟨k,c',e,z'.sameBut hs ?_⟩;rintro rfl;exact hj (nodup_ix hN e1 (I.ok.inj _ _ _ e hc ▸ hi))
  ·by_cases hcc:c'=c
   ·subst hcc; exact ⟨_,hc'⟩
   ·obtain ⟨w2,z2⟩:=I.cell y c' e;exact ⟨w2,z2.sameBut hs hcc⟩
  ·obtain ⟨e,n,ne,nf,d⟩:=I.pin p hp;refine ⟨(hs.2 p.1 ?_).trans e,n,ne,nf,d⟩;intro q;rw [q,hoc] at e;have q':oc=p.2:=Option.some.inj e;exact d w' (by rw [←q']; exact hocd)
theorem store_ok {M:Model}{A:Around}{E:Value→Shared→Prop}{i:Nat}{x:Str}{v:V}{u:Value}{Q:Unit→Shared→Prop} (I:Inv X pins σ H s) (hN:X.N.Nodup) (hi:X.N[i]?=some x) (hx:Loc X.env.scope x) (r:RelV v u)
  (h:∀ s',Inv X pins (σ.set i (some v)) H s'→Q () s') (hf:X.fn x=true∨X.env.scope.names.lookup x=some .local:=by first | exact .inl rfl | exact .inr rfl | assumption):wpAny M A (storeName X.env x u) Q E s:=
 store_ok2 I hN hi hx r (fun s' I' _=>h s' I') hf
theorem Inv.call' {s':Shared}{ch:List Addr} (I:Inv X pins σ H s) (ho:s'.os=s.os) (u:Un (frs X.stack) ch H H' s.heap s'.heap) (hok:HOk X.prog X.w H' s'.heap) (hg:AllBare s'.gens)
  (hch:∀ b∈ch,(b∈X.ex∨X.s₀.heap.objs.size≤b)∧b≠X.env.locals∧(∀ x c,X.env.cells.lookup x=some c→c≠b)∧∀ p∈X.pn++pins,p.1≠b):Inv X pins σ H' s':=by
 obtain ⟨h',g',d',t',o'⟩:=s';have e:o'=s.os:=ho;subst e;exact I.call (g':=g') (t':=t') (d':=d') u hok hg hch
end
abbrev XK:=Value→Option Addr→Hp→Prop
abbrev St:=List (Option V)
abbrev VK:=V→Hp→Prop
abbrev TE:=St→Hp→VK→Prop
abbrev TT:=St→Hp→(Bool→Hp→Prop)→Prop
abbrev TA:=St→Hp→(List V→Hp→Prop)→Prop
structure Zab where
 nx:St→Hp→Prop
 rt:VK
 bk:St→Hp→Prop:=fun _ _=>False
 ct:St→Hp→Prop:=fun _ _=>False
abbrev TS:=Zab→St→Hp→Prop
def EP (X:Cx) (pins:List (Addr × Obj)) (σ:St) (Q:VK) (u:Value) (s':Shared):Prop:=∃ v H',Inv X pins σ H' s'∧RelV v u∧Q v H'
def TP (X:Cx) (pins:List (Addr × Obj)) (σ:St) (Q:Bool→Hp→Prop) (b:Bool) (s':Shared):Prop:=∃ H',Inv X pins σ H' s'∧Q b H'
def AP (X:Cx) (pins:List (Addr × Obj)) (σ:St) (Q:List V→Hp→Prop) (us:List Value) (s':Shared):Prop:=∃ vs H',Inv X pins σ H' s'∧ZA vs us∧Q vs H'
def SP (X:Cx) (pins:List (Addr × Obj)) (D:Zab) (f:Flow) (s':Shared):Prop:=
 match f with
 | .next=>∃ σ' H',Inv X pins σ' H' s'∧D.nx σ' H'
 | .brk=>∃ σ' H',Inv X pins σ' H' s'∧D.bk σ' H'
 | .cont=>∃ σ' H',Inv X pins σ' H' s'∧D.ct σ' H'
 | .ret u=>∃ v σ' H',Inv X pins σ' H' s'∧RelV v u∧D.rt v H'
def PE (X:Cx) (e:Expr) (t:TE):Prop:=
 ∀ (pins:List (Addr × Obj)) (s:Shared) (σ:St) (H:Hp) (Q:VK),Inv X pins σ H s→t σ H Q→wpAny (model X.prog X.w) X.A (eval e X.env) (EP X pins σ Q) X.xe s
def PT (X:Cx) (e:Expr) (t:TT):Prop:=
 ∀ (pins:List (Addr × Obj)) (s:Shared) (σ:St) (H:Hp) (Q:Bool→Hp→Prop),Inv X pins σ H s→t σ H Q→wpAny (model X.prog X.w) X.A (isTrue e X.env (eval e X.env)) (TP X pins σ Q) X.xe s
def PW (X:Cx) (e:Expr) (t:TT):Prop:=
 ∀ (whole:Sem Value) (pins:List (Addr × Obj)) (s:Shared) (σ:St) (H:Hp) (Q:Bool→Hp→Prop),Inv X pins σ H s→t σ H Q→wpAny (model X.prog X.w) X.A (isTrue e X.env whole) (TP X pins σ Q) X.xe s
theorem PW.pt {X:Cx}{e:Expr}{t:TT} (h:PW X e t):PT X e t:=h _
def PA (X:Cx) (es:List Expr) (t:TA):Prop:=
 ∀ (pos:Pos) (pins:List (Addr × Obj)) (s:Shared) (σ:St) (H:Hp) (Q:List V→Hp→Prop),Inv X pins σ H s→t σ H Q→wpAny (model X.prog X.w) X.A (spliced (backTo pos (starEach es X.env))) (AP X pins σ Q) X.xe s
def PS (X:Cx) (st:Stmt) (t:TS):Prop:=
 ∀ (pins:List (Addr × Obj)) (s:Shared) (σ:St) (H:Hp) (D:Zab),Inv X pins σ H s→t D σ H→wpAny (model X.prog X.w) X.A (exec st X.env) (SP X pins D) X.xe s
def PSs (X:Cx) (st:List Stmt) (t:TS):Prop:=
 ∀ (pins:List (Addr × Obj)) (s:Shared) (σ:St) (H:Hp) (D:Zab),Inv X pins σ H s→t D σ H→wpAny (model X.prog X.w) X.A (execs st X.env) (SP X pins D) X.xe s
theorem thn {α:Type}{t:Sem α}{Q Q':α→Shared→Prop}{M:Model}{A:Around}{E:Value→Shared→Prop}{s:Shared} (h:wpAny M A t Q E s) (hQ:∀ a s,Q a s→Q' a s):wpAny M A t Q' E s:=wpAny_mono h hQ fun _ _ x=>x
section
variable {X:Cx}
def Zbc (i:Nat):TE:=fun σ H Q=>∃ v,σ[i]?=some (some v)∧Q v H
def tC (v:V):TE:=fun _ H Q=>Q v H
theorem Zmv {i:Nat}{x:Str}{pos:Pos} (hN:X.N[i]?=some x) (hv:Vis X.env.scope x) (hd:(x == ("__debug__":Str))=false:=by decide) (hcd:(x == ("__classdict__":Str))=false:=by decide):PE X (.Name x pos) (Zbc i):=by
 intro pins s σ H Q I h;obtain ⟨v,e,h⟩:=h;obtain ⟨m,hn,hl⟩:=I.loc;obtain ⟨u,r,l⟩:=hl i x v hN e hv;have fin:EP X pins σ Q u s:=⟨v,H,I,r,h⟩;rcases l with ⟨hk,hm⟩ | ⟨hk,c,hc,hcell⟩
 ·exact wpAny_Name (wpAny_loadName_local I.ok.kind hk hn hm fin) hd
 ·rcases hk with hk | hk
  ·exact wpAny_Name (wpAny_loadName_cell I.ok.kind hk hc hcell fin) hd
  ·exact wpAny_Name (wpAny_loadName_free I.ok.kind hk hc hcell fin hcd) hd
theorem Ze {i j pos}:PE X (.Constant (.int i) j pos) (tC (.int i)):=fun _ _ _ H _ I h=>wpAny_Constant_int ⟨.int i,H,I.tok _,⟨_,rfl⟩,h⟩
theorem pe_bl {b j pos}:PE X (.Constant (.bool b) j pos) (tC (.bl b)):=fun _ _ _ H _ I h=>Constant_bool ⟨.bl b,H,I,rfl,h⟩
theorem Zdv {j pos}:PE X (.Constant .none j pos) (tC .non):=fun _ _ _ H _ I h=>Constant_none ⟨.non,H,I,rfl,h⟩
theorem ZQ {x j pos}:PE X (.Constant (.str x) j pos) (tC (.str x)):=fun _ _ _ H _ I h=>Calls.Constant_str ⟨.str x,H,I.tok _,⟨_,rfl⟩,h⟩
def Gl (X:Cx) (x:Str):Prop:=X.env.kindOf x=some .globalImplicit
theorem ld_glob {E:Value→Shared→Prop}{pins:List (Addr × Obj)}{s:Shared}{σ:St}{H:Hp}{x:Str}{u:Value}{pos:Pos}{Q:Value→Shared→Prop} (I:Inv X pins σ H s) (hg:Gl X x) (hm:X.mg x=some u) (h:Q u s)
  (hd:(x == ("__debug__":Str))=false:=by decide):wpAny (model X.prog X.w) X.A (eval (.Name x pos) X.env) Q E s:=
 Calls.Name_function_global I.ok.kind hg (Calls.loadGlobal_global (by rw [I.ok.glob]; exact I.mod.glob.keeps I.bk) hm h) hd
theorem ld_blt {E:Value→Shared→Prop}{pins:List (Addr × Obj)}{s:Shared}{σ:St}{H:Hp}{x:Str}{u:Value}{pos:Pos}{Q:Value→Shared→Prop} (I:Inv X pins σ H s) (hg:Gl X x) (hm:X.mg x=none) (hv:bootBuiltins x=some u) (h:Q u s)
  (hn:x≠"__name__":=by decide) (hd:(x == ("__debug__":Str))=false:=by decide):wpAny (model X.prog X.w) X.A (eval (.Name x pos) X.env) Q E s:=by
 obtain ⟨mb,h1,h2⟩:=I.mod.blt;exact Calls.Name_function_global I.ok.kind hg (Calls.loadGlobal_builtin (by rw [I.ok.glob]; exact I.mod.glob.keeps I.bk) hm (by rw [I.ok.blt]; exact h1.keeps I.bk) ((h2 x hn).trans hv) h) hd
theorem Y8 {x:Str}{v:V}{u:Value}{pos:Pos} (hg:Gl X x) (hm:X.mg x=some u) (r:RelV v u) (hd:(x == ("__debug__":Str))=false:=by decide):PE X (.Name x pos) (tC v):=
 fun _ _ _ H _ I h=>ld_glob I hg hm ⟨v,H,I,r,h⟩ hd
theorem ZbN {x:Str}{v:V}{u:Value}{pos:Pos} (hg:Gl X x) (hm:X.mg x=none) (hv:bootBuiltins x=some u) (r:RelV v u) (hn:x≠"__name__":=by decide) (hd:(x == ("__debug__":Str))=false:=by decide):PE X (.Name x pos) (tC v):=
 fun _ _ _ H _ I h=>ld_blt I hg hm hv ⟨v,H,I,r,h⟩ hn hd
variable {a b:Expr}{ta tb:TE}{pos:Pos}
def PC (X:Cx) (op:CmpOp) (a b:Expr) (t:TE):Prop:=
 ∀ (pins:List (Addr × Obj)) (s:Shared) (σ:St) (H:Hp) (Q:VK),Inv X pins σ H s→t σ H Q→
  wpAny (model X.prog X.w) X.A (eval a X.env) (fun v s₁=>wpAny (model X.prog X.w) X.A (eval b X.env) (fun u s₂=>wpAny (model X.prog X.w) X.A (compareOp op v u) (EP X pins σ Q) X.xe s₂) X.xe s₁) X.xe s
theorem Zf0 (b:Expr) {op:CmpOp} (h:op≠.In) (h2:op≠.NotIn):behindInMarks op b=false:=by
 have e1:(op == CmpOp.In)=false:=by cases op <;> first | rfl | exact absurd rfl h
 have e2:(op == CmpOp.NotIn)=false:=by cases op <;> first | rfl | exact absurd rfl h2
 cases b <;> simp [behindInMarks,e1,e2]
def Zng (ta:TE):TE:=fun σ H Q=>ta σ H fun x H1=>Q (.bl (!decide (x=.non))) H1
theorem RelV.none_iff {x:V}{v:Value} (r:RelV x v):(v == Value.none)=decide (x=.non):=by
 cases x with
 | non=>cases r; rfl
 | bl _=>cases r; rfl
 | int _=>obtain ⟨t,rfl⟩:=r; rfl
 | str _=>obtain ⟨t,rfl⟩:=r; rfl
 | byt _=>obtain ⟨t,rfl⟩:=r; rfl
 | flt _=>obtain ⟨t,rfl⟩:=r; rfl
 | ref _=>cases r; rfl
 | ty _=>cases r; rfl
theorem ZhP {j pos'} (ha:PE X a ta):PC X .IsNot a (.Constant .none j pos') (Zng ta):=by
 intro pins s σ H Q I h;refine thn (ha pins s σ H _ I h) fun v s1 qz=>?_;obtain ⟨x,H1,I1,r1,q1⟩:=qz;exact Constant_none (isnot_none_gen ⟨.bl _,H1,I1,by rw [r1.none_iff]; rfl,q1⟩)
def tB (t:TE):TT:=fun σ H Q=>t σ H fun x H1=>∃ c,x=.bl c∧Q c H1
theorem Zkh {op:CmpOp}{t:TE} (h:PC X op a b t) (h1:behindInMarks op b=false:=by first | exact Zf0 _ (by decide) (by decide) | rfl):PE X (.Compare a [op] [b] pos) t:=fun pins s σ H Q I hw=>wpAny_Compare1 (h pins s σ H Q I hw) h1
theorem JR {op:CmpOp}{t:TE} (h:PC X op a b t) (h1:behindInMarks op b=false:=by first | exact Zf0 _ (by decide) (by decide) | rfl):PT X (.Compare a [op] [b] pos) (tB t):=by
 intro pins s σ H Q I hw;refine wpAny_isTrue_Compare1 (thn (h pins s σ H _ I hw) fun v s1 h1=>thn h1 fun u s2 h2=>thn h2 fun c s3 qz=>?_) h1;obtain ⟨x,H1,I1,r1,q1⟩:=qz;obtain ⟨d,rfl,q⟩:=q1;cases r1;exact wpAny_truthy_bool ⟨H1,I1,q⟩
theorem ZK {e:Expr}{t:TE} (h:PE X e t) (he:∀ whole,isTrue e X.env whole=(do let v ←whole; standAt e.pos; holding [v] (truthy v)):=by intro _; rfl):PT X e (tB t):=by
 intro pins s σ H Q I hw;refine isTrue_plain (thn (h pins s σ H _ I hw) fun v s1 qz=>?_) (he _);obtain ⟨x,H1,I1,r1,q1⟩:=qz;obtain ⟨d,rfl,q⟩:=q1;cases r1;exact wpAny_truthy_bool ⟨H1,I1,q⟩
variable {tA tB':TT}{rest:List Expr}
def tAnd (t u:TT):TT:=fun σ H Q=>t σ H fun c H1=>if c=true then u σ H1 Q else Q false H1
def tOr (t u:TT):TT:=fun σ H Q=>t σ H fun c H1=>if c=true then Q true H1 else u σ H1 Q
def tNot (t:TT):TT:=fun σ H Q=>t σ H fun c H1=>Q (!c) H1
theorem ZbP (ha:PT X a tA):PW X (.BoolOp .And [a] pos) tA:=by
 intro wh pins s σ H Q I h;refine isTrue_and (thn (ha pins s σ H Q I h) fun c s1 e=>?_);cases c with
 | true=>exact isTrue_and_nil e
 | false=>exact e
theorem Y9 (ha:PT X a tA):PW X (.BoolOp .Or [a] pos) tA:=by
 intro wh pins s σ H Q I h;refine isTrue_or (thn (ha pins s σ H Q I h) fun c s1 e=>?_);cases c with
 | false=>exact isTrue_or_nil e
 | true=>exact e
theorem Zb4 (ha:PT X a tA) (hb:PW X (.BoolOp .And (b :: rest) pos) tB'):PW X (.BoolOp .And (a :: b :: rest) pos) (tAnd tA tB'):=by
 intro wh pins s σ H Q I h;refine isTrue_and (thn (ha pins s σ H _ I h) fun c s1 qz=>?_);obtain ⟨H1,I1,q1⟩:=qz;cases c with
 | true=>exact hb wh pins s1 σ H1 Q I1 q1
 | false=>exact ⟨H1,I1,q1⟩
theorem Jz (ha:PT X a tA) (hb:PW X (.BoolOp .Or (b :: rest) pos) tB'):PW X (.BoolOp .Or (a :: b :: rest) pos) (tOr tA tB'):=by
 intro wh pins s σ H Q I h;refine isTrue_or (thn (ha pins s σ H _ I h) fun c s1 qz=>?_);obtain ⟨H1,I1,q1⟩:=qz;cases c with
 | true=>exact ⟨H1,I1,q1⟩
 | false=>exact hb wh pins s1 σ H1 Q I1 q1
theorem Z6 (ha:PT X a tA):PT X (.UnaryOp .Not a pos) (tNot tA):=by
 intro pins s σ H Q I h;exact isTrue_not (ha pins s σ H (fun c H1=>Q (!c) H1) I h)
def Znc (ta tb:TE):TE:=fun σ H Q=>ta σ H fun x H1=>∃ c,x=.bl c∧if c=true then tb σ H1 Q else Q (.bl false) H1
def tOrV (ta tb:TE):TE:=fun σ H Q=>ta σ H fun x H1=>∃ c,x=.bl c∧if c=true then Q (.bl true) H1 else tb σ H1 Q
def Znh (ta:TE):TE:=fun σ H Q=>ta σ H fun x H1=>∃ c,x=.bl c∧Q (.bl (!c)) H1
theorem Z3 {op}{t:TE} (h:PE X a t):PE X (.BoolOp op [a] pos) t:=fun pins s σ H Q I hw=>BoolOp_one (h pins s σ H Q I hw)
theorem ZO (ha:PE X a ta) (hb:PE X (.BoolOp .And (b :: rest) pos) tb):PE X (.BoolOp .And (a :: b :: rest) pos) (Znc ta tb):=by
 intro pins s σ H Q I h;refine BoolOp_and (thn (ha pins s σ H _ I h) fun v s1 qz=>?_);obtain ⟨x,H1,I1,r1,q1⟩:=qz;obtain ⟨c,rfl,q1⟩:=q1;cases r1;refine wpAny_truthy_bool ?_;cases c with
 | true=>exact hb pins s1 σ H1 Q I1 q1
 | false=>exact ⟨.bl false,H1,I1,rfl,q1⟩
theorem Zm5 (ha:PE X a ta) (hb:PE X (.BoolOp .Or (b :: rest) pos) tb):PE X (.BoolOp .Or (a :: b :: rest) pos) (tOrV ta tb):=by
 intro pins s σ H Q I h;refine BoolOp_or (thn (ha pins s σ H _ I h) fun v s1 qz=>?_);obtain ⟨x,H1,I1,r1,q1⟩:=qz;obtain ⟨c,rfl,q1⟩:=q1;cases r1;refine wpAny_truthy_bool ?_;cases c with
 | false=>exact hb pins s1 σ H1 Q I1 q1
 | true=>exact ⟨.bl true,H1,I1,rfl,q1⟩
theorem Zg9 (ha:PE X a ta):PE X (.UnaryOp .Not a pos) (Znh ta):=by
 intro pins s σ H Q I h;refine UnaryOp_ (thn (ha pins s σ H _ I h) fun v s1 qz=>?_);obtain ⟨x,H1,I1,r1,q1⟩:=qz;obtain ⟨c,rfl,q1⟩:=q1;cases r1;exact not_of (wpAny_truthy_bool ⟨.bl (!c),H1,I1,rfl,q1⟩)
def tIf (t:TT) (ta tb:TE):TE:=fun σ H Q=>t σ H fun c H1=>if c=true then ta σ H1 Q else tb σ H1 Q
theorem Zkk {c:Expr} (hc:PT X c tA) (ha:PE X a ta) (hb:PE X b tb):PE X (.IfExp c a b pos) (tIf tA ta tb):=by
 intro pins s σ H Q I h;refine wpAny_IfExp (thn (hc pins s σ H _ I h) fun d s1 qz=>?_);obtain ⟨H1,I1,q1⟩:=qz;cases d with
 | true=>exact ha pins s1 σ H1 Q I1 q1
 | false=>exact hb pins s1 σ H1 Q I1 q1
end
def SqL (K:Znj) (H:Hp) (a:Addr) (xs:List V):Prop:=
 Rd H a (.lst xs)∨
  ∃ (o:Obj) (its:Array Value) (n:Nat),K.lookup a=some o∧o.cls=.type "list"∧o.dict=none∧o.data=.seq its n∧its.size≤sizeLine∧ZA xs its.toList
def SqT (K:Znj) (H:Hp) (a:Addr) (xs:List V):Prop:=
 Rd H a (.tup xs)∨
  ∃ (o:Obj) (its:Array Value) (n:Nat),K.lookup a=some o∧o.cls=.type "tuple"∧o.data=.seq its n∧its.size≤sizeLine∧ZA xs its.toList
def absV:Value→Option V
 | .none=>some .non
 | .bool b=>some (.bl b)
 | .int i _=>some (.int i)
 | .str x _=>some (.str x)
 | .bytes b _=>some (.byt b)
 | .float b _=>some (.flt b)
 | .ref a=>some (.ref a)
 | .type n=>some (.ty n)
 | _=>none
theorem RelV.abs {x:V}{u:Value} (r:RelV x u):absV u=some x:=by
 cases x with
 | non=>cases r; rfl
 | bl _=>cases r; rfl
 | int _=>obtain ⟨t,rfl⟩:=r; rfl
 | str _=>obtain ⟨t,rfl⟩:=r; rfl
 | byt _=>obtain ⟨t,rfl⟩:=r; rfl
 | flt _=>obtain ⟨t,rfl⟩:=r; rfl
 | ref _=>cases r; rfl
 | ty _=>cases r; rfl
theorem RelV.inj {x y:V}{u:Value} (r:RelV x u) (q:RelV y u):x=y:=Option.some.inj (r.abs.symm.trans q.abs)
theorem ZA.inj:∀ {xs ys:List V}{us:List Value},ZA xs us→ZA ys us→xs=ys
 | _,_,_,.nil,.nil=>rfl
 | _,_,_,.cons r t,.cons r' t'=>by rw [r.inj r',ZA.inj t t']
section
variable {X:Cx}{pins:List (Addr × Obj)}{σ:St}{H:Hp}{s:Shared}{a:Addr}{xs ys:List V}
theorem SqL.of {K:Znj} (h:H a=some (.lst xs)):SqL K H a xs:=.inl (.inl h)
theorem SqT.of {K:Znj} (h:H a=some (.tup xs)):SqT K H a xs:=.inl (.inl h)
theorem Inv.list (I:Inv X pins σ H s) (h:SqL X.K H a xs):∃ its:List Value,ZA xs its∧PlainL s.heap a its.toArray∧xs.length≤sizeLine:=by
 rcases h with h | ⟨o,its,n,hk,hc,hd,hs,hz,r⟩
 ·obtain ⟨z,its,n,r,e⟩:=h.ok I.hok;exact ⟨its,r,⟨_,n,e,rfl,rfl,rfl⟩,z⟩
 ·refine ⟨its.toList,r,⟨o,n,I.kIn a o hk,hc,hd,by simpa using hs⟩,?_⟩;have e:=r.length;simp only [Zn8] at e;omega
theorem Inv.tuple (I:Inv X pins σ H s) (h:SqT X.K H a xs):∃ its:List Value,ZA xs its∧IsTup s.heap a its.toArray∧xs.length≤sizeLine:=by
 rcases h with h | ⟨o,its,n,hk,hc,hs,hz,r⟩
 ·obtain ⟨z,its,r,p⟩:=h.ok I.hok;exact ⟨its,r,p,z⟩
 ·refine ⟨its.toList,r,⟨o,I.kIn a o hk,hc,n,by simpa using hs⟩,?_⟩;have e:=r.length;simp only [Zn8] at e;omega
theorem Inv.list_inj (I:Inv X pins σ H s) (h:SqL X.K H a xs) (h':SqL X.K H a ys):xs=ys:=by
 obtain ⟨its,r,⟨o,n,e,_,_,d⟩,_⟩:=I.list h;obtain ⟨its',r',⟨o',n',e',_,_,d'⟩,_⟩:=I.list h';rw [e] at e'; cases e';rw [d] at d';injection d' with d1 _;have:its=its':=by simpa using congrArg Array.toList d1
 subst this;exact r.inj r'
end
abbrev Cx.wish (X:Cx) (E:Value→Shared→Prop):Cx:={ X with xe:=E }
abbrev Cx.nox (X:Cx):Cx:=X.wish fun _ _=>False
theorem Cx.Ok.wish {X:Cx} (ok:X.Ok) (E:Value→Shared→Prop):(X.wish E).Ok:=
 ⟨ok.mod,ok.kind,ok.glob,ok.blt,ok.above,ok.inj,ok.has,ok.cab,ok.hd,ok.frames,ok.stk,ok.exf,ok.bs,ok.bsz,ok.noex,ok.exfs,ok.funs,ok.frf⟩
theorem Cx.Ok.unwish {X:Cx}{E:Value→Shared→Prop} (ok:(X.wish E).Ok):X.Ok:=
 ⟨ok.mod,ok.kind,ok.glob,ok.blt,ok.above,ok.inj,ok.has,ok.cab,ok.hd,ok.frames,ok.stk,ok.exf,ok.bs,ok.bsz,ok.noex,ok.exfs,ok.funs,ok.frf⟩
section
variable {X:Cx}{pins:List (Addr × Obj)}{σ:St}{H:Hp}{s:Shared}{E:Value→Shared→Prop}
theorem Inv.wish (I:Inv X pins σ H s) (E:Value→Shared→Prop):Inv (X.wish E) pins σ H s:=⟨I.ok.wish E,I.os,I.bare,I.base,I.loc,I.cell,I.free,I.freeC,I.pin,I.hok,I.len⟩
theorem Inv.unwish (I:Inv (X.wish E) pins σ H s):Inv X pins σ H s:=⟨I.ok.unwish,I.os,I.bare,I.base,I.loc,I.cell,I.free,I.freeC,I.pin,I.hok,I.len⟩
theorem SP.unwish {D:Zab}{f:Flow}{s':Shared} (h:SP (X.wish E) pins D f s'):SP X pins D f s':=by
 cases f with
 | next=>obtain ⟨σ',H',I,q⟩:=h; exact ⟨σ',H',I.unwish,q⟩
 | brk=>obtain ⟨σ',H',I,q⟩:=h; exact ⟨σ',H',I.unwish,q⟩
 | cont=>obtain ⟨σ',H',I,q⟩:=h; exact ⟨σ',H',I.unwish,q⟩
 | ret u=>obtain ⟨v,σ',H',I,r,q⟩:=h; exact ⟨v,σ',H',I.unwish,r,q⟩
theorem PSs.nox {st:List Stmt}{t:TS} (h:PSs X.nox st t):PSs X st t:=fun pins s σ H D I hw=>
 wpAny_mono (h pins s σ H D (I.wish _) hw) (fun _ _ q=>q.unwish) fun _ _ z=>False.elim z
end
section
variable {X:Cx}{st:Stmt}{rest:List Stmt}{t u:TS}{e:Expr}{te:TE}{pos:Pos}
def Zl2:TS:=fun D σ H=>D.nx σ H
def ZdZ (t u:TS):TS:=fun D σ H=>t { D with nx:=u D } σ H
theorem pss_nil:PSs X [] Zl2:=fun _ _ σ H _ I h=>wpAny_execs_nil ⟨σ,H,I,h⟩
theorem Zb (h1:PS X st t) (h2:PSs X rest u):PSs X (st :: rest) (ZdZ t u):=by
 intro pins s σ H D I h;refine wpAny_execs_cons (thn (h1 pins s σ H { D with nx:=u D } I h) fun f s1 q=>?_);cases f with
 | next=>
  obtain ⟨σ',H',I',q⟩:=q;exact h2 pins s1 σ' H' D I' q
 | ret v=>exact q
 | brk=>exact q
 | cont=>exact q
theorem pss_one (h1:PS X st t):PSs X [st] t:=by
 intro pins s σ H D I h;refine wpAny_execs_cons (thn (h1 pins s σ H D I h) fun f s1 q=>?_);cases f with
 | next=>exact wpAny_execs_nil q
 | ret v=>exact q
 | brk=>exact q
 | cont=>exact q
theorem Inv.quiet {pins:List (Addr × Obj)}{σ:St}{H:Hp}{s:Shared} (I:Inv X pins σ H s):interactive X.env=false:=by simp [interactive,I.ok.kind]
def ZkL (te:TE):TS:=fun D σ H=>te σ H fun _ H1=>D.nx σ H1
theorem Yg (he:PE X e te) (hs:swapsWith e none pos.line X.env=pure false:=by rfl):PS X (.Expr e pos) (ZkL te):=by
 intro pins s σ H D I h;exact wpAny_Expr_any (thn (he pins s σ H _ I h) fun v s1 ⟨x,H1,I1,r1,q1⟩=>⟨σ,H1,I1,q1⟩) I.quiet hs
def tRet (te:TE):TS:=fun D σ H=>te σ H D.rt
theorem ps_ret (he:PE X e te):PS X (.Return (some e) pos) (tRet te):=by
 intro pins s σ H D I h;exact wpAny_Return_some (thn (he pins s σ H _ I h) fun v s1 ⟨x,H1,I1,r1,q1⟩=>⟨x,σ,H1,I1,r1,q1⟩)
def tIfS (c:TT) (t u:TS):TS:=fun D σ H=>c σ H fun b H1=>if b=true then t D σ H1 else u D σ H1
theorem ZD {c:Expr}{a b:List Stmt}{tc:TT} (hc:PT X c tc) (ha:PSs X a t) (hb:PSs X b u):PS X (.If c a b pos) (tIfS tc t u):=by
 intro pins s σ H D I h;refine wpAny_If (thn (hc pins s σ H _ I h) fun d s1 qz=>?_);obtain ⟨H1,I1,q1⟩:=qz;cases d with
 | true=>exact ha pins s1 σ H1 D I1 q1
 | false=>exact hb pins s1 σ H1 D I1 q1
def ZmM:TS:=fun _ _ _=>False
theorem Zem {sts:List Stmt}:PSs X sts ZmM:=fun _ _ _ _ _ _ h=>h.elim
end
abbrev TG:=V→St→Hp→(St→Hp→Prop)→Prop
abbrev TGs:=List V→St→Hp→(St→Hp→Prop)→Prop
def PG (X:Cx) (target:Expr) (t:TG):Prop:=
 ∀ (pins:List (Addr × Obj)) (s:Shared) (σ:St) (H:Hp) (v:V) (u:Value) (Q:St→Hp→Prop),Inv X pins σ H s→RelV v u→t v σ H Q→
  wpAny (model X.prog X.w) X.A (assign target X.env u) (fun _ s'=>∃ σ' H',Inv X pins σ' H' s'∧Q σ' H') X.xe s
def PGs (X:Cx) (ts:List Expr) (t:TGs):Prop:=
 ∀ (pins:List (Addr × Obj)) (s:Shared) (σ:St) (H:Hp) (vs:List V) (us:List Value) (Q:St→Hp→Prop),Inv X pins σ H s→ZA vs us→t vs σ H Q→
  wpAny (model X.prog X.w) X.A (assignInOrder ((assignEach ts X.env).map (·.2)) us) (fun _ s'=>∃ σ' H',Inv X pins σ' H' s'∧Q σ' H') X.xe s
abbrev Zma:=V→V→V→Hp→(Hp→Prop)→Prop
def PSet (X:Cx) (t:Zma):Prop:=
 ∀ (pins:List (Addr × Obj)) (s:Shared) (σ:St) (H:Hp) (o i v:V) (ov iv u:Value) (Q:Hp→Prop),Inv X pins σ H s→RelV o ov→RelV i iv→RelV v u→t o i v H Q→
  wpAny (model X.prog X.w) X.A (setItem ov iv u) (fun _ s'=>∃ H',Inv X pins σ H' s'∧Q H') X.xe s
section
variable {X:Cx}{pos:Pos}
def JK (i:Nat):TG:=fun v σ H Q=>Q (σ.set i (some v)) H
theorem Zr {i:Nat}{x:Str} (hN:X.N.Nodup) (hi:X.N[i]?=some x) (hx:Loc X.env.scope x) (hf:X.fn x=true∨X.env.scope.names.lookup x=some .local:=by first | exact .inl rfl | exact .inr rfl | assumption):PG X (.Name x pos) (JK i):=by
 intro pins s σ H v u Q I r h;exact wpAny_assign_Name (store_ok I hN hi hx r (fun s' I'=>⟨_,H,I',h⟩) hf)
def gNil:TGs:=fun vs σ H Q=>vs=[]∧Q σ H
def ZjM (t:TG) (u:TGs):TGs:=fun vs σ H Q=>∃ v r,vs=v :: r∧t v σ H fun σ' H'=>u r σ' H' Q
theorem Zav:PGs X [] gNil:=by
 intro pins s σ H vs us Q I r h;obtain ⟨e,h⟩:=h;subst e;cases r;exact assignInOrder_nil ⟨σ,H,I,h⟩
theorem Yu {e:Expr}{es:List Expr}{t:TG}{u:TGs} (h1:PG X e t) (h2:PGs X es u)
  (hs:(assignEach (e :: es) X.env).map (·.2)=assign e X.env :: (assignEach es X.env).map (·.2):=by rfl):PGs X (e :: es) (ZjM t u):=by
 intro pins s σ H vs us Q I r h;obtain ⟨v,vr,e1,h⟩:=h;subst e1;cases r with
 | cons r rr=>
  rw [hs];refine assignInOrder_cons (thn (h1 pins s σ H _ _ _ I r h) fun _ s1 qz=>?_);obtain ⟨σ1,H1,I1,q1⟩:=qz;exact h2 pins s1 σ1 H1 _ _ Q I1 rr q1
def Zmf (K:Znj) (n:Nat) (t:TGs):TG:=fun v σ H Q=>∃ a xs,v=.ref a∧SqT K H a xs∧xs.length=n∧t xs σ H Q
theorem Zkn {es:List Expr}{k:Nat}{t:TGs}{n:Nat} (hc:X.calm=true) (h:PGs X es t)
  (hn:(assignEach es X.env).length=n:=by rfl) (hst:(assignEach es X.env).findIdx? (·.1)=none:=by rfl):PG X (.Tuple es k pos) (Zmf X.K n t):=by
 intro pins s σ H v u Q I r hw;obtain ⟨a,xs,e1,hq,hl,hw⟩:=hw;subst e1;cases r;obtain ⟨its,rv,ht,hz⟩:=I.tuple hq;refine assign_Tuple_tuple (I.ok.hd hc) ht (by simp [hn,←hl,rv.length]) hst fun h' hx=>?_;have I1:Inv X pins σ H { s with heap:=h' }:=I.kept (t':=s.toks) fun b o e=>hx b o (ZnK (Znx e)) e;exact h pins _ σ H xs _ Q I1 (by simpa using rv) hw
def gSub (to ti:TE) (t:Zma):TG:=fun v σ H Q=>to σ H fun o H1=>ti σ H1 fun i H2=>t o i v H2 fun H3=>Q σ H3
theorem Zmw {o i:Expr}{to ti:TE}{t:Zma} (ho:PE X o to) (hi:PE X i ti) (hs:PSet X t)
  (ha:∀ v,assign (.Subscript o i pos) X.env v=(do
   let ov ←holding [v] (eval o X.env);let iv ←holding [v,ov] (eval i X.env)
   standAt pos
   holding [v,ov,iv] (setItem ov iv v)
   release [v,ov,iv] []):=by intro _; rfl):PG X (.Subscript o i pos) (gSub to ti t):=by
 intro pins s σ H v u Q I r h;rw [ha];refine wpAny_bind (wpAny_holding (thn (ho pins s σ H _ I h) fun ov s1 qz=>?_));obtain ⟨x,H1,I1,r1,q1⟩:=qz;refine wpAny_bind (wpAny_holding (thn (hi pins s1 σ H1 _ I1 q1) fun iv s2 qz=>?_));obtain ⟨y,H2,I2,r2,q2⟩:=qz;refine wpAny_bind (wpAny_standAt (wpAny_bind (wpAny_holding (thn (hs pins s2 σ H2 x y v ov iv u _ I2 r1 r2 r q2) fun _ s3 qz=>?_))));obtain ⟨H3,I3,q3⟩:=qz;exact wpAny_release ⟨σ,H3,I3,q3⟩
def ZmH (te:TE) (g:TG):TS:=fun D σ H=>te σ H fun x H1=>g x σ H1 D.nx
theorem Zmy {tg e:Expr}{te:TE}{g:TG} (he:PE X e te) (hg:PG X tg g) (hs:swapsWithSole [tg] e pos.line X.env=pure false:=by rfl) (hw:swappedStores [tg] e X.env=pure none:=by rfl)
  (h1:(assignEach [tg] X.env).map (·.2)=[assign tg X.env]:=by rfl):PS X (.Assign [tg] e pos) (ZmH te g):=by
 intro pins s σ H D I h;refine wpAny_Assign_stores (thn (he pins s σ H _ I h) fun v s1 qz=>?_) hs hw;obtain ⟨x,H1,I1,r1,q1⟩:=qz;rw [h1];exact thn (hg pins s1 σ H1 x v _ I1 r1 q1) fun _ s2 q=>q
theorem Zl {i:Nat}{x:Str}{e:Expr}{te:TE}{pos':Pos} (hN:X.N.Nodup) (hi:X.N[i]?=some x) (hx:Loc X.env.scope x) (he:PE X e te) (hs:swapsWith e (some (.Name x pos')) pos.line X.env=pure false:=by rfl) (hf:X.fn x=true∨X.env.scope.names.lookup x=some .local:=by first | exact .inl rfl | exact .inr rfl | assumption):
  PS X (.Assign [.Name x pos'] e pos) (ZmH te (JK i)):=by
 intro pins s σ H D I h;refine wpAny_Assign_Name (thn (he pins s σ H _ I h) fun v s1 qz=>?_) hs;obtain ⟨y,H1,I1,r1,q1⟩:=qz;exact store_ok I1 hN hi hx r1 (fun s2 I2=>⟨_,H1,I2,q1⟩) hf
def ZkN (c:TT) (tb:TS):TS:=fun D σ H=>∃ W:Nat→St→Hp→Prop,(∃ m,W m σ H)∧∀ m σ H,W m σ H→
 c σ H fun b H1=>if b=true then ∃ N:St→Hp→Prop,(∀ σ' H',N σ' H'→∃ m',m' < m∧W m' σ' H')∧tb { D with nx:=N,ct:=N,bk:=D.nx } σ H1 else D.nx σ H1
theorem JQ {c:Expr}{body:List Stmt}{tc:TT}{tb:TS} (hp:PassesOwn (model X.prog X.w) X.A X.env X.xe) (hc:PT X c tc) (hb:PSs X body tb):PS X (.While c body [] pos) (ZkN tc tb):=by
 intro pins s σ H D I h;obtain ⟨W,⟨m0,w0⟩,turn⟩:=h;refine wpAny_While (codeAny_whileLoop (fun n s'=>∃ σ' H',Inv X pins σ' H' s'∧W n σ' H') ?_ m0 ⟨σ,H,I,w0⟩);rintro n s1 ⟨σ1,H1,I1,w1⟩;refine wpAny_passesOwn hp (thn (hc pins s1 σ1 H1 _ I1 (turn n σ1 H1 w1)) fun b s2 qz=>?_);obtain ⟨H2,I2,q2⟩:=qz;cases b with
 | true=>
  obtain ⟨N,hN,q2⟩:=q2;rw [if_pos rfl];refine wpAny_passesOwn hp (thn (hb pins s2 σ1 H2 _ I2 q2) fun f s3 q3=>?_);cases f with
  | next=>
   obtain ⟨σ3,H3,I3,n3⟩:=q3;obtain ⟨m',hm,w3⟩:=hN σ3 H3 n3;exact ⟨m',hm,σ3,H3,I3,w3⟩
  | cont=>
   obtain ⟨σ3,H3,I3,n3⟩:=q3;obtain ⟨m',hm,w3⟩:=hN σ3 H3 n3;exact ⟨m',hm,σ3,H3,I3,w3⟩
  | brk=>exact q3
  | ret v=>exact q3
 | false=>
  rw [if_neg ZnE];exact wpAny_execs_nil ⟨σ1,H2,I2,q2⟩
end
structure It where
 go:Nat→Hp→Prop
 yld:Nat→Hp→V→Hp→Prop
 stop:Nat→Hp→Prop
def ZaG (X:Cx) (pins:List (Addr × Obj)) (H:Hp) (b:Addr):Prop:=
 H b=none∧b≠X.env.locals∧b ∉ X.fs∧(b∈X.ex∨X.s₀.heap.objs.size≤b)∧(∀ x c,X.env.cells.lookup x=some c→c≠b)∧∀ p∈X.pn++pins,p.1≠b
theorem Inv.fpOk {X:Cx}{pins:List (Addr × Obj)}{σ:St}{H H':Hp}{s:Shared}{b:Addr} (I:Inv X pins σ H s) (hb:s.heap.objs.size≤b) (hn:H' b=none):ZaG X pins H' b:=by
 refine ⟨hn,Zpz (ZnQ I.lt hb),I.nofs hb,.inr (Zog I.sz hb),fun x c e z=>?_,fun p hp z=>?_⟩
 ·obtain ⟨v,q⟩:=I.cell x c e;exact absurd (ZnQ q.lt (by rw [z]; exact hb)) (ZoT _)
 ·exact absurd (ZnQ (Znx (I.pin p hp).1) (by rw [z]; exact hb)) (ZoT _)
structure ZeD (P:Program) (w:World) (K:Znj) (tg:Expr) (J:It) (fp:List Addr) (it:Addr) (tn:Nat→Heap→Prop):Prop where
 mem:it∈fp
 obj:∀ i h,tn i h→∀ b∈fp,∃ o,h.get? b=some o∧∀ v,o.data≠.cell v
 keep:∀ i h h',tn i h→(∀ b∈fp,∀ o,h.get? b=some o→h'.get? b=some o)→tn i h'
 item:∀ (X:Cx),X.prog=P→X.w=w→X.K=K→X.calm=true→∀ (i:Nat) (pins:List (Addr × Obj)) (s:Shared) (σ:St) (H:Hp) (E:Value→Shared→Prop),Inv X pins σ H s→(∀ b∈fp,ZaG X pins H b)→tn i s.heap→J.go i H→
  wpAny (model P w) X.A (pyNext (.ref it)) (fun r s1=>∃ u,r=some u∧
   wpAny (model P w) X.A (letOwnedTupleGo tg (.ref it) u) (fun _ s2=>∃ x H',Inv X pins σ H' s2∧RelV x u∧J.yld i H x H'∧tn (i+1) s2.heap∧∀ b∈fp,H' b=none) E s1) E s
 done:∀ (X:Cx),X.prog=P→X.w=w→X.K=K→X.calm=true→∀ (i:Nat) (pins:List (Addr × Obj)) (s:Shared) (σ:St) (H:Hp) (E:Value→Shared→Prop),Inv X pins σ H s→(∀ b∈fp,ZaG X pins H b)→tn i s.heap→J.stop i H→
  wpAny (model P w) X.A (pyNext (.ref it)) (fun r s1=>r=none∧Inv X pins σ H s1) E s
 self:∀ (A:Around) (i:Nat) (s:Shared) (Q:Value→Shared→Prop) (E:Value→Shared→Prop),tn i s.heap→Q (.ref it) s→wpAny (model P w) A (pyIter (.ref it)) Q E s
abbrev TI:=St→Hp→(It→Hp→Prop)→Prop
def PIE (X:Cx) (pins:List (Addr × Obj)) (σ:St) (tg:Expr) (R:It→Hp→Prop) (itv:Value) (s2:Shared):Prop:=
 ∃ (it:Addr) (fp:List Addr) (tn:Nat→Heap→Prop) (J:It) (H':Hp),itv=.ref it∧Inv X pins σ H' s2∧ZeD X.prog X.w X.K tg J fp it tn∧tn 0 s2.heap∧(∀ b∈fp,ZaG X pins H' b)∧R J H'
def PI (X:Cx) (tg iter:Expr) (wi:TI):Prop:=
 ∀ (pins:List (Addr × Obj)) (s:Shared) (σ:St) (H:Hp) (R:It→Hp→Prop),Inv X pins σ H s→wi σ H R→
  wpAny (model X.prog X.w) X.A (eval iter X.env) (fun v s1=>wpAny (model X.prog X.w) X.A (pyIter v) (PIE X pins σ tg R) X.xe s1) X.xe s
theorem ZfJ {M:Model}{A:Around}{E:Value→Shared→Prop}{s:Shared}{tg:Expr}{it:Addr}{u:Value}{o:Obj}{n:String}{vs:Array Value}{Q:Unit→Shared→Prop} (ho:s.heap.get? it=some o) (hc:o.cls=.type n) (hd:o.data=.fields vs)
  (hn:["enumerate","zip","dict_itemiterator","dict_reverseitemiterator","odict_iterator","itertools.zip_longest","itertools.pairwise"].contains n=false) (hQ:Q () s):wpAny M A (letOwnedTupleGo tg (.ref it) u) Q E s:=by
 unfold letOwnedTupleGo;cases tg <;> first
  | exact wpAny_pure hQ
  | (cases u <;> first
    | exact wpAny_pure hQ
    | (refine wpAny_bind (wpAny_load ho ?_); rw [hc,hd]; show wpAny M A (if (["enumerate","zip","dict_itemiterator","dict_reverseitemiterator","odict_iterator","itertools.zip_longest","itertools.pairwise"].contains n && vs[0]? == some (rawInt _))=true then _ else _) Q E s; rw [if_neg (by intro h; rw [hn,ZoU] at h; cases h)]; exact wpAny_pure hQ))
def Itl (K:Znj) (a:Addr):It:=
 ⟨fun i H=>∃ xs x,SqL K H a xs∧xs[i]?=some x,fun i H x H'=>H'=H∧∀ xs,SqL K H a xs→xs[i]?=some x,fun i H=>∃ xs,SqL K H a xs∧xs.length≤i⟩
def Itr (lo:Int) (n:Nat):It:=⟨fun i _=>i < n,fun i H x H'=>H'=H∧x=.int (lo+i),fun i _=>n≤i⟩
theorem Zjo {P:Program}{w:World}{K:Znj}{tg:Expr} (a it:Addr):ZeD P w K tg (Itl K a) [it] it (fun i h=>h.IsListIter it a i) where
 mem:=by simp
 obj:=fun i h st b hb=>by
  have e:b=it:=by simpa using hb
  subst e;obtain ⟨o,e,c,d⟩:=st;exact ⟨o,e,fun v z=>by rw [d] at z; cases z⟩
 keep:=fun i h h' st k=>st.at fun o e=>k it (by simp) o e
 item:=by
  intro X hP hw hK hc i pins s σ H E I hf st hg;subst hP hw hK;obtain ⟨xs,x,hq,hx⟩:=hg;obtain ⟨its,rv,p,hz⟩:=I.list hq;obtain ⟨u,hu,ru⟩:=rv.get hx;obtain ⟨f0,f1,f2,f3,f4,f5⟩:=hf it (by simp);refine wpAny_pyNext_list_item st p.isList (x:=u) (by simpa using hu) fun h' st' sb=>?_;have I1:Inv X pins σ H { s with heap:=h' }:=I.turned (t':=s.toks) (fun b o hb e=>(sb.2 b hb).trans e) f0 f1 f3 f4 f5;obtain ⟨o,e,c,d⟩:=id st';exact ⟨u,rfl,ZfJ (s:={ s with heap:=h' }) e c d (by decide) ⟨x,H,I1,ru,⟨rfl,fun ys hy=>by rw [I.list_inj hy hq]; exact hx⟩,st',fun b hb=>(hf b hb).1⟩⟩
 done:=by
  intro X hP hw hK hc i pins s σ H E I hf st hg;subst hP hw hK;obtain ⟨xs,hq,hx⟩:=hg;obtain ⟨its,rv,p,hz⟩:=I.list hq;obtain ⟨f0,f1,f2,f3,f4,f5⟩:=hf it (by simp);have hl:=rv.length;exact wpAny_pyNext_list_end (I.ok.hd hc) st p.isList (by simp; omega) fun h' eb=>⟨rfl,I.turned (t':=s.toks) (fun b o hb e=>eb b o hb e) f0 f1 f3 f4 f5⟩
 self:=fun _ _ _ _ _ st h=>wpAny_pyIter_listiter st h
theorem Zhq {P:Program}{w:World}{K:Znj}{tg:Expr} (it:Addr) (lo:Int) (n:Nat):ZeD P w K tg (Itr lo n) [it] it (fun i h=>IsRangeIter h it (lo+(i:Nat) * 1) ((n:Int) - (i:Nat)) 1) where
 mem:=by simp
 obj:=fun i h st b hb=>by
  have e:b=it:=by simpa using hb
  subst e;exact ⟨_,st,fun v z=>by
   have z':Data.fields _=Data.cell v:=z;cases z'⟩
 keep:=fun i h h' st k=>k it (by simp) _ st
 item:=by
  intro X hP hw hK hc i pins s σ H E I hf st hg;subst hP hw hK;obtain ⟨f0,f1,f2,f3,f4,f5⟩:=hf it (by simp);have W:=Walks.range (prog:=X.prog) (w:=X.w) (I.ok.hd hc) it lo 1 n;refine W.item i s _ _ hg st fun v h' tk hv st' kk=>?_;obtain ⟨t,rfl⟩:=hv;have I1:Inv X pins σ H { s with heap:=h',toks:=tk }:=I.turned (fun b o hb e=>kk b o (by simpa using hb) e) f0 f1 f3 f4 f5;refine ⟨_,rfl,ZfJ (s:={ s with heap:=h',toks:=tk }) (n:="range_iterator") st' rfl rfl (by decide) ⟨.int (lo+i),H,I1,⟨t,?_⟩,⟨rfl,rfl⟩,st',fun b hb=>(hf b hb).1⟩⟩;rw [Int.mul_one]
 done:=by
  intro X hP hw hK hc i pins s σ H E I hf st hg;subst hP hw hK;obtain ⟨f0,f1,f2,f3,f4,f5⟩:=hf it (by simp);exact wpAny_pyNext_range_end (I.ok.hd hc) st (by have:n≤i:=hg; omega) fun h' eb=>⟨rfl,I.turned (t':=s.toks) (fun b o hb e=>eb b o hb e) f0 f1 f3 f4 f5⟩
 self:=fun _ _ _ _ _ st h=>wpAny_pyIter_rangeiter st h
section
variable {X:Cx}{tg:Expr}
def ZmY (K:Znj) (tl:TE):TI:=fun σ H R=>tl σ H fun x H1=>∃ a,x=.ref a∧(∃ xs,SqL K H1 a xs)∧R (Itl K a) H1
theorem ZF {l:Expr}{tl:TE} (hl:PE X l tl):PI X tg l (ZmY X.K tl):=by
 intro pins s σ H R I h;refine thn (hl pins s σ H _ I h) fun v s1 qz=>?_;obtain ⟨x,H1,I1,r1,q1⟩:=qz;obtain ⟨a,e,⟨xs,hq⟩,q⟩:=q1;subst e;cases r1;obtain ⟨its,rv,p,hz⟩:=I1.list hq;refine wpAny_pyIter_list p.isList ?_;refine ⟨s1.heap.objs.size,[s1.heap.objs.size],_,_,H1,rfl,I1.kept (t':=s1.toks) fun b o e=>Znk _ e,Zjo a _,⟨_,Znu _ rfl,rfl,rfl⟩,fun b hb=>?_,q⟩;have e:b=s1.heap.objs.size:=by simpa using hb
 subst e;exact I1.fpOk (Znn _) (I1.hok.fresh (Znn _))
theorem Zgh {pins:List (Addr × Obj)}{σ:St}{H:Hp}{s:Shared}{R:It→Hp→Prop}{E:Value→Shared→Prop}{lo hi:Int}{t u v:Tok}{tk:Nat} (I:Inv X pins σ H s) (h1:-(2 ^ 62)≤lo) (h2:lo < 2 ^ 62) (h3:-(2 ^ 62)≤hi) (h4:hi < 2 ^ 62)
  (q:R (Itr lo (hi - lo).toNat) H):wpAny (model X.prog X.w) X.A (pyIter (.ref s.heap.objs.size)) (PIE X pins σ tg R) E { s with heap:=s.heap.push { cls:=.type "range",data:=.fields #[.int lo t,.int hi u,.int 1 v] },toks:=tk }:=by
 refine wpAny_pyIter_range (IsRange.new ..) (small_one h1 h2 h3 h4) ?_;have I1:Inv X pins σ H { s with heap:=s.heap.push { cls:=.type "range",data:=.fields #[.int lo t,.int hi u,.int 1 v] },toks:=tk }:=I.kept fun b o e=>Znk _ e;refine ⟨(s.heap.push { cls:=.type "range",data:=.fields #[.int lo t,.int hi u,.int 1 v] }).objs.size,[(s.heap.push { cls:=.type "range",data:=.fields #[.int lo t,.int hi u,.int 1 v] }).objs.size],_,_,H,rfl,
  I1.kept (t':=tk) fun b o e=>Znk _ e,Zhq _ lo (hi - lo).toNat,?_,fun b hb=>?_,q⟩
 ·have e1:lo+((0:Nat):Int) * 1=lo:=by simp
  have e2:(((hi - lo).toNat:Nat):Int) - ((0:Nat):Int)=Builtin.Range.rangeSize lo hi 1:=by rw [rangeSize_one]; split <;> omega
  show IsRangeIter _ _ (lo+((0:Nat):Int) * 1) ((((hi - lo).toNat:Nat):Int) - ((0:Nat):Int)) 1;rw [e1,e2];exact Znu _ rfl
 ·have e:b=(s.heap.push { cls:=.type "range",data:=.fields #[.int lo t,.int hi u,.int 1 v] }).objs.size:=by simpa using hb
  subst e;exact I1.fpOk (Znn _) (I1.hok.fresh (Znn _))
def ZmZ (ta:TA):TI:=fun σ H R=>ta σ H fun vs H1=>∃ j:Int,vs=[.int j]∧-(2 ^ 62)≤j∧j < 2 ^ 62∧R (Itr 0 j.toNat) H1
def Zm0 (ta:TA):TI:=fun σ H R=>ta σ H fun vs H1=>∃ i j:Int,vs=[.int i,.int j]∧(-(2 ^ 62)≤i∧i < 2 ^ 62∧-(2 ^ 62)≤j∧j < 2 ^ 62)∧R (Itr i (j - i).toNat) H1
theorem Y3 {a:Expr}{ta:TA}{p pos:Pos} (hg:Gl X "range") (hm:X.mg "range"=none) (ha:PA X [a] ta) (hs:starEach [a] X.env=[(false,eval a X.env)]:=by rfl):PI X tg (.Call (.Name "range" p) [a] [] pos) (ZmZ ta):=by
 intro pins s σ H R I h;refine Call_ (ld_blt I hg hm boot_range (PyProof.Rows.callWith_type1 (thn (ha pos pins s σ H _ I h) fun us s1 qz=>?_) hs rfl));obtain ⟨vs,H1,I1,r1,q1⟩:=qz;obtain ⟨j,e,q1,q2,q⟩:=q1;subst e;cases r1 with
 | cons r rr=>
  cases rr;obtain ⟨t,rfl⟩:=r;exact call_range_1 (Zgh I1 (by omega) (by omega) q1 q2 (by simpa using q))
theorem Zi9 {a b:Expr}{ta:TA}{p pos:Pos} (hg:Gl X "range") (hm:X.mg "range"=none) (ha:PA X [a,b] ta) (hs:starEach [a,b] X.env=[(false,eval a X.env),(false,eval b X.env)]:=by rfl) (hs2:starEach [b] X.env=[(false,eval b X.env)]:=by rfl):
  PI X tg (.Call (.Name "range" p) [a,b] [] pos) (Zm0 ta):=by
 intro pins s σ H R I h;refine Call_ (ld_blt I hg hm boot_range (PyProof.Rows.callWith_type1 (thn (ha pos pins s σ H _ I h) fun us s1 qz=>?_) (by rw [hs,hs2]) (by rw [hs2]; rfl)));obtain ⟨vs,H1,I1,r1,q1⟩:=qz;obtain ⟨i,j,e,⟨q1,q2,q3,q4⟩,q⟩:=q1;subst e;cases r1 with
 | cons r rr=>
  cases rr with
  | cons r' rr=>
   cases rr;obtain ⟨t,rfl⟩:=r;obtain ⟨t',rfl⟩:=r';exact call_range_2 (Zgh I1 q1 q2 q3 q4 q)
def tFor (wi:TI) (g:TG) (tb:TS):TS:=fun D σ H=>wi σ H fun J H1=>∃ W:Nat→Nat→St→Hp→Prop,(∃ m,W 0 m σ H1)∧∀ i m σ H,W i m σ H→
 (J.stop i H∧D.nx σ H)∨(J.go i H∧∃ N:St→Hp→Prop,(∀ σ' H',N σ' H'→∃ m',m' < m∧W (i+1) m' σ' H')∧∀ x H',J.yld i H x H'→g x σ H' fun σ2 H2=>tb { D with nx:=N,ct:=N,bk:=D.nx } σ2 H2)
def Zdw (fp:List Addr) (h:Heap):List (Addr × Obj):=fp.filterMap fun b=>(h.get? b).map fun o=>(b,o)
theorem Zat {fp:List Addr}{h:Heap}{b:Addr}{o:Obj} (hb:b∈fp) (e:h.get? b=some o):(b,o)∈Zdw fp h:=ZoS.mpr ⟨b,hb,by rw [e]; rfl⟩
theorem ZiU {fp:List Addr}{h:Heap}{p:Addr × Obj} (hp:p∈Zdw fp h):p.1∈fp∧h.get? p.1=some p.2:=by
 obtain ⟨b,hb,e⟩:=ZoS.mp hp;cases q:h.get? b with
 | none=>rw [q] at e; cases e
 | some o=>
  rw [q] at e;have e':(b,o)=p:=Option.some.inj e;subst e';exact ⟨hb,q⟩
theorem Inv.pinned {pins:List (Addr × Obj)}{σ:St}{H:Hp}{s:Shared}{fp:List Addr} (I:Inv X pins σ H s) (hf:∀ b∈fp,ZaG X pins H b) (ho:∀ b∈fp,∃ o,s.heap.get? b=some o∧∀ v,o.data≠.cell v):Inv X (pins++Zdw fp s.heap) σ H s:=
 I.pins_of fun p hp=>(Zns.mp hp).elim (fun z=>I.pin p (Zn5 _ z)) fun z=>by
  obtain ⟨hb,e⟩:=ZiU z;obtain ⟨f0,f1,f2,_⟩:=hf p.1 hb;obtain ⟨o,e',d⟩:=ho p.1 hb;rw [e] at e'; cases e';exact ⟨e,f0,f1,f2,d⟩
theorem Inv.unpinned {pins pl:List (Addr × Obj)}{σ:St}{H:Hp}{s:Shared} (I:Inv X (pins++pl) σ H s):Inv X pins σ H s:=I.pins_of fun p hp=>I.pin p (Zn5 _ (ZoC _ hp))
theorem Z9 {iter:Expr}{body:List Stmt}{wi:TI}{g:TG}{tb:TS}{pos:Pos} (hp:PassesOwn (model X.prog X.w) X.A X.env X.xe) (hc:X.calm=true) (hi:PI X tg iter wi) (hg:PG X tg g) (hb:PSs X body tb)
  (hs:∀ x,foldedSetIterable iter X.env x=pure x:=by intro _; rfl):PS X (.For tg iter body [] pos) (tFor wi g tb):=by
 intro pins s σ H D I h;refine wpAny_For (thn (hi pins s σ H _ I h) fun v s1 h1=>thn h1 fun itv s2 h2=>?_) hs;obtain ⟨it,fp,tn,J,H2,e,I2,T,st2,f2,W,⟨m0,w0⟩,turn⟩:=h2;subst e;have stat:∀ {H':Hp},(∀ b∈fp,H' b=none)→∀ b∈fp,ZaG X pins H' b:=fun hn b hb=>⟨hn b hb,(f2 b hb).2⟩;refine codeAny_forLoop_any (fun n s'=>∃ i σ' H',Inv X pins σ' H' s'∧tn i s'.heap∧(∀ b∈fp,H' b=none)∧W i n σ' H') ?_ m0 ⟨0,σ,H2,I2,st2,fun b hb=>(f2 b hb).1,w0⟩;rintro n s3 ⟨i,σ3,H3,I3,st3,fr3,w3⟩;rcases turn i n σ3 H3 w3 with ⟨stop,qn⟩ | ⟨go,N,hN,step⟩
 ·refine wpAny_passesOwn hp (thn (T.done X rfl rfl rfl hc i pins s3 σ3 H3 X.xe I3 (stat fr3) st3 stop) fun r s4 qz=>?_);obtain ⟨hr,I4⟩:=qz;subst hr;exact wpAny_execs_nil ⟨σ3,H3,I4,qn⟩
 ·refine wpAny_passesOwn hp (thn (T.item X rfl rfl rfl hc i pins s3 σ3 H3 X.xe I3 (stat fr3) st3 go) fun r s4 qz=>?_);obtain ⟨u,hr,h4⟩:=qz;subst hr;refine wpAny_passesOwn hp (thn h4 fun _ s5 qz=>?_);obtain ⟨x,H5,I5,r5,y5,st5,fr5⟩:=qz;have I5':=I5.pinned (stat fr5) (T.obj _ _ st5);refine wpAny_passesOwn hp (thn (hg _ s5 σ3 H5 x u _ I5' r5 (step x H5 y5)) fun _ s6 qz=>?_);obtain ⟨σ6,H6,I6,q6⟩:=qz;refine wpAny_passesOwn hp (thn (hb _ s6 σ6 H6 _ I6 q6) fun f s7 q7=>?_);have again:∀ {σ7:St}{H7:Hp},Inv X (pins++Zdw fp s5.heap) σ7 H7 s7→N σ7 H7→∃ m,m < n∧∃ i σ' H',Inv X pins σ' H' s7∧tn i s7.heap∧(∀ b∈fp,H' b=none)∧W i m σ' H':=fun {σ7 H7} I7 n7=>by
   obtain ⟨m',hm,w7⟩:=hN σ7 H7 n7;refine ⟨m',hm,i+1,σ7,H7,I7.unpinned,T.keep _ _ _ st5 fun b hb o e=>(I7.pin (b,o) (Zn5 _ (Zn5 _ (Zat hb e)))).1,fun b hb=>?_,w7⟩;obtain ⟨o,e,d⟩:=T.obj _ _ st5 b hb;exact (I7.pin (b,o) (Zn5 _ (Zn5 _ (Zat hb e)))).2.1
  cases f with
  | next=>obtain ⟨σ7,H7,I7,n7⟩:=q7; exact again I7 n7
  | cont=>obtain ⟨σ7,H7,I7,n7⟩:=q7; exact again I7 n7
  | brk=>obtain ⟨σ7,H7,I7,q7⟩:=q7; exact ⟨σ7,H7,I7.unpinned,q7⟩
  | ret v=>obtain ⟨x7,σ7,H7,I7,r7,q7⟩:=q7; exact ⟨x7,σ7,H7,I7.unpinned,r7,q7⟩
end
theorem Yl {K:Znj}{a:Addr}{xs:List V}{g:TG}{tb:TS}{D:Zab}{σ:St}{H:Hp} (Pv:Nat→St→Hp→Prop) (h0:Pv 0 σ H) (hl:∀ i σ H,i≤xs.length→Pv i σ H→SqL K H a xs)
  (hs:∀ i x σ H,xs[i]?=some x→Pv i σ H→g x σ H fun σ2 H2=>tb { D with nx:=Pv (i+1),ct:=Pv (i+1),bk:=D.nx } σ2 H2) (hd:∀ σ H,Pv xs.length σ H→D.nx σ H):
  ∃ W:Nat→Nat→St→Hp→Prop,(∃ m,W 0 m σ H)∧∀ i m σ H,W i m σ H→
   ((Itl K a).stop i H∧D.nx σ H)∨((Itl K a).go i H∧∃ N:St→Hp→Prop,(∀ σ' H',N σ' H'→∃ m',m' < m∧W (i+1) m' σ' H')∧∀ x H',(Itl K a).yld i H x H'→g x σ H' fun σ2 H2=>tb { D with nx:=N,ct:=N,bk:=D.nx } σ2 H2):=by
 refine ⟨fun i m σ H=>m=xs.length - i∧i≤xs.length∧Pv i σ H,⟨xs.length,by simp,ZnH _,h0⟩,?_⟩;rintro i m σ H ⟨rfl,hi,p⟩;have q:=hl i σ H hi p;by_cases hlt:i < xs.length
 ·refine .inr ⟨⟨xs,xs[i],q,by simp [hlt]⟩,Pv (i+1),fun σ' H' p'=>⟨xs.length - (i+1),by omega,rfl,hlt,p'⟩,fun x H' y=>?_⟩;obtain ⟨e,y⟩:=y;subst e;exact hs i x σ _ (y xs q) p
 ·have e:i=xs.length:=by omega
  subst e;exact .inl ⟨⟨xs,q,Znn _⟩,hd σ H p⟩
theorem Zae {lo:Int}{n:Nat}{g:TG}{tb:TS}{D:Zab}{σ:St}{H:Hp} (Pv:Nat→St→Hp→Prop) (h0:Pv 0 σ H)
  (hs:∀ i σ H,i < n→Pv i σ H→g (.int (lo+i)) σ H fun σ2 H2=>tb { D with nx:=Pv (i+1),ct:=Pv (i+1),bk:=D.nx } σ2 H2) (hd:∀ σ H,Pv n σ H→D.nx σ H):
  ∃ W:Nat→Nat→St→Hp→Prop,(∃ m,W 0 m σ H)∧∀ i m σ H,W i m σ H→
   ((Itr lo n).stop i H∧D.nx σ H)∨((Itr lo n).go i H∧∃ N:St→Hp→Prop,(∀ σ' H',N σ' H'→∃ m',m' < m∧W (i+1) m' σ' H')∧∀ x H',(Itr lo n).yld i H x H'→g x σ H' fun σ2 H2=>tb { D with nx:=N,ct:=N,bk:=D.nx } σ2 H2):=by
 refine ⟨fun i m σ H=>m=n - i∧i≤n∧Pv i σ H,⟨n,by simp,ZnH _,h0⟩,?_⟩;rintro i m σ H ⟨rfl,hi,p⟩;by_cases hlt:i < n
 ·refine .inr ⟨hlt,Pv (i+1),fun σ' H' p'=>⟨n - (i+1),by omega,rfl,hlt,p'⟩,fun x H' y=>?_⟩;obtain ⟨e,y⟩:=y;subst e y;exact hs i σ _ hlt p
 ·have e:i=n:=by omega
  subst e;exact .inl ⟨Znn _,hd σ H p⟩
theorem ZdO {c:TT}{tb:TS}{D:Zab}{σ:St}{H:Hp} (Pv:St→Hp→Prop) (μ:St→Hp→Nat) (h0:Pv σ H)
  (hs:∀ σ H,Pv σ H→c σ H fun b H1=>if b=true then tb { D with nx:=fun σ' H'=>Pv σ' H'∧μ σ' H' < μ σ H,ct:=fun σ' H'=>Pv σ' H'∧μ σ' H' < μ σ H,bk:=D.nx } σ H1 else D.nx σ H1)
  (mono:∀ σ H Q Q',(∀ b H1,Q b H1→Q' b H1)→c σ H Q→c σ H Q'):ZkN c tb D σ H:=by
 refine ⟨fun m σ H=>m=μ σ H∧Pv σ H,⟨_,rfl,h0⟩,?_⟩;rintro m σ H ⟨rfl,p⟩;refine mono σ H _ _ (fun b H1 q=>?_) (hs σ H p);cases b with
 | true=>exact ⟨_,fun σ' H' ⟨p',l⟩=>⟨_,l,rfl,p'⟩,q⟩
 | false=>exact q
abbrev R2:=V→V→Hp→VK→Prop
def OpR (X:Cx) (f:Value→Value→Sem Value) (r:R2):Prop:=
 ∀ (pins:List (Addr × Obj)) (s:Shared) (σ:St) (H:Hp) (x y:V) (v u:Value) (Q:VK),Inv X pins σ H s→RelV x v→RelV y u→r x y H Q→
  wpAny (model X.prog X.w) X.A (f v u) (EP X pins σ Q) X.xe s
def UnR (X:Cx) (f:Value→Sem Value) (r:V→Hp→VK→Prop):Prop:=
 ∀ (pins:List (Addr × Obj)) (s:Shared) (σ:St) (H:Hp) (x:V) (v:Value) (Q:VK),Inv X pins σ H s→RelV x v→r x H Q→
  wpAny (model X.prog X.w) X.A (f v) (EP X pins σ Q) X.xe s
def YR (X:Cx) (f:Value) (r:List V→Hp→VK→Prop):Prop:=
 ∀ (pins:List (Addr × Obj)) (s:Shared) (σ:St) (H:Hp) (xs:List V) (us:List Value) (Q:VK),Inv X pins σ H s→ZA xs us→r xs H Q→
  wpAny (model X.prog X.w) X.A (call f us) (EP X pins σ Q) X.xe s
def TruR (X:Cx) (r:V→Hp→(Bool→Hp→Prop)→Prop):Prop:=
 ∀ (pins:List (Addr × Obj)) (s:Shared) (σ:St) (H:Hp) (x:V) (v:Value) (Q:Bool→Hp→Prop),Inv X pins σ H s→RelV x v→r x H Q→
  wpAny (model X.prog X.w) X.A (truthy v) (TP X pins σ Q) X.xe s
def tOp (r:R2) (ta tb:TE):TE:=fun σ H Q=>ta σ H fun x H1=>tb σ H1 fun y H2=>r x y H2 Q
def tUn (r:V→Hp→VK→Prop) (ta:TE):TE:=fun σ H Q=>ta σ H fun x H1=>r x H1 Q
def rI (C:Int→Int→Prop) (g:Int→Int→V):R2:=fun x y H Q=>∃ i j,x=.int i∧y=.int j∧C i j∧Q (g i j) H
def rI0 (g:Int→Int→V):R2:=fun x y H Q=>∃ i j,x=.int i∧y=.int j∧Q (g i j) H
def rU (g:Int→V):V→Hp→VK→Prop:=fun x H Q=>∃ i,x=.int i∧Q (g i) H
section
variable {X:Cx}{a b c:Expr}{ta tb tc:TE}{pos:Pos}
theorem binT (ha:PE X a ta) (hb:PE X b tb) {pins:List (Addr × Obj)}{s:Shared}{σ:St}{H:Hp}{R:V→V→Hp→Prop} (I:Inv X pins σ H s)
  (h:ta σ H fun x H1=>tb σ H1 fun y H2=>R x y H2) {Q:Value→Shared→Prop}{f:Value→Value→Sem Value}
  (hf:∀ v u s2 x y H2,Inv X pins σ H2 s2→RelV x v→RelV y u→R x y H2→wpAny (model X.prog X.w) X.A (f v u) Q X.xe s2):
  wpAny (model X.prog X.w) X.A (eval a X.env) (fun v s₁=>wpAny (model X.prog X.w) X.A (eval b X.env) (fun u s₂=>wpAny (model X.prog X.w) X.A (f v u) Q X.xe s₂) X.xe s₁) X.xe s:=by
 refine thn (ha pins s σ H _ I h) fun v s1 qz=>?_;obtain ⟨x,H1,I1,r1,q1⟩:=qz;refine thn (hb pins s1 σ H1 _ I1 q1) fun u s2 qz=>?_;obtain ⟨y,H2,I2,r2,q2⟩:=qz;exact hf v u s2 x y H2 I2 r1 r2 q2
theorem Zo {op:Operator}{r:R2} (ho:OpR X (binaryOp op) r) (ha:PE X a ta) (hb:PE X b tb):PE X (.BinOp a op b pos) (tOp r ta tb):=by
 intro pins s σ H Q I h;exact wpAny_BinOp (binT ha hb I h fun v u s2 x y H2 I2 rx ry q=>ho pins s2 σ H2 x y v u Q I2 rx ry q)
theorem Zge {op:UnaryOp}{r:V→Hp→VK→Prop} (ho:UnR X (unaryOp op) r) (ha:PE X a ta):PE X (.UnaryOp op a pos) (tUn r ta):=by
 intro pins s σ H Q I h;exact UnaryOp_ (thn (ha pins s σ H _ I h) fun v s1 ⟨x,H1,I1,r1,q1⟩=>ho pins s1 σ H1 x v Q I1 r1 q1)
theorem opI {f:Value→Value→Sem Value}{C:Int→Int→Prop}{g:Int→Int→Int}
  (rule:∀ (i j:Int) (t u:Tok) (s:Shared) (Q:Value→Shared→Prop) (E:Value→Shared→Prop),C i j→Q (.int (g i j) s.toks) { s with toks:=s.toks+1 }→wpAny (model X.prog X.w) X.A (f (.int i t) (.int j u)) Q E s):
  OpR X f (rI C fun i j=>.int (g i j)):=by
 intro pins s σ H x y v u Q I rx ry h;obtain ⟨i,j,rfl,rfl,hc,q⟩:=h;obtain ⟨t,rfl⟩:=rx;obtain ⟨t',rfl⟩:=ry;exact rule i j t t' s _ _ hc ⟨.int (g i j),H,I.tok _,⟨_,rfl⟩,q⟩
theorem opI0 {f:Value→Value→Sem Value}{g:Int→Int→Int}
  (rule:∀ (i j:Int) (t u:Tok) (s:Shared) (Q:Value→Shared→Prop) (E:Value→Shared→Prop),Q (.int (g i j) s.toks) { s with toks:=s.toks+1 }→wpAny (model X.prog X.w) X.A (f (.int i t) (.int j u)) Q E s):
  OpR X f (rI0 fun i j=>.int (g i j)):=by
 intro pins s σ H x y v u Q I rx ry h;obtain ⟨i,j,rfl,rfl,q⟩:=h;obtain ⟨t,rfl⟩:=rx;obtain ⟨t',rfl⟩:=ry;exact rule i j t t' s _ _ ⟨.int (g i j),H,I.tok _,⟨_,rfl⟩,q⟩
theorem Zlq {f:Value→Value→Sem Value}{g:Int→Int→Bool}
  (rule:∀ (i j:Int) (t u:Tok) (s:Shared) (Q:Value→Shared→Prop) (E:Value→Shared→Prop),Q (.bool (g i j)) s→wpAny (model X.prog X.w) X.A (f (.int i t) (.int j u)) Q E s):
  OpR X f (rI0 fun i j=>.bl (g i j)):=by
 intro pins s σ H x y v u Q I rx ry h;obtain ⟨i,j,rfl,rfl,q⟩:=h;obtain ⟨t,rfl⟩:=rx;obtain ⟨t',rfl⟩:=ry;exact rule i j t t' s _ _ ⟨.bl (g i j),H,I,rfl,q⟩
def CDiv (i j:Int):Prop:=0 < j∧j < 1073741824
def Zl8 (i j:Int):Prop:=(-(2 ^ 64) < i∧i < 2 ^ 64)∨(-(2 ^ 64) < j∧j < 2 ^ 64)
theorem Zl8.ok {i j:Int} (h:Zl8 i j):IntMulOk i j:=by
 rcases h with ⟨h1,h2⟩ | ⟨h1,h2⟩
 ·exact .of_left (intBits_le_64 h1 h2)
 ·exact .of_right (intBits_le_64 h1 h2)
theorem Z2:OpR X (binaryOp .Add) (rI0 fun i j=>.int (i+j)):=opI0 fun _ _ _ _ _ _ _ q=>add_int q
theorem Jh:OpR X (binaryOp .Sub) (rI0 fun i j=>.int (i - j)):=opI0 fun _ _ _ _ _ _ _ q=>sub_int q
theorem Zkf:OpR X (binaryOp .Mult) (rI Zl8 fun i j=>.int (i * j)):=opI fun _ _ _ _ _ _ _ hc q=>mul_int q hc.ok
theorem ZX:OpR X (binaryOp .FloorDiv) (rI CDiv fun i j=>.int (i / j)):=opI fun i j _ _ _ _ _ hc q=>by
 have h1:(0:Int) < j:=hc.1;have h2:j < 1073741824:=hc.2;exact floordiv_int (by omega) (by rw [Int.fdiv_eq_ediv_of_nonneg i (by omega)]; exact q) (.inl (PyProof.noPylong_small (by omega)))
theorem Yj:OpR X (binaryOp .Mod) (rI (fun _ j=>0 < j) fun i j=>.int (i % j)):=opI fun i j _ _ _ _ _ hc q=>by
 have h1:(0:Int) < j:=hc;exact mod_int' (by omega) (by rw [Int.fmod_eq_emod_of_nonneg i (by omega)]; exact q)
theorem unI {f:Value→Sem Value}{g:Int→Int}
  (rule:∀ (i:Int) (t:Tok) (s:Shared) (Q:Value→Shared→Prop) (E:Value→Shared→Prop),Q (.int (g i) s.toks) { s with toks:=s.toks+1 }→wpAny (model X.prog X.w) X.A (f (.int i t)) Q E s):
  UnR X f (rU fun i=>.int (g i)):=by
 intro pins s σ H x v Q I rx h;obtain ⟨i,rfl,q⟩:=h;obtain ⟨t,rfl⟩:=rx;exact rule i t s _ _ ⟨.int (g i),H,I.tok _,⟨_,rfl⟩,q⟩
theorem ZdN:UnR X (unaryOp .USub) (rU fun i=>.int (-i)):=unI fun _ _ _ _ _ q=>neg_int q
end
def ZmD:V→V→Bool
 | .non,.non=>true | .non,.int _=>true | .int _,.non=>true | .non,.bl _=>true | .bl _,.non=>true | .non,.str _=>true | .str _,.non=>true
 | .int _,.int _=>true | .bl _,.bl _=>true | .str _,.str _=>true | .byt _,.byt _=>true
 | .int _,.str _=>true | .str _,.int _=>true | .bl _,.str _=>true | .str _,.bl _=>true
 | _,_=>false
def rEq:R2:=fun x y H Q=>ZmD x y=true∧Q (.bl (decide (x=y))) H
def rNe:R2:=fun x y H Q=>ZmD x y=true∧Q (.bl (!decide (x=y))) H
theorem ZhA {i j:Int}:decide (V.int i=V.int j)=(i == j):=by
 rw [ZnW];simp
theorem ZjC {i j:Bool}:decide (V.bl i=V.bl j)=(i == j):=by
 rw [ZnW];simp
theorem ZhB {i j:Str}:decide (V.str i=V.str j)=(i == j):=by
 rw [ZnW];simp
theorem Zhz {i j:Array UInt8}:decide (V.byt i=V.byt j)=(i.toList == j.toList):=by
 rw [ZnW];cases i;cases j;simp
section
variable {X:Cx}{a b c:Expr}{ta tb tc:TE}{pos:Pos}
theorem ZT {pins:List (Addr × Obj)}{σ:St}{H:Hp}{s:Shared}{Q:VK}{k k':Bool} (I:Inv X pins σ H s) (q:Q (.bl k) H) (e:k=k'):EP X pins σ Q (.bool k') s:=by
 subst e;exact ⟨.bl k,H,I,rfl,q⟩
theorem Jt:OpR X (compareOp .Eq) rEq:=by
 intro pins s σ H x y v u Q I rx ry h;obtain ⟨hs,q⟩:=h;cases x with
 | non=>
  cases rx;cases y with
  | non=>cases ry; exact PySem.EqNone.eq_none_none (ZT I q (by simp))
  | bl j=>cases ry; exact PySem.EqNone.eq_none_bool (ZT I q (by simp))
  | int j=>obtain ⟨t',rfl⟩:=ry; exact PySem.EqNone.eq_none_int (ZT I q (by simp))
  | str j=>obtain ⟨t',rfl⟩:=ry; exact PySem.EqNone.eq_none_str (ZT I q (by simp))
  | _=>exact absurd (show false=true from hs) ZnE
 | bl i=>
  cases rx;cases y with
  | non=>cases ry; exact PySem.EqNone.eq_bool_none (ZT I q (by simp))
  | bl j=>cases ry; exact eq_bool (ZT I q ZjC)
  | str j=>obtain ⟨t',rfl⟩:=ry; exact PySem.EqMixed.eq_bool_str (ZT I q (by simp))
  | _=>exact absurd (show false=true from hs) ZnE
 | int i=>
  obtain ⟨t,rfl⟩:=rx;cases y with
  | non=>cases ry; exact PySem.EqNone.eq_int_none (ZT I q (by simp))
  | int j=>obtain ⟨t',rfl⟩:=ry; exact eq_int (ZT I q ZhA)
  | str j=>obtain ⟨t',rfl⟩:=ry; exact PySem.EqMixed.eq_int_str (ZT I q (by simp))
  | _=>exact absurd (show false=true from hs) ZnE
 | str i=>
  obtain ⟨t,rfl⟩:=rx;cases y with
  | non=>cases ry; exact PySem.EqNone.eq_str_none (ZT I q (by simp))
  | bl j=>cases ry; exact PySem.EqMixed.eq_str_bool (ZT I q (by simp))
  | int j=>obtain ⟨t',rfl⟩:=ry; exact PySem.EqMixed.eq_str_int (ZT I q (by simp))
  | str j=>obtain ⟨t',rfl⟩:=ry; exact eq_str (ZT I q ZhB)
  | _=>exact absurd (show false=true from hs) ZnE
 | byt i=>
  obtain ⟨t,rfl⟩:=rx;cases y with
  | byt j=>obtain ⟨t',rfl⟩:=ry; exact PySem.W.eq_bytes (ZT I q Zhz)
  | _=>exact absurd (show false=true from hs) ZnE
 | _=>cases y <;> exact absurd (show false=true from hs) ZnE
theorem Zcl:OpR X (compareOp .NotEq) rNe:=by
 intro pins s σ H x y v u Q I rx ry h;obtain ⟨hs,q⟩:=h;cases x with
 | non=>
  cases rx;cases y with
  | non=>cases ry; exact PySem.EqNone.ne_none_none (ZT I q (by simp))
  | bl j=>cases ry; exact PySem.EqNone.ne_none_bool (ZT I q (by simp))
  | int j=>obtain ⟨t',rfl⟩:=ry; exact PySem.EqNone.ne_none_int (ZT I q (by simp))
  | str j=>obtain ⟨t',rfl⟩:=ry; exact PySem.EqNone.ne_none_str (ZT I q (by simp))
  | _=>exact absurd (show false=true from hs) ZnE
 | bl i=>
  cases rx;cases y with
  | non=>cases ry; exact PySem.EqNone.ne_bool_none (ZT I q (by simp))
  | bl j=>cases ry; exact ne_bool (ZT I q (congrArg not ZjC))
  | str j=>obtain ⟨t',rfl⟩:=ry; exact PySem.EqMixed.ne_bool_str (ZT I q (by simp))
  | _=>exact absurd (show false=true from hs) ZnE
 | int i=>
  obtain ⟨t,rfl⟩:=rx;cases y with
  | non=>cases ry; exact PySem.EqNone.ne_int_none (ZT I q (by simp))
  | int j=>obtain ⟨t',rfl⟩:=ry; exact ne_int (ZT I q (congrArg not ZhA))
  | str j=>obtain ⟨t',rfl⟩:=ry; exact PySem.EqMixed.ne_int_str (ZT I q (by simp))
  | _=>exact absurd (show false=true from hs) ZnE
 | str i=>
  obtain ⟨t,rfl⟩:=rx;cases y with
  | non=>cases ry; exact PySem.EqNone.ne_str_none (ZT I q (by simp))
  | bl j=>cases ry; exact PySem.EqMixed.ne_str_bool (ZT I q (by simp))
  | int j=>obtain ⟨t',rfl⟩:=ry; exact PySem.EqMixed.ne_str_int (ZT I q (by simp))
  | str j=>obtain ⟨t',rfl⟩:=ry; exact ne_str (ZT I q (congrArg not ZhB))
  | _=>exact absurd (show false=true from hs) ZnE
 | byt i=>
  obtain ⟨t,rfl⟩:=rx;cases y with
  | byt j=>obtain ⟨t',rfl⟩:=ry; exact PySem.W.ne_bytes (ZT I q (congrArg not Zhz))
  | _=>exact absurd (show false=true from hs) ZnE
 | _=>cases y <;> exact absurd (show false=true from hs) ZnE
theorem Zck:OpR X (compareOp .Lt) (rI0 fun i j=>.bl (decide (i < j))):=Zlq fun _ _ _ _ _ _ _ q=>lt_int q
theorem Zdt:OpR X (compareOp .LtE) (rI0 fun i j=>.bl (decide (i≤j))):=Zlq fun _ _ _ _ _ _ _ q=>le_int q
theorem Zke:OpR X (compareOp .Gt) (rI0 fun i j=>.bl (decide (j < i))):=Zlq fun _ _ _ _ _ _ _ q=>gt_int q
theorem ZlT:OpR X (compareOp .GtE) (rI0 fun i j=>.bl (decide (j≤i))):=Zlq fun _ _ _ _ _ _ _ q=>ge_int q
theorem Zi6:OpR X (compareOp .Lt) (fun x y H Q=>∃ i j,x=.str i∧y=.str j∧Q (.bl (decide (i.cps.toList < j.cps.toList))) H):=by
 intro pins s σ H x y v u Q I rx ry h;obtain ⟨i,j,rfl,rfl,q⟩:=h;obtain ⟨t,rfl⟩:=rx;obtain ⟨t',rfl⟩:=ry;exact lt_str (ZT I q rfl)
theorem Zlt:OpR X (compareOp .IsNot) (fun x y H Q=>y=.non∧Q (.bl (!decide (x=.non))) H):=by
 intro pins s σ H x y v u Q I rx ry h;obtain ⟨rfl,q⟩:=h;cases ry;refine isnot_none_gen (ZT I q ?_);cases x <;> first
  | (cases rx; rfl)
  | (obtain ⟨t,rfl⟩:=rx; rfl)
theorem Zu (b:Expr) {op:CmpOp} (h:op≠.In:=by decide) (h2:op≠.NotIn:=by decide):behindInMarks op b=false:=by
 have e1:(op == CmpOp.In)=false:=by cases op <;> first | rfl | exact absurd rfl h
 have e2:(op == CmpOp.NotIn)=false:=by cases op <;> first | rfl | exact absurd rfl h2
 cases b <;> simp [behindInMarks,e1,e2]
theorem ZV {op:CmpOp}{r:R2} (ho:OpR X (compareOp op) r) (ha:PE X a ta) (hb:PE X b tb) (hm:behindInMarks op b=false):PE X (.Compare a [op] [b] pos) (tOp r ta tb):=by
 intro pins s σ H Q I h;exact wpAny_Compare1 (binT ha hb I h fun v u s2 x y H2 I2 rx ry q=>ho pins s2 σ H2 x y v u Q I2 rx ry q) hm
def Zl4 (t:TE):TT:=fun σ H Q=>t σ H fun x H'=>∃ k,x=.bl k∧Q k H'
theorem Zz {op:CmpOp}{r:R2} (ho:OpR X (compareOp op) r) (ha:PE X a ta) (hb:PE X b tb) (hm:behindInMarks op b=false):PT X (.Compare a [op] [b] pos) (Zl4 (tOp r ta tb)):=by
 intro pins s σ H Q I h;refine wpAny_isTrue_Compare1 (thn (ha pins s σ H _ I h) fun v s1 ⟨x,H1,I1,r1,q1⟩=>thn (hb pins s1 σ H1 _ I1 q1) fun u s2 ⟨y,H2,I2,r2,q2⟩=>
  thn (ho pins s2 σ H2 x y v u _ I2 r1 r2 q2) fun c s3 ⟨z,H3,I3,r3,k,e,q3⟩=>?_) hm
 subst e;cases r3;exact wpAny_truthy_bool ⟨H3,I3,q3⟩
def ZmI (r r':R2) (ta tb tc:TE):TE:=fun σ H Q=>ta σ H fun x H1=>tb σ H1 fun y H2=>r x y H2 fun z H3=>∃ k,z=.bl k∧
 (if k=true then tc σ H3 fun w' H4=>r' y w' H4 Q else Q (.bl false) H3)
theorem ZbO {op op':CmpOp}{r r':R2} (ho:OpR X (compareOp op) r) (ho':OpR X (compareOp op') r') (ha:PE X a ta) (hb:PE X b tb) (hc:PE X c tc)
  (hm:lastMarks [op,op'] [b,c]=false:=by with_unfolding_all rfl):PE X (.Compare a [op,op'] [b,c] pos) (ZmI r r' ta tb tc):=by
 intro pins s σ H Q I h;refine Compare_chain (thn (ha pins s σ H _ I h) fun v s1 ⟨x,H1,I1,r1,q1⟩=>chain_link (thn (hb pins s1 σ H1 _ I1 q1) fun u s2 ⟨y,H2,I2,r2,q2⟩=>
  thn (ho pins s2 σ H2 x y v u _ I2 r1 r2 q2) fun d s3 ⟨z,H3,I3,r3,k,e,q3⟩=>?_)) hm
 subst e;cases r3;refine wpAny_truthy_bool ?_;cases k with
 | false=>exact ite_ff ⟨.bl false,H3,I3,rfl,q3⟩
 | true=>exact ite_tt (chain_last (thn (hc pins s3 σ H3 _ I3 q3) fun w' s4 ⟨z',H4,I4,r4,q4⟩=>ho' pins s4 σ H4 y z' u w' Q I4 r2 r4 q4))
def TruV (K:Znj) (x:V) (H:Hp) (k:Bool):Prop:=
 match x with
 | .non=>k=false
 | .bl b=>k=b
 | .int i=>k=(i != 0)
 | .str y=>y.length≤sizeLine∧k=((y.length:Int) != 0)
 | .byt y=>y.size≤sizeLine∧k=((y.size:Int) != 0)
 | .ref p=>(∃ xs,SqL K H p xs∧k=!xs.isEmpty)∨(∃ xs,SqT K H p xs∧k=!xs.isEmpty)∨∃ kvs,H p=some (.dK kvs)∧k=!kvs.isEmpty
 | _=>False
theorem ZgL {κ:Type}{kvs:List (κ × V)}{vs:List (κ × Value)} (r:KV kvs vs):(!vs.isEmpty)=!kvs.isEmpty:=by
 cases r <;> rfl
theorem Zc5 {xs:List V}{its:List Value} (r:ZA xs its):(!its.toArray.isEmpty)=!xs.isEmpty:=by
 cases r <;> simp
theorem Zbp:(sizeLine:Nat) < 2 ^ 63:=by rw [sizeLine_eq]; decide
theorem ZmP:TruR X (fun x H Q=>∃ k,TruV X.K x H k∧Q k H):=by
 intro pins s σ H x v Q I rx h;obtain ⟨k,e,q⟩:=h;have hl:=Zbp;have hs:sizeLine=16777216:=sizeLine_eq;cases x with
 | non=>
  cases rx;have e':k=false:=e;subst e';exact truthy_none ⟨H,I,q⟩
 | bl b=>
  cases rx;have e':k=b:=e;subst e';exact wpAny_truthy_bool ⟨H,I,q⟩
 | int i=>
  obtain ⟨t,rfl⟩:=rx;have e':k=(i != 0):=e;subst e';exact PySem.P.truthy_int ⟨H,I,q⟩
 | str y=>
  obtain ⟨t,rfl⟩:=rx;obtain ⟨hy,e'⟩:y.length≤sizeLine∧k=((y.length:Int) != 0):=e;subst e';exact PySem.P.truthy_str (by omega) ⟨H,I.tok _,q⟩
 | byt y=>
  obtain ⟨t,rfl⟩:=rx;obtain ⟨hy,e'⟩:y.size≤sizeLine∧k=((y.size:Int) != 0):=e;subst e';exact PySem.W.truthy_bytes (by omega) ⟨H,I.tok _,q⟩
 | ref p=>
  cases rx;have e':(∃ xs,SqL X.K H p xs∧k=!xs.isEmpty)∨(∃ xs,SqT X.K H p xs∧k=!xs.isEmpty)∨∃ kvs,H p=some (.dK kvs)∧k=!kvs.isEmpty:=e;rcases e' with ⟨xs,hx,e'⟩ | ⟨xs,hx,e'⟩ | ⟨kvs,hx,e'⟩
  ·subst e';obtain ⟨its,r,pl,hz⟩:=I.list hx;have hlen:=r.length;exact wpAny_truthy_list pl.isList (by simp only [Zny]; omega) ⟨H,I.tok _,by rw [Zc5 r]; exact q⟩
  ·subst e';obtain ⟨its,r,pl,hz⟩:=I.tuple hx;have hlen:=r.length;exact truthy_tuple pl (by simp only [Zny]; omega) ⟨H,I.tok _,by rw [Zc5 r]; exact q⟩
  ·subst e';obtain ⟨hz,hS,vs,r,m⟩:kvs.length≤sizeLine∧(p == sysModules)=false∧∃ vs,KV kvs vs∧s.heap.DictOf (Zy X.prog X.w) p vs:=I.hok p _ hx;have hlen:kvs.length=vs.length:=Paired.length r;exact wpAny_truthy_dict hS m (by omega) ⟨H,I.tok _,by rw [ZgL r]; exact q⟩
 | _=>exact (show False from e).elim
theorem Zgg (ha:PE X a ta) (he:∀ whole,isTrue a X.env whole=(do let v ←whole; standAt a.pos; holding [v] (truthy v))):
  PT X a (fun σ H Q=>ta σ H fun x H'=>∃ k,TruV X.K x H' k∧Q k H'):=by
 intro pins s σ H Q I h;exact isTrue_plain (thn (ha pins s σ H _ I h) fun v s1 ⟨x,H1,I1,r1,q1⟩=>ZmP pins s1 σ H1 x v Q I1 r1 q1) (he _)
theorem JM:OpR X (binaryOp .Add) (fun x y H Q=>∃ i j,x=.str i∧y=.str j∧i.length+j.length≤sizeLine∧Q (.str (i++j)) H):=by
 intro pins s σ H x y v u Q I rx ry h;obtain ⟨i,j,rfl,rfl,hz,q⟩:=h;obtain ⟨t,rfl⟩:=rx;obtain ⟨t',rfl⟩:=ry;exact add_str (fun t' tk=>⟨.str (i++j),H,I.tok _,⟨_,rfl⟩,q⟩) hz
theorem YJ {x:V}{us:List Value} (r:ZA [x] us):∃ u,us=[u]∧RelV x u:=by
 cases r with
 | cons r1 r2=>cases r2; exact ⟨_,rfl,r1⟩
theorem ZkT {x y:V}{us:List Value} (r:ZA [x,y] us):∃ u w',us=[u,w']∧RelV x u∧RelV y w':=by
 cases r with
 | cons r1 r2=>
  cases r2 with
  | cons r3 r4=>cases r4; exact ⟨_,_,rfl,r1,r3⟩
theorem Zil (hc:X.calm=true):YR X (.builtin "max") (fun xs H Q=>∃ i j,xs=[.int i,.int j]∧Q (.int (if j > i then j else i)) H):=by
 intro pins s σ H xs us Q I r h;obtain ⟨i,j,rfl,q⟩:=h;obtain ⟨u,w',rfl,⟨t,rfl⟩,⟨t',rfl⟩⟩:=ZkT r;refine max_two_ints (I.ok.hd hc) fun h' tk k=>⟨_,H,I.kept k,?_,q⟩;by_cases hj:j > i
 ·rw [if_pos hj,if_pos hj]; exact ⟨_,rfl⟩
 ·rw [if_neg hj,if_neg hj]; exact ⟨_,rfl⟩
theorem Zd7 (hc:X.calm=true):YR X (.builtin "min") (fun xs H Q=>∃ i j,xs=[.int i,.int j]∧Q (.int (if j < i then j else i)) H):=by
 intro pins s σ H xs us Q I r h;obtain ⟨i,j,rfl,q⟩:=h;obtain ⟨u,w',rfl,⟨t,rfl⟩,⟨t',rfl⟩⟩:=ZkT r;refine min_two_ints (I.ok.hd hc) fun h' tk k=>⟨_,H,I.kept k,?_,q⟩;by_cases hj:j < i
 ·rw [if_pos hj,if_pos hj]; exact ⟨_,rfl⟩
 ·rw [if_neg hj,if_neg hj]; exact ⟨_,rfl⟩
end
structure ZgB (h:Heap) (x dx C:Addr) (mA:Str→Option Value):Prop where
 obj:h.get? x=some (Zoh C dx)
 ns:h.Ns1 dx mA
 ne:dx≠x
theorem ZiK {h:Heap}{dx:Addr}{mA:Str→Option Value} (n:h.Ns1 dx mA):∃ od,h.get? dx=some od∧∀ name,Zql name od=some (mA name):=by
 obtain ⟨o,es,ep,ho,hd,hk,_,hm⟩:=n;refine ⟨o,ho,fun name=>?_⟩;have e:=hm name;unfold nsFind findBy at e;rw [←Array.find?_toList] at e;unfold Zql;rw [hd];dsimp only;split
 ·rename_i y q;rw [q] at e;exact congrArg some e
 ·rename_i q;rw [q] at e;have a:es.toList.any (·.refKey)=false:=by
   rw [List.any_eq_false];intro y hy;obtain ⟨z,t,hkey⟩:=hk y (Array.mem_toList_iff.mp hy);simp [DictEntry.refKey,hkey]
  have a':¬ es.toList.any (·.refKey)=true:=by rw [a]; exact ZnE
  rw [if_neg a'];exact congrArg some e
theorem ZgB.look {h:Heap}{x dx C:Addr}{mA:Str→Option Value} (I:ZgB h x dx C mA):∃ od,PySem.W.InstAt h x (Zoh C dx) C (some od)∧∀ name,Zql name od=some (mA name):=
 let ⟨od,ho,hl⟩:=ZiK I.ns
 ⟨od,⟨I.obj,rfl,rfl,ho⟩,hl⟩
section
variable {prog:Program}{w:World}{A:Around}{E:Value→Shared→Prop}{s:Shared}{K:Znj}{x dx C f:Addr}{mA:Str→Option Value}{name:Str}{v:Value}
theorem Zk3 {expr:Bool}{Q:Value→Shared→Prop} (X:K.In s.heap) (I:ZgB s.heap x dx C mA) (hg:Zpq K C name=true) (hh:ZpK K C=true)
  (ha:Zn4 K (.ref C) name=some none) (hv:mA name=some v) (hv':PySem.W.handedIn v=true) (h:Q v { s with toks:=s.toks+1 }):
  wpAny (model prog w) A (getAttr (.ref x) name expr) Q E s:=by
 obtain ⟨od,J,hl⟩:=I.look;exact PySem.W.get_value X J (Zqb hg).1 (PySem.W.findObj_own hh ha rfl (by rw [hl,hv])) hv' h
theorem ZjN {pl:Sem Bool}{Q:Value × List Value→Shared→Prop} (X:K.In s.heap) (I:ZgB s.heap x dx C mA) (hg:Zpq K C name=true)
  (hf:Zn4 K (.ref C) name=some (some (.ref f))) (ht:Zqi K (.ref f)=true) (hv:mA name=none) (h:Q (.ref f,[.ref x]) s):
  wpAny (model prog w) A (getMethod (.ref x) name pl) Q E s:=by
 obtain ⟨od,J,hl⟩:=I.look;exact PySem.W.method_fn X J (Zqb hg).1 (Zqb hg).2 hf (beq_iff_eq.mp ht) (by show (Zql name od).map (·.isSome)=some false; rw [hl,hv]; rfl) h
theorem ZlH {ns:List Str}{Q:Unit→Shared→Prop} (X:K.In s.heap) (I:ZgB s.heap x dx C mA)
  (hs:Zn4 K (.ref C) "__setattr__"=some (some (.builtin "object.__setattr__"))) (hp:Zqz K C=true) (ht:Zrb K C name=some none) (hh:ZpK K C=true)
  (hw:Zrd mA ns) (hsz:ns.length≤sizeLine)
  (h:∀ h',ZgB h' x dx C (fun y=>if y=name then some v else mA y)→Zo7 dx s.heap h'→Q () { s with heap:=h',toks:=s.toks+2 }):
  wpAny (model prog w) A (setAttr (.ref x) name v) Q E s:=by
 obtain ⟨od,J,hl⟩:=I.look;refine PySem.W.set_plain X J hs (PySem.W.osa_open (s:={ s with toks:=s.toks+1 }) (r:=none) X J hp ht fun b=>?_);obtain ⟨cd,hc,hd'⟩:=PySem.W.any_some hh;have hx:s.heap.get? x=some ⟨.ref C,some dx,.plain,#[]⟩:=I.obj;refine wpAny_bind (wpAny_pure (wpAny_bind (wpAny_bind (wpAny_loadPart hx (wpAny_bind (ZpG.here (s:={ s with toks:=s.toks+1 }) (PySem.W.looks_clsIn X hc) ?_))))));rw [hd'];refine wpAny_pure (a:=some dx) (wpAny_bind (wpAny_pure (wpAny_bind ?_)));refine wpAny_nsSet1 (s:={ s with toks:=s.toks+1 }) I.ns fun h' hn2 hs2=>?_;obtain ⟨oD,esD,epD,hoD,hdD,hcD⟩:=hn2.count (Zrd.cons name v hw);refine wpAny_bind (wpAny_lookBehind hoD (by rw [hdD]; exact pastItsLine_dict (Zog hcD (by rw [ZnZ]; omega))) ?_);exact wpAny_pure (h _ ⟨(hs2.2 _ (Ne.symm I.ne)).trans I.obj,hn2,I.ne⟩ hs2)
theorem ZjW {R:Result→Shared→Prop}{vs:List Value}{kw:List (Str × Value)} (X:K.In s.heap) (hm:Zpe K C=true)
  (hi:Zn4 K (.ref C) "__init__"=some (some (.ref f))) (hf:PySem.W.typeIn K (.ref f)=some (.type "function"))
  (h:codeAny (model prog w) (A.under (.builtin "type.__call__" ⟨.ref C :: vs,kw⟩)) (.call (.ref f) ⟨.ref (s.heap.objs.size+1) :: vs,kw⟩) (PySem.W.InitBack (s.heap.objs.size+1) R)
   { s with heap:=(s.heap.push Zn6).push (Zoh C s.heap.objs.size) }):
  codeAny (model prog w) A (.call (.ref C) ⟨vs,kw⟩) R s:=by
 obtain ⟨hh,g,d,t,os⟩:=s;exact PySem.W.make_core (ZqR X hm) (Zrf X hi) (fun self=>PySem.W.bind_fn X self hf) (.inl rfl) h
theorem ZiM {R:Result→Shared→Prop} (X:K.In s.heap) (hm:Zpe K C=true)
  (hi:Zn4 K (.ref C) "__init__"=some (some (.builtin "object.__init__")))
  (hb:∀ self,ZpG (model prog w) s.heap (bindSpecial (.builtin "object.__init__") self) (.builtin "object.__init__",[self]))
  (h:codeAny (model prog w) (A.under (.builtin "type.__call__" ⟨[.ref C],[]⟩)) (.call (.builtin "object.__init__") ⟨[.ref (s.heap.objs.size+1)],[]⟩) (PySem.W.InitBack (s.heap.objs.size+1) R)
   { s with heap:=(s.heap.push Zn6).push (Zoh C s.heap.objs.size) }):
  codeAny (model prog w) A (.call (.ref C) ⟨[],[]⟩) R s:=by
 obtain ⟨hh,g,d,t,os⟩:=s;exact PySem.W.make_core (ZqR X hm) (Zrf X hi) hb (.inr ⟨rfl,rfl⟩) h
end
def Zbb (f:Str) (v:V):List (Str × V)→List (Str × V)
 | []=>[(f,v)]
 | (g,x) :: r=>if g=f then (g,v) :: r else (g,x) :: Zbb f v r
theorem Zci (f g:Str) (v:V):∀ fs:List (Str × V),(Zbb f v fs).lookup g=if g=f then some v else fs.lookup g
 | []=>by
  show Zpu g [(f,v)]=_;by_cases h:g=f
  ·have hb:(g == f)=true:=beq_iff_eq.mpr h;simp only [Zpu,hb,if_pos h]
  ·have hb:(g == f)=false:=beq_eq_false_iff_ne.mpr h;simp only [Zpu,hb,if_neg h]
 | (k,x) :: r=>by
  have ih:=Zci f g v r;rw [show Zbb f v ((k,x) :: r)=(if k=f then (k,v) :: r else (k,x) :: Zbb f v r) from rfl];by_cases hk:k=f
  ·rw [if_pos hk];by_cases h:g=k
   ·have hb:(g == k)=true:=beq_iff_eq.mpr h;simp only [Zpu,hb,if_pos (h.trans hk)]
   ·have hb:(g == k)=false:=beq_eq_false_iff_ne.mpr h;simp only [Zpu,hb,if_neg (fun e:g=f=>h (e.trans hk.symm))]
  ·rw [if_neg hk];by_cases h:g=k
   ·have hb:(g == k)=true:=beq_iff_eq.mpr h;simp only [Zpu,hb,if_neg (fun e:g=f=>hk (h.symm.trans e))]
   ·have hb:(g == k)=false:=beq_eq_false_iff_ne.mpr h;simp only [Zpu,hb];exact ih
theorem Zb0 (f:Str) (v:V):∀ fs:List (Str × V),f∈(Zbb f v fs).map (·.1)∧∀ g,g∈fs.map (·.1)→g∈(Zbb f v fs).map (·.1)
 | []=>⟨by simp [Zbb],fun g h=>by simp at h⟩
 | (k,x) :: r=>by
  obtain ⟨i1,i2⟩:=Zb0 f v r;rw [show Zbb f v ((k,x) :: r)=(if k=f then (k,v) :: r else (k,x) :: Zbb f v r) from rfl];by_cases hk:k=f
  ·rw [if_pos hk];subst hk;exact ⟨by simp,fun g h=>by simpa using h⟩
  ·rw [if_neg hk];refine ⟨?_,fun g h=>?_⟩
   ·rw [ZnN];exact ZnC _ i1
   ·rw [ZnN] at h ⊢;rcases Znz.mp h with e | e
    ·exact Znz.mpr (.inl e)
    ·exact ZnC _ (i2 g e)
theorem Zch (f:Str) (v:V):∀ fs:List (Str × V),(Zbb f v fs).length≤fs.length+1
 | []=>by simp [Zbb]
 | (k,x) :: r=>by
  have ih:=Zch f v r;rw [show Zbb f v ((k,x) :: r)=(if k=f then (k,v) :: r else (k,x) :: Zbb f v r) from rfl];by_cases hk:k=f
  ·rw [if_pos hk,ZnZ,ZnZ]; omega
  ·rw [if_neg hk,ZnZ,ZnZ]; omega
theorem ZaC.some_of {v:V}{o:Option Value} (r:ZaC (some v) o):∃ u,o=some u∧RelV v u:=by
 cases o with
 | none=>exact (show False from r).elim
 | some u=>exact ⟨u,rfl,r⟩
theorem ZaC.none_of {o:Option Value} (r:ZaC none o):o=none:=by
 cases o with
 | none=>rfl
 | some u=>exact (show False from r).elim
theorem Ziv {v:V}{u:Value} (r:RelV v u):PySem.W.handedIn u=true:=by
 cases v with
 | non=>cases (show u=Value.none from r); rfl
 | bl b=>cases (show u=Value.bool b from r); rfl
 | int i=>obtain ⟨t,e⟩:=(show ∃ t,u=Value.int i t from r); cases e; rfl
 | str x=>obtain ⟨t,e⟩:=(show ∃ t,u=Value.str x t from r); cases e; rfl
 | byt b=>obtain ⟨t,e⟩:=(show ∃ t,u=Value.bytes b t from r); cases e; rfl
 | flt b=>obtain ⟨t,e⟩:=(show ∃ t,u=Value.float b t from r); cases e; rfl
 | ref a=>cases (show u=Value.ref a from r); rfl
 | ty n=>cases (show u=Value.type n from r); rfl
section
variable {P:Program}{w:World}{H H':Hp}{h h':Heap}{a C dx:Addr}{fs fs':List (Str × V)}
theorem ZcC (hok:HOk P w H h) (e:H a=some (.ins C dx fs)):∃ mA,ZgB h a dx C mA∧(∀ f,ZaC (fs.lookup f) (mA f))∧Zrd mA (fs.map (·.1))∧fs.length≤1000∧H dx=some (.own a):=by
 obtain ⟨d,z,ne,ob,mA,n,r,q⟩:=(show Yh P w H h a (.ins C dx fs) from hok a _ e);exact ⟨mA,⟨ob,n,ne⟩,r,q,z,d⟩
end
structure Cls (K:Znj) (C:Addr):Prop where
 pg:Zpq K C Str.empty=true
 hd:ZpK K C=true
 po:Zqz K C=true
 sa:Zn4 K (.ref C) "__setattr__"=some (some (.builtin "object.__setattr__"))
theorem Cls.get {K:Znj}{C:Addr} (c:Cls K C) (f:Str):Zpq K C f=true:=c.pg
def ZG (K:Znj) (C:Addr) (f:Str):Prop:=Zn4 K (.ref C) f=some none
theorem ZG.taker {K:Znj}{C:Addr}{f:Str} (n:ZG K C f):Zrb K C f=some none:=by
 unfold Zrb;rw [show Zn4 K (.ref C) f=some none from n];rfl
structure Zia (K:Znj) (C:Addr) (m:Str) (f:Addr):Prop where
 at_:Zn4 K (.ref C) m=some (some (.ref f))
 fn:Zqi K (.ref f)=true
 kp:Zoj K (.ref f)=true
section
variable {X:Cx}{pins:List (Addr × Obj)}{σ:St}{H:Hp}{s:Shared}{a C dx:Addr}{fs:List (Str × V)}{f:Str}{v:V}{A:Around}{E:Value→Shared→Prop}
theorem ZgG {b:Bool}{Q:Value→Shared→Prop} (I:Inv X pins σ H s) (e:H a=some (.ins C dx fs)) (c:Cls X.K C) (n:ZG X.K C f) (l:fs.lookup f=some v)
  (h:∀ u s',Inv X pins σ H s'→RelV v u→Q u s'):wpAny (model X.prog X.w) A (getAttr (.ref a) f b) Q E s:=by
 obtain ⟨mA,O,r,_,_,_⟩:=ZcC I.hok e;obtain ⟨u,hu,ru⟩:=ZaC.some_of (v:=v) (o:=mA f) (by rw [←l]; exact r f);exact Zk3 I.kIn O (c.get f) c.hd n hu (Ziv ru) (h u _ (I.tok _) ru)
theorem Zc2 {m:Str}{g:Addr}{pl:Sem Bool}{Q:Value × List Value→Shared→Prop} (I:Inv X pins σ H s) (e:H a=some (.ins C dx fs)) (c:Cls X.K C) (k:Zia X.K C m g) (l:fs.lookup m=none)
  (h:Q (.ref g,[.ref a]) s):wpAny (model X.prog X.w) A (getMethod (.ref a) m pl) Q E s:=by
 obtain ⟨mA,O,r,_,_,_⟩:=ZcC I.hok e;have hn:mA m=none:=ZaC.none_of (by rw [←l]; exact r m);exact ZjN I.kIn O (c.get m) k.at_ k.fn hn h
theorem Zhh {y:V}{u:Value}{Q:Unit→Shared→Prop} (I:Inv X pins σ H s) (e:H a=some (.ins C dx fs)) (c:Cls X.K C) (n:ZG X.K C f) (hl:fs.length < 1000) (ry:RelV y u)
  (h:∀ s',Inv X pins σ (upd H a (.ins C dx (Zbb f y fs))) s'→Q () s'):wpAny (model X.prog X.w) A (setAttr (.ref a) f u) Q E s:=by
 obtain ⟨mA,O,r,wi,_,ho⟩:=ZcC I.hok e;have hz:(fs.map (·.1)).length≤sizeLine:=by rw [Zni,sizeLine_eq]; omega
 refine ZlH I.kIn O c.sa c.po n.taker c.hd wi hz fun h' O' sb=>h _ ?_;have hd:∃ o,h'.get? dx=some o:=let ⟨o,_,_,e',_⟩:=O'.ns; ⟨o,e'⟩;refine I.write (x:=a) (e:=dx) (by rw [e]; exact True.intro) (.inr ho) (fun b q hb z=>(sb.2 b hb).trans z) hd ?_;refine ⟨by rw [Zp O.ne]; exact ho,?_,O.ne,O'.obj,_,O'.ns,fun g=>?_,fun g hg=>?_⟩
 ·have:=Zch f y fs; omega
 ·show ZaC ((Zbb f y fs).lookup g) (if g=f then some u else mA g);rw [Zci];by_cases q:g=f
  ·rw [if_pos q,if_pos q]; exact ry
  ·rw [if_neg q,if_neg q]; exact r g
 ·by_cases q:g=f
  ·rw [q]; exact (Zb0 f y fs).1
  ·refine (Zb0 f y fs).2 g (wi g fun z=>hg ?_);show (if g=f then some u else mA g)=none;rw [if_neg q]; exact z
theorem Inv.made (I:Inv X pins σ H s):Inv X pins σ (upd (upd H s.heap.objs.size (.own (s.heap.objs.size+1))) (s.heap.objs.size+1) (.ins C s.heap.objs.size []))
  { s with heap:=(s.heap.push Zn6).push (Zoh C s.heap.objs.size) }:=by
 have e1:(s.heap.push Zn6).get? s.heap.objs.size=some Zn6:=Znu s.heap rfl;have e2:((s.heap.push Zn6).push (Zoh C s.heap.objs.size)).get? (s.heap.objs.size+1)=some (Zoh C s.heap.objs.size):=by
  have:=Znu (s.heap.push Zn6) (o:=Zoh C s.heap.objs.size) rfl;rwa [ZoV] at this
 have e3:(s.heap.push Zn6).Ns s.heap.objs.size (fun _=>none):=⟨Zn6,#[],_,e1,rfl,(fun e he=>absurd he (by simp)),fun _=>rfl⟩;have I1:=I.laid (a:=s.heap.objs.size) (o:=.own (s.heap.objs.size+1)) (h':=s.heap.push Zn6) (t':=s.toks) (fun b u q=>Znk _ q) (Znn _) ⟨_,e1⟩;refine I1.laid (a:=s.heap.objs.size+1) (o:=.ins C s.heap.objs.size []) (t':=s.toks) (fun b u q=>Znk _ q) (Zpx (ZoV _ _)) ?_;have ne:s.heap.objs.size≠s.heap.objs.size+1:=ZnK (Zpp _);refine ⟨by rw [Zp ne,Za],ZnH _,ne,e2,fun _=>none,(Heap.Ns1.of_empty e3).at fun o q=>Znk _ q,fun _=>True.intro,fun y hy=>absurd rfl hy⟩
theorem attr_of {prog:Program}{w:World}{env:Env}{e:Expr}{f:Str}{pos:Pos}{s:Shared}{Q:Value→Shared→Prop} (hb:attributeBase e f env (eval e env)=eval e env)
  (h:wpAny (model prog w) A (eval e env) (fun o s₁=>wpAny (model prog w) A (getAttr o f true) Q E s₁) E s):wpAny (model prog w) A (eval (.Attribute e f pos) env) Q E s:=
 Attribute_any_ h (by rw [arm_eval_Attribute,hb])
end
def tFld (K:Znj) (ta:TE) (f:Str):TE:=fun σ H Q=>ta σ H fun x H1=>∃ a C dx fs v,x=.ref a∧H1 a=some (.ins C dx fs)∧Cls K C∧ZG K C f∧fs.lookup f=some v∧Q v H1
def sFld (K:Znj) (ta tv:TE) (f:Str):TS:=fun D σ H=>tv σ H fun y H1=>ta σ H1 fun x H2=>∃ a C dx fs,x=.ref a∧H2 a=some (.ins C dx fs)∧Cls K C∧ZG K C f∧fs.length < 1000∧
 D.nx σ (upd H2 a (.ins C dx (Zbb f y fs)))
section
variable {X:Cx}{o e value:Expr}{f:Str}{pos pos' tpos:Pos}{ta tv:TE}
theorem Zw (he:PE X e ta) (hb:attributeBase e f X.env (eval e X.env)=eval e X.env):PE X (.Attribute e f pos) (tFld X.K ta f):=by
 intro pins s σ H Q I h;refine attr_of hb (thn (he pins s σ H _ I h) fun u s1 qz=>?_);obtain ⟨x,H1,I1,rx,a,C,dx,fs,v,ex,ea,c,n,l,q⟩:=qz;subst ex;obtain rfl:u=Value.ref a:=rx;exact ZgG I1 ea c n l fun u' s2 I2 ru=>⟨v,H1,I2,ru,q⟩
theorem Jk (ha:PE X o ta) (hv:PE X value tv) (hs:swapsWith value (some (.Attribute o f pos')) pos.line X.env=pure false):PS X (.Assign [.Attribute o f pos'] value pos) (sFld X.K ta tv f):=by
 intro pins s σ H D I h;refine plainObj_wpAny_Assign_Attribute (thn (hv pins s σ H _ I h) fun u s1 ⟨y,H1,I1,ry,q⟩=>thn (ha pins s1 σ H1 _ I1 q) fun ov s2 qz=>?_) hs;obtain ⟨x,H2,I2,rx,a,C,dx,fs,ex,ea,c,n,l,q2⟩:=qz;subst ex;obtain rfl:ov=Value.ref a:=rx;exact Zhh I2 ea c n l ry fun s3 I3=>⟨σ,_,I3,q2⟩
theorem ZlS {pl:Sem Bool}{m:Str}{apos:Pos}{args:List Expr}{pins:List (Addr × Obj)}{s:Shared}{σ:St}{H:Hp}{Q:Value→Shared→Prop}{te:TE} (he:PE X e te) (I:Inv X pins σ H s)
  (h:te σ H fun x H1=>∃ a C dx fs g,x=.ref a∧H1 a=some (.ins C dx fs)∧Cls X.K C∧Zia X.K C m g∧fs.lookup m=none∧
   ∀ s1,Inv X pins σ H1 s1→wpAny (model X.prog X.w) X.A (callWith pos (.ref g) [.ref a] (backTo pos (starEach args X.env)) (backToKw pos (keywordEach [] X.env))) Q X.xe s1)
  (ht:eval (.Call (.Attribute e m apos) args [] pos) X.env=(do
   let ov ←eval e X.env
   standAt apos.atName
   let (f,first) ←holding [ov] (getMethod ov m pl)
   callWith pos f first (backTo pos (starEach args X.env)) (backToKw pos (keywordEach [] X.env)))):
  wpAny (model X.prog X.w) X.A (eval (.Call (.Attribute e m apos) args [] pos) X.env) Q X.xe s:=by
 refine Zra (pl:=pl) (thn (he pins s σ H _ I h) fun u s1 qz=>?_) ht;obtain ⟨x,H1,I1,rx,a,C,dx,fs,g,ex,ea,c,k,l,q⟩:=qz;subst ex;obtain rfl:u=Value.ref a:=rx;exact Zc2 I1 ea c k l (q s1 I1)
end
section
variable {X:Cx}{pins:List (Addr × Obj)}{σ:St}{H:Hp}{s:Shared}{A:Around}{E:Value→Shared→Prop}{Q:Value→Shared→Prop}{c:Value}{b:Bool}
inductive Zaq (K:Znj) (H:Hp):V→Value→Prop where
 | non:Zaq K H .non (.type "NoneType")
 | bl (x:Bool):Zaq K H (.bl x) (.type "bool")
 | int (i:Int):Zaq K H (.int i) (.type "int")
 | str (x:Str):Zaq K H (.str x) (.type "str")
 | flt (x:UInt64):Zaq K H (.flt x) (.type "float")
 | lst {a:Addr}{xs:List V} (e:H a=some (.lst xs)):Zaq K H (.ref a) (.type "list")
 | frz {a:Addr}{o:Obj}{xs:List V} (e:H a=some (.frz o (.lst xs))):Zaq K H (.ref a) (.type "list")
 | tup {a:Addr}{xs:List V} (e:H a=some (.tup xs)):Zaq K H (.ref a) (.type "tuple")
 | dK {a:Addr}{kvs:List (Key × V)} (e:H a=some (.dK kvs)):Zaq K H (.ref a) (.type "dict")
 | dT {a:Addr}{kvs:List (List Key × V)} (e:H a=some (.dT kvs)):Zaq K H (.ref a) (.type "dict")
 | ins {a C dx:Addr}{fs:List (Str × V)} (e:H a=some (.ins C dx fs)) (cl:Cls K C) (ha:Zn4 K (.ref C) "__class__"=some (some (.builtin "object.__class__")))
   (hn:ZqA K (.builtin "object.__class__") "__get__"=some (some (.builtin "getset_descriptor.__get__"))) (htk:Zrc K (.builtin "object.__class__")=some true)
   (hm:Zrq K C (.type "object")=some true):Zaq K H (.ref a) (.ref C)
theorem ZiE {x:V}{u t:Value} (I:Inv X pins σ H s) (rx:RelV x u) (ty:Zaq X.K H x t) (e:Zoc X.K t c=some b) (h:∀ tk,Q (.bool b) { s with toks:=tk }):
  wpAny (model X.prog X.w) A (call (.builtin "isinstance") [u,c]) Q E s:=by
 cases ty with
 | non=>cases (show u=Value.none from rx); exact Zow PySem.W.kitx_none I.kIn True.intro e (fun z=>nomatch z) h
 | bl y=>cases (show u=Value.bool y from rx); exact Zow PySem.W.kitx_bool I.kIn True.intro e (fun z=>nomatch z) h
 | int i=>obtain ⟨t,q⟩:=(show ∃ t,u=Value.int i t from rx); cases q; exact Zow PySem.W.kitx_int I.kIn True.intro e (fun z=>nomatch z) h
 | str y=>obtain ⟨t,q⟩:=(show ∃ t,u=Value.str y t from rx); cases q; exact Zow PySem.W.kitx_str I.kIn True.intro e (fun z=>nomatch z) h
 | flt y=>obtain ⟨t,q⟩:=(show ∃ t,u=Value.float y t from rx); cases q; exact Zow PySem.W.kitx_float I.kIn True.intro e (fun z=>nomatch z) h
 | @lst a xs ea=>
  cases (show u=Value.ref a from rx);obtain ⟨_,_,n,_,h1⟩:=(show Yh X.prog X.w H s.heap a (.lst xs) from I.hok a _ ea);exact Zow PySem.W.kitx_list I.kIn ⟨_,h1,rfl⟩ e (fun z=>nomatch z) h
 | @frz a ob xs ea=>
  cases (show u=Value.ref a from rx);obtain ⟨_,_,_,n,_,h1⟩:=(show Yh X.prog X.w H s.heap a (.frz ob (.lst xs)) from I.hok a _ ea);exact Zow PySem.W.kitx_list I.kIn ⟨_,h1,rfl⟩ e (fun z=>nomatch z) h
 | @tup a xs ea=>
  cases (show u=Value.ref a from rx);obtain ⟨_,_,_,p⟩:=(show Yh X.prog X.w H s.heap a (.tup xs) from I.hok a _ ea);obtain ⟨o,h1,h2,_⟩:=p;exact Zow PySem.W.kitx_tuple I.kIn ⟨o,h1,h2⟩ e (fun z=>nomatch z) h
 | @dK a kvs ea=>
  cases (show u=Value.ref a from rx);obtain ⟨_,_,vs,_,p⟩:=(show Yh X.prog X.w H s.heap a (.dK kvs) from I.hok a _ ea);obtain ⟨o,es,ep,h1,h2,_⟩:=p;exact Zow PySem.W.kitx_dict I.kIn ⟨o,h1,h2.1⟩ e (fun z=>nomatch z) h
 | @dT a kvs ea=>
  cases (show u=Value.ref a from rx);obtain ⟨_,_,xs,_,o,es,ep,h1,h2,_⟩:=(show Yh X.prog X.w H s.heap a (.dT kvs) from I.hok a _ ea);exact Zow PySem.W.kitx_dict I.kIn ⟨o,h1,h2.1⟩ e (fun z=>nomatch z) h
 | @ins a C dx fs ea cl ha hn htk hm=>
  cases (show u=Value.ref a from rx);obtain ⟨mA,O,_⟩:=ZcC I.hok ea;obtain ⟨od,J,_⟩:=O.look;exact Zow (PySem.W.kitx_own (cl.get _) cl.hd ha hn htk hm) I.kIn J e (fun z=>nomatch z) h
end
structure ZR (k:Nat) (A:Around):Prop where
 hd:A.handled=none
 dp:A.depth+3 * k+5 < recursionLimit
 un:A.units+16 * k+200 < cLine
theorem ZR.mono {j k:Nat}{A:Around} (r:ZR k A) (h:j≤k):ZR j A:=⟨r.hd,by have:=r.dp; omega,by have:=r.un; omega⟩
theorem ZR.deeper {k:Nat}{A:Around} (r:ZR (k+1) A) (env:Env):ZR k (A.deeper env):=
 ⟨r.hd,by have:=r.dp; show A.depth+1+3 * k+5 < _; omega,by have:=r.un; show A.units+3+16 * k+200 < _; omega⟩
theorem ZgT {A:Around}{C:Addr}{us:List Value}{kw:List (Str × Value)}:(A.under (.builtin "type.__call__" ⟨.ref C :: us,kw⟩)).depth=A.depth+1:=by
 first | rfl | simp [Around.under,Zbi.weight,Zbi.isCreation,Zbi.isGuard,Zbi.isCaller,Zbi.frames,Zbi.isFrame,guardIds]
theorem ZgU {A:Around}{C:Addr}{us:List Value}{kw:List (Str × Value)}:(A.under (.builtin "type.__call__" ⟨.ref C :: us,kw⟩)).units=A.units+1:=by
 first | rfl | simp [Around.under,Zbi.cUnits,Zbi.frames,Zbi.isFrame]
theorem ZR.make {k:Nat}{A:Around} (r:ZR (k+1) A) (C:Addr) (us:List Value) (kw:List (Str × Value)):ZR k (A.under (.builtin "type.__call__" ⟨.ref C :: us,kw⟩)):=
 ⟨r.hd,by have:=r.dp; rw [ZgT]; omega,by have:=r.un; rw [ZgU]; omega⟩
theorem ZR.depth {k:Nat}{A:Around} (r:ZR k A):A.depth < recursionLimit:=by have:=r.dp; omega
theorem ZR.units {k:Nat}{A:Around} (r:ZR k A):A.units+64 < cLine:=by have:=r.un; omega
def Zbw:TA:=fun _ H Q=>Q [] H
def Je (ta:TE) (tr:TA):TA:=fun σ H Q=>ta σ H fun x H1=>tr σ H1 fun xs H2=>Q (x :: xs) H2
section
variable {X:Cx}{e:Expr}{es:List Expr}{te:TE}{t:TA}{pos:Pos}
theorem pa_nil:PA X [] Zbw:=fun _ _ _ _ H Q I h=>Calls.spliced_nil ⟨[],H,I,.nil,h⟩
theorem pa_cons (ha:PE X e te) (hr:PA X es t) (hs:starEach (e :: es) X.env=(false,eval e X.env) :: starEach es X.env:=by rfl):PA X (e :: es) (Je te t):=by
 intro pos pins s σ H Q I h;rw [hs];show wpAny _ _ (spliced ((false,eval e X.env) :: backTo pos (starEach es X.env))) _ _ s;refine Calls.spliced_cons (thn (ha pins s σ H _ I h) fun u s1 qz=>?_);obtain ⟨x,H1,I1,r1,q1⟩:=qz;exact thn (hr pos pins s1 σ H1 _ I1 q1) fun us s2 ⟨xs,H2,I2,r2,q2⟩=>⟨x :: xs,H2,I2,.cons r1 r2,q2⟩
def tTup (t:TA):TE:=fun σ H Q=>t σ H fun xs H1=>xs.length≤sizeLine∧∀ p,H1 p=none→Q (.ref p) (upd H1 p (.tup xs))
def tLst (t:TA):TE:=fun σ H Q=>t σ H fun xs H1=>xs.length≤sizeLine∧∀ p,H1 p=none→Q (.ref p) (upd H1 p (.lst xs))
theorem Jj {x1} (h:PA X es t):PE X (.Tuple es x1 pos) (tTup t):=by
 intro pins s σ H Q I hq;refine wpAny_Tuple_spliced (thn (h pos pins s σ H _ I hq) fun us s1 ⟨xs,H1,I1,r,z,q⟩=>⟨by rw [←r.length]; exact z,?_⟩);have hf:H1 s1.heap.objs.size=none:=I1.hok.fresh (Znn _);refine ⟨.ref s1.heap.objs.size,upd H1 s1.heap.objs.size (.tup xs),I1.laid (t':=s1.toks) (fun b u e=>Znk _ e) (Znn _) ?_,rfl,q _ hf⟩;exact ⟨z,us,r,⟨_,Znu _ rfl,rfl,_,rfl⟩⟩
theorem Yd (h:PA X es t):PE X (.List es pos) (tLst t):=by
 intro pins s σ H Q I hq;refine wpAny_List_spliced (thn (h pos pins s σ H _ I hq) fun us s1 ⟨xs,H1,I1,r,z,q⟩=>⟨by rw [←r.length]; exact z,?_⟩);have hf:H1 s1.heap.objs.size=none:=I1.hok.fresh (Znn _);refine ⟨.ref s1.heap.objs.size,upd H1 s1.heap.objs.size (.lst xs),I1.laid (t':=s1.toks) (fun b u e=>Znk _ e) (Znn _) ?_,rfl,q _ hf⟩;exact ⟨z,us,0,r,Znu _ rfl⟩
end
abbrev Sp:=List V→Hp→VK→XK→Prop
abbrev CXT:=List Env→Hp→Shared→XK→Value→Shared→Prop
structure Zgy (P:Program) (w:World) (K:Znj) (mg:Str→Option Value) (base:Heap) (A:Around) (outer:List Env) (s:Shared) (H:Hp):Prop where
 frames:A.frames=some outer
 mod:Mod K mg base
 bs:∀ b o,base.get? b=some o→s.heap.get? b=some o∧H b=none
 bsz:base.objs.size≤s.heap.objs.size
 funs:s.heap.FunFrames base outer
 frf:∀ b∈frs outer,H b=none
 hok:HOk P w H s.heap
 bare:AllBare s.gens
def CE (outer:List Env) (P:Program) (w:World) (H:Hp) (s:Shared) (Q:VK) (u:Value) (s':Shared):Prop:=
 ∃ v H',s'.os=s.os∧AllBare s'.gens∧Un (frs outer) [] H H' s.heap s'.heap∧HOk P w H' s'.heap∧RelV v u∧Q v H'
def CR (CX:CXT) (outer:List Env) (P:Program) (w:World) (H:Hp) (s:Shared) (Q:VK) (E:XK) (r:Result) (s':Shared):Prop:=
 match r with
 | .ok (.ret u)=>CE outer P w H s Q u s'
 | .ok _=>False
 | .error e=>CX outer H s E e s'
structure Ym (P:Program) (w:World) (K:Znj) (mg:Str→Option Value) (base:Heap) (CX:CXT) (k:Nat) (f:Addr) (fd:FuncData) (ps:List Str) (sp:Sp):Prop where
 len:∀ vs H Q E,sp vs H Q E→vs.length=ps.length
 run:∀ (A:Around) (outer:List Env) (s:Shared) (H:Hp) (args:Args) (us:List Value) (vs:List V) (Q:VK) (E:XK),ZR k A→Zgy P w K mg base A outer s H→BindsTo s fd args (ps.zip us)→ZA vs us→sp vs H Q E→
  codeAny (model P w) A (.call (.ref f) args) (CR CX outer P w H s Q E) s
theorem Ym.mono {P:Program}{w:World}{K:Znj}{mg:Str→Option Value}{base:Heap}{CX:CXT}{j k:Nat}{f:Addr}{fd:FuncData}{ps:List Str}{sp:Sp} (F:Ym P w K mg base CX j f fd ps sp) (h:j≤k):
  Ym P w K mg base CX k f fd ps sp:=⟨F.len,fun A outer s H args us vs Q E hr=>F.run A outer s H args us vs Q E (hr.mono h)⟩
theorem Ym.imp {P:Program}{w:World}{K:Znj}{mg:Str→Option Value}{base:Heap}{CX:CXT}{k:Nat}{f:Addr}{fd:FuncData}{ps:List Str}{sp sp':Sp} (F:Ym P w K mg base CX k f fd ps sp)
  (h:∀ vs H Q E,sp' vs H Q E→sp vs H Q E):Ym P w K mg base CX k f fd ps sp':=
 ⟨fun vs H Q E q=>F.len vs H Q E (h _ _ _ _ q),fun A outer s H args us vs Q E hr he hb hv hs=>F.run A outer s H args us vs Q E hr he hb hv (h _ _ _ _ hs)⟩
theorem Zgy.make {P:Program}{w:World}{K:Znj}{mg:Str→Option Value}{base:Heap}{A:Around}{outer:List Env}{s:Shared}{H:Hp} (e:Zgy P w K mg base A outer s H) (C:Addr) (us:List Value) (kw:List (Str × Value)):
  Zgy P w K mg base (A.under (.builtin "type.__call__" ⟨.ref C :: us,kw⟩)) outer s H:=⟨by first | exact e.frames | (simpa [Around.under,Zbi.envs,Zbi.isFrame,pushEnvs] using e.frames),e.mod,e.bs,e.bsz,e.funs,e.frf,e.hok,e.bare⟩
section
variable {X:Cx}{pins:List (Addr × Obj)}{σ:St}{H:Hp}{s s':Shared}
theorem Inv.env0 (I:Inv X pins σ H s):Zgy X.prog X.w X.K X.mg X.base X.A X.stack s H:=
 ⟨I.ok.frames,I.ok.mod,I.bs,Zog I.ok.bsz I.sz,I.stack,I.stkFree,I.hok,I.bare⟩
theorem Inv.after {Q:VK}{u:Value} (I:Inv X pins σ H s) (h:CE X.stack X.prog X.w H s Q u s'):EP X pins σ Q u s':=by
 obtain ⟨v,H',os,bare,un,hok,r,q⟩:=h;obtain ⟨hh,g,d,t,os'⟩:=s';obtain rfl:os'=s.os:=os;exact ⟨v,H',I.call (h':=hh) (g':=g) (d':=d) (t':=t) (ch:=[]) un hok bare (fun b z=>absurd z (by simp)),r,q⟩
end
def ZkK (sp:Sp) (dvs:List V) (E:XK) (t:TA):TE:=fun σ H Q=>t σ H fun vs H1=>sp (vs++dvs) H1 Q E
def Znf (C:Addr) (m:Str) (sp:Sp) (dvs:List V) (E:XK) (ta:TE) (t:TA):TE:=fun σ H Q=>ta σ H fun x H1=>∃ a dx fs,x=.ref a∧H1 a=some (.ins C dx fs)∧fs.lookup m=none∧
 t σ H1 fun vs H2=>sp (x :: (vs++dvs)) H2 Q E
def Zh7 (C:Addr) (sp:Sp) (dvs:List V) (E:XK) (t:TA):TE:=fun σ H Q=>t σ H fun vs H1=>∀ x dx,H1 x=none→H1 dx=none→dx≠x→
 sp (.ref x :: (vs++dvs)) (upd (upd H1 dx (.own x)) x (.ins C dx [])) (fun v H2=>v=.non∧Q (.ref x) H2) E
def Jc (K:Znj) (fd:FuncData) (ps:List Str) (ds:List Value):Prop:=
 ∀ (s:Shared) (us:List Value),K.In s.heap→(us++ds).length=ps.length→BindsTo s fd ⟨us,[]⟩ (ps.zip (us++ds))
theorem Jc.all {K:Znj}{fd:FuncData}{ps:List Str} (h:∀ us:List Value,us.length=ps.length→bindArgs fd ⟨us,[]⟩=pure (ps.zip us)):Jc K fd ps []:=fun s us _ hl=>by
 rw [ZoG] at hl ⊢;exact .of_eq (h us hl)
def Zao (CX:CXT) (X:Cx) (E:XK):Prop:=∀ (pins:List (Addr × Obj)) (σ:St) (H:Hp) (s:Shared) (e:Value) (s':Shared),Inv X pins σ H s→CX X.stack H s E e s'→X.xe e s'
section
variable {X:Cx}{CX:CXT}{k:Nat}{f C:Addr}{fd:FuncData}{ps:List Str}{sp:Sp}{dvs:List V}{ds:List Value}{E:XK}{x m:Str}{p pos apos:Pos}{e o:Expr}{es:List Expr}{ta:TE}{t:TA}
theorem Zkv {pins:List (Addr × Obj)}{σ:St}{H:Hp}{s:Shared}{Q:VK}{us:List Value}{vs:List V} (F:Ym X.prog X.w X.K X.mg X.base CX k f fd ps sp) (hr:ZR k X.A) (hb:Jc X.K fd ps ds) (hd:ZA dvs ds) (hx:Zao CX X E)
  (I:Inv X pins σ H s) (r:ZA vs us) (h:sp (vs++dvs) H Q E):wpAny (model X.prog X.w) X.A (call (.ref f) us) (EP X pins σ Q) X.xe s:=by
 have r2:ZA (vs++dvs) (us++ds):=r.append hd;have hl:(us++ds).length=ps.length:=by rw [←r2.length]; exact F.len _ _ _ _ h
 refine wpAny_call (codeAny_mono (F.run X.A X.stack s H ⟨us,[]⟩ (us++ds) (vs++dvs) Q E hr I.env0 (hb s us I.kIn hl) r2 h) fun r s' hq=>?_);cases r with
 | error e=>exact hx pins σ H s e s' I hq
 | ok fl=>
  cases fl with
  | ret u=>exact I.after hq
  | next=>exact False.elim hq
  | brk=>exact False.elim hq
  | cont=>exact False.elim hq
theorem Zlv (F:Ym X.prog X.w X.K X.mg X.base CX k f fd ps sp) (hr:ZR k X.A) (hg:Gl X x) (hm:X.mg x=some (.ref f)) (hk:Zoj X.K (.ref f)=true) (hb:Jc X.K fd ps ds) (hd:ZA dvs ds) (hx:Zao CX X E)
  (ha:PA X (e :: es) t) (hdb:(x == ("__debug__":Str))=false:=by decide) (he:starEach (e :: es) X.env=(false,eval e X.env) :: starEach es X.env:=by rfl) (hpl:(backTo pos (starEach es X.env)).any (·.1)=false:=by rfl):
  PE X (.Call (.Name x p) (e :: es) [] pos) (ZkK sp dvs E t):=by
 intro pins s σ H Q I h;refine wpAny_Call_Name_kw (ld_glob I hg hm ?_ hdb);refine Zqh (h₀:=X.base) I.ok.mod.kin hk (thn (ha pos pins s σ H _ I h) fun us s1 ⟨vs,H1,I1,r,q⟩=>⟨I1.kIn,?_⟩) he hpl;exact Zkv F hr hb hd hx I1 r q
theorem Jn {pl:Sem Bool} (he:PE X o ta) (c:Cls X.K C) (hm:Zia X.K C m f) (F:Ym X.prog X.w X.K X.mg X.base CX k f fd ps sp) (hr:ZR k X.A) (hb:Jc X.K fd ps ds) (hd:ZA dvs ds) (hx:Zao CX X E) (ha:PA X (e :: es) t)
  (hst:starEach (e :: es) X.env=(false,eval e X.env) :: starEach es X.env:=by rfl) (hpl:(backTo pos (starEach es X.env)).any (·.1)=false:=by rfl)
  (ht:eval (.Call (.Attribute o m apos) (e :: es) [] pos) X.env=(do
   let ov ←eval o X.env
   standAt apos.atName
   let (f,first) ←holding [ov] (getMethod ov m pl)
   callWith pos f first (backTo pos (starEach (e :: es) X.env)) (backToKw pos (keywordEach [] X.env))):=by rfl):
  PE X (.Call (.Attribute o m apos) (e :: es) [] pos) (Znf C m sp dvs E ta t):=by
 intro pins s σ H Q I h;refine Zra (pl:=pl) (thn (he pins s σ H _ I h) fun u s1 qz=>?_) ht;obtain ⟨x,H1,I1,rx,a,dx,fs,ex,ea,l,q⟩:=qz;subst ex;obtain rfl:u=Value.ref a:=rx;refine Zc2 I1 ea c hm l ?_;refine Zqh (first:=[.ref a]) (h₀:=X.base) I.ok.mod.kin hm.kp (thn (ha pos pins s1 σ H1 _ I1 q) fun us s2 ⟨vs,H2,I2,r,q2⟩=>⟨I2.kIn,?_⟩) hst hpl;exact Zkv (us:=.ref a :: us) (vs:=.ref a :: vs) F hr hb hd hx I2 (.cons rfl r) q2
structure Mk (K:Znj) (C f:Addr):Prop where
 makes:Zpe K C=true
 init:Zn4 K (.ref C) "__init__"=some (some (.ref f))
 fn:Zqi K (.ref f)=true
 kp:Zoj K (.ref C)=true
theorem Zkw {pins:List (Addr × Obj)}{σ:St}{H:Hp}{s:Shared}{Q:VK}{us:List Value}{vs:List V} (M:Mk X.K C f) (F:Ym X.prog X.w X.K X.mg X.base CX k f fd ps sp) (hr:ZR (k+1) X.A) (hb:Jc X.K fd ps ds) (hd:ZA dvs ds)
  (hx:Zao CX X E) (I:Inv X pins σ H s) (r:ZA vs us)
  (h:∀ x dx,H x=none→H dx=none→dx≠x→sp (.ref x :: (vs++dvs)) (upd (upd H dx (.own x)) x (.ins C dx [])) (fun v H2=>v=.non∧Q (.ref x) H2) E):
  wpAny (model X.prog X.w) X.A (call (.ref C) us) (EP X pins σ Q) X.xe s:=by
 have hq:=h (s.heap.objs.size+1) s.heap.objs.size (I.hok.fresh (Zpb _)) (I.hok.fresh (Znn _)) (ZnK (Zpp _));have I2:=Inv.made (C:=C) I;have r2:ZA (V.ref (s.heap.objs.size+1) :: (vs++dvs)) (Value.ref (s.heap.objs.size+1) :: (us++ds)):=.cons rfl (r.append hd);have hl:(Value.ref (s.heap.objs.size+1) :: us++ds).length=ps.length:=by
  have e:=r2.length;rw [F.len _ _ _ _ hq] at e;exact e.symm
 refine wpAny_call (ZjW (f:=f) I.kIn M.makes M.init (beq_iff_eq.mp M.fn) (codeAny_mono (F.run _ X.stack _ _ ⟨Value.ref (s.heap.objs.size+1) :: us,[]⟩ (Value.ref (s.heap.objs.size+1) :: (us++ds)) _ _ E (hr.make C us [])
  (I2.env0.make C us []) (hb _ (Value.ref (s.heap.objs.size+1) :: us) I2.kIn hl) r2 hq) fun r s' hq'=>?_))
 cases r with
 | error e=>exact hx pins σ _ _ e s' I2 hq'
 | ok fl=>
  cases fl with
  | ret u=>
   obtain ⟨v,H',I3,rv,ev,q3⟩:=I2.after hq';subst ev;exact ⟨rv,⟨V.ref (s.heap.objs.size+1),H',I3,rfl,q3⟩⟩
  | next=>exact False.elim hq'
  | brk=>exact False.elim hq'
  | cont=>exact False.elim hq'
theorem Ze7 (M:Mk X.K C f) (F:Ym X.prog X.w X.K X.mg X.base CX k f fd ps sp) (hr:ZR (k+1) X.A) (hg:Gl X x) (hm:X.mg x=some (.ref C)) (hb:Jc X.K fd ps ds) (hd:ZA dvs ds) (hx:Zao CX X E)
  (ha:PA X (e :: es) t) (hdb:(x == ("__debug__":Str))=false:=by decide) (he:starEach (e :: es) X.env=(false,eval e X.env) :: starEach es X.env:=by rfl) (hpl:(backTo pos (starEach es X.env)).any (·.1)=false:=by rfl):
  PE X (.Call (.Name x p) (e :: es) [] pos) (Zh7 C sp dvs E t):=by
 intro pins s σ H Q I h;refine wpAny_Call_Name_kw (ld_glob I hg hm ?_ hdb);refine Zqh (h₀:=X.base) I.ok.mod.kin M.kp (thn (ha pos pins s σ H _ I h) fun us s1 ⟨vs,H1,I1,r,q⟩=>⟨I1.kIn,?_⟩) he hpl;exact Zkw M F hr hb hd hx I1 r q
end
section
variable {X:Cx}{CX:CXT}{k:Nat}{f C:Addr}{fd:FuncData}{ps ks:List Str}{sp:Sp}{E:XK}{x m:Str}{p pos apos kpos:Pos}{e o:Expr}{es:List Expr}{kws:List Keyword}{te ta:TE}{t tk:TA}{nm:Option Str}
variable {g:List Value→List Value→List Value}{gV:List V→List V→List V}
end
structure Zn (N P:List Str) (sc:Scope):Prop where
 kind:sc.kind=.function
 co:sc.isCoroutine=false
 gen:sc.isGenerator=false
 nd:N.Nodup
 pre:N.take P.length=P
 par:∀ x∈P,sc.names.lookup x=some .local∨sc.names.lookup x=some .cell
 nofree:∀ y∈sc.names,y.2≠.free
theorem scO{N P:List Str}{sc:Scope}(a:sc.kind=.function:=by rfl)(b:sc.isCoroutine=false:=by rfl)(c:sc.isGenerator=false:=by rfl)(d:N.Nodup:=by decide +kernel)(e:N.take P.length=P:=by rfl)(f:∀x∈P,sc.names.lookup x=some .local∨sc.names.lookup x=some .cell:=by decide +kernel)(g:∀y∈sc.names,y.2≠.free:=by decide +kernel):Zn N P sc:=⟨a,b,c,d,e,f,g⟩
theorem Zd6 {kindOf:Str→Option NameKind}{x:Str}:∀ {binds:List (Str × Value)}{m:Str→Option Value},(∀ v,(x,v) ∉ binds)→bindL kindOf binds m x=m x
 | [],_,_=>rfl
 | (n,v) :: r,m,h=>by
  unfold bindL;rw [Zd6 fun w hw=>h w (ZnC _ hw)];split
  ·have:x≠n:=by rintro rfl; exact h v ZnF
   simp [this]
  ·rfl
theorem Zd4 {kindOf:Str→Option NameKind}{x:Str}:∀ {binds:List (Str × Value)}{m:Str→Option Value},(∀ v,(x,v) ∉ binds)→bindC kindOf binds m x=m x
 | [],_,_=>rfl
 | (n,v) :: r,m,h=>by
  unfold bindC;rw [Zd4 fun w hw=>h w (ZnC _ hw)];split
  ·rfl
  ·have:x≠n:=by rintro rfl; exact h v ZnF
   simp [this]
theorem Zd5 {kindOf:Str→Option NameKind}{x:Str}{v:Value}:∀ {P:List Str}{vs:List Value}{i:Nat}{m:Str→Option Value},P.Nodup→P[i]?=some x→vs[i]?=some v→kindOf x=some .local→
  bindL kindOf (P.zip vs) m x=some v
 | [],_,_,_,_,h,_,_=>by simp at h
 | _ :: _,[],_,_,_,_,h,_=>by simp at h
 | p :: P,w :: vs,0,m,nd,h1,h2,hk=>by
  simp at h1 h2; subst h1; subst h2;show bindL kindOf ((p,w) :: P.zip vs) m p=_;unfold bindL;rw [Zd6 fun v hv=>(ZoA.mp nd).1 (Zp6 hv).1,if_pos hk];simp
 | p :: P,w :: vs,i+1,m,nd,h1,h2,hk=>by
  show bindL kindOf ((p,w) :: P.zip vs) m x=_;unfold bindL;exact Zd5 (i:=i) (ZoA.mp nd).2 (by simpa using h1) (by simpa using h2) hk
theorem Zd3 {kindOf:Str→Option NameKind}{x:Str}{v:Value}:∀ {P:List Str}{vs:List Value}{i:Nat}{m:Str→Option Value},P.Nodup→P[i]?=some x→vs[i]?=some v→kindOf x≠some .local→
  bindC kindOf (P.zip vs) m x=some v
 | [],_,_,_,_,h,_,_=>by simp at h
 | _ :: _,[],_,_,_,_,h,_=>by simp at h
 | p :: P,w :: vs,0,m,nd,h1,h2,hk=>by
  simp at h1 h2; subst h1; subst h2;show bindC kindOf ((p,w) :: P.zip vs) m p=_;unfold bindC;rw [Zd4 fun v hv=>(ZoA.mp nd).1 (Zp6 hv).1,if_neg hk];simp
 | p :: P,w :: vs,i+1,m,nd,h1,h2,hk=>by
  show bindC kindOf ((p,w) :: P.zip vs) m x=_;unfold bindC;exact Zd3 (i:=i) (ZoA.mp nd).2 (by simpa using h1) (by simpa using h2) hk
def Zbh (N:List Str) (vs:List V):St:=vs.map some++ZnL (N.length - vs.length) none
def ZH (CX:CXT) (P:Program) (w:World) (K:Znj) (mg:Str→Option Value) (base:Heap) (N:List Str) (qual:Str) (scope:Scope) (f:Addr) (cd:Value) (A:Around) (outer:List Env) (s:Shared) (H:Hp) (E:XK):Cx where
 prog:=P
 w:=w
 K:=K
 mg:=mg
 base:=base
 A:=A.deeper (envOfC qual scope s.heap.objs.size f cd)
 N:=N
 s₀:=s
 H₀:=H
 env:=envOfC qual scope s.heap.objs.size f cd
 outer:=outer
 stack:=envOfC qual scope s.heap.objs.size f cd :: outer
 ex:=[]
 calm:=true
 fn:=fun _=>true
 pn:=[]
 xe:=fun e s'=>wpAny (model P w) (A.deeper (envOfC qual scope s.heap.objs.size f cd)) (leaving (envOfC qual scope s.heap.objs.size f cd) e) (fun _ s''=>CX outer H s E e s'') (fun e' s''=>CX outer H s E e' s'') s'
theorem Zfz {sc:Scope}{n:Nat}{x:Str} (h:sc.names.lookup x=some .cell):∃ c,(cellsFrom n sc.names []).lookup x=some c:=by
 have q:=ZqW sc.names n [] (.inl h);exact Option.isSome_iff_exists.mp q
theorem ZiD {CX:CXT}{P:Program}{w:World}{K:Znj}{mg:Str→Option Value}{base:Heap}{N ps:List Str}{qual:Str}{scope:Scope}{f:Addr}{cd:Value}{A:Around}{outer:List Env}{s s1:Shared}{H:Hp}{E:XK}{us:List Value}{vs:List V}
  (S:Zn N ps scope) (hd:A.handled=none) (e0:Zgy P w K mg base A outer s H) (hl:vs.length=ps.length) (r:ZA vs us)
  (x:InCallC s s.heap.objs.size (bindL (envOfC qual scope s.heap.objs.size f cd).kindOf (ps.zip us) fun _=>none) (cellsFrom (s.heap.objs.size+1) scope.names []) (bindC (envOfC qual scope s.heap.objs.size f cd).kindOf (ps.zip us) fun _=>none) s1):
  Inv (ZH CX P w K mg base N qual scope f cd A outer s H E) [] (Zbh N vs) H s1:=by
 have hpl:ps.length≤N.length:=by have:=congrArg Zoe S.pre; rw [ZnM] at this; omega
 obtain ⟨h1,tk,rfl,hk⟩:=x.done;have noA:∀ b:Addr,b ∉ (ZH CX P w K mg base N qual scope f cd A outer s H E).ex:=fun b z=>absurd (show b∈([]:List Addr) from z) (by simp);refine ⟨⟨e0.mod,S.kind,rfl,rfl,Znn _,fun y z c h1 h2=>?_,fun y hy=>?_,fun y c _ h=>?_,fun _=>hd,Around.frames_deeper e0.frames,.inr ⟨rfl,rfl⟩,fun b z=>absurd z (noA b),e0.bs,e0.bsz,fun b _ _=>noA b,fun b z=>absurd z (noA b),e0.funs,e0.frf⟩,
  rfl,e0.bare,Un.kept hk,⟨_,x.toInCall.ns,fun i y v h1 h2 h3=>?_⟩,fun y c h=>⟨_,x.cell y c h⟩,e0.hok.fresh (Znn _),fun y c h=>?_,fun p hp=>absurd (show p∈([]:List (Addr × Obj)) from hp) (by simp),e0.hok.kept hk,?_⟩
 ·exact name_of_addr x.apart (ZoR h1) (ZoR h2)
 ·have hy:scope.names.lookup y=some .cell∨scope.names.lookup y=some .free:=hy;rcases hy with hy | hy
  ·exact Zfz hy
  ·exact absurd rfl (S.nofree _ (ZoR hy))
 ·exact Zpy (x.above y c (ZoR h))
 ·have hi:i < vs.length:=by
   unfold Zbh at h2;by_cases hi:i < vs.length
   ·exact hi
   ·rw [Zqd (by simpa using hi)] at h2;rw [List.getElem?_replicate] at h2;split at h2 <;> cases h2
  have ha:vs[i]?=some v:=by
   unfold Zbh at h2;rw [Zpm (by simpa using hi),Znq] at h2;cases e:vs[i]? with
   | none=>rw [e] at h2; cases h2
   | some a=>rw [e] at h2; cases h2; rfl
  obtain ⟨u,hu,rv⟩:=r.get ha;have hp:ps[i]?=some y:=by
   rw [←S.pre,List.getElem?_take_of_lt (by omega)]; exact h1
  have ndP:ps.Nodup:=by rw [←S.pre]; exact S.nd.sublist (List.take_sublist _ _)
  refine ⟨u,rv,?_⟩;rcases S.par y (ZnD hp) with k | k
  ·exact .inl ⟨k,Zd5 ndP hp hu k⟩
  ·obtain ⟨c,e⟩:=Zfz (n:=s.heap.objs.size+1) k;refine .inr ⟨.inl k,c,e,?_⟩;have q:=x.cell y c e;rw [Zd3 ndP hp hu (by show scope.names.lookup y≠_; rw [k]; decide)] at q;exact q
 ·exact e0.hok.fresh (Zpy (x.above y c (ZoR h)))
 ·unfold Zbh;show _=N.length;rw [Znl,Zni,ZpO];omega
theorem ZjI {CX:CXT}{P:Program}{w:World}{K:Znj}{mg:Str→Option Value}{base:Heap}{k:Nat}{f:Addr}{name qual:Str}{params:Arguments}{body:List Stmt}{scope:Scope}{dV kV doc pm cdv ct oc:Value}{an od:Option Addr}
  {osl:Array (Option Value)}{N ps:List Str}{sp:Sp} (lk:K.lookup f=some ⟨oc,od,.func (Zop name qual params body scope dV kV doc pm an cdv ct),osl⟩) (hcd:Zo5 K cdv qual=true) (S:Zn N ps scope)
  (len:∀ vs H Q E,sp vs H Q E→vs.length=ps.length)
  (hbody:∀ (A:Around) (outer:List Env) (s:Shared) (H:Hp) (vs:List V) (Q:VK) (E:XK),ZR k (A.deeper (envOfC qual scope s.heap.objs.size f cdv))→sp vs H Q E→
   ∃ t,PSs (ZH CX P w K mg base N qual scope f cdv A outer s H E) body t∧t { nx:=fun _ H'=>Q .non H',rt:=Q } (Zbh N vs) H):
  Ym P w K mg base CX (k+1) f (Zop name qual params body scope dV kV doc pm an cdv ct) ps sp:=by
 refine ⟨len,fun A outer s H args us vs Q E hr e0 hb r hsp=>?_⟩;have hl:=len _ _ _ _ hsp;have KX:K.In s.heap:=e0.mod.kin.keeps fun b o e=>(e0.bs b o e).1;have lim:s.heap.NoLimit:=e0.mod.nolimit.keeps fun b o e=>(e0.bs b o e).1;have hkind:∀ y∈ps.zip us,scope.names.lookup y.1=some .local∨(scope.names.lookup y.1=some .cell∧((cellsFrom (s.heap.objs.size+1) scope.names []).lookup y.1).isSome=true):=fun ⟨n,v⟩ hy=>by
  rcases S.par n (Zp6 hy).1 with q | q
  ·exact .inl q
  ·exact .inr ⟨q,ZqW _ _ _ (.inl q)⟩
 refine codeAny_call_function hr.depth (KX _ _ lk) rfl S.co S.gen rfl (PySem.W.codeRec_of KX hcd) (hb _ _ _ _ ?_);refine wpAny_newFunctionEnv_cells S.kind hkind fun env he s1 x=>?_;subst he;refine ⟨lim.keeps x.toInCall.keep,codeAny_func ?_⟩;obtain ⟨t,ht,hq⟩:=hbody A outer s H vs Q E (hr.deeper _) hsp;have I:Inv (ZH CX P w K mg base N qual scope f cdv A outer s H E) [] (Zbh N vs) H s1:=ZiD S hr.hd e0 hl r x;refine wpAny_mono (ht [] s1 (Zbh N vs) H _ I hq) (fun fl s' hs=>?_) fun e s' hs=>hs;have fin:∀ {σ':St}{H':Hp}{v:V}{u:Value},Inv (ZH CX P w K mg base N qual scope f cdv A outer s H E) [] σ' H' s'→RelV v u→Q v H'→CE outer P w H s Q u s':=
  fun {σ' H' v u} J rv q=>⟨v,H',J.os,J.bare,J.base,J.hok,rv,q⟩
 cases fl with
 | ret u=>
  obtain ⟨v,σ',H',J,rv,q⟩:=hs;exact fin J rv q
 | next=>
  obtain ⟨σ',H',J,q⟩:=hs;exact fin (v:=V.non) (u:=Value.none) J rfl q
 | brk=>
  obtain ⟨_,_,_,q⟩:=hs;exact False.elim q
 | cont=>
  obtain ⟨_,_,_,q⟩:=hs;exact False.elim q
section
variable {X:Cx}{x:Str}{p pos:Pos}{e:Expr}{es:List Expr}{t:TA}{id T:String}{r:List V→Hp→VK→Prop}
def tCB (r:List V→Hp→VK→Prop) (t:TA):TE:=fun σ H Q=>t σ H fun vs H1=>r vs H1 Q
theorem Zg (hc:YR X (.builtin id) r) (hg:Gl X x) (hm:X.mg x=none) (hv:bootBuiltins x=some (.builtin id)) (ha:PA X (e :: es) t) (hn:x≠"__name__":=by decide) (hdb:(x == ("__debug__":Str))=false:=by decide)
  (he:starEach (e :: es) X.env=(false,eval e X.env) :: starEach es X.env:=by rfl) (hpl:(backTo pos (starEach es X.env)).any (·.1)=false:=by rfl):PE X (.Call (.Name x p) (e :: es) [] pos) (tCB r t):=by
 intro pins s σ H Q I h;refine wpAny_Call_Name_kw (ld_blt I hg hm hv ?_ hn hdb);exact PyProof.Rows.callWith_builtin1 (thn (ha pos pins s σ H _ I h) fun us s1 ⟨vs,H1,I1,r1,q1⟩=>hc pins s1 σ H1 vs us Q I1 r1 q1) he hpl
theorem Yc (hc:YR X (.type T) r) (hg:Gl X x) (hm:X.mg x=none) (hv:bootBuiltins x=some (.type T)) (ha:PA X (e :: es) t) (hn:x≠"__name__":=by decide) (hdb:(x == ("__debug__":Str))=false:=by decide)
  (he:starEach (e :: es) X.env=(false,eval e X.env) :: starEach es X.env:=by rfl) (hpl:(backTo pos (starEach es X.env)).any (·.1)=false:=by rfl):PE X (.Call (.Name x p) (e :: es) [] pos) (tCB r t):=by
 intro pins s σ H Q I h;refine wpAny_Call_Name_kw (ld_blt I hg hm hv ?_ hn hdb);exact PyProof.Rows.callWith_type1 (thn (ha pos pins s σ H _ I h) fun us s1 ⟨vs,H1,I1,r1,q1⟩=>hc pins s1 σ H1 vs us Q I1 r1 q1) he hpl
end
section
variable {κ:Type} [DecidableEq κ]
def Yn (kvs:List (κ × V)) (k:κ):Option V:=(kvs.find? fun kv=>decide (kv.1=k)).map (·.2)
def YF (kvs:List (κ × V)) (k:κ) (v:V):List (κ × V):=
 if (kvs.any fun kv=>decide (kv.1=k))=true then kvs.map (fun kv=>if kv.1=k then (kv.1,v) else kv) else kvs++[(k,v)]
theorem Yr {p:κ × V}{r:List (κ × V)}{k:κ} (e:p.1=k):Yn (p :: r) k=some p.2:=by simp [Yn,Zo8,e]
theorem Yq {p:κ × V}{r:List (κ × V)}{k:κ} (e:¬ p.1=k):Yn (p :: r) k=Yn r k:=by simp [Yn,Zo8,e]
theorem JT (k:κ):∀ kvs:List (κ × V),(kvs.any fun kv=>decide (kv.1=k))=(Yn kvs k).isSome
 | []=>rfl
 | p :: r=>by
  rw [Zp0];by_cases e:p.1=k
  ·simp only [Yr e,decide_eq_true e,Bool.true_or,Option.isSome_some]
  ·rw [Yq e,decide_eq_false e,Bool.false_or]; exact JT k r
theorem Zgt (k j:κ) (y:V):∀ kvs:List (κ × V),Yn (kvs.map fun kv=>if kv.1=k then (kv.1,y) else kv) j=(Yn kvs j).map fun x=>if j=k then y else x
 | []=>rfl
 | p :: r=>by
  have ih:=Zgt k j y r;rw [ZnN];by_cases h:p.1=k
  ·rw [if_pos h];by_cases e:p.1=j
   ·rw [Yr (p:=(p.1,y)) e,Yr e,Option.map_some,if_pos (e.symm.trans h)]
   ·rw [Yq (p:=(p.1,y)) e,Yq e,ih]
  ·rw [if_neg h];by_cases e:p.1=j
   ·rw [Yr (p:=p) e,Yr e,Option.map_some,if_neg (fun z=>h (e.trans z))]
   ·rw [Yq (p:=p) e,Yq e,ih]
theorem ZeA (k j:κ) (y:V):∀ kvs:List (κ × V),Yn kvs k=none→Yn (kvs++[(k,y)]) j=if j=k then some y else Yn kvs j
 | [],_=>by
  by_cases e:k=j
  ·rw [if_pos e.symm]; exact Yr (p:=(k,y)) e
  ·rw [if_neg (fun z=>e z.symm)]; exact Yq (p:=(k,y)) e
 | p :: r,hn=>by
  rw [ZqM];have hk:¬ p.1=k:=fun z=>by rw [Yr z] at hn; cases hn
  rw [Yq hk] at hn;have ih:=ZeA k j y r hn;by_cases e:p.1=j
  ·rw [Yr e,Yr e,if_neg (fun z=>hk (e.trans z))]
  ·rw [Yq e,Yq e,ih]
theorem Zgv (kvs:List (κ × V)) (k j:κ) (y:V):Yn (YF kvs k y) j=if j=k then some y else Yn kvs j:=by
 unfold YF;by_cases a:(kvs.any fun kv=>decide (kv.1=k))=true
 ·rw [if_pos a,Zgt];rw [JT] at a;by_cases e:j=k
  ·obtain ⟨x,hx⟩:=Option.isSome_iff_exists.mp a;rw [if_pos e,e,hx,Option.map_some,if_pos rfl]
  ·rw [if_neg e];cases Yn kvs j with
   | none=>rfl
   | some x=>rw [Option.map_some,if_neg e]
 ·rw [if_neg a];refine ZeA k j y kvs ?_;rw [JT] at a;cases q:Yn kvs k with
  | none=>rfl
  | some x=>rw [q] at a; exact (a rfl).elim
theorem Jr (kvs:List (κ × V)) (k:κ) (v:V):(YF kvs k v).length≤kvs.length+1:=by
 unfold YF;split
 ·rw [Zni]; omega
 ·rw [Znl,ZnZ,Zpa]; omega
theorem Zaj {kvs:List (κ × V)}{k:κ} (v:V) (h:Yn kvs k=none):YF kvs k v=kvs++[(k,v)]:=by
 unfold YF;rw [JT,h];exact if_neg (by decide)
theorem ZaC.isSome_eq {o:Option V}{u:Option Value} (r:ZaC o u):o.isSome=u.isSome:=by
 cases o with
 | none=>cases u with
  | none=>rfl
  | some _=>exact (show False from r).elim
 | some _=>cases u with
  | none=>exact (show False from r).elim
  | some _=>rfl
theorem ZaC.getD {o:Option V}{u:Option Value}{d:V}{d':Value} (r:ZaC o u) (rd:RelV d d'):RelV (o.getD d) (u.getD d'):=by
 cases o with
 | none=>cases u with
  | none=>exact rd
  | some _=>exact (show False from r).elim
 | some _=>cases u with
  | none=>exact (show False from r).elim
  | some _=>exact r
theorem KV.val {kvs:List (κ × V)}{vs:List (κ × Value)} (r:KV kvs vs) (k:κ):ZaC (Yn kvs k) (valueAt vs k):=by
 unfold KV at r;induction r with
 | nil=>exact True.intro
 | @cons p q ps qs h t ih=>
  obtain ⟨h1,h2⟩:=h;by_cases e:p.1=k
  ·have e':q.1=k:=h1.symm.trans e;have b:valueAt (q :: qs) k=some q.2:=by simp [valueAt,Zo8,e']
   rw [Yr e,b]; exact h2
  ·have e':¬ q.1=k:=fun z=>e (h1.trans z);have b:valueAt (q :: qs) k=valueAt qs k:=by simp [valueAt,Zo8,e']
   rw [Yq e,b]; exact ih
theorem KV.any {kvs:List (κ × V)}{vs:List (κ × Value)} (r:KV kvs vs) (k:κ):(kvs.any fun kv=>decide (kv.1=k))=vs.any fun kv=>decide (kv.1=k):=by
 unfold KV at r;induction r with
 | nil=>rfl
 | cons h t ih=>rw [Zp0,Zp0,ih,h.1]
theorem KV.repl {kvs:List (κ × V)}{vs:List (κ × Value)} (r:KV kvs vs) (k:κ) {y:V}{u:Value} (ry:RelV y u):
  KV (kvs.map fun kv=>if kv.1=k then (kv.1,y) else kv) (vs.map fun kv=>if kv.1=k then (kv.1,u) else kv):=by
 unfold KV at r ⊢;induction r with
 | nil=>exact .nil
 | @cons p q ps qs h t ih=>
  rw [ZnN,ZnN];refine .cons ?_ ih;obtain ⟨h1,h2⟩:=h;by_cases e:p.1=k
  ·rw [if_pos e,if_pos (h1.symm.trans e)]; exact ⟨h1,ry⟩
  ·rw [if_neg e,if_neg (fun z=>e (h1.trans z))]; exact ⟨h1,h2⟩
theorem KV.put {kvs:List (κ × V)}{vs:List (κ × Value)} (r:KV kvs vs) (k:κ) {y:V}{u:Value} (ry:RelV y u):KV (YF kvs k y) (stored vs k u):=by
 unfold YF stored;rw [r.any k];by_cases e:(vs.any fun kv=>decide (kv.1=k))=true
 ·rw [if_pos e,if_pos e]; exact r.repl k ry
 ·rw [if_neg e,if_neg e]; exact Paired.snoc r ⟨rfl,ry⟩
theorem KV.length {kvs:List (κ × V)}{vs:List (κ × Value)} (r:KV kvs vs):kvs.length=vs.length:=Paired.length r
end
theorem ZbK {P:Program}{w:World}{k:Key}{u:Value} (r:RelV (kV k) u):(Zy P w).is k u=true:=by
 cases k with
 | inl i=>obtain ⟨t,e⟩:=(show ∃ t,u=Value.int i t from r); subst e; exact ZfX P w i t
 | inr x=>obtain ⟨t,e⟩:=(show ∃ t,u=Value.str x t from r); subst e; exact ZfY P w x t
theorem Zef {P:Program}{w:World}:∀ {ks:List Key}{us:List Value},ZA (ks.map kV) us→ItemsAre (Zy P w) ks us
 | [],_,r=>by rw [Zqg] at r; cases r; exact .nil
 | k :: ks,_,r=>by
  rw [ZnN] at r;cases r with
  | cons h t=>exact .cons (ZbK h) (Zef t)
abbrev KT (H:Hp):List (List Key × V)→List (List Key × Addr × Value)→Prop:=Paired fun p q=>p.1=q.1∧H q.2.1=some (.tup (p.1.map kV))∧RelV p.2 q.2.2
theorem KT.val {H:Hp}{kvs:List (List Key × V)}{xs:List (List Key × Addr × Value)} (r:KT H kvs xs) (k:List Key):ZaC (Yn kvs k) ((atKey xs k).map (·.2)):=by
 induction r with
 | nil=>exact True.intro
 | @cons p q ps qs h t ih=>
  obtain ⟨h1,_,h2⟩:=h;by_cases e:p.1=k
  ·have e':q.1=k:=h1.symm.trans e;have b:atKey (q :: qs) k=some q.2:=by simp [atKey,Zo8,e']
   rw [Yr e,b]; exact h2
  ·have e':¬ q.1=k:=fun z=>e (h1.trans z);have b:atKey (q :: qs) k=atKey qs k:=by simp [atKey,Zo8,e']
   rw [Yq e,b]; exact ih
theorem KT.repl {H:Hp}{kvs:List (List Key × V)}{xs:List (List Key × Addr × Value)} (r:KT H kvs xs) (k:List Key) {y:V}{u:Value} (ry:RelV y u):
  KT H (kvs.map fun kv=>if kv.1=k then (kv.1,y) else kv) (xs.map (putAt k u)):=by
 induction r with
 | nil=>exact .nil
 | @cons p q ps qs h t ih=>
  rw [ZnN,ZnN];refine .cons ?_ ih;obtain ⟨h1,h2,h3⟩:=h;unfold putAt;by_cases e:p.1=k
  ·rw [if_pos e,if_pos (h1.symm.trans e)]; exact ⟨h1,h2,ry⟩
  ·rw [if_neg e,if_neg (fun z=>e (h1.trans z))]; exact ⟨h1,h2,h3⟩
theorem KT.put {H:Hp}{kvs:List (List Key × V)}{xs:List (List Key × Addr × Value)} (r:KT H kvs xs) (k:List Key) {b:Addr}{y:V}{u:Value} (hb:H b=some (.tup (k.map kV))) (ry:RelV y u):
  KT H (YF kvs k y) (storedH xs k b u):=by
 have e:(kvs.any fun kv=>decide (kv.1=k))=(atKey xs k).isSome:=by
  rw [JT,(r.val k).isSome_eq,Option.isSome_map]
 unfold YF storedH;rw [e];by_cases q:(atKey xs k).isSome=true
 ·rw [if_pos q,if_pos q]; exact r.repl k ry
 ·rw [if_neg q,if_neg q]; exact Paired.snoc r ⟨rfl,hb,ry⟩
theorem KT.keeps {H H':Hp}{kvs:List (List Key × V)}{xs:List (List Key × Addr × Value)} (r:KT H kvs xs) (ht:∀ b ys,H b=some (.tup ys)→H' b=some (.tup ys)):KT H' kvs xs:=
 Paired.mapP r fun _ _ z=>⟨z.1,ht _ _ z.2.1,z.2.2⟩
section
variable {P:Program}{w:World}{H:Hp}{h:Heap}{a:Addr}
theorem ZlX {u:HO} (ok:HOk P w H h) (e:Rd H a u):Yh P w H h a u:=e.ok ok
theorem Zcf {kvs:List (Key × V)} (ok:HOk P w H h) (e:Rd H a (.dK kvs)):kvs.length≤sizeLine∧(a == sysModules)=false∧∃ vs,KV kvs vs∧h.DictOf (Zy P w) a vs:=
 show Yh P w H h a (.dK kvs) from ZlX ok e
theorem ZjD {kvs:List (Key × V)} (ok:HOk P w H h) (e:H a=some (.dK kvs)):kvs.length≤sizeLine∧(a == sysModules)=false∧∃ vs,KV kvs vs∧h.DictOf (Zy P w) a vs:=Zcf ok (.inl e)
theorem Zbn {ks:List Key} (ok:HOk P w H h) (e:H a=some (.tup (ks.map kV))):(tupleKind (Zy P w)).is h ks a:=by
 obtain ⟨_,its,r,o,h1,h2,n,h3⟩:=(show Yh P w H h a (.tup (ks.map kV)) from ok a _ e);exact ⟨o,its.toArray,n,h1,h2,h3,by simpa using Zef r⟩
theorem ZcX {kvs:List (List Key × V)} (ok:HOk P w H h) (e:Rd H a (.dT kvs)):kvs.length≤sizeLine∧(a == sysModules)=false∧
  ∃ xs,KT H kvs xs∧h.DictOfH (tupleKind (Zy P w)) a xs:=by
 obtain ⟨z,y,xs,r,o,es,ep,h1,h2,h3,h4,h5⟩:=(show Yh P w H h a (.dT kvs) from ZlX ok e);refine ⟨z,y,xs,r,o,es,ep,h1,h2,h3,h4,fun x hx=>?_,h5⟩;have all:∀ {l:List (List Key × V)}{m:List (List Key × Addr × Value)},KT H l m→∀ x∈m,(tupleKind (Zy P w)).is h x.1 x.2.1:=by
  intro l m q;induction q with
  | nil=>intro x hx; exact nomatch hx
  | @cons p q ps qs hq t ih=>
   intro x hx;rcases Znz.mp hx with e | hx
   ·subst e;exact Zbn ok (by rw [←hq.1]; exact hq.2.1)
   ·exact ih x hx
 exact all r x hx
theorem ZjG {kvs:List (List Key × V)} (ok:HOk P w H h) (e:H a=some (.dT kvs)):kvs.length≤sizeLine∧(a == sysModules)=false∧
  ∃ xs,KT H kvs xs∧h.DictOfH (tupleKind (Zy P w)) a xs:=ZcX ok (.inl e)
end
def Zcr (H:Hp) (a:Addr) (y:V) (r:Option V):Prop:=
 (∃ kvs k,Rd H a (.dK kvs)∧y=kV k∧r=Yn kvs k)∨∃ kvs k b,Rd H a (.dT kvs)∧y=.ref b∧H b=some (.tup (k.map kV))∧r=Yn kvs k
def DPut (H:Hp) (a:Addr) (y v:V) (H':Hp):Prop:=
 (∃ kvs k,H a=some (.dK kvs)∧y=kV k∧kvs.length < sizeLine∧H'=upd H a (.dK (YF kvs k v)))∨
 ∃ kvs k b,H a=some (.dT kvs)∧y=.ref b∧H b=some (.tup (k.map kV))∧kvs.length < sizeLine∧H'=upd H a (.dT (YF kvs k v))
theorem Zcr.k {H:Hp}{a:Addr}{kvs:List (Key × V)}{k:Key} (e:H a=some (.dK kvs)):Zcr H a (kV k) (Yn kvs k):=.inl ⟨kvs,k,.inl e,rfl,rfl⟩
section
variable {X:Cx}{pins:List (Addr × Obj)}{σ:St}{H:Hp}{s:Shared}{a:Addr}{y v:V}{u r:Value}{o:Option V}{A:Around}{E:Value→Shared→Prop}
theorem Inv.big (I:Inv X pins σ H s):sysModules < s.heap.objs.size:=by
 have h:mainGlobals < s.heap.objs.size:=(I.mod.glob.keeps I.bk).lt;exact Nat.lt_trans (by decide) h
theorem Zir {Q:Value→Shared→Prop} (hu:A.units+1 < cLine) (I:Inv X pins σ H s) (g:Zcr H a y (some v)) (ry:RelV y u) (h:∀ w' s',Inv X pins σ H s'→RelV v w'→Q w' s'):
  wpAny (model X.prog X.w) A (getItem (.ref a) u) Q E s:=by
 rcases g with ⟨kvs,k,e,ey,l⟩ | ⟨kvs,k,b,e,ey,eb,l⟩
 ·subst ey;obtain ⟨z,hd,vs,rel,dd⟩:=Zcf I.hok e;obtain ⟨w',hw,rw'⟩:=ZaC.some_of (v:=v) (o:=valueAt vs k) (by rw [l]; exact rel.val k);exact wpAny_getItem_of (ZbK ry) dd.mapOf hw (h w' _ (I.tok _) rw')
 ·subst ey;cases (show u=Value.ref b from ry);obtain ⟨z,hd,xs,rel,dd⟩:=ZcX I.hok e;obtain ⟨w',hw,rw'⟩:=ZaC.some_of (v:=v) (o:=(atKey xs k).map (·.2)) (by rw [l]; exact rel.val k);obtain ⟨p,hp,hp2⟩:=Option.map_eq_some_iff.mp hw;refine wpAny_getItem_heap (tupleKind_room_in1 hu) (Zbn I.hok eb) dd hp ?_;rw [hp2];exact h w' _ (I.tok _) rw'
theorem d_in {Q:Value→Shared→Prop} (hu:A.units+1 < cLine) (I:Inv X pins σ H s) (g:Zcr H a y o) (ry:RelV y u) (h:∀ s',Inv X pins σ H s'→Q (.bool o.isSome) s'):
  wpAny (model X.prog X.w) A (compareOp .In u (.ref a)) Q E s:=by
 rcases g with ⟨kvs,k,e,ey,l⟩ | ⟨kvs,k,b,e,ey,eb,l⟩
 ·subst ey;obtain ⟨z,hd,vs,rel,dd⟩:=Zcf I.hok e;refine wpAny_in_of (ZbK ry) hd dd.mapOf ?_;rw [←(rel.val k).isSome_eq,←l];exact h _ (I.tok _)
 ·subst ey;cases (show u=Value.ref b from ry);obtain ⟨z,hd,xs,rel,dd⟩:=ZcX I.hok e;refine wpAny_in_heap (tupleKind_room_in1 hu) (Zbn I.hok eb) hd dd ?_;have q:=(rel.val k).isSome_eq;rw [Option.isSome_map] at q;rw [←q,←l];exact h _ (I.tok _)
theorem ZkZ {Q:Value→Shared→Prop} (hu:A.units+1 < cLine) (I:Inv X pins σ H s) (g:Zcr H a y o) (ry:RelV y u) (h:∀ s',Inv X pins σ H s'→Q (.bool (!o.isSome)) s'):
  wpAny (model X.prog X.w) A (compareOp .NotIn u (.ref a)) Q E s:=by
 rcases g with ⟨kvs,k,e,ey,l⟩ | ⟨kvs,k,b,e,ey,eb,l⟩
 ·subst ey;obtain ⟨z,hd,vs,rel,dd⟩:=Zcf I.hok e;refine wpAny_notIn_of (ZbK ry) hd dd.mapOf ?_;rw [←(rel.val k).isSome_eq,←l];exact h _ (I.tok _)
 ·subst ey;cases (show u=Value.ref b from ry);obtain ⟨z,hd,xs,rel,dd⟩:=ZcX I.hok e;refine wpAny_notIn_heap (tupleKind_room_in1 hu) (Zbn I.hok eb) hd dd ?_;have q:=(rel.val k).isSome_eq;rw [Option.isSome_map] at q;rw [←q,←l];exact h _ (I.tok _)
theorem ZbG {h':Heap}{t':Nat}{ob:HO} (I:Inv X pins σ H s) (mu:Mut (H a)) (hs:Zo7 a s.heap h') (he:∃ q,h'.get? a=some q) (new:Yh X.prog X.w (upd H a ob) h' a ob):
  Inv X pins σ (upd H a ob) { s with heap:=h',toks:=t' }:=
 I.write (x:=a) (e:=a) mu (.inl rfl) (fun b q hb z=>(hs.2 b hb).trans z) he new
theorem dk_new {P:Program}{w:World}{H':Hp}{h':Heap}{kvs:List (Key × V)}{vs:List (Key × Value)} (z:kvs.length≤sizeLine) (hd:(a == sysModules)=false) (rel:KV kvs vs) (dd:h'.DictOf (Zy P w) a vs):
  Yh P w H' h' a (.dK kvs):=⟨z,hd,vs,rel,dd⟩
theorem Zis {H':Hp}{Q:Unit→Shared→Prop} (hu:A.units+1 < cLine) (I:Inv X pins σ H s) (g:DPut H a y v H') (ry:RelV y u) (rv:RelV v r) (h:∀ s',Inv X pins σ H' s'→Q () s'):
  wpAny (model X.prog X.w) A (setItem (.ref a) u r) Q E s:=by
 rcases g with ⟨kvs,k,e,ey,l,eH⟩ | ⟨kvs,k,b,e,ey,eb,l,eH⟩
 ·subst ey eH;obtain ⟨z,hd,vs,rel,dd⟩:=ZjD I.hok e;have hz:vs.length≤sizeLine:=by rw [←rel.length]; exact z
  have hl:(YF kvs k v).length≤sizeLine:=by have:=Jr kvs k v; omega
  refine wpAny_setItem_pairs (hsz:=hz) (ZbK ry) dd fun h' dd' hs=>h _ ?_;have he:∃ q,h'.get? a=some q:=let ⟨q,_,_,hq,_⟩:=dd'; ⟨q,hq⟩;exact ZbG I (by rw [e]; exact True.intro) hs he (dk_new hl hd (rel.put k rv) dd')
 ·subst ey eH;cases (show u=Value.ref b from ry);obtain ⟨z,hd,xs,rel,dd⟩:=ZjG I.hok e;have hz:xs.length≤sizeLine:=by rw [←Paired.length rel]; exact z
  have hl:(YF kvs k v).length≤sizeLine:=by have:=Jr kvs k v; omega
  refine wpAny_setItem_heap (hsz:=hz) (tupleKind_room_in1 hu) (Zbn I.hok eb) dd fun h' dd' hs=>h _ ?_;obtain ⟨q,es,ep,hq,h2,h3,h4,_,h5⟩:=dd';refine ZbG I (by rw [e]; exact True.intro) hs ⟨q,hq⟩ ⟨hl,hd,_,(rel.put k eb rv).keeps fun c ys ec=>?_,q,es,ep,hq,h2,h3,h4,h5⟩;rw [Zp (Ye ec e (fun z=>nomatch z))];exact ec
end
section
variable {X:Cx}{pins:List (Addr × Obj)}{σ:St}{H:Hp}{s:Shared}{a:Addr}{kvs:List (Key × V)}{k:Key}{u:Value}{A:Around}{E:Value→Shared→Prop}
theorem ZmU {Q:Value→Shared→Prop} (I:Inv X pins σ H s) (e:Rd H a (.dK kvs)) (h:∀ t s',Inv X pins σ H s'→Q (.int kvs.length t) s'):wpAny (model X.prog X.w) A (call (.builtin "len") [.ref a]) Q E s:=by
 obtain ⟨z,hd,vs,rel,dd⟩:=Zcf I.hok e;refine call_len_dict hd dd (by rw [←rel.length]; rw [sizeLine_eq] at z; omega) ?_;rw [←rel.length];exact h _ _ (I.tok _)
end
def NoSl (i:Expr):Prop:=∀ ov iv,subscripted i false ov iv=operate [ov,iv] (getItem ov iv)
theorem subD_of {prog:Program}{w:World}{A:Around}{E:Value→Shared→Prop}{s:Shared}{env:Env}{value slice:Expr}{pos:Pos}{T id:String}{Q:Value→Shared→Prop}
  (hl:typeLookup (.type T) "__getitem__"=pure (some (.builtin id))) (hs:NoSl slice)
  (h:wpAny (model prog w) A (eval value env) (fun o s₁=>wpAny (model prog w) A (eval slice env) (fun i s₂=>s₂.TypeIs o T∧wpAny (model prog w) A (getItem o i) Q E s₂) E s₁) E s):
  wpAny (model prog w) A (eval (.Subscript value slice pos) env) Q E s:=by
 refine Subscript_ (wpAny_mono h (fun o s₁ h₁=>wpAny_mono h₁ (fun i s₂ h₂=>?_) fun _ _ x=>x) fun _ _ x=>x);obtain ⟨hT,h₂⟩:=h₂;unfold subscriptTail;refine wpAny_bind ?_;rw [getitemInPython_of_ne hT.not_modules];refine wpAny_bind (wpAny_specialOf hT hl ?_);have fin:wpAny (model prog w) A (subscripted slice false o i) (fun r s₃=>wpAny (model prog w) A (letTemporaryGo value o r >>= fun _=>pure r) Q E s₃) E s₂:=by
  rw [hs o i];exact wpAny_operating (wpAny_mono h₂ (fun r s₃ h₃=>wpAny_bind (wpAny_letTemporaryGo (wpAny_pure h₃))) fun _ _ x=>x)
 first
  | exact wpAny_pure (wpAny_bind fin)
  | exact wpAny_bind (wpAny_pure (wpAny_bind fin))
  | exact wpAny_bind fin
theorem ZfC {X:Cx}{pins:List (Addr × Obj)}{σ:St}{H:Hp}{s:Shared}{a:Addr}{y:V}{o:Option V} (I:Inv X pins σ H s) (g:Zcr H a y o):s.TypeIs (.ref a) "dict":=by
 rcases g with ⟨kvs,k,e,_,_⟩ | ⟨kvs,k,b,e,_,_,_⟩
 ·obtain ⟨_,_,vs,_,dd⟩:=Zcf I.hok e;exact dd.typeIs
 ·obtain ⟨_,_,xs,_,dd⟩:=ZcX I.hok e;exact dd.typeIs
def Zl0 (td ty:TE):TE:=fun σ H Q=>td σ H fun x H1=>ty σ H1 fun y H2=>∃ a v,x=.ref a∧Zcr H2 a y (some v)∧Q v H2
def tDIn (ty td:TE):TE:=fun σ H Q=>ty σ H fun y H1=>td σ H1 fun x H2=>∃ a o,x=.ref a∧Zcr H2 a y o∧Q (.bl o.isSome) H2
def ZlK (ty td:TE):TE:=fun σ H Q=>ty σ H fun y H1=>td σ H1 fun x H2=>∃ a o,x=.ref a∧Zcr H2 a y o∧Q (.bl (!o.isSome)) H2
def Znb (td ty tv:TE):TS:=fun D σ H=>tv σ H fun v H1=>td σ H1 fun x H2=>ty σ H2 fun y H3=>∃ a H4,x=.ref a∧DPut H3 a y v H4∧D.nx σ H4
section
variable {X:Cx}{o i e value:Expr}{pos pos' tpos:Pos}{td ty tv:TE}
theorem Za4 (hu:X.A.units+1 < cLine) (ho:PE X o td) (hi:PE X i ty) (hs:NoSl i):PE X (.Subscript o i pos) (Zl0 td ty):=by
 intro pins s σ H Q I h;refine subD_of PySem.F.slot_dict_getitem.lookup hs (thn (ho pins s σ H _ I h) fun u s1 ⟨x,H1,I1,rx,q1⟩=>thn (hi pins s1 σ H1 _ I1 q1) fun iv s2 qz=>?_);obtain ⟨y,H2,I2,ry,a,v,ex,g,q2⟩:=qz;subst ex;obtain rfl:u=Value.ref a:=rx;exact ⟨ZfC I2 g,Zir hu I2 g ry fun w' s3 I3 rw'=>⟨v,H2,I3,rw',q2⟩⟩
theorem Ze4 (hu:X.A.units+1 < cLine) (hi:PE X i ty) (ho:PE X o td):PC X .In i o (tDIn ty td):=by
 intro pins s σ H Q I h;refine thn (hi pins s σ H _ I h) fun iv s1 ⟨y,H1,I1,ry,q1⟩=>thn (ho pins s1 σ H1 _ I1 q1) fun u s2 qz=>?_;obtain ⟨x,H2,I2,rx,a,ov,ex,g,q2⟩:=qz;subst ex;obtain rfl:u=Value.ref a:=rx;exact d_in hu I2 g ry fun s3 I3=>⟨.bl ov.isSome,H2,I3,rfl,q2⟩
theorem Ji (hu:X.A.units+1 < cLine) (hi:PE X i ty) (ho:PE X o td):PC X .NotIn i o (ZlK ty td):=by
 intro pins s σ H Q I h;refine thn (hi pins s σ H _ I h) fun iv s1 ⟨y,H1,I1,ry,q1⟩=>thn (ho pins s1 σ H1 _ I1 q1) fun u s2 qz=>?_;obtain ⟨x,H2,I2,rx,a,ov,ex,g,q2⟩:=qz;subst ex;obtain rfl:u=Value.ref a:=rx;exact ZkZ hu I2 g ry fun s3 I3=>⟨.bl (!ov.isSome),H2,I3,rfl,q2⟩
theorem Zfa (hu:X.A.units+1 < cLine) (ho:PE X o td) (hi:PE X i ty) (hv:PE X value tv) (hs:swapsWith value (some (.Subscript o i pos')) pos.line X.env=pure false):
  PS X (.Assign [.Subscript o i pos'] value pos) (Znb td ty tv):=by
 intro pins s σ H D I h;refine wpAny_Assign_Subscript (thn (hv pins s σ H _ I h) fun r s1 ⟨v,H1,I1,rv,q1⟩=>thn (ho pins s1 σ H1 _ I1 q1) fun u s2 ⟨x,H2,I2,rx,q2⟩=>thn (hi pins s2 σ H2 _ I2 q2) fun iv s3 qz=>?_) hs;obtain ⟨y,H3,I3,ry,a,H4,ex,g,q3⟩:=qz;subst ex;obtain rfl:u=Value.ref a:=rx;exact Zis hu I3 g ry rv fun s4 I4=>⟨σ,H4,I4,q3⟩
end
theorem ZfD {P:Program}{w:World}{H:Hp} (h:Heap) (hb:sysModules < h.objs.size):Yh P w H (h.push { cls:=.type "dict",data:=.dict #[] }) h.objs.size (.dK []):=
 ⟨ZnH _,beq_eq_false_iff_ne.mpr (Ne.symm (ZnK hb)),[],.nil,Heap.DictOf.new h⟩
theorem ZjF {P:Program}{w:World}{H:Hp} (h:Heap) (hb:sysModules < h.objs.size):Yh P w H (h.push { cls:=.type "dict",data:=.dict #[] }) h.objs.size (.dT []):=
 ⟨ZnH _,beq_eq_false_iff_ne.mpr (Ne.symm (ZnK hb)),[],.nil,_,#[],0,Znu _ rfl,⟨rfl,rfl,rfl⟩,rfl,rfl,Zqk⟩
def ZmK:TE:=fun _ H Q=>∀ p,H p=none→Q (.ref p) (upd H p (.dK []))
def ZmL:TE:=fun _ H Q=>∀ p,H p=none→Q (.ref p) (upd H p (.dT []))
section
variable {X:Cx}{pos:Pos}
theorem Zdu:PE X (.Dict [] [] pos) ZmK:=fun pins s σ H Q I h=>
 wpAny_Dict_empty ⟨.ref s.heap.objs.size,_,I.laid (a:=s.heap.objs.size) (o:=.dK []) (t':=s.toks) (fun _ _ q=>Znk _ q) (Znn _) (ZfD s.heap I.big),rfl,h _ (I.hok.fresh (Znn _))⟩
theorem Zkj:PE X (.Dict [] [] pos) ZmL:=fun pins s σ H Q I h=>
 wpAny_Dict_empty ⟨.ref s.heap.objs.size,_,I.laid (a:=s.heap.objs.size) (o:=.dT []) (t':=s.toks) (fun _ _ q=>Znk _ q) (Znn _) (ZjF s.heap I.big),rfl,h _ (I.hok.fresh (Znn _))⟩
end
def Zhn:List (TE × TE)→St→Hp→(List (V × V)→Hp→Prop)→Prop
 | [],_,H,Q=>Q [] H
 | (tk,tv) :: r,σ,H,Q=>tk σ H fun x H1=>tv σ H1 fun y H2=>Zhn r σ H2 fun ps H3=>Q ((x,y) :: ps) H3
abbrev VV:List (V × V)→List (Value × Value)→Prop:=Paired fun p q=>RelV p.1 q.1∧RelV p.2 q.2
def PPs (X:Cx) (pos:Pos) (keys:List (Option Expr)) (values:List Expr) (trs:List (TE × TE)):Prop:=
 ∀ (pins:List (Addr × Obj)) (s:Shared) (σ:St) (H:Hp) (Q:List (V × V)→Hp→Prop),Inv X pins σ H s→Zhn trs σ H Q→
  wpAny (model X.prog X.w) X.A (evalPairs (pairTrees keys values X.env pos)) (fun vs s'=>∃ ps H',Inv X pins σ H' s'∧VV ps vs∧Q ps H') X.xe s
theorem ZlB {X:Cx}{pos:Pos}:PPs X pos [] [] []:=fun pins s σ H Q I h=>pairTrees_nil_walk ⟨[],H,I,.nil,h⟩
theorem Zkp {X:Cx}{pos:Pos}{k v:Expr}{ks:List (Option Expr)}{vs:List Expr}{tk tv:TE}{trs:List (TE × TE)} (hk:PE X k tk) (hv:PE X v tv) (hr:PPs X pos ks vs trs):
  PPs X pos (some k :: ks) (v :: vs) ((tk,tv) :: trs):=fun pins s σ H Q I h=>
 pairTrees_cons_walk (thn (hk pins s σ H _ I h) fun u s1 ⟨x,H1,I1,rx,q1⟩=>thn (hv pins s1 σ H1 _ I1 q1) fun w2 s2 ⟨y,H2,I2,ry,q2⟩=>
  thn (hr pins s2 σ H2 _ I2 q2) fun ws s3 ⟨ps,H3,I3,rel,q3⟩=>⟨(x,y) :: ps,H3,I3,.cons ⟨rx,ry⟩ rel,q3⟩)
def Jg (kvs more:List (Key × V)):List (Key × V):=more.foldl (fun acc kv=>YF acc kv.1 kv.2) kvs
theorem KV.merge:∀ {more:List (Key × V)}{rs:List (Key × Value)}{kvs:List (Key × V)}{vs:List (Key × Value)},KV more rs→KV kvs vs→KV (Jg kvs more) (merged vs rs):=by
 intro more rs kvs vs r;unfold KV at r;induction r generalizing kvs vs with
 | nil=>intro q; exact q
 | @cons p q ps qs h t ih=>
  intro r0;have e:KV (YF kvs p.1 p.2) (stored vs q.1 q.2):=by
   have:=r0.put p.1 h.2;rw [←h.1]; exact this
  exact ih e
theorem J7:∀ (more kvs:List (Key × V)),(Jg kvs more).length≤kvs.length+more.length
 | [],kvs=>by show kvs.length≤kvs.length+0; omega
 | p :: r,kvs=>by
  have h1:=J7 r (YF kvs p.1 p.2);have h2:=Jr kvs p.1 p.2;show (Jg (YF kvs p.1 p.2) r).length≤_;rw [ZnZ]; omega
theorem ZcS {P:Program}{w:World}:∀ {kvs:List (Key × V)}{ws:List (Value × Value)},VV (kvs.map fun kv=>(kV kv.1,kv.2)) ws→∃ rs,Carries (Zy P w) ws rs∧KV kvs rs
 | [],_,r=>by rw [Zqg] at r; cases r; exact ⟨[],True.intro,.nil⟩
 | p :: kvs,_,r=>by
  rw [ZnN] at r;cases r with
  | @cons a b as bs h t=>
   obtain ⟨rs,c,q⟩:=ZcS (P:=P) (w:=w) t;obtain ⟨b1,b2⟩:=b;exact ⟨(p.1,b2) :: rs,⟨ZbK h.1,rfl,c⟩,.cons ⟨rfl,h.2⟩ q⟩
def Zne (trs:List (TE × TE)):TE:=fun σ H Q=>∀ p,H p=none→Zhn trs σ (upd H p (.dK [])) fun ps H2=>H2 p=some (.dK [])∧∃ kvs:List (Key × V),ps=kvs.map (fun kv=>(kV kv.1,kv.2))∧kvs.length≤15∧Q (.ref p) (upd H2 p (.dK (Jg [] kvs)))
theorem Zlw {X:Cx}{pos:Pos}{keys:List (Option Expr)}{values:List Expr}{trs:List (TE × TE)} (h:PPs X pos keys values trs) (hall:keys.all (·.isSome)=true) (hl:keys.length=values.length) (h0:keys≠[])
  (h15:keys.length≤15):PE X (.Dict keys values pos) (Zne trs):=by
 intro pins s σ H Q I q;have hn:=I.hok.fresh (Znn s.heap.objs.size);have I1:=I.laid (a:=s.heap.objs.size) (o:=.dK []) (h':=s.heap.push { cls:=.type "dict",data:=.dict #[] }) (t':=s.toks) (fun _ _ q=>Znk _ q) (Znn _) (ZfD s.heap I.big);refine wpAny_Dict_walk (knd:=Zy X.prog X.w) hall hl h0 h15 (thn (h pins _ σ _ _ I1 (q _ hn)) fun ws s2 qz=>?_);obtain ⟨ps,H2,I2,rel,e,kvs,ep,lk,q2⟩:=qz;subst ep;obtain ⟨rs,c,rk⟩:=ZcS (P:=X.prog) (w:=X.w) rel;obtain ⟨z,hd,vs0,r0,dd⟩:=ZjD I2.hok e;cases r0;refine ⟨rs,c,dd,fun h' dd' hs=>⟨.ref s.heap.objs.size,_,?_,rfl,q2⟩⟩;have hz:(Jg [] kvs).length≤sizeLine:=by
  have h1:=J7 kvs [];rw [Zpa] at h1;rw [sizeLine_eq]; omega
 have he:∃ q,h'.get? s.heap.objs.size=some q:=let ⟨q,_,_,hq,_⟩:=dd'; ⟨q,hq⟩;exact ZbG I2 (by rw [e]; exact True.intro) hs he (dk_new hz hd (rk.merge .nil) dd')
structure M1 (X:Cx) (o:Expr) (m:Str) (apos:Pos) (e:Expr) (cpos:Pos):Prop where
 base:attributeBase o m X.env (eval o X.env)=eval o X.env
 few:((backTo cpos (starEach [e] X.env)).all (fun x=>!x.1) && (backToKw cpos (keywordEach [] X.env)).all (fun x=>x.1.isSome)
  && decide (([e]:List Expr).length+([]:List Keyword).length+(if ([]:List Keyword).isEmpty then 0 else 1) < 30))=true
 line:(apos.endLine == cpos.line)=true
 trees:backTo cpos (starEach [e] X.env)=[(false,eval e X.env)]
structure M2 (X:Cx) (o:Expr) (m:Str) (apos:Pos) (e f:Expr) (cpos:Pos):Prop where
 base:attributeBase o m X.env (eval o X.env)=eval o X.env
 few:((backTo cpos (starEach [e,f] X.env)).all (fun x=>!x.1) && (backToKw cpos (keywordEach [] X.env)).all (fun x=>x.1.isSome)
  && decide (([e,f]:List Expr).length+([]:List Keyword).length+(if ([]:List Keyword).isEmpty then 0 else 1) < 30))=true
 line:(apos.endLine == cpos.line)=true
 trees:backTo cpos (starEach [e,f] X.env)=[(false,eval e X.env),(false,eval f X.env)]
def IsD (H:Hp) (a:Addr):Prop:=(∃ kvs,Rd H a (.dK kvs))∨∃ kvs,Rd H a (.dT kvs)
theorem ZgK {X:Cx}{pins:List (Addr × Obj)}{σ:St}{H:Hp}{s:Shared}{a:Addr} (I:Inv X pins σ H s) (d:IsD H a):
  s.TypeIs (.ref a) "dict"∧(∀ b,Value.ref a=.ref b→∃ ob,s.heap.get? b=some ob∧ob.dict=none)∧(a == sysModules)=false:=by
 rcases d with ⟨kvs,e⟩ | ⟨kvs,e⟩
 ·obtain ⟨_,hd,vs,_,dd⟩:=Zcf I.hok e;refine ⟨dd.typeIs,fun b q=>?_,hd⟩;cases q;obtain ⟨ob,_,_,h1,h2,_⟩:=dd;exact ⟨ob,h1,h2.2.1⟩
 ·obtain ⟨_,hd,xs,_,dd⟩:=ZcX I.hok e;refine ⟨dd.typeIs,fun b q=>?_,hd⟩;cases q;obtain ⟨ob,_,_,h1,h2,_⟩:=dd;exact ⟨ob,h1,h2.2.1⟩
section
variable {X:Cx}{pins:List (Addr × Obj)}{σ:St}{H:Hp}{s:Shared}{a:Addr}{y d:V}{u r:Value}{o:Option V}{A:Around}{E:Value→Shared→Prop}
theorem Zmc {Q:Value→Shared→Prop} (hu:A.units+1 < cLine) (I:Inv X pins σ H s) (g:Zcr H a y o) (ry:RelV y u) (h:∀ w' s',Inv X pins σ H s'→RelV (o.getD .non) w'→Q w' s'):
  wpAny (model X.prog X.w) A (call (.builtin "dict.get") [.ref a,u]) Q E s:=by
 rcases g with ⟨kvs,k,e,ey,l⟩ | ⟨kvs,k,b,e,ey,eb,l⟩
 ·subst ey;obtain ⟨z,hd,vs,rel,dd⟩:=Zcf I.hok e;refine call_meetsIn ZpR dd.typeIs ZqU (ZqE _ _) (meets_dict_get (Zy X.prog X.w) a (ZbK ry) hd) ⟨_,dd.mapOf,h _ _ (I.tok _) ?_⟩;rw [l];exact (rel.val k).getD rfl
 ·subst ey;cases (show u=Value.ref b from ry);obtain ⟨z,hd,xs,rel,dd⟩:=ZcX I.hok e;refine call_meetsIn ZpR dd.typeIs ZqU (ZqE _ _) (meetsH_dict_get (tupleKind (Zy X.prog X.w)) a b hd) ⟨tupleKind_room_in1 hu,k,xs,Zbn I.hok eb,dd,h _ _ (I.tok _) ?_⟩;rw [l];exact (rel.val k).getD rfl
end
def ZmJ (td ty:TE):TE:=fun σ H Q=>td σ H fun x H1=>∃ a,x=.ref a∧IsD H1 a∧ty σ H1 fun y H2=>∃ o,Zcr H2 a y o∧Q (o.getD .non) H2
section
variable {X:Cx}{o e f:Expr}{apos cpos:Pos}{td ty tx:TE}
theorem Zki (hu:X.A.units+1 < cLine) (ho:PE X o td) (he:PE X e ty) (m:M1 X o "get" apos e cpos):PE X (.Call (.Attribute o "get" apos) [e] [] cpos) (ZmJ td ty):=by
 intro pins s σ H Q I h;refine wpAny_Call_method m.base m.few m.line Zo2 ZpR PySem.F.type_dict_get (thn (ho pins s σ H _ I h) fun u s1 qz=>?_);obtain ⟨x,H1,I1,rx,a,ex,d,q1⟩:=qz;subst ex;obtain rfl:u=Value.ref a:=rx;obtain ⟨t1,t2,_⟩:=ZgK I1 d;refine ⟨t1,t2,?_⟩;rw [m.trees];refine Calls.callWith_builtin rfl (Calls.evalArgs_plain (Calls.spliced_cons (thn (he pins s1 σ H1 _ I1 q1) fun iv s2 ⟨y,H2,I2,ry,ov,g,q2⟩=>Calls.spliced_nil ?_)));exact Zmc hu I2 g ry fun w' s3 I3 rw'=>⟨_,H2,I3,rw',q2⟩
end
end L2
namespace HT
open PySem PyProof.Rows
section
open PySem.SeqAt
open PySem.AutoSeq1 (wpAny_loadPart')
open PySem.MeetsSeq PySem.MeetsSeq2 PySem.MeetsSeq3
end
section
variable {prog:Program}{w:World}{A:Around}{E:Value→Shared→Prop}{s:Shared}
def sIx (n d:Nat):Option Int→Nat
 | none=>d
 | some v=>if v < 0 then (v+(n:Int)).toNat else min v.toNat n
theorem sIx_none (n d:Nat):sIx n d none=d:=rfl
theorem sIx_nat (n d k:Nat):sIx n d (some (k:Int))=min k n:=by
 show (if (k:Int) < 0 then ((k:Int)+(n:Int)).toNat else min (k:Int).toNat n)=min k n;rw [if_neg (by omega),Int.toNat_natCast]
theorem sIx_le (n d:Nat) (hd:d≤n) (o:Option Int):sIx n d o≤n:=by
 cases o with
 | none=>exact hd
 | some v=>
  show (if v < 0 then (v+(n:Int)).toNat else min v.toNat n)≤n;by_cases hv:v < 0
  ·rw [if_pos hv]; omega
  ·rw [if_neg hv]; exact Nat.min_le_right _ _
end
end HT
namespace L2
open PySem PySem.Spec PyProof.Rows
abbrev TO:=St→Hp→(Option Int→Hp→Prop)→Prop
def PO (X:Cx) (e:Option Expr) (t:TO):Prop:=
 ∀ (pins:List (Addr × Obj)) (s:Shared) (σ:St) (H:Hp) (Q:Option Int→Hp→Prop),Inv X pins σ H s→t σ H Q→
  wpAny (model X.prog X.w) X.A (evalPart e X.env) (fun u s'=>∃ o H',Inv X pins σ H' s'∧IsPart u o∧Q o H') X.xe s
def Zh8:TO:=fun _ H Q=>Q none H
def Zl3 (t:TE):TO:=fun σ H Q=>t σ H fun x H1=>∃ i,x=.int i∧Q (some i) H1
theorem Yp {ns:List Int}:∀ {us:List Value},ZA (ns.map V.int) us→IntsAre us ns:=by
 induction ns with
 | nil=>intro us r; rw [Zqg] at r; cases r; exact .nil
 | cons n ns ih=>
  intro us r;rw [ZnN] at r;cases r with
  | cons r1 r2=>
   obtain ⟨t,e⟩:=r1;subst e;exact .cons n t (ih r2)
section
variable {X:Cx}{e:Expr}{te:TE}{lo hi:Option Expr}{tl th:TO}{pos p2:Pos}
theorem ZY:PO X none Zh8:=by
 intro pins s σ H Q I h;rw [evalPart_none];exact wpAny_pure ⟨none,H,I,.none,h⟩
theorem ZN (h:PE X e te):PO X (some e) (Zl3 te):=by
 intro pins s σ H Q I hw;rw [evalPart_some];refine thn (h pins s σ H _ I hw) fun u s1 qz=>?_;obtain ⟨x,H1,I1,r1,q1⟩:=qz;obtain ⟨i,rfl,q⟩:=q1;obtain ⟨t,rfl⟩:=r1;exact ⟨some i,H1,I1,.int i t,q⟩
def SlR (X:Cx) (r:V→Option Int→Option Int→Hp→VK→Prop):Prop:=
 ∀ (pins:List (Addr × Obj)) (s:Shared) (σ:St) (H:Hp) (x:V) (v vl vu:Value) (lo hi:Option Int) (sl:Addr) (Q:VK),Inv X pins σ H s→RelV x v→s.heap.IsSliceOf sl vl vu .none→IsPart vl lo→IsPart vu hi→r x lo hi H Q→
  ∃ T id,typeLookup (.type T) "__getitem__"=pure (some (.builtin id))∧s.TypeIs v T∧wpAny (model X.prog X.w) X.A (getItem v (.ref sl)) (EP X pins σ Q) X.xe s
def tSl (r:V→Option Int→Option Int→Hp→VK→Prop) (te:TE) (tl th:TO):TE:=fun σ H Q=>te σ H fun x H1=>tl σ H1 fun l H2=>th σ H2 fun u H3=>r x l u H3 Q
theorem ZM {r:V→Option Int→Option Int→Hp→VK→Prop} (hr:SlR X r) (he:PE X e te) (hl:PO X lo tl) (hu:PO X hi th):PE X (.Subscript e (.Slice lo hi none p2) pos) (tSl r te tl th):=by
 intro pins s σ H Q I h;refine Subscript_ (thn (he pins s σ H _ I h) fun v s1 qz=>?_);obtain ⟨x,H1,I1,r1,q1⟩:=qz;refine wpAny_Slice (thn (hl pins s1 σ H1 _ I1 q1) fun vl s2 ⟨l,H2,I2,pl,q2⟩=>thn (hu pins s2 σ H2 _ I2 q2) fun vu s3 qz=>?_);obtain ⟨u,H3,I3,pu,q3⟩:=qz;rw [evalPart_none];refine wpAny_pure ?_;have I4:Inv X pins σ H3 { s3 with heap:=s3.heap.push { cls:=.type "slice",data:=.fields #[vl,vu,.none] } }:=I3.kept (t':=s3.toks) fun b ob q=>Znk _ q;obtain ⟨T,id,hT,ht,hg⟩:=hr pins { s3 with heap:=s3.heap.push { cls:=.type "slice",data:=.fields #[vl,vu,.none] } } σ H3 x v vl vu l u s3.heap.objs.size Q I4 r1 (Heap.IsSliceOf.new ..) pl pu q3;show wpAny (model X.prog X.w) X.A (subscriptTail e (.Slice lo hi none p2) v (.ref s3.heap.objs.size)) (EP X pins σ Q) X.xe { s3 with heap:=s3.heap.push { cls:=.type "slice",data:=.fields #[vl,vu,.none] } };exact tail_any (ops:=[.ref s3.heap.objs.size,v]) ht hT hg (by with_unfolding_all rfl)
def cutV (xs:List V) (lo hi:Option Int):List V:=(xs.drop (HT.sIx xs.length 0 lo)).take (HT.sIx xs.length xs.length hi - HT.sIx xs.length 0 lo)
theorem Zce (xs:List V) (lo hi:Option Int):(cutV xs lo hi).length≤xs.length:=by
 unfold cutV;rw [ZnM,ZnV];omega
end
def ixN (n:Nat) (i:Int):Option Nat:=if 0≤i then (if i < n then some i.toNat else none) else if -(n:Int)≤i then some (i+n).toNat else none
def atI {α:Type} (xs:List α) (i:Int):Option α:=(ixN xs.length i).bind fun j=>xs[j]?
theorem ZhG {n:Nat}{i:Int}{j:Nat} (h:ixN n i=some j):seqIndex? i n=some j∧j < n∧-(n:Int)≤i∧i < n:=by
 unfold ixN at h;by_cases h0:0≤i
 ·rw [if_pos h0] at h;by_cases h1:i < n
  ·rw [if_pos h1] at h;have e:i.toNat=j:=Option.some.inj h;exact ⟨by rw [seqIndex_of h0 h1,e],by omega,by omega,h1⟩
  ·rw [if_neg h1] at h; cases h
 ·rw [if_neg h0] at h;by_cases h1:-(n:Int)≤i
  ·rw [if_pos h1] at h;have e:(i+n).toNat=j:=Option.some.inj h;exact ⟨by rw [seqIndex_neg (by omega) h1,e],by omega,h1,by omega⟩
  ·rw [if_neg h1] at h; cases h
theorem ZeE {α:Type}{xs:List α}{i:Int}{v:α} (h:atI xs i=some v):∃ j,seqIndex? i xs.length=some j∧xs[j]?=some v∧j < xs.length∧-(xs.length:Int)≤i∧i < xs.length:=by
 unfold atI at h;cases e:ixN xs.length i with
 | none=>rw [e] at h; cases h
 | some j=>
  rw [e] at h;obtain ⟨h1,h2,h3,h4⟩:=ZhG e;exact ⟨j,h1,h,h2,h3,h4⟩
theorem ZE {α:Type}{xs:List α}{j:Nat}{v:α} (h:xs[j]?=some v):atI xs (j:Int)=some v:=by
 have hj:j < xs.length:=(Znw.mp h).1;have e:ixN xs.length (j:Int)=some j:=by
  unfold ixN;rw [if_pos (by omega),if_pos (by omega)]; simp
 unfold atI; rw [e]; exact h
def ZkW (b:Expr):Prop:=∀ o i,subscripted b false o i=operate [o,i] (getItem o i)
def IxR (X:Cx) (r:R2):Prop:=
 ∀ (value slice:Expr) (pins:List (Addr × Obj)) (s:Shared) (σ:St) (H:Hp) (x y:V) (v u:Value) (Q:VK),Inv X pins σ H s→RelV x v→RelV y u→r x y H Q→
  subscripted slice false v u=operate [v,u] (getItem v u)→wpAny (model X.prog X.w) X.A (subscriptTail value slice v u) (EP X pins σ Q) X.xe s
def MtR (X:Cx) (id:String) (r:V→List V→Hp→VK→Prop):Prop:=
 ∀ (pins:List (Addr × Obj)) (s:Shared) (σ:St) (H:Hp) (x:V) (xs:List V) (v:Value) (us:List Value) (Q:VK),Inv X pins σ H s→RelV x v→ZA xs us→r x xs H Q→
  wpAny (model X.prog X.w) X.A (call (.builtin id) (v :: us)) (EP X pins σ Q) X.xe s
section
variable {X:Cx}{a b:Expr}{ta tb:TE}{pos:Pos}
theorem pe_ix {r:R2} (hr:IxR X r) (ha:PE X a ta) (hb:PE X b tb) (hs:ZkW b):PE X (.Subscript a b pos) (tOp r ta tb):=by
 intro pins s σ H Q I h;exact Subscript_ (binT ha hb I h fun v u s2 x y H2 I2 rx ry q=>hr a b pins s2 σ H2 x y v u Q I2 rx ry q (hs _ _))
def YG (K:Znj):R2:=fun x y H Q=>∃ p xs i v,x=.ref p∧y=.int i∧SqL K H p xs∧atI xs i=some v∧Q v H
def Zjc (K:Znj):R2:=fun x y H Q=>∃ p xs i v,x=.ref p∧y=.int i∧SqT K H p xs∧atI xs i=some v∧Q v H
def Zhd:R2:=fun x y H Q=>∃ z i c,x=.str z∧y=.int i∧z.length≤sizeLine∧atI z.cps.toList i=some c∧Q (.str ⟨#[c]⟩) H
theorem ZB:IxR X (YG X.K):=by
 intro value slice pins s σ H x y v u Q I rx ry h hs;obtain ⟨p,xs,i,z,rfl,rfl,hq,he,q⟩:=h;cases rx;obtain ⟨t,rfl⟩:=ry;obtain ⟨its,r,pl,hz⟩:=I.list hq;obtain ⟨j,h1,h2,h3,h4,h5⟩:=ZeE he;obtain ⟨w,ew,rw'⟩:=r.get h2;have hl:=r.length;have hn:=Zbp;have fin:EP X pins σ Q w s:=⟨z,H,I,rw',q⟩;by_cases h0:0≤i
 ·have hj:i.toNat=j:=by
   rw [seqIndex_of h0 h5] at h1;exact Option.some.inj h1
  exact item_listR pl.isList h0 (by omega) (by rw [hj]; simpa using ew) fin hs
 ·have hj:(i+(its.toArray.size:Int)).toNat=j:=by
   rw [seqIndex_neg (by omega) h4] at h1;rw [Zny,←hl];exact Option.some.inj h1
  exact subscriptTail_builtinR (x:=w) pl.isList.typeIs slot_list_getitem.lookup
   (wpAny_getItem_list_neg (Q:=fun r s'=>r=w∧EP X pins σ Q r s') pl.isList (by omega) (by rw [Zny] <;> omega) (by omega) (by rw [hj]; simpa using ew) ⟨rfl,fin⟩) hs
theorem Zc8:IxR X (Zjc X.K):=by
 intro value slice pins s σ H x y v u Q I rx ry h hs;obtain ⟨p,xs,i,z,rfl,rfl,hq,he,q⟩:=h;cases rx;obtain ⟨t,rfl⟩:=ry;obtain ⟨its,r,pl,hz⟩:=I.tuple hq;obtain ⟨j,h1,h2,h3,h4,h5⟩:=ZeE he;obtain ⟨w,ew,rw'⟩:=r.get h2;have hl:=r.length;have hn:=Zbp;have fin:EP X pins σ Q w s:=⟨z,H,I,rw',q⟩;exact subscriptTail_builtinR (x:=w) pl.typeIs slot_tuple_getitem.lookup
  (getItem_tuple (j:=j) (Q:=fun r s'=>r=w∧EP X pins σ Q r s') pl (by omega) (by omega) (by rw [Zny,←hl]; exact h1) (by simpa using ew) ⟨rfl,fin⟩) hs
theorem ZbY:IxR X Zhd:=by
 intro value slice pins s σ H x y v u Q I rx ry h hs;obtain ⟨z,i,c,rfl,rfl,hz,he,q⟩:=h;obtain ⟨t,rfl⟩:=rx;obtain ⟨t',rfl⟩:=ry;obtain ⟨j,h1,h2,h3,h4,h5⟩:=ZeE he;have hl:z.cps.toList.length=z.length:=by simp [Str.length]
 rw [hl] at h1 h4 h5;have hn:=Zbp;exact tail_any (typeIs_str s z t) slot_str_getitem.lookup (getItem_str (c:=c) (by
  have e1:decide (i < -(2 ^ 63:Int))=false:=decide_eq_false (by omega);have e2:decide (i ≥ 2 ^ 63)=false:=decide_eq_false (by omega);rw [e1,e2,Bool.or_false]) (by rw [h1]; simpa using h2) ⟨.str ⟨#[c]⟩,H,I.tok _,⟨_,rfl⟩,q⟩) hs
theorem ZgV (its:List Value) (n j:Nat) (u:Value):Obj.mapSeq (·.setIfInBounds j u) { cls:=.type "list",data:=.seq its.toArray n }={ cls:=.type "list",data:=.seq (its.set j u).toArray n }:=by
 simp [Obj.mapSeq]
theorem Inv.lst {pins:List (Addr × Obj)}{σ:St}{H:Hp}{s:Shared}{p:Addr}{xs:List V} (I:Inv X pins σ H s) (h:H p=some (.lst xs)):
  ∃ (its:List Value) (n:Nat),ZA xs its∧s.heap.get? p=some { cls:=.type "list",data:=.seq its.toArray n }∧xs.length≤sizeLine:=by
 obtain ⟨z,its,n,r,e⟩:=I.hok p _ h;exact ⟨its,n,r,e,z⟩
theorem Inv.lstUpd {pins:List (Addr × Obj)}{σ:St}{H:Hp}{s:Shared}{p:Addr}{xs ys:List V}{its its':List Value}{n n':Nat}{f:Obj→Obj} (I:Inv X pins σ H s) (h:H p=some (.lst xs))
  (ho:s.heap.get? p=some { cls:=.type "list",data:=.seq its.toArray n }) (hf:f { cls:=.type "list",data:=.seq its.toArray n }={ cls:=.type "list",data:=.seq its'.toArray n' }) (r:ZA ys its') (hz:ys.length≤sizeLine) (t:Nat):
  Inv X pins σ (upd H p (.lst ys)) { s with heap:=s.heap.update p f,toks:=t }:=by
 have e:(s.heap.update p f).get? p=some { cls:=.type "list",data:=.seq its'.toArray n' }:=by
  rw [Zoz f ho (by rw [hf] <;> rfl),hf]
 refine I.write (x:=p) (e:=p) (by rw [h]; trivial) (.inl rfl) (fun b u hb q=>(Zn7 _ _ (Ne.symm hb)).trans q) ⟨_,e⟩ ?_;exact ⟨hz,its',n',r,e⟩
def Zm9:V→V→V→Hp→(Hp→Prop)→Prop:=fun o i v H Q=>∃ p xs k j,o=.ref p∧i=.int k∧H p=some (.lst xs)∧ixN xs.length k=some j∧Q (upd H p (.lst (xs.set j v)))
theorem Zky:PSet X Zm9:=by
 intro pins s σ H o i v ov iv u Q I ro ri rv h;obtain ⟨p,xs,k,j,rfl,rfl,hp,hj,q⟩:=h;cases ro;obtain ⟨t,rfl⟩:=ri;obtain ⟨its,n,r,ho,hz⟩:=I.lst hp;obtain ⟨h1,h2,h3,h4⟩:=ZhG hj;have hl:=r.length;have hn:=Zbp;have I':Inv X pins σ (upd H p (.lst (xs.set j v))) { s with heap:=s.heap.update p (Obj.mapSeq (·.setIfInBounds j u)) }:=
  I.lstUpd hp ho (ZgV its n j u) (r.set rv j) (by rw [List.length_set]; exact hz) s.toks
 by_cases h0:0≤k
 ·have hk:k.toNat=j:=by
   rw [seqIndex_of h0 h4] at h1;exact Option.some.inj h1
  exact PySem.W.ki_setAt ho h0 (by omega) (by rw [Zny,←hl]; exact h4) (by rw [hk]; exact ⟨_,I',q⟩)
 ·have hk:(k+(its.toArray.size:Int)).toNat=j:=by
   rw [seqIndex_neg (by omega) h3] at h1;rw [Zny,←hl];exact Option.some.inj h1
  exact PySem.W.ki_setBack ho (by omega) (by rw [Zny,←hl]; exact h3) (by omega) (by rw [hk]; exact ⟨_,I',q⟩)
theorem ZbQ (lo hi:Option Int) (n:Nat):(sliceBounds lo hi none n).1=((HT.sIx n 0 lo:Nat):Int)∧(sliceBounds lo hi none n).2.1=((HT.sIx n n hi:Nat):Int)∧(sliceBounds lo hi none n).2.2=1:=by
 refine ⟨?_,?_,rfl⟩
 ·cases lo with
  | none=>simp [sliceBounds,HT.sIx]
  | some i=>
   simp only [sliceBounds,HT.sIx,Option.getD_none,show (1:Int) > 0 by decide,if_true];by_cases h:i < 0
   ·simp only [h,if_true] <;> omega
   ·simp only [h,if_false] <;> omega
 ·cases hi with
  | none=>simp [sliceBounds,HT.sIx]
  | some i=>
   simp only [sliceBounds,HT.sIx,Option.getD_none,show (1:Int) > 0 by decide,if_true];by_cases h:i < 0
   ·simp only [h,if_true] <;> omega
   ·simp only [h,if_false] <;> omega
theorem ZdY (its:List Value) (lo hi:Option Int):slicePick its.toArray lo hi none=((its.drop (HT.sIx its.length 0 lo)).take (HT.sIx its.length its.length hi - HT.sIx its.length 0 lo)).toArray:=by
 obtain ⟨h1,h2,h3⟩:=ZbQ lo hi its.toArray.size;unfold slicePick;rw [h1,h2,h3];simp only [sliceRange_one,pick_run,Zny] <;> rfl
def rSlL (K:Znj):V→Option Int→Option Int→Hp→VK→Prop:=fun x lo hi H Q=>∃ a xs,x=.ref a∧SqL K H a xs∧∀ p,H p=none→Q (.ref p) (upd H p (.lst (cutV xs lo hi)))
theorem YI:SlR X (rSlL X.K):=by
 intro pins s σ H x v vl vu lo hi sl Q I rx hs pl pu h;obtain ⟨a,xs,rfl,hx,q⟩:=h;cases rx;obtain ⟨its,r,ht,hz⟩:=I.list hx;have hlen:=r.length;refine ⟨"list",_,slot_list_getitem.lookup,ht.isList.typeIs,?_⟩;refine wpAny_getItem_list_slice ht.isList hs pl pu .none (by simp) ?_ (by rw [Zny] <;> omega);rw [ZdY,←hlen];refine ⟨.ref s.heap.objs.size,_,I.laid (t':=s.toks) (o:=.lst (cutV xs lo hi)) (fun b ob q=>Znk _ q) (Znn _) ?_,rfl,q _ (I.hok.fresh (Znn _))⟩;exact ⟨Zog (Zce xs lo hi) hz,_,0,(r.drop (HT.sIx xs.length 0 lo)).take (HT.sIx xs.length xs.length hi - HT.sIx xs.length 0 lo),Znu _ rfl⟩
def Zbe:V→Bool
 | .non=>true
 | .bl _=>true
 | .int _=>true
 | .str _=>true
 | _=>false
def eqV:V→V→Bool
 | .non,.non=>true
 | .bl a,.bl b=>a == b
 | .bl a,.int b=>(if a then 1 else 0) == b
 | .int a,.bl b=>a == (if b then 1 else 0)
 | .int a,.int b=>a == b
 | .str a,.str b=>a == b
 | _,_=>false
theorem Zmd {A:Around}{s:Shared}{y x:V}{u v:Value} (ry:RelV y u) (rx:RelV x v) (fy:Zbe y=true) (fx:Zbe x=true):SeqAt.EqAt A s u v (eqV y x):=by
 cases y with
 | non=>
  cases ry;cases x with
  | non=>cases rx; exact SeqAt.EqAt.same _
  | bl b=>cases rx; exact SeqAt.EqAt.none_bool b
  | int b=>obtain ⟨t,rfl⟩:=rx; exact SeqAt.EqAt.none_int b t
  | str b=>obtain ⟨t,rfl⟩:=rx; exact SeqAt.EqAt.none_str b t
  | _=>exact absurd (show false=true from fx) ZnE
 | bl a=>
  cases ry;cases x with
  | non=>cases rx; exact SeqAt.EqAt.bool_none a
  | bl b=>cases rx; exact SeqAt.EqAt.bool_bool a b
  | int b=>obtain ⟨t,rfl⟩:=rx; exact SeqAt.EqAt.bool_int a b t
  | str b=>obtain ⟨t,rfl⟩:=rx; exact SeqAt.EqAt.bool_str a b t
  | _=>exact absurd (show false=true from fx) ZnE
 | int a=>
  obtain ⟨t',rfl⟩:=ry;cases x with
  | non=>cases rx; exact SeqAt.EqAt.int_none a t'
  | bl b=>cases rx; exact SeqAt.EqAt.int_bool a t' b
  | int b=>obtain ⟨t,rfl⟩:=rx; exact SeqAt.EqAt.int_int a t' b t
  | str b=>obtain ⟨t,rfl⟩:=rx; exact SeqAt.EqAt.int_str a t' b t
  | _=>exact absurd (show false=true from fx) ZnE
 | str a=>
  obtain ⟨t',rfl⟩:=ry;cases x with
  | non=>cases rx; exact SeqAt.EqAt.str_none a t'
  | bl b=>cases rx; exact SeqAt.EqAt.str_bool a t' b
  | int b=>obtain ⟨t,rfl⟩:=rx; exact SeqAt.EqAt.str_int a t' b t
  | str b=>obtain ⟨t,rfl⟩:=rx; exact SeqAt.EqAt.str_str a t' b t
  | _=>exact absurd (show false=true from fx) ZnE
 | _=>exact absurd (show false=true from fy) ZnE
def eqU (x:V) (u:Value):Bool:=match u with
 | .none=>eqV .non x
 | .bool b=>eqV (.bl b) x
 | .int i _=>eqV (.int i) x
 | .str z _=>eqV (.str z) x
 | _=>false
theorem ZjH {x y:V}{u:Value} (r:RelV y u) (f:Zbe y=true):eqU x u=eqV y x:=by
 cases y with
 | non=>cases r; rfl
 | bl b=>cases r; rfl
 | int i=>obtain ⟨t,rfl⟩:=r; rfl
 | str z=>obtain ⟨t,rfl⟩:=r; rfl
 | _=>exact absurd (show false=true from f) ZnE
theorem ZbC {x:V}:∀ {xs:List V}{us:List Value},ZA xs us→xs.all Zbe=true→us.any (eqU x)=xs.any fun y=>eqV y x
 | _,_,.nil,_=>rfl
 | y :: xs,u :: us,.cons r t,f=>by
  rw [List.all_cons,ZnA] at f;rw [Zp0,Zp0,ZjH r f.1,ZbC t f.2]
theorem ZaM {A:Around}{s:Shared}{x:V}{v:Value} (rx:RelV x v) (fx:Zbe x=true):∀ {xs:List V}{us:List Value},ZA xs us→xs.all Zbe=true→∀ u∈us,SeqAt.EqAt A s u v (eqU x u)
 | _,_,.nil,_=>fun u hu=>by cases hu
 | y :: xs,u :: us,.cons r t,f=>fun u' hu=>by
  rw [List.all_cons,ZnA] at f;rcases Znz.mp hu with rfl | hu
  ·rw [ZjH r f.1]; exact Zmd r rx f.1 fx
  ·exact ZaM rx fx t f.2 u' hu
def inV (x:V) (xs:List V):Bool:=xs.any fun y=>eqV y x
def rIn (K:Znj) (neg:Bool):R2:=fun x y H Q=>∃ p xs,y=.ref p∧(SqL K H p xs∨SqT K H p xs)∧Zbe x=true∧xs.all Zbe=true∧Q (.bl (if neg then !inV x xs else inV x xs)) H
theorem Zi5:OpR X (compareOp .In) (rIn X.K false):=by
 intro pins s σ H x y v u Q I rx ry h;obtain ⟨p,xs,rfl,hq,fx,fs,q⟩:=h;cases ry;rcases hq with hq | hq
 ·obtain ⟨its,r,pl,hz⟩:=I.list hq;refine SeqAt.in_listAt (eqU x) pl.isList (fun w hw=>ZaM rx fx r fs w (by simpa using hw)) ⟨.bl _,H,I,rfl,?_⟩;rw [show its.toArray.any (eqU x)=its.any (eqU x) by simp,ZbC r fs];exact q
 ·obtain ⟨its,r,pl,hz⟩:=I.tuple hq;refine SeqAt.in_tupleAt (eqU x) pl (fun w hw=>ZaM rx fx r fs w (by simpa using hw)) ⟨.bl _,H,I,rfl,?_⟩;rw [show its.toArray.any (eqU x)=its.any (eqU x) by simp,ZbC r fs];exact q
theorem Ze3:OpR X (compareOp .NotIn) (rIn X.K true):=by
 intro pins s σ H x y v u Q I rx ry h;obtain ⟨p,xs,rfl,hq,fx,fs,q⟩:=h;cases ry;rcases hq with hq | hq
 ·obtain ⟨its,r,pl,hz⟩:=I.list hq;refine SeqAt.notIn_listAt (eqU x) pl.isList (fun w hw=>ZaM rx fx r fs w (by simpa using hw)) ⟨.bl _,H,I,rfl,?_⟩;rw [show its.toArray.any (eqU x)=its.any (eqU x) by simp,ZbC r fs];exact q
 ·obtain ⟨its,r,pl,hz⟩:=I.tuple hq;refine SeqAt.notIn_tupleAt (eqU x) pl (fun w hw=>ZaM rx fx r fs w (by simpa using hw)) ⟨.bl _,H,I,rfl,?_⟩;rw [show its.toArray.any (eqU x)=its.any (eqU x) by simp,ZbC r fs];exact q
theorem Zq:YR X (.builtin "len") (fun xs H Q=>∃ p ys,xs=[.ref p]∧(SqL X.K H p ys∨SqT X.K H p ys)∧Q (.int ys.length) H):=by
 intro pins s σ H xs us Q I r h;obtain ⟨p,ys,rfl,hq,q⟩:=h;obtain ⟨u,rfl,rx⟩:=YJ r;cases rx;have hn:=Zbp;rcases hq with hq | hq
 ·obtain ⟨its,r',pl,hz⟩:=I.list hq;have hlen:=r'.length;exact Calls.call_len_list pl.isList (by simp only [Zny] <;> omega) ⟨.int ys.length,H,I.tok _,⟨s.toks+1,by rw [Zny,hlen]⟩,q⟩
 ·obtain ⟨its,r',pl,hz⟩:=I.tuple hq;have hlen:=r'.length;exact len_tuple pl (by simp only [Zny] <;> omega) ⟨.int ys.length,H,I.tok _,⟨s.toks+1,by rw [Zny,hlen]⟩,q⟩
theorem Zs:YR X (.builtin "len") (fun xs H Q=>∃ z,xs=[.str z]∧z.length≤sizeLine∧Q (.int z.length) H):=by
 intro pins s σ H xs us Q I r h;obtain ⟨z,rfl,hz,q⟩:=h;obtain ⟨u,rfl,t,rfl⟩:=YJ r;have hn:=Zbp;exact len_str (by omega) ⟨.int z.length,H,I.tok _,⟨_,rfl⟩,q⟩
theorem Z4:YR X (.type "list") (fun xs H Q=>∃ p ys,xs=[.ref p]∧(SqL X.K H p ys∨SqT X.K H p ys)∧∀ l,H l=none→Q (.ref l) (upd H l (.lst ys))):=by
 intro pins s σ H xs us Q I r h;obtain ⟨p,ys,rfl,hq,q⟩:=h;obtain ⟨u,rfl,rx⟩:=YJ r;cases rx;have fin:∀ (its:List Value),ZA ys its→ys.length≤sizeLine→∀ (h':Heap) (c':Nat),(∀ b o',s.heap.get? b=some o'→h'.get? b=some o')→
   h'.get? s.heap.objs.size=some { cls:=.type "list",dict:=none,data:=.seq its.toArray c',slots:=#[] }→EP X pins σ Q (.ref s.heap.objs.size) { s with heap:=h' }:=fun its r' hz h' c' kp e=>
  ⟨.ref s.heap.objs.size,_,I.laid (t':=s.toks) kp (Znn _) (show Yh X.prog X.w _ h' _ (.lst ys) from ⟨hz,its,c',r',e⟩),rfl,q _ (I.hok.fresh (Znn _))⟩
 rcases hq with hq | hq
 ·obtain ⟨its,r',pl,hz⟩:=I.list hq;have hlen:=r'.length;obtain ⟨o,ho,hc,n,hd⟩:=pl.isList;exact call_list_seq p (.inl rfl) ho hc hd (fun h' c' kp e=>fin its r' hz h' c' kp e) (by simp only [Zny] <;> omega)
 ·obtain ⟨its,r',pl,hz⟩:=I.tuple hq;have hlen:=r'.length;obtain ⟨o,ho,hc,n,hd⟩:=pl;exact call_list_seq p (.inr rfl) ho hc hd (fun h' c' kp e=>fin its r' hz h' c' kp e) (by simp only [Zny] <;> omega)
def tyV (K:Znj) (T:String) (x:V) (H:Hp):Prop:=match x with
 | .str _=>T="str"
 | .int _=>T="int"
 | .ref p=>(T="list"∧∃ xs,SqL K H p xs)∨(T="tuple"∧∃ o,K.lookup p=some o∧o.cls=.type "tuple"∧o.dict=none)∨
   (T="dict"∧((∃ kvs,H p=some (.dK kvs))∨∃ kvs,H p=some (.dT kvs)))∨(T="set"∧∃ S n,H p=some (.set S n))
 | _=>False
theorem ZkR {pins:List (Addr × Obj)}{σ:St}{H:Hp}{s:Shared}{T:String}{x:V}{v:Value} (I:Inv X pins σ H s) (r:RelV x v) (ty:tyV X.K T x H):
  s.TypeIs v T∧∀ a,v=.ref a→∃ ob,s.heap.get? a=some ob∧ob.dict=none:=by
 cases x with
 | str z=>
  obtain ⟨t,rfl⟩:=r;cases (show T="str" from ty);exact ⟨typeIs_str s z t,fun _ e=>nomatch e⟩
 | int i=>
  obtain ⟨t,rfl⟩:=r;cases (show T="int" from ty);exact ⟨typeIs_int s i t,fun _ e=>nomatch e⟩
 | ref p=>
  cases r;rcases ty with ⟨rfl,xs,hq⟩ | ⟨rfl,o,hk,hc,hd⟩ | ⟨rfl,hk⟩ | ⟨rfl,S,n,hk⟩
  ·obtain ⟨its,_,pl,_⟩:=I.list hq;refine ⟨pl.isList.typeIs,fun a e=>?_⟩;cases e;obtain ⟨o,n,e,c,hd,_⟩:=pl;exact ⟨o,e,hd⟩
  ·refine ⟨⟨o,I.kIn p o hk,hc⟩,fun a e=>?_⟩;cases e;exact ⟨o,I.kIn _ o hk,hd⟩
  ·have z:∃ o,s.heap.get? p=some o∧o.ExactDict:=by
    rcases hk with ⟨kvs,hk⟩ | ⟨kvs,hk⟩
    ·obtain ⟨_,_,_,_,o,_,_,e,ex,_⟩:=I.hok p _ hk;exact ⟨o,e,ex⟩
    ·obtain ⟨_,_,_,_,o,_,_,e,ex,_⟩:=I.hok p _ hk;exact ⟨o,e,ex⟩
   obtain ⟨o,e,ex⟩:=z;refine ⟨⟨o,e,ex.1⟩,fun a e2=>?_⟩;cases e2;exact ⟨o,e,ex.2.1⟩
  ·obtain ⟨o,_,_,_,e,ex,_⟩:=I.hok p _ hk;refine ⟨⟨o,e,ex.1⟩,fun a e2=>?_⟩;cases e2;exact ⟨o,e,ex.2.1⟩
 | _=>exact False.elim ty
def tBM0 (K:Znj) (T:String) (r:V→List V→Hp→VK→Prop) (to:TE):TE:=fun σ H Q=>to σ H fun x H1=>tyV K T x H1∧r x [] H1 Q
def tBM (K:Znj) (T:String) (r:V→List V→Hp→VK→Prop) (to:TE) (t:TA):TE:=fun σ H Q=>to σ H fun x H1=>tyV K T x H1∧t σ H1 fun xs H2=>r x xs H2 Q
variable {o e:Expr}{es:List Expr}{to:TE}{t:TA}{name:Str}{apos cpos:Pos}{T id:String}{r:V→List V→Hp→VK→Prop}
theorem Zg7 (pa:PlainAttrs T) (slot:Slot T name id) (hty:typeOf (.builtin id)=pure (.type "method_descriptor")) (hm:MtR X id r) (ho:PE X o to)
  (hbase:attributeBase o name X.env (eval o X.env)=eval o X.env:=by rfl) (hline:(apos.endLine == cpos.line)=true:=by rfl):PE X (.Call (.Attribute o name apos) [] [] cpos) (tBM0 X.K T r to):=by
 intro pins s σ H Q I h;refine wpAny_Call_method0_late hbase hline (thn (ho pins s σ H _ I h) fun v s1 qz=>?_);obtain ⟨x,H1,I1,r1,ty,q1⟩:=qz;obtain ⟨h1,h2⟩:=ZkR I1 r1 ty;exact ⟨T,id,pa,slot,hty,h1,h2,Calls.callWith_builtin rfl (Zrm (hm pins s1 σ H1 x [] v [] Q I1 r1 .nil q1))⟩
theorem Yx (pa:PlainAttrs T) (slot:Slot T name id) (hty:typeOf (.builtin id)=pure (.type "method_descriptor")) (hm:MtR X id r) (ho:PE X o to) (ha:PA X (e :: es) t)
  (hbase:attributeBase o name X.env (eval o X.env)=eval o X.env:=by rfl)
  (hfew:((backTo cpos (starEach (e :: es) X.env)).all (fun x=>!x.1) && (backToKw cpos (keywordEach [] X.env)).all (fun x=>x.1.isSome)
   && decide ((e :: es).length+([]:List Keyword).length+(if ([]:List Keyword).isEmpty then 0 else 1) < 30))=true:=by rfl)
  (hline:(apos.endLine == cpos.line)=true:=by rfl) (hs:starEach (e :: es) X.env=(false,eval e X.env) :: starEach es X.env:=by rfl) (hplain:(backTo cpos (starEach es X.env)).any (·.1)=false:=by rfl):
  PE X (.Call (.Attribute o name apos) (e :: es) [] cpos) (tBM X.K T r to t):=by
 intro pins s σ H Q I h;refine wpAny_Call_method_late hbase hfew hline rfl (thn (ho pins s σ H _ I h) fun v s1 qz=>?_);obtain ⟨x,H1,I1,r1,ty,q1⟩:=qz;obtain ⟨h1,h2⟩:=ZkR I1 r1 ty;refine ⟨T,id,pa,slot,hty,h1,h2,?_⟩;have hA:=ha cpos pins s1 σ H1 _ I1 q1;rw [hs] at hA ⊢;refine Calls.callWith_builtin (by show (false || (backTo cpos (starEach es X.env)).any (·.1))=false; rw [hplain] <;> rfl) (Calls.evalArgs_plain ?_);exact thn hA fun us s2 ⟨vs,H2,I2,r2,q2⟩=>hm pins s2 σ H2 x vs v us Q I2 r1 r2 q2
end
def MtM (X:Cx) (id:String) (r:V→List V→Hp→VK→Prop):Prop:=
 ∀ (pins:List (Addr × Obj)) (s:Shared) (σ:St) (H:Hp) (x:V) (xs:List V) (v:Value) (us:List Value) (Q:VK),Inv X pins σ H s→RelV x v→ZA xs us→r x xs H Q→
  wpAny (model X.prog X.w) X.A (call (.builtin id) (v :: us)) (EP X pins σ Q) X.xe s
theorem ZA.one {x:V}{us:List Value} (h:ZA [x] us):∃ u,us=[u]∧RelV x u:=by
 cases h with
 | cons r q=>
  cases q;exact ⟨_,rfl,r⟩
theorem ZA.two {x y:V}{us:List Value} (h:ZA [x,y] us):∃ u v,us=[u,v]∧RelV x u∧RelV y v:=by
 cases h with
 | cons r q=>
  obtain ⟨v,rfl,q1⟩:=ZA.one q;exact ⟨_,_,rfl,r,q1⟩
theorem ZA.zero:∀ {us:List Value},ZA [] us→us=[]
 | _,.nil=>rfl
theorem ZA.dropLast {xs:List V}{us:List Value} (h:ZA xs us):ZA xs.dropLast us.dropLast:=by
 induction h with
 | nil=>exact .nil
 | cons r t ih=>
  cases t with
  | nil=>exact .nil
  | cons q t'=>exact .cons r ih
theorem ZA.reverse {xs:List V}{us:List Value} (h:ZA xs us):ZA xs.reverse us.reverse:=by
 induction h with
 | nil=>exact .nil
 | cons r t ih=>rw [Zqr,Zqr]; exact ZA.append ih (.cons r .nil)
theorem ZA.rep {xs:List V}{us:List Value} (h:ZA xs us):∀ k:Nat,ZA (ZnL k xs).flatten (ZnL k us).flatten
 | 0=>.nil
 | k+1=>by
  rw [Zom,Zom,Zos,Zos];exact ZA.append h (ZA.rep h k)
theorem ZgF {α:Type} (l:List α):l.eraseIdx (l.length - 1)=l.dropLast:=by
 induction l with
 | nil=>rfl
 | cons a r ih=>
  cases r with
  | nil=>rfl
  | cons b r=>
   have e:(a :: b :: r).length - 1=((b :: r).length - 1)+1:=by
    have h1:(a :: b :: r).length=r.length+2:=rfl;have h2:(b :: r).length=r.length+1:=rfl;omega
   rw [e,List.eraseIdx_cons_succ,ih];all_goals rfl
theorem Zed (its:List Value):∀ (k:Nat) (acc:List Value),
  List.foldl (fun x1 x2=>x1++x2) acc.toArray (ZnL k its.toArray)=(acc++(ZnL k its).flatten).toArray
 | 0,acc=>by simp
 | k+1,acc=>by
  have e:acc.toArray++its.toArray=(acc++its).toArray:=by simp
  have e2:(acc++its)++(ZnL k its).flatten=acc++(ZnL (k+1) its).flatten:=by
   rw [Zom,Zos,ZnO]
  rw [←e2,←Zed its k (acc++its),←e,Zom,Zov]
section
variable {X:Cx}{pins:List (Addr × Obj)}{σ:St}{H:Hp}{s:Shared}{l b:Addr}{xs ys zs:List V}
theorem Inv.lset {its its':List Value}{n:Nat}{f:Array Value→Array Value}{t':Nat} (I:Inv X pins σ H s) (hH:H l=some (.lst xs))
  (e:s.heap.get? l=some { cls:=.type "list",data:=.seq its.toArray n }) (hf:f its.toArray=its'.toArray) (hv:ZA ys its') (hz:ys.length≤sizeLine):
  Inv X pins σ (upd H l (.lst ys)) { s with heap:=s.heap.update l (Obj.mapSeq f),toks:=t' }:=by
 have q:=PySem.IsL.update e f;rw [hf] at q;refine I.write (x:=l) (e:=l) (by rw [hH]; exact trivial) (.inl rfl) (fun b' u hb hu=>(Zn7 s.heap (Obj.mapSeq f) (Ne.symm hb)).trans hu) ⟨_,q⟩ ?_;exact ⟨hz,its',_,hv,q⟩
theorem Inv.lnew {its:List Value}{t':Nat} (I:Inv X pins σ H s) (hv:ZA ys its) (hz:ys.length≤sizeLine):
  Inv X pins σ (upd H s.heap.objs.size (.lst ys)) { s with heap:=s.heap.push { cls:=.type "list",data:=.seq its.toArray },toks:=t' }:=
 I.laid (fun _ _ q=>Znk _ q) (Znn _) ⟨hz,its,0,hv,Znu _ rfl⟩
theorem Inv.fresh (I:Inv X pins σ H s):H s.heap.objs.size=none:=I.hok.fresh (Znn _)
theorem Inv.lstM (I:Inv X pins σ H s) (hH:H l=some (.lst xs)):xs.length≤sizeLine∧∃ (its:List Value) (n:Nat),ZA xs its∧xs.length=its.length∧s.heap.get? l=some { cls:=.type "list",data:=.seq its.toArray n }:=by
 obtain ⟨z,its,n,r,e⟩:=I.hok l _ hH;exact ⟨z,its,n,r,r.length,e⟩
theorem Zf1 {n:Nat} (h:n≤sizeLine):Builtin.List.listTooLong n=false:=by
 unfold Builtin.List.listTooLong;exact decide_eq_false (by omega)
end
section
variable {X:Cx}
def Zfc:V→List V→Hp→VK→Prop:=fun x vs H Q=>∃ l xs y,x=.ref l∧vs=[y]∧H l=some (.lst xs)∧xs.length < sizeLine∧Q .non (upd H l (.lst (xs++[y])))
theorem Z7:MtM X "list.append" Zfc:=by
 intro pins s σ H x vs v us Q I rx rv h;obtain ⟨l,xs,y,rfl,rfl,hH,hz,q⟩:=h;cases rx;obtain ⟨u,rfl,ru⟩:=rv.one;obtain ⟨z,its,n,r,hl,e⟩:=I.lstM hH;refine call_meets F.slot_list_append ⟨_,e,rfl⟩ F.entry_list_append (F.args_list_append_2 _ _) (PySem.list_append l its.toArray n u (by rw [Zny]; omega)) ⟨e,?_⟩;refine ⟨.non,_,I.lset (its':=its++[u]) hH e (by simp) (r.append (.cons ru .nil)) ?_,rfl,q⟩;rw [Znl,ZnT];omega
def ZlE:V→List V→Hp→VK→Prop:=fun x vs H Q=>∃ l b xs zs,x=.ref l∧vs=[.ref b]∧H l=some (.lst xs)∧H b=some (.lst zs)∧xs.length+zs.length≤sizeLine∧Q .non (upd H l (.lst (xs++zs)))
theorem Zeh:MtM X "list.extend" ZlE:=by
 intro pins s σ H x vs v us Q I rx rv h;obtain ⟨l,b,xs,zs,rfl,rfl,hH,hB,hz,q⟩:=h;cases rx;obtain ⟨u,rfl,ru⟩:=rv.one;cases ru;obtain ⟨z,its,n,r,hl,e⟩:=I.lstM hH;obtain ⟨z2,its2,n2,r2,hl2,e2⟩:=I.lstM hB;have hsz:its.toArray.size+its2.toArray.size≤sizeLine:=by rw [Zny,Zny]; omega
 have hlong:¬ (!its.toArray.isEmpty && Builtin.List.listTooLong (its.toArray.size+its2.toArray.size))=true:=by
  rw [Zf1 hsz,Bool.and_false];exact ZnE
 refine call_meets F.slot_list_extend ⟨_,e,rfl⟩ F.entry_list_extend (F.args_list_extend_2 _ _)
  (AutoSeq1.list_extend_list_list_0 l its.toArray n b its2.toArray n2 hlong (by rw [Zny]; omega) (by omega)) ⟨e,e2,?_⟩
 refine ⟨.non,_,I.lset (its':=its++its2) hH e (by simp) (r.append r2) ?_,rfl,q⟩;rw [Znl];omega
def rPop:V→List V→Hp→VK→Prop:=fun x vs H Q=>∃ l xs y,x=.ref l∧vs=[]∧H l=some (.lst xs)∧xs[xs.length - 1]?=some y∧Q y (upd H l (.lst xs.dropLast))
theorem Zj1:MtM X "list.pop" rPop:=by
 intro pins s σ H x vs v us Q I rx rv h;obtain ⟨l,xs,y,rfl,rfl,hH,hy,q⟩:=h;cases rx;have hus:=rv.zero;subst hus;obtain ⟨z,its,n,r,hl,e⟩:=I.lstM hH;obtain ⟨u,hu,ru⟩:=r.get hy;have hy':its.toArray[its.toArray.size - 1]?=some u:=by
  show its.toArray[its.length - 1]?=some u;rw [←ZnY,←hl];exact hu
 refine call_meets F.slot_list_pop ⟨_,e,rfl⟩ F.entry_list_pop (F.args_list_pop_1 _) (MeetsSeq.list_pop_last l its.toArray n u hy' (by rw [Zny]; omega)) ⟨e,?_⟩;refine ⟨y,_,I.lset (its':=its.dropLast) hH e ?_ r.dropLast ?_,ru,q⟩
 ·show its.toArray.eraseIdxIfInBounds (its.toArray.size - 1)=its.dropLast.toArray;rw [Zny,List.eraseIdxIfInBounds_toArray,ZgF]
 ·rw [List.length_dropLast];omega
def Zks:V→List V→Hp→VK→Prop:=fun x vs H Q=>∃ l xs,x=.ref l∧vs=[]∧H l=some (.lst xs)∧Q .non (upd H l (.lst xs.reverse))
theorem Zg0:MtM X "list.reverse" Zks:=by
 intro pins s σ H x vs v us Q I rx rv h;obtain ⟨l,xs,rfl,rfl,hH,q⟩:=h;cases rx;have hus:=rv.zero;subst hus;obtain ⟨z,its,n,r,hl,e⟩:=I.lstM hH;refine call_meets F.slot_list_reverse ⟨_,e,rfl⟩ F.entry_list_reverse (F.args_list_reverse_1 _) (AutoSeq1.list_reverse_list_0 l its.toArray n (by rw [Zny]; omega)) ⟨e,?_⟩;refine ⟨.non,_,I.lset (its':=its.reverse) hH e (by simp) r.reverse ?_,rfl,q⟩;rw [Zoa];omega
def rCat:R2:=fun x y H Q=>∃ l b xs zs,x=.ref l∧y=.ref b∧H l=some (.lst xs)∧H b=some (.lst zs)∧xs.length+zs.length≤sizeLine∧∀ p,H p=none→Q (.ref p) (upd H p (.lst (xs++zs)))
theorem ZaO:OpR X (binaryOp .Add) rCat:=by
 intro pins s σ H x y v u Q I rx ry h;obtain ⟨l,b,xs,zs,rfl,rfl,hH,hB,hz,q⟩:=h;cases rx;cases ry;obtain ⟨z,its,n,r,hl,e⟩:=I.lstM hH;obtain ⟨z2,its2,n2,r2,hl2,e2⟩:=I.lstM hB;refine PySem.P.add_list e e2 ?_ (by rw [Zny,Zny]; omega);have ea:its.toArray++its2.toArray=(its++its2).toArray:=by simp
 rw [ea];exact ⟨.ref _,_,I.lnew (t':=s.toks) (r.append r2) (by rw [Znl]; omega),rfl,q _ I.fresh⟩
def rRep:R2:=fun x y H Q=>∃ l k xs,x=.ref l∧y=.int k∧H l=some (.lst xs)∧-(2 ^ 63)≤k∧k < 2 ^ 63∧xs.length * k.toNat≤sizeLine∧
 ∀ p,H p=none→Q (.ref p) (upd H p (.lst (ZnL k.toNat xs).flatten))
theorem Zk7 {α:Type} (xs:List α) (k:Nat):(ZnL k xs).flatten.length=k * xs.length:=by
 induction k with
 | zero=>simp
 | succ k ih=>rw [Zom,Zos,Znl,ih,Nat.succ_mul,Nat.add_comm]
theorem Zmq:OpR X (binaryOp .Mult) rRep:=by
 intro pins s σ H x y v u Q I rx ry h;obtain ⟨l,k,xs,rfl,rfl,hH,h1,h2,hz,q⟩:=h;cases rx;obtain ⟨t,rfl⟩:=ry;obtain ⟨z,its,n,r,hl,e⟩:=I.lstM hH;have hlen:its.toArray.size * k.toNat≤sizeLine:=by rw [Zny,←hl]; exact hz
 have hcap:¬ its.toArray.size * k.toNat > (2 ^ 63 - 1) / 8:=by
  have:(sizeLine:Nat)≤(2 ^ 63 - 1) / 8:=by decide
  omega
 have hfit:¬ (!Builtin.List.listFitsIndex k)=true:=by
  rw [fitsIndex_both h1 h2];exact ZnE
 have hlong:¬ Builtin.List.listTooLong (its.toArray.size * k.toNat)=true:=by
  rw [Zf1 hlen];exact ZnE
 have hnew:List.foldl (fun x1 x2=>x1++x2) #[] (ZnL (if its.toArray.isEmpty=true then 0 else k.toNat) its.toArray)=(ZnL k.toNat its).flatten.toArray:=by
  have f0:∀ m:Nat,List.foldl (fun x1 x2=>x1++x2) #[] (ZnL m its.toArray)=(ZnL m its).flatten.toArray:=fun m=>by
   have:=Zed its m [];rw [Zq1] at this;exact this
  rw [f0];cases its with
  | nil=>simp
  | cons a r'=>rw [if_neg (by simp)]
 refine wpAny_binaryOp_repeat_ref (T:="list") (U:="int") (by decide) ⟨_,e,rfl⟩ (fun s'=>typeIs_int s' k t) noFill_list_mul F.fills_int_mul F.slot_int_rmul repeat_list F.slot_int_index.lookup
  (call_meets F.slot_int_rmul (typeIs_int s k t) F.entry_int_rmul (F.args_int_rmul_2 _ _) (int___rmul___int_list k t l its.toArray n)
   ⟨e,rfl,⟨_,e,rfl⟩,call_meets F.slot_list_mul ⟨_,e,rfl⟩ F.entry_list_mul (F.args_list_mul_2 _ _) (AutoListH.list___mul___list_int_3 l its.toArray n k t hfit hcap hlong) ⟨e,?_⟩⟩)
 rw [hnew];exact ⟨.ref _,_,I.lnew (t':=s.toks) (r.rep k.toNat) (by rw [Zk7,Nat.mul_comm]; exact hz),rfl,q _ I.fresh⟩
end
end L2
namespace Att
open PySem PySem.W PySem.Calls PyProof.Rows
theorem Zct {P:Params}{h:Heap}:∀ (ns:List Int) (vs:List Value),WellAll P h vs (ns.map WData.int)→IntsAre vs ns:=by
 intro ns;induction ns with
 | nil=>
  intro vs w;rw [Zqg] at w;cases w;exact .nil
 | cons n ns ih=>
  intro vs w;rw [ZnN] at w;cases w with
  | cons a b=>
   cases a;exact .cons _ _ (ih _ b)
theorem Zjg {l:OpenLaw}{n:Nat} (hn:l.most=some n) {P:Params}{h:Heap}{args:List WData}{vals:List Value}
  (hpre:l.row.toRowW.claim.pre args=true) (hwl:WellAll P h vals args):
  ∃ a vs ns,vals=[Value.ref a]∧args=[WData.list (ns.map WData.int)]∧h.get? a=some { cls:=.type "list",data:=.seq vs.toArray }∧IntsAre vs ns∧ns.length≤n:=by
 have hsh:WShape.hasAll [] args [.list .int]=true:=(pre_splitW hpre).1;have hc:l.pre.holds [] { args:=args }=true:=(pre_splitW hpre).2;obtain ⟨d,r,rfl,h1,h2⟩:=hasAllW_cons hsh;obtain rfl:=hasAllW_nil h2;obtain ⟨xs,rfl,h3⟩:=hasW_list h1;obtain ⟨ns,rfl⟩:=items_int h3;have hlen:ns.length≤n:=by
  unfold OpenLaw.pre at hc;have h4:(WTm.not (.lt (.lit (.int (n:Int))) (.len (.arg 0)))).holds [] { args:=[.list (ns.map .int)] }=true:=by
   have h4:=(holds_andW hc).1;rw [hn] at h4;exact h4
  have h5:=condW_of h4 (w_not (w_lt w_lit (w_len_list (w_arg rfl))));rw [Zni] at h5;refine Nat.le_of_not_lt fun q=>?_;have q':(n:Int) < ((ns.length:Nat):Int):=by omega
  first
   | (rw [decide_eq_true q'] at h5; exact absurd h5 (by decide))
   | (simp at h5; omega)
 cases hwl with
 | cons w1 w2=>
  cases w2;cases w1 with
  | list ho hall=>exact ⟨_,_,ns,rfl,rfl,ho,Zct ns _ hall,hlen⟩
theorem Zja (l:OpenLaw) (args:List WData):l.row.toRowW.claim.post args (.bool true) args=true:=
 postW_of (r:=l.row.toRowW) (X:=(true == true))
  (show WShape.has [] (.bool true) .bool=true by first | rfl | decide | simp [WShape.has,WShape.arms,WShape.armsAll])
  (show (WTm.eq .res (.lit (.bool true))).value [] { args:=args,res:=some (.bool true),after:=args }=some (.bool (true == true)) from w_eq_bool (w_res rfl) w_lit) rfl
theorem attach_call {l:OpenLaw}{n:Nat}{q:Program}{loose:List Str}{XP:(Str→Option Value)→Heap→Prop}{YP:World→Heap→Prop}{d:DefRec}
  (hn:l.most=some n) (hdf:d.params.defaults=[])
  (call:∀ (w:World) (s₀ s₁:Shared) (mg mb:Str→Option Value) (fa:Addr) (o:Obj) (pm cd doc:Value) (a:Addr) (vs:List Value) (ns:List Int),
   Ground q loose [] XP w s₀ mg mb s₁.heap→YP w s₁.heap→
   s₁.heap.get? fa=some o→o.data=.func (docDef d.name d.params d.body d.scope pm cd doc)→s₁.heap.CodeRec cd d.name→mg d.name=some (.ref fa)→
   s₁.heap.get? a=some { cls:=.type "list",data:=.seq vs.toArray }→IntsAre vs ns→ns.length≤n→s₁.gens=#[]→
   codeAny (model l.prog w) callerA (.call (.ref fa) ⟨[.ref a],[]⟩) (fun r s'=>r=.ok (.ret (.bool true))∧OldK s₁.heap s'.heap∧s'.os=s₁.os∧AllBare s'.gens) s₁):
  WalkO q loose XP YP l.row.toRowW d [] (fun f vs=>PySem.call f vs):=by
 intro w s₀ s₁ mg mb G Y fa o pm cd doc dV kV ho hd hcd hD hmg hg args vals as hpre hlay hrd hwl hlo;obtain rfl:dV=.none:=Dflts.none hD hdf;obtain rfl:kV=.none:=Dflts.noKw hD;obtain ⟨a,vs,ns,rfl,rfl,hobj,hints,hlen⟩:=Zjg hn hpre hwl;refine enter_call (codeAny_mono (call w s₀ s₁ mg mb fa o pm cd doc a vs ns G Y ho (fd_plain hd) hcd hmg hobj hints hlen hg) fun r s' hq=>?_);obtain ⟨rfl,h2,h3,h4⟩:=hq;exact ⟨.inl ⟨.bool true,.bool true,[],rfl,fun _=>rfl,.bool true,Zja l _,fun _=>⟨List.Pairwise.nil,fun _ hm=>(nomatch hm)⟩⟩,h2,h3,h4⟩
end Att
namespace L2
open PySem PySem.Spec PyProof.Rows
theorem Zca:∀ {vs:List Value}{ns:List Int},IntsAre vs ns→ZA (ns.map V.int) vs
 | _,_,.nil=>.nil
 | _,_,.cons n t h=>.cons ⟨t,rfl⟩ (Zca h)
def Yw (s:Stmt) (j:Nat):Stmt:=match s with
 | .ClassDef _ _ _ body _ _ _ _ _ _ _=>body.getD j (.Pass ⟨0,0,0,0⟩)
 | _=>.Pass ⟨0,0,0,0⟩
def YX (s:Stmt):Arguments:=match s with
 | .FunctionDef _ a _ _ _ _ _ _ _ _=>a
 | _=>{ posonlyargs:=[],args:=[],vararg:=none,kwonlyargs:=[],kw_defaults:=[],kwarg:=none,defaults:=[] }
def YB (s:Stmt):List Stmt:=match s with
 | .FunctionDef _ _ b _ _ _ _ _ _ _=>b
 | _=>[]
def Zf (s:Stmt):Scope:=match s with
 | .FunctionDef _ _ _ _ _ _ sc _ _ _=>sc
 | _=>{ kind:=.function,names:=[],isGenerator:=false,isCoroutine:=false }
abbrev CX0:CXT:=fun _ _ _ _ _ _=>False
abbrev E0:XK:=fun _ _ _=>False
theorem Zm {X:Cx}:Zao CX0 X E0:=fun _ _ _ _ _ _ _ h=>h.elim
structure Fun (K:Znj) (x qual:Str) (st:Stmt) (f:Addr) (fd:FuncData):Prop where
 ex:∃ (oc:Value) (od:Option Addr) (kV doc pm:Value) (an:Option Addr) (cdv ct:Value) (osl:Array (Option Value)),
  fd=Zop x qual (YX st) (YB st) (Zf st) .none kV doc pm an cdv ct∧K.lookup f=some ⟨oc,od,.func fd,osl⟩∧Zo5 K cdv qual=true
 kp:Zoj K (.ref f)=true
section
variable {P:Program}{w:World}{K:Znj}{mg:Str→Option Value}{base:Heap}
theorem Fun.ok {x qual:Str}{st:Stmt}{f:Addr}{fd:FuncData}{N ps:List Str}{k:Nat}{sp:Sp} (F:Fun K x qual st f fd) (S:Zn N ps (Zf st)) (len:∀ vs H Q E,sp vs H Q E→vs.length=ps.length)
  (hbody:∀ (cdv:Value) (A:Around) (outer:List Env) (s:Shared) (H:Hp) (vs:List V) (Q:VK) (E:XK),ZR k (A.deeper (envOfC qual (Zf st) s.heap.objs.size f cdv))→sp vs H Q E→
   ∃ t,PSs (ZH CX0 P w K mg base N qual (Zf st) f cdv A outer s H E).nox (YB st) t∧t { nx:=fun _ H'=>Q .non H',rt:=Q } (Zbh N vs) H):Ym P w K mg base CX0 (k+1) f fd ps sp:=by
 obtain ⟨oc,od,kV,doc,pm,an,cdv,ct,osl,rfl,lk,hcd⟩:=F.ex;refine ZjI lk hcd S len fun A outer s H vs Q E hr hsp=>?_;obtain ⟨t,h,q⟩:=hbody cdv A outer s H vs Q E hr hsp;exact ⟨t,h.nox,q⟩
theorem Fun.binds {x qual:Str}{st:Stmt}{f:Addr}{fd:FuncData}{ps:List Str} (F:Fun K x qual st f fd)
  (h:∀ (kV doc pm:Value) (an:Option Addr) (cdv ct:Value) (us:List Value),us.length=ps.length→bindArgs (Zop x qual (YX st) (YB st) (Zf st) .none kV doc pm an cdv ct) ⟨us,[]⟩=pure (ps.zip us)):Jc K fd ps []:=by
 obtain ⟨oc,od,kV,doc,pm,an,cdv,ct,osl,rfl,lk,hcd⟩:=F.ex;exact .all (h kV doc pm an cdv ct)
theorem Zc1 {x qual:Str}{st:Stmt}{f:Addr}{oc:Value}{od an:Option Addr}{osl:Array (Option Value)}{kV doc pm cdv ct:Value} (l:K.lookup f=some ⟨oc,od,.func (Zop x qual (YX st) (YB st) (Zf st) .none kV doc pm an cdv ct),osl⟩)
  (c:Zo5 K cdv qual=true) (k:Zoj K (.ref f)=true):Fun K x qual st f (Zop x qual (YX st) (YB st) (Zf st) .none kV doc pm an cdv ct):=⟨⟨oc,od,kV,doc,pm,an,cdv,ct,osl,rfl,l,c⟩,k⟩
end
theorem Zbf {A:Around}{k:Nat} (hr:ZR k A):A.units+1 < cLine:=ZoJ (Zrj (by decide:1≤64) _) hr.units
section
variable {X:Cx}
theorem pv (i:Nat) {x:Str}{pos:Pos} (hN:X.N[i]?=some x:=by rfl) (hv:Vis X.env.scope x:=by first | exact Or.inl rfl | exact Or.inr (Or.inl rfl) | exact Or.inr (Or.inr rfl)) (hd:(x == ("__debug__":Str))=false:=by decide)
  (hcd:(x == ("__classdict__":Str))=false:=by decide):PE X (.Name x pos) (Zbc i):=Zmv hN hv hd hcd
theorem Zij:YR X (.builtin "len") (fun xs H Q=>∃ a kvs,xs=[V.ref a]∧H a=some (.dK kvs)∧Q (.int kvs.length) H):=by
 intro pins s σ H xs us Q I r h;obtain ⟨a,kvs,rfl,ha,q⟩:=h;obtain ⟨u,rfl,ru⟩:=YJ r;cases ru;exact ZmU I (.inl ha) fun t s' I'=>⟨.int kvs.length,H,I',⟨t,rfl⟩,q⟩
end
theorem Z8 {A B:Prop} (h:B):if false=true then A else B:=by
 rw [if_neg ZnE];exact h
theorem Yi {A B:Prop} (h:A):if true=true then A else B:=by
 rw [if_pos rfl];exact h
def Same (H H':Hp):Prop:=∀ b o,H b=some o→H' b=some o
section
variable {κ:Type} [DecidableEq κ]
theorem ZlP {kvs:List (κ × V)}{k:κ}{v:V} (h:Yn kvs k=some v):k∈kvs.map (·.1):=by
 have q:(kvs.any fun kv=>decide (kv.1=k))=true:=by
  rw [JT,h];all_goals rfl
 obtain ⟨p,hp,e⟩:=Zox.mp q;exact Znm.mpr ⟨p,hp,of_decide_eq_true e⟩
end
end L2
namespace Tw
open PySem
abbrev W:=List Nat
def st (l:W):Str:=⟨l.toArray⟩
theorem Zhl (l:W):(st l).cps.toList=l:=rfl
theorem ZdI (x:Str):st x.cps.toList=x:=by cases x; rfl
theorem st_inj {a b:W} (h:st a=st b):a=b:=by
 have:=congrArg (fun s:Str=>s.cps.toList) h;exact this
theorem Zh5 {a b:W}:st a=st b↔a=b:=⟨st_inj,fun h=>by rw [h]⟩
theorem st_len (l:W):(st l).length=l.length:=by simp [st,Str.length]
theorem Zb8 (a b:W):st a++st b=st (a++b):=by
 show (⟨a.toArray++b.toArray⟩:Str)=_;simp [st]
theorem Zjj (x y:W):Txt.startswith (st x) (st y)=y.isPrefixOf x:=by
 unfold Txt.startswith Builtin.Str.subAt;rw [st_len,st_len];simp only [ZoN,st];rw [ZnW,ZnA,decide_eq_true_iff,Zph,beq_iff_eq];constructor
 ·rintro ⟨h1,h2⟩;have h3:=congrArg Array.toList h2;rw [ZqC];simpa using h3.symm
 ·intro h;refine ⟨h.length_le,?_⟩;have h3:=ZqC.mp h;apply Array.ext';simpa using h3.symm
theorem takeWhile_len_all {p:Nat→Bool}:∀ {l:W},(l.takeWhile p).length=l.length→∀ c∈l,p c=true
 | [],_,_,h=>nomatch h
 | a :: l,e,c,h=>by
  rw [ZoQ] at e;split at e
  ·rename_i hp;rcases Znz.mp h with rfl | h
   ·exact hp
   ·exact takeWhile_len_all (by simpa using e) c h
  ·simp at e
theorem takeWhile_all {p:Nat→Bool}:∀ {l:W},(∀ c∈l,p c=true)→l.takeWhile p=l
 | [],_=>rfl
 | a :: l,h=>by rw [ZoQ,h a ZnF]; simp [takeWhile_all fun c hc=>h c (ZnC _ hc)]
theorem takeWhile_le {p:Nat→Bool} (l:W):(l.takeWhile p).length≤l.length:=(List.takeWhile_sublist p).length_le
theorem ZdL {x:W}{i j:Nat}:Builtin.Str.strSub (st x) i j=st []↔min j x.length≤i:=by
 unfold Builtin.Str.strSub st;constructor
 ·intro h;have:=congrArg (fun s:Str=>s.cps.toList.length) h;simp at this;omega
 ·intro h;congr 1;apply Array.ext';apply ZnU;simp;omega
theorem Zji (x y:W):(Txt.lstripChars (st x) (st y)=st [])↔∀ c∈x,c∈y:=by
 unfold Txt.lstripChars Txt.stripBy stripSame stripped stripLo stripHi;simp only [if_true,ZoI,if_false,st_len,Zhl];have hc:∀ c,(st y).cps.contains c=true↔c∈y:=fun c=>by simp [st]
 split
 ·rename_i h;have h0:(x.takeWhile (st y).cps.contains).length=0:=by simpa using h
  rw [Zh5];constructor
  ·rintro rfl; intro c h; nomatch h
  ·intro h;cases x with
   | nil=>rfl
   | cons a r=>rw [ZoQ,(hc a).mpr (h a ZnF)] at h0; simp at h0
 ·rw [ZdL,Nat.min_self];constructor
  ·intro h c hm;exact (hc c).mp (takeWhile_len_all (Nat.le_antisymm (takeWhile_le _) h) c hm)
  ·intro h;rw [takeWhile_all fun c hm=>(hc c).mpr (h c hm)];exact Znn _
theorem ZkG (x y:W):(Txt.stripChars (st x) (st y)=st [])↔∀ c∈x,c∈y:=by
 unfold Txt.stripChars Txt.stripBy stripSame stripped stripLo stripHi;simp only [if_true,st_len,Zhl];have hc:∀ c,(st y).cps.contains c=true↔c∈y:=fun c=>by simp [st]
 generalize hn:(x.takeWhile (st y).cps.contains).length=n;have hnl:n≤x.length:=hn ▸ takeWhile_le _;split
 ·rename_i h;have h0:n=0:=by
   have:=(ZnA _ _ ▸ h).1;simpa using this
  rw [Zh5];constructor
  ·rintro rfl; intro c h; nomatch h
  ·intro h;cases x with
   | nil=>rfl
   | cons a r=>rw [ZoQ,(hc a).mpr (h a ZnF)] at hn; simp at hn; omega
 ·rename_i hsame;rw [ZdL];constructor
  ·intro h c hm;by_cases hx:n=x.length
   ·exact (hc c).mp (takeWhile_len_all (hn.trans hx) c hm)
   ·exfalso;have hlt:n < x.length:=by omega
    obtain ⟨d,r,e⟩:∃ d r,x.drop n=d :: r:=by
     cases q:x.drop n with
     | nil=>have:=List.drop_eq_nil_iff.mp q; omega
     | cons d r=>exact ⟨d,r,rfl⟩
    have hd:(st y).cps.contains d=false:=by
     have e2:x.dropWhile (st y).cps.contains=d :: r:=by
      rw [←e,←hn];have e3:=List.takeWhile_append_dropWhile (p:=(st y).cps.contains) (l:=x);conv=>rhs; rw [←e3]
      rw [show ((List.takeWhile (st y).cps.contains x++List.dropWhile (st y).cps.contains x).takeWhile (st y).cps.contains).length=(List.takeWhile (st y).cps.contains x).length by rw [e3]];rw [Zqj]
     have e4:(x.dropWhile (st y).cps.contains).head?=some d:=by rw [e2]; rfl
     cases q:(st y).cps.contains d with
     | false=>rfl
     | true=>exact absurd q (by have:=List.head?_dropWhile_not (st y).cps.contains x; rw [e4] at this; simpa using this)
    have hlen:(((x.drop n).reverse).takeWhile (st y).cps.contains).length≤r.length:=by
     rw [e,Zqr];have:∀ (l:W),((l++[d]).takeWhile (st y).cps.contains).length≤l.length:=by
      intro l;induction l with
      | nil=>rw [Zq1,ZoQ,hd]; simp
      | cons a t ih=>rw [ZqM,ZoQ]; split <;> simp; omega
     simpa using this r.reverse
    have hr:r.length+1=x.length - n:=by
     have:=congrArg Zoe e;simpa using this.symm
    omega
  ·intro h;have:n=x.length:=by rw [←hn,takeWhile_all fun c hm=>(hc c).mpr (h c hm)]
   omega
theorem ZlJ (ls:List W):Txt.join (st []) (ls.map st)=st ls.flatten:=by
 unfold Txt.join Builtin.Str.glued;cases ls with
 | nil=>rfl
 | cons a r=>
  simp only [ZnN,List.drop_succ_cons,ZoW,List.headD_cons,Zos];have:∀ (r:List W) (acc:W),(r.map st).foldl (fun acc p=>acc++(st []).cps++p.cps) acc.toArray=(acc++r.flatten).toArray:=by
   intro r;induction r with
   | nil=>intro acc; simp
   | cons b r ih=>
    intro acc;rw [ZnN,Zov,Zos];have e:acc.toArray++(st []).cps++(st b).cps=(acc++b).toArray:=by simp [st]
    rw [e,ih,ZnO]
  have h:=this r a;show (⟨_⟩:Str)=_;rw [show (st a).cps=a.toArray from rfl,h];rfl
end Tw
set_option maxHeartbeats 4000000
namespace L2
open PySem PySem.Spec PyProof.Rows
section
variable {X:Cx}{pins:List (Addr × Obj)}{σ:St}{H:Hp}{s:Shared}
theorem Zmp {h:Heap}{a:Addr}{m m':Str→Option Value} (x:h.Ns a m) (y:h.Ns a m'):m=m':=by
 obtain ⟨o,es,ep,e,d,_,f⟩:=x;obtain ⟨o',es',ep',e',d',_,f'⟩:=y;rw [e] at e'; cases e';rw [d] at d'; cases d';funext n;rw [←f n,←f' n]
theorem Inv.byNews (I:Inv X pins σ H s):∃ m,Fr X.base X.env.locals s.heap m∧News X.base X.env.locals s.heap (ZbB X.base s.heap X.env.locals)∧
  ∀ (h':Heap) (t':Nat),Fr X.base X.env.locals h' m→News X.base X.env.locals h' (ZbB X.base s.heap X.env.locals)→Inv X pins σ H { s with heap:=h',toks:=t' }:=by
 obtain ⟨m,hm⟩:=I.fr;refine ⟨m,hm,Zj6,fun h' t' F N=>?_⟩;have keep:∀ b o,b≠X.env.locals→s.heap.get? b=some o→h'.get? b=some o:=fun b o hb e=>by
  cases q:X.base.get? b with
  | some u=>
   have:=I.bk b u q;rw [e] at this; cases this;exact F.keep b _ q
  | none=>exact (N (b,o) (ZfT hb q e)).1
 have hL:∃ o,h'.get? X.env.locals=some o:=by
  obtain ⟨o,_,_,e,_⟩:=F.ns;exact ⟨o,e⟩
 refine I.step (g':=s.gens) (d':=s.drawn) (ch:=[]) (fun _ z=>nomatch z) (fun b o h1 _ _ e _=>keep b o h1 e) (fun b o h1 _ _ e _=>⟨o.slots,keep b o h1 e⟩) (fun _ _ _ _ n=>n)
  (fun b o _ e=>?_) (fun _ _ e=>e) (fun _ _ _ e=>e) (fun b ps e=>⟨#[],by rw [e]; simp⟩) (fun m' hm'=>?_) (fun b u e=>?_) I.bare
 ·by_cases hb:b=X.env.locals
  ·subst hb; exact hL
  ·exact ⟨o,keep b o hb e⟩
 ·rw [←Zmp hm.ns hm']; exact F.ns
 ·refine (I.hok b u e).stay (fun c v hc q=>keep c v ?_ q) (fun _ q=>q) fun _ _ q=>q;rintro rfl;rcases hc with z | z
  ·subst z; rw [I.free] at e; cases e
  ·rw [I.free] at z; cases z
end
def cV:V→Value
 | .ty n=>.type n
 | .ref a=>.ref a
 | _=>.none
def Zm3:V→Prop
 | .ty _=>True
 | .ref _=>True
 | _=>False
def Zhc (K:Znj):List V→Hp→VK→Prop:=fun xs H Q=>∃ x c t b,xs=[x,c]∧Zm3 c∧Zaq K H x t∧Zoc K t (cV c)=some b∧Q (.bl b) H
section
variable {X:Cx}
theorem Zfw:YR X (.builtin "isinstance") (Zhc X.K):=by
 intro pins s σ H xs us Q I r h;obtain ⟨x,c,t,b,rfl,hc,ty,e,q⟩:=h;obtain ⟨u,w',rfl,rx,rc⟩:=ZkT r;have ec:w'=cV c:=by
  cases c with
  | ty n=>exact rc
  | ref a=>exact rc
  | _=>exact False.elim hc
 subst ec;exact ZiE I rx ty e fun tk=>⟨.bl b,H,I.tok tk,rfl,q⟩
theorem ZcQ:∀ {bs:List Bool}{us:List Value},ZA (bs.map V.bl) us→us=bs.map Value.bool
 | [],_,r=>by cases r; rfl
 | b :: bs,_,r=>by
  cases r with
  | cons r1 r2=>rw [ZcQ r2,ZnN,show _=Value.bool b from r1]
theorem Zfv:∀ (bs:List Bool),LSm.BoolsAre (bs.map Value.bool) bs:=by
 intro bs;induction bs with
 | nil=>exact .nil
 | cons b bs ih=>exact .cons b ih
theorem YL (hc:X.calm=true):YR X (.builtin "all") (fun xs H Q=>∃ (p:Addr) (bs:List Bool),xs=[.ref p]∧SqL X.K H p (bs.map V.bl)∧Q (.bl (bs.all id)) H):=by
 intro pins s σ H xs us Q I r h;obtain ⟨p,bs,rfl,hq,q⟩:=h;obtain ⟨u,rfl,rx⟩:=YJ r;cases rx;obtain ⟨its,r',pl,hz⟩:=I.list hq;have e:=ZcQ r';subst e;obtain ⟨m,F,N,back⟩:=I.byNews;exact LSm.all_bools F N (I.ok.hd hc) pl.isList (Zfv bs) fun h' tk F' N'=>⟨.bl _,H,back h' tk F' N',rfl,q⟩
theorem Zcc (hc:X.calm=true):YR X (.builtin "any") (fun xs H Q=>∃ (p:Addr) (bs:List Bool),xs=[.ref p]∧SqL X.K H p (bs.map V.bl)∧Q (.bl (bs.any id)) H):=by
 intro pins s σ H xs us Q I r h;obtain ⟨p,bs,rfl,hq,q⟩:=h;obtain ⟨u,rfl,rx⟩:=YJ r;cases rx;obtain ⟨its,r',pl,hz⟩:=I.list hq;have e:=ZcQ r';subst e;obtain ⟨m,F,N,back⟩:=I.byNews;exact LSm.any_bools F N (I.ok.hd hc) pl.isList (Zfv bs) fun h' tk F' N'=>⟨.bl _,H,back h' tk F' N',rfl,q⟩
theorem Y7 (hc:X.calm=true):YR X (.builtin "sum") (fun xs H Q=>∃ (p:Addr) (ns:List Int),xs=[.ref p]∧SqL X.K H p (ns.map V.int)∧Q (.int ns.sum) H):=by
 intro pins s σ H xs us Q I r h;obtain ⟨p,ns,rfl,hq,q⟩:=h;obtain ⟨u,rfl,rx⟩:=YJ r;cases rx;obtain ⟨its,r',pl,hz⟩:=I.list hq;obtain ⟨m,F,N,back⟩:=I.byNews;exact LSm.sum_ints F N (I.ok.hd hc) pl.isList (Yp r') fun h' tk t' F' N'=>⟨.int _,H,back h' tk F' N',⟨t',rfl⟩,q⟩
open Tw
abbrev sv (l:W):V:=.str (st l)
theorem mt_starts:MtR X "str.startswith" (fun x xs H Q=>∃ (a b:W),x=sv a∧xs=[sv b]∧Q (.bl (b.isPrefixOf a)) H):=by
 intro pins s σ H x xs v us Q I rx rs h;obtain ⟨a,b,rfl,rfl,q⟩:=h;obtain ⟨t,rfl⟩:=rx;obtain ⟨u,rfl,t',rfl⟩:=YJ rs;refine SC.startswith ⟨.bl _,H,I,rfl,?_⟩;rw [Zjj];exact q
theorem Zei:MtR X "str.lstrip" (fun x xs H Q=>∃ (a b:W),x=sv a∧xs=[sv b]∧a.length≤sizeLine∧∀ c,(c=[]↔∀ z∈a,z∈b)→Q (sv c) H):=by
 intro pins s σ H x xs v us Q I rx rs h;obtain ⟨a,b,rfl,rfl,hz,q⟩:=h;obtain ⟨t,rfl⟩:=rx;obtain ⟨u,rfl,t',rfl⟩:=YJ rs;refine SC.lstripChars (fun t' k=>⟨.str _,H,I.tok k,⟨t',rfl⟩,?_⟩) (by rw [st_len]; exact hz);have z:=q (Txt.lstripChars (st a) (st b)).cps.toList (by rw [←Zh5,ZdI]; exact Zji a b);unfold sv at z;rw [ZdI] at z;exact z
theorem Zj2:MtR X "str.strip" (fun x xs H Q=>∃ (a b:W),x=sv a∧xs=[sv b]∧a.length≤sizeLine∧∀ c,(c=[]↔∀ z∈a,z∈b)→Q (sv c) H):=by
 intro pins s σ H x xs v us Q I rx rs h;obtain ⟨a,b,rfl,rfl,hz,q⟩:=h;obtain ⟨t,rfl⟩:=rx;obtain ⟨u,rfl,t',rfl⟩:=YJ rs;refine SC.stripChars (fun t' k=>⟨.str _,H,I.tok k,⟨t',rfl⟩,?_⟩) (by rw [st_len]; exact hz);have z:=q (Txt.stripChars (st a) (st b)).cps.toList (by rw [←Zh5,ZdI]; exact ZkG a b);unfold sv at z;rw [ZdI] at z;exact z
theorem Zay:∀ {ls:List W}{us:List Value},ZA (ls.map sv) us→StrsAre us (ls.map st)
 | [],_,r=>by cases r; exact .nil
 | l :: ls,_,r=>by
  cases r with
  | cons r1 r2=>obtain ⟨t,rfl⟩:=r1; exact .cons _ t (Zay r2)
theorem ZeV:MtR X "str.join" (fun x xs H Q=>∃ (p:Addr) (ls:List W),x=.str (st [])∧xs=[.ref p]∧SqL X.K H p (ls.map sv)∧(ls.map Zoe).sum≤16777216∧Q (sv ls.flatten) H):=by
 intro pins s σ H x xs v us Q I rx rs h;obtain ⟨p,ls,rfl,rfl,hq,hz,q⟩:=h;obtain ⟨t,rfl⟩:=rx;obtain ⟨u,rfl,rx⟩:=YJ rs;cases rx;obtain ⟨its,r',pl,_⟩:=I.list hq;refine join_list pl.isList (ys:=ls.map st) (by simpa using Zay r') ?_ fun t' k=>⟨sv ls.flatten,H,I.tok k,⟨t',by rw [ZlJ]⟩,q⟩;have e:(ls.map st).map (·.length)=ls.map Zoe:=by rw [Znr]; exact ZnP fun a _=>st_len a
 rw [e,st_len];simpa using hz
end
def Zjy (names:List (Str × NameKind)) (cells:List (Str × Addr)):List (Str × Addr):=
 names.foldl (fun cs x=>if x.2 == .free then (match cells.lookup x.1 with | some c=>(x.1,c) :: cs | none=>cs) else cs) []
theorem clOf_mem {cells:List (Str × Addr)}:∀ {names:List (Str × NameKind)}{cs:List (Str × Addr)}{x:Str}{c:Addr},
  (names.foldl (fun cs x=>if x.2 == .free then (match cells.lookup x.1 with | some c=>(x.1,c) :: cs | none=>cs) else cs) cs).lookup x=some c→cs.lookup x=some c∨cells.lookup x=some c
 | [],_,_,_,h=>.inl h
 | y :: names,cs,x,c,h=>by
  rw [Zov] at h;rcases clOf_mem h with h | h
  ·split at h
   ·split at h
    ·rename_i c' e;rw [Zoy] at h;split at h
     ·rename_i hb;have hx:x=y.1:=by simpa using hb
      cases h;exact .inr (by rw [hx]; exact e)
     ·exact .inl h
    ·exact .inl h
   ·exact .inl h
  ·exact .inr h
theorem Zd8 {cells:List (Str × Addr)}:∀ {names:List (Str × NameKind)}{cs:List (Str × Addr)}{x:Str},(∃ c,cs.lookup x=some c)→
  ∃ c,(names.foldl (fun cs x=>if x.2 == .free then (match cells.lookup x.1 with | some c=>(x.1,c) :: cs | none=>cs) else cs) cs).lookup x=some c
 | [],_,_,h=>h
 | y :: names,cs,x,h=>by
  rw [Zov];refine Zd8 ?_;split
  ·split
   ·rw [Zoy];split
    ·exact ⟨_,rfl⟩
    ·exact h
   ·exact h
  ·exact h
theorem ZcT {cells:List (Str × Addr)}:∀ {names:List (Str × NameKind)}{cs:List (Str × Addr)}{x:Str},(x,NameKind.free)∈names→(∃ c,cells.lookup x=some c)→
  ∃ c,(names.foldl (fun cs x=>if x.2 == .free then (match cells.lookup x.1 with | some c=>(x.1,c) :: cs | none=>cs) else cs) cs).lookup x=some c
 | y :: names,cs,x,h,hc=>by
  rw [Zov];rcases Znz.mp h with h | h
  ·subst h;obtain ⟨c,e⟩:=hc;refine Zd8 ⟨c,?_⟩;simp [e]
  ·exact ZcT h hc
theorem closure_of {scope:Scope}{env:Env} (h:∀ x,(x,NameKind.free)∈scope.names→∃ c,env.cells.lookup x=some c):closureFor scope env=pure (Zjy scope.names env.cells):=by
 unfold closureFor Zjy;generalize hcs:([]:List (Str × Addr))=cs;clear hcs;show (do let r ←forIn scope.names cs _; pure r)=_;have:∀ (names:List (Str × NameKind)) (cs:List (Str × Addr)),(∀ x,(x,NameKind.free)∈names→∃ c,env.cells.lookup x=some c)→
   (forIn names cs fun (x:Str × NameKind) (r:List (Str × Addr))=>(match x with | (name,kind)=>if (kind == NameKind.free)=true then do let a ←cellOf env name; pure (ForInStep.yield ((name,a) :: r)) else pure (ForInStep.yield r):Sem (ForInStep (List (Str × Addr)))))=
    pure (names.foldl (fun cs x=>if x.2 == .free then (match env.cells.lookup x.1 with | some c=>(x.1,c) :: cs | none=>cs) else cs) cs):=by
  intro names;induction names with
  | nil=>intro cs _; rfl
  | cons y r ih=>
   intro cs h;obtain ⟨n,k⟩:=y;rw [List.forIn_cons,Zov];have hr:=fun cs=>ih cs fun x hx=>h x (ZnC _ hx);by_cases hk:k=.free
   ·subst hk;obtain ⟨c,e⟩:=h n ZnF;simp only [beq_self_eq_true,if_true,cellOf,e,pure_bind];exact hr _
   ·have hb:(k == NameKind.free)=false:=by simpa using hk
    simp only [hb,ZoI,if_false,pure_bind];exact hr _
 rw [this scope.names cs h];rfl
def Y4 (js:List (Option Nat)) (σ:St):St:=js.map fun j=>j.bind fun j=>(σ[j]?).join
def ZbE (N:List Str) (oN sN:List (Str × NameKind)) (x:Str):Option Nat→Bool
 | none=>true
 | some j=>decide (N[j]?=some x) && decide (oN.lookup x=some .cell) && decide (sN.lookup x=some .free)
def ZaL (N:List Str) (oN sN:List (Str × NameKind)):List Str→List (Option Nat)→Bool
 | [],[]=>true
 | x :: N',j :: js=>ZbE N oN sN x j && ZaL N oN sN N' js
 | [],_ :: _=>false
 | _ :: _,[]=>false
theorem ZcV {N:List Str}{oN sN:List (Str × NameKind)}:∀ {N':List Str}{js:List (Option Nat)},ZaL N oN sN N' js=true→N'.length=js.length
 | [],[],_=>rfl
 | x :: N',j :: js,h=>by
  have h':(ZbE N oN sN x j && ZaL N oN sN N' js)=true:=h;rw [ZnA] at h';simp [ZcV h'.2]
 | [],_ :: _,h=>nomatch h
 | _ :: _,[],h=>nomatch h
theorem ZcU {N:List Str}{oN sN:List (Str × NameKind)}:∀ {N':List Str}{js:List (Option Nat)}{i j:Nat},ZaL N oN sN N' js=true→js[i]?=some (some j)→
  ∃ x,N'[i]?=some x∧N[j]?=some x∧oN.lookup x=some .cell∧sN.lookup x=some .free
 | [],[],_,_,_,e=>by simp at e
 | x :: N',k :: js,0,j,h,e=>by
  have h':(ZbE N oN sN x k && ZaL N oN sN N' js)=true:=h;rw [ZnA] at h';simp at e;subst e;have h1:=h'.1;simp only [ZbE,ZnA,decide_eq_true_eq] at h1;exact ⟨x,rfl,h1.1.1,h1.1.2,h1.2⟩
 | x :: N',k :: js,i+1,j,h,e=>by
  have h':(ZbE N oN sN x k && ZaL N oN sN N' js)=true:=h;rw [ZnA] at h';obtain ⟨y,q,r⟩:=ZcU (i:=i) (j:=j) h'.2 (by simpa using e);exact ⟨y,by simpa using q,r⟩
 | [],_ :: _,_,_,h,_=>nomatch h
 | _ :: _,[],_,_,h,_=>nomatch h
def J0 (X:Cx) (scope:Scope) (N':List Str) (C:Addr) (fp:List Addr) (s₀:Shared) (H₀:Hp):Cx where
 prog:=X.prog
 w:=X.w
 K:=X.K
 mg:=X.mg
 base:=X.base
 A:=X.A
 N:=N'
 s₀:=s₀
 H₀:=H₀
 env:=compEnvC scope (Zjy scope.names X.env.cells) C X.env
 outer:=X.stack
 stack:=X.stack
 ex:=fp
 fn:=fun _=>false
 calm:=true
 pn:=[]
 xe:=fun _ _=>False
def PTs (X:Cx) (ifs:List Expr) (t:TT):Prop:=
 ∀ (pins:List (Addr × Obj)) (s:Shared) (σ:St) (H:Hp) (Q:Bool→Hp→Prop),Inv X pins σ H s→t σ H Q→
  wpAny (model X.prog X.w) X.A (forIn ifs true fun c r=>if r=true then do let ok ←isTrue c X.env (eval c X.env); pure (ForInStep.yield ok) else pure (ForInStep.yield r)) (TP X pins σ Q) X.xe s
def Zjk:TT:=fun _ H Q=>Q true H
section
variable {X:Cx}
theorem ZZ:PTs X [] Zjk:=fun _ _ _ H _ I h=>wpAny_tests_nil ⟨H,I,h⟩
end
theorem comp_loop {prog:Program}{w:World}{A:Around}{R:Result→Shared→Prop}{s:Shared}{elt target iter:Expr}{ifs:List Expr}{scope:Scope}{pos:Pos}{it acc:Value}{env:Env} (I:Nat→Shared→Prop)
  (turn:∀ n s,I n s→wpAny (model prog w) A (pyNext it) (fun r s₁=>match r with
   | none=>R (.ok .next) s₁
   | some v=>wpAny (model prog w) A (letOwnedTupleGo target it v) (fun _ s₁'=>wpAny (model prog w) A (assign target env v) (fun _ s₂=>
     wpAny (model prog w) A (forIn ifs true fun c r=>if r=true then do let ok ←isTrue c env (eval c env); pure (ForInStep.yield ok) else pure (ForInStep.yield r)) (fun ok s₃=>
      if ok=true then wpAny (model prog w) A (eval elt env) (fun x s₄=>
       wpAny (model prog w) A (call (.builtin "list.append") [acc,x]) (fun _ s₅=>∃ m,m < n∧I m s₅) (fun _ _=>False) s₄) (fun _ _=>False) s₃
      else ∃ m,m < n∧I m s₃) (fun _ _=>False) s₂) (fun _ _=>False) s₁') (fun _ _=>False) s₁) (fun _ _=>False) s)
  (n:Nat) (h:I n s):
  codeAny (model prog w) A (.compLoop (.ListComp elt [⟨target,iter,ifs,0⟩] scope pos) 0 it acc env) R s:=by
 have no {E:Value→Shared→Prop}:∀ (e:Value) (s':Shared),False→E e s':=fun _ _ f=>f.elim;have one:∀ (n:Nat) (s:Shared),I n s→_:=fun n s hI=>turn n s hI;refine codeAny_loop rfl I (fun n s hI=>wpAny_noted ?_) n h;rw [compTurn_list];refine wpAny_bind (wpAny_standAt ?_);refine wpAny_bind (wpAny_mono (one n s hI) (fun r s₁ h₁=>?_) no);cases r with
 | none=>exact wpAny_pure h₁
 | some v=>
  refine wpAny_bind (wpAny_mono h₁ (fun _ s₁' h₁'=>?_) no);refine wpAny_bind (wpAny_mono h₁' (fun _ s₂ h₂=>wpAny_bind (wpAny_mono h₂ (fun ok s₃ h₃=>?_) no)) no);cases ok with
  | false=>exact wpAny_pure ⟨rfl,h₃⟩
  | true=>exact wpAny_bind (wpAny_bind (wpAny_mono h₃ (fun x s₄ h₄=>wpAny_bind (wpAny_mono h₄ (fun _ s₅ h₅=>wpAny_pure (wpAny_pure ⟨rfl,h₅⟩)) no)) no))
def J9 (J:It) (js:List (Option Nat)) (g:TG) (tt:TT) (te:TE) (σ:St) (H1:Hp) (Q:VK):Prop:=
 ∀ D,H1 D=none→∃ W:Nat→Nat→St→Hp→Prop,(∃ m,W 0 m (Y4 js σ) (upd H1 D (.lst [])))∧∀ i m σ' H',W i m σ' H'→
  (J.stop i H'∧Q (.ref D) H')∨(J.go i H'∧∃ N:St→Hp→Prop,(∀ σ2 H2,N σ2 H2→∃ m',m' < m∧W (i+1) m' σ2 H2)∧
   ∀ x H2,J.yld i H' x H2→g x σ' H2 fun σ2 H3=>tt σ2 H3 fun ok H4=>if ok=true then te σ2 H4 fun y H5=>∃ ys,H5 D=some (.lst ys)∧ys.length < sizeLine∧N σ2 (upd H5 D (.lst (ys++[y]))) else N σ2 H4)
def ZlZ (wi:TI) (js:List (Option Nat)) (g:TG) (tt:TT) (te:TE):TE:=fun σ H Q=>wi σ H fun J H1=>J9 J js g tt te σ H1 Q
section
variable {X:Cx}{tg iter elt:Expr}{ifs:List Expr}{scope:Scope}{pos:Pos}{N':List Str}{js:List (Option Nat)}{g:TG}{tt:TT}{te:TE}
structure ZaE (X:Cx) (scope:Scope) (N':List Str) (js:List (Option Nat)):Prop where
 kind:scope.kind=.function
 nocell:∀ x∈scope.names,x.2≠.cell
 locs:∀ x∈scope.names,x.2=.local→scope.names.lookup x.1=some .local
 frees:∀ x∈scope.names,x.2=.free→X.env.scope.names.lookup x.1=some .cell
 ok:ZaL X.N X.env.scope.names scope.names N' js=true
def blkB (N:List Str) (oN:List (Str × NameKind)) (scope:Scope) (N':List Str) (js:List (Option Nat)):Bool:=
 decide (scope.kind=.function) && (scope.names.all (fun x=>decide (x.2≠.cell)) && (scope.names.all (fun x=>!decide (x.2=.local) || decide (scope.names.lookup x.1=some .local)) &&
  (scope.names.all (fun x=>!decide (x.2=.free) || decide (oN.lookup x.1=some .cell)) && ZaL N oN scope.names N' js)))
theorem ZaE.of {N:List Str}{oN:List (Str × NameKind)} (h:blkB N oN scope N' js=true) (e1:N=X.N:=by rfl) (e2:oN=X.env.scope.names:=by rfl):ZaE X scope N' js:=by
 subst e1 e2;unfold blkB at h;rw [ZnA,ZnA,ZnA,ZnA,decide_eq_true_iff,Zn1,Zn1,Zn1] at h;obtain ⟨h1,h2,h3,h4,h5⟩:=h;refine ⟨h1,fun x hx=>by simpa using h2 x hx,fun x hx z=>?_,fun x hx z=>?_,h5⟩
 ·have:=h3 x hx;simpa [z] using this
 ·have:=h4 x hx;simpa [z] using this
theorem Zfe {env:Env}{names:List (Str × NameKind)}{x:Str} (h:names.lookup x=some .free) (h1:env.scope.kind=.function) (h2:env.kindOf x=some .cell):
  (names.map fun (n,k)=>if (k == NameKind.free && env.scope.kind == .function && env.kindOf n == some .cell) then (n,NameKind.cell) else (n,k)).lookup x=some .cell:=by
 induction names with
 | nil=>exact nomatch h
 | cons y r ih=>
  obtain ⟨n,k⟩:=y;rw [ZnN];by_cases hn:x=n
  ·subst hn;have hk:k=.free:=by simpa [Zoy] using h
   subst hk;simp [h1,h2,Zoy]
  ·have b:(x == n)=false:=beq_false_of_ne hn;have up:=ih (by simpa [Zoy,b] using h);dsimp only;split <;> (rw [Zoy,b]; exact up)
theorem Zco {env:Env}:∀ {names:List (Str × NameKind)}{x:Str},(∀ y∈names,y.2≠.cell)→
  ((names.map fun (n,k)=>if (k == NameKind.free && env.scope.kind == .function && env.kindOf n == some .cell) then (n,NameKind.cell) else (n,k)).lookup x=some .cell∨
   (names.map fun (n,k)=>if (k == NameKind.free && env.scope.kind == .function && env.kindOf n == some .cell) then (n,NameKind.cell) else (n,k)).lookup x=some .free)→(x,NameKind.free)∈names
 | [],_,_,h=>by simp at h
 | (n,k) :: r,x,hn,h=>by
  have ih:=@Zco env r x (fun y hy=>hn y (ZnC _ hy));have hk:=hn (n,k) ZnF;by_cases hx:x=n
  ·subst hx;by_cases hc:(k == NameKind.free && env.scope.kind == .function && env.kindOf x == some .cell)=true
   ·have:k=.free:=by
     have:=(ZnA _ _ ▸ (ZnA _ _ ▸ hc).1).1;simpa using this
    subst this;exact ZnF
   ·rw [ZnN] at h;simp only [if_neg hc] at h;simp [Zoy] at h;rcases h with h | h
    ·exact absurd h hk
    ·subst h; exact ZnF
  ·refine ZnC _ (ih ?_);rw [ZnN] at h;have hb:(x == n)=false:=by simpa using hx
   by_cases hc:(k == NameKind.free && env.scope.kind == .function && env.kindOf n == some .cell)=true
   ·simp only [if_pos hc,Zoy,hb] at h; exact h
   ·simp only [if_neg hc,Zoy,hb] at h; exact h
theorem Inv.gone {pins:List (Addr × Obj)}{σ:St}{H:Hp}{s:Shared}{C:Addr}{h':Heap} (I:Inv X pins σ H s) (hs:Zo7 C s.heap h') (h:ZaG X pins H C):Inv X pins σ H { s with heap:=h' }:=
 I.turned (t':=s.toks) (it:=C) (fun b o hb e=>(hs.2 b hb).trans e) h.1 h.2.1 h.2.2.2.1 h.2.2.2.2.1 h.2.2.2.2.2
theorem Zd9 {pins:List (Addr × Obj)}{σ:St}{H2:Hp}{s2:Shared}{J:It}{it:Addr}{fp:List Addr}{tn:Nat→Heap→Prop}{Q:VK}{E:Value→Shared→Prop}{RR:Value→Addr→Result→Shared→Prop}
  (B:ZaE X scope N' js) (hc:X.calm=true)
  (hb:∀ C fp s₀ H₀,PG (J0 X scope N' C fp s₀ H₀) tg g∧PTs (J0 X scope N' C fp s₀ H₀) ifs tt∧PE (J0 X scope N' C fp s₀ H₀) elt te)
  (I2:Inv X pins σ H2 s2) (T:ZeD X.prog X.w X.K tg J fp it tn) (st2:tn 0 s2.heap) (f2:∀ b∈fp,ZaG X pins H2 b) (h:J9 J js g tt te σ H2 Q)
  (hR:∀ D C s' H' m,Inv X pins σ H' s'→s'.heap.Ns C m→ZaG X pins H' C→Q (.ref D) H'→RR (.ref D) C (.ok .next) s'):
  wpAny (model X.prog X.w) X.A (newList []) (fun acc s₃=>wpAny (model X.prog X.w) X.A (newFunctionEnv scope X.env.globals (Zjy scope.names X.env.cells) [] X.env.qual none .none (some X.env)) (fun cenv s₄=>
   codeAny (model X.prog X.w) X.A (.compStart (.ListComp elt [⟨tg,iter,ifs,0⟩] scope pos) 0 (.ref it) acc { cenv with scope:=relabel scope X.env }) (RR acc cenv.locals) s₄) E s₃) E s2:=by
 have hD0:H2 s2.heap.objs.size=none:=I2.hok.fresh (Znn _);obtain ⟨W,⟨m0,w0⟩,turn⟩:=h s2.heap.objs.size hD0;have I3:Inv X pins σ (upd H2 s2.heap.objs.size (.lst [])) { s2 with heap:=s2.heap.push { cls:=.type "list",dict:=none,data:=.seq ([]:List Value).toArray } }:=
  I2.laid (t':=s2.toks) (fun b u e=>Znk _ e) (Znn _) (show Yh X.prog X.w _ _ _ (.lst []) from ⟨ZnH _,[],0,.nil,Znu _ rfl⟩)
 refine wpAny_newObj_type (wpAny_newFunctionEnv B.nocell (by intro y hy; simp at hy) (fun h₁ hns₁ hsb₁=>?_) B.kind);dsimp only at hns₁ hsb₁ ⊢;generalize hs3:({ s2 with heap:=s2.heap.push { cls:=.type "list",dict:=none,data:=.seq ([]:List Value).toArray } }:Shared)=s3 at I3;generalize hH3:upd H2 s2.heap.objs.size (.lst [])=H3 at I3 w0;generalize hD:s2.heap.objs.size=D at w0 turn hD0 hH3;have e3:s2.heap.push { cls:=.type "list",dict:=none,data:=.seq ([]:List Value).toArray }=s3.heap:=by rw [←hs3]
 have hDs:D < s3.heap.objs.size:=by rw [←e3,ZoV,hD]; exact Zpp _
 rw [e3] at hns₁ hsb₁ ⊢;have et:s2.toks=s3.toks:=by rw [←hs3]
 generalize hC:s3.heap.objs.size=C at hns₁ hsb₁ ⊢;have kept:∀ b o,s3.heap.get? b=some o→h₁.get? b=some o:=fun b o e=>
  (hsb₁.2 b (by rw [←hC]; exact ZnK (Znx e))).trans (Znk _ e)
 have hfn:∀ x c,(Zjy scope.names X.env.cells).lookup x=some c→X.env.cells.lookup x=some c:=fun x c e=>by
  rcases clOf_mem e with e | e
  ·simp at e
  ·exact e
 have okind:X.env.scope.kind=.function:=I2.ok.kind;have hcells:∀ x,(x,NameKind.free)∈scope.names→∃ c,X.env.cells.lookup x=some c:=fun x hx=>
  I2.ok.has x (.inl (B.frees _ hx rfl))
 have flt:∀ b∈fp,b < s2.heap.objs.size:=fun b hb=>by
  obtain ⟨o,e,_⟩:=T.obj _ _ st2 b hb;exact Znx e
 have f3:∀ b∈fp,ZaG X pins H3 b:=fun b hb=>⟨by rw [←hH3,Zp (by rw [←hD]; exact ZnK (flt b hb))]; exact (f2 b hb).1,(f2 b hb).2⟩;have flt3:∀ b∈fp,b < C:=fun b hb=>by
  rw [←hC,←e3,ZoV]; exact ZoP (flt b hb)
 let X':Cx:=J0 X scope N' C fp s3 H3;have Ok':X'.Ok:=by
  refine ⟨I3.ok.mod,B.kind,I3.ok.glob,I3.ok.blt,Zpx hC,fun x y c h1 h2=>I3.ok.inj x y c (hfn x c h1) (hfn y c h2),fun x hx=>?_,(fun x c z=>nomatch z),fun _=>I3.ok.hd hc,I3.ok.frames,.inl rfl,
   fun b hb=>⟨ZnK (flt3 b hb),fun x c e=>(f3 b hb).2.2.2.2.1 x c (hfn x c e)⟩,I3.bs,Zog I3.ok.bsz I3.sz,fun b o e hb=>?_,fun b hb hf=>?_,I3.stack,I3.stkFree⟩
  ·have hx':(x,NameKind.free)∈scope.names:=Zco B.nocell hx;exact ZcT hx' (hcells x hx')
  ·obtain ⟨_,_,_,h4,_⟩:=f3 b hb;rcases h4 with h4 | h4
   ·exact I3.ok.noex b o e h4
   ·exact absurd (ZnQ (ZnQ (Znx e) I3.ok.bsz) h4) (ZoT _)
  ·rcases Znz.mp (I3.stkSub b hf) with z | z
   ·exact (f3 b hb).2.1 z
   ·exact (f3 b hb).2.2.1 z
 have hfreshC:H3 C=none:=I3.hok.fresh (Zpx hC);have I4:Inv X' [] (Y4 js σ) H3 { s3 with heap:=h₁,toks:=s3.toks+([]:List (Str × Value)).length }:=by
  refine ⟨Ok',rfl,I3.bare,Un.kept kept,⟨_,hns₁,fun i x v e1 e2 e3=>?_⟩,fun x c e=>?_,hfreshC,fun x c e=>I3.freeC x c (hfn x c e),fun p hp=>absurd (show p∈([]:List (Addr × Obj)) from hp) (by simp),I3.hok.kept kept,?_⟩
  ·
   have ej:∃ j,js[i]?=some (some j)∧σ[j]?=some (some v):=by
    unfold Y4 at e2;rw [Znq] at e2;cases q:js[i]? with
    | none=>rw [q] at e2; cases e2
    | some j=>
     rw [q] at e2;cases j with
     | none=>simp at e2
     | some j=>
      refine ⟨j,rfl,?_⟩;simp at e2;cases q2:σ[j]? with
      | none=>rw [q2] at e2; simp at e2
      | some o=>rw [q2] at e2; simp at e2; rw [e2]
   obtain ⟨j,q1,q2⟩:=ej;obtain ⟨y,z1,z2,z3,z4⟩:=ZcU B.ok q1;have hy:y=x:=by
    have e1':N'[i]?=some x:=e1;rw [z1] at e1'; exact Option.some.inj e1'
   subst hy;obtain ⟨m,hn,hl⟩:=I3.loc;obtain ⟨u,r,l⟩:=hl j y v z2 q2 (.inr (.inl z3));refine ⟨u,r,.inr ?_⟩;rcases l with ⟨k,_⟩ | ⟨k,c,ec,z⟩
   ·have:X.env.kindOf y=some .cell:=z3;rw [this] at k; cases k
   ·have hfree:(y,NameKind.free)∈scope.names:=ZoR z4;obtain ⟨c',ec'⟩:=ZcT (cs:=[]) hfree ⟨c,ec⟩;have:c'=c:=by have:=hfn y c' ec'; rw [ec] at this; exact (Option.some.inj this).symm
    subst this;refine ⟨.inl (Zfe z4 okind z3),c',ec',?_⟩;obtain ⟨o,ho,hd⟩:=z;exact ⟨o,kept _ o ho,hd⟩
  ·obtain ⟨v,o,ho,hd⟩:=I3.cell x c (hfn x c e);exact ⟨v,o,kept _ o ho,hd⟩
  ·unfold Y4;rw [Zni];exact (ZcV B.ok).symm
 obtain ⟨hg,htt,hte⟩:=hb C fp s3 H3;have stat:∀ {H':Hp},(∀ b∈fp,H' b=none)→∀ b∈fp,ZaG X' [] H' b:=fun hn b hb=>
  ⟨hn b hb,ZnK (flt3 b hb),fun z=>by
   rcases Znz.mp (I3.stkSub b z) with z | z
   ·exact (f3 b hb).2.1 z
   ·exact (f3 b hb).2.2.1 z,.inl hb,fun x c e=>(f3 b hb).2.2.2.2.1 x c (hfn x c e),fun p hp=>absurd (show p∈([]:List (Addr × Obj)) from hp) (by simp)⟩
 have st4:tn 0 h₁:=T.keep _ _ _ st2 fun b hb o e=>kept b o (by rw [←e3]; exact Znk _ e);have loop:∀ s₃:Shared,s₃={ s2 with heap:=h₁,toks:=s2.toks+([]:List (Str × Value)).length }→
   codeAny (model X.prog X.w) X.A (.compLoop (.ListComp elt [⟨tg,iter,ifs,0⟩] scope pos) 0 (.ref it) (.ref D) X'.env) (RR (.ref D) C) s₃:=by
  rintro s₃ rfl;refine comp_loop (fun n s'=>∃ i σ' H',Inv X' [] σ' H' s'∧tn i s'.heap∧(∀ b∈fp,H' b=none)∧W i n σ' H') ?_ m0 ⟨0,Y4 js σ,H3,?_,st4,fun b hb=>(f3 b hb).1,w0⟩
  ·rintro n s5 ⟨i,σ5,H5,I5,st5,fr5,w5⟩;rcases turn i n σ5 H5 w5 with ⟨stop,qn⟩ | ⟨go,N,hN,step⟩
   ·refine thn (T.done X' rfl rfl rfl rfl i [] s5 σ5 H5 X'.xe I5 (stat fr5) st5 stop) fun r s6 qz=>?_;obtain ⟨hr,I6⟩:=qz;subst hr;obtain ⟨m,hn6,_⟩:=I6.loc;have Ib:Inv X pins σ H5 s6:=by
     exact I3.call' (ch:=fp) I6.os I6.base I6.hok I6.bare fun b hb=>⟨(f3 b hb).2.2.2.1,(f3 b hb).2.1,(f3 b hb).2.2.2.2.1,(f3 b hb).2.2.2.2.2⟩
    refine hR D C s6 H5 m Ib hn6 ?_ qn;have hC3:s3.heap.objs.size≤C:=Zpx hC;exact I3.fpOk hC3 I6.free
   ·refine thn (T.item X' rfl rfl rfl rfl i [] s5 σ5 H5 X'.xe I5 (stat fr5) st5 go) fun r s6 qz=>?_;obtain ⟨u,hr,h6⟩:=qz;subst hr;refine thn h6 fun _ s7 qz=>?_;obtain ⟨x,H7,I7,r7,y7,st7,fr7⟩:=qz;have I7':=I7.pinned (stat fr7) (T.obj _ _ st7);refine thn (hg _ s7 σ5 H7 x u _ I7' r7 (step x H7 y7)) fun _ s8 qz=>?_;obtain ⟨σ8,H8,I8,q8⟩:=qz;have again:∀ {σ9:St}{H9:Hp}{s9:Shared},Inv X' ([]++Zdw fp s7.heap) σ9 H9 s9→N σ9 H9→∃ m,m < n∧∃ i σ' H',Inv X' [] σ' H' s9∧tn i s9.heap∧(∀ b∈fp,H' b=none)∧W i m σ' H':=fun {σ9 H9 s9} I9 n9=>by
     obtain ⟨m',hm,w9⟩:=hN σ9 H9 n9;refine ⟨m',hm,i+1,σ9,H9,I9.unpinned,T.keep _ _ _ st7 fun b hb o e=>(I9.pin (b,o) (Zn5 _ (Zn5 _ (Zat hb e)))).1,fun b hb=>?_,w9⟩;obtain ⟨o,e,d⟩:=T.obj _ _ st7 b hb;exact (I9.pin (b,o) (Zn5 _ (Zn5 _ (Zat hb e)))).2.1
    refine thn (htt _ s8 σ8 H8 _ I8 q8) fun ok s9 qz=>?_;obtain ⟨H9,I9,q9⟩:=qz;cases ok with
    | false=>exact again I9 q9
    | true=>
     refine thn (hte _ s9 σ8 H9 _ I9 q9) fun v s10 qz=>?_;obtain ⟨y,H10,I10,ry,ys,hys,hlen,n10⟩:=qz;refine thn (Z7 (X:=X') _ s10 σ8 H10 (.ref D) [y] (.ref D) [v] (fun z H'=>N σ8 H') I10 rfl (.cons ry .nil) ⟨D,ys,y,rfl,rfl,hys,hlen,n10⟩) fun _ s11 ⟨_,H11,I11,_,n11⟩=>again I11 n11
  ·have e:({ s2 with heap:=h₁,toks:=s2.toks+([]:List (Str × Value)).length }:Shared)={ s3 with heap:=h₁,toks:=s3.toks+([]:List (Str × Value)).length }:=by rw [←hs3]
   rw [e];exact I4
 exact codeAny_compStart_list (loop _ rfl) (T.self X.A 0 _ _ _ st4 (loop _ rfl))
theorem Z5 {wi:TI} (B:ZaE X scope N' js) (hc:X.calm=true) (hi:PI X tg iter wi)
  (hb:∀ C fp s₀ H₀,PG (J0 X scope N' C fp s₀ H₀) tg g∧PTs (J0 X scope N' C fp s₀ H₀) ifs tt∧PE (J0 X scope N' C fp s₀ H₀) elt te)
  (hs:∀ x,foldedSetIterable iter X.env x=pure x:=by intro _; rfl):PE X (.ListComp elt [⟨tg,iter,ifs,0⟩] scope pos) (ZlZ wi js g tt te):=by
 intro pins s σ H Q I h;rw [eval_ListComp];have hcells:∀ x,(x,NameKind.free)∈scope.names→∃ c,X.env.cells.lookup x=some c:=fun x hx=>I.ok.has x (.inl (B.frees _ hx rfl));refine wpAny_comprehension_free (use:=none) rfl hs (closure_of hcells) B.kind B.locs (thn (hi pins s σ H _ I h) fun v s1 h1=>thn h1 fun itv s2 h2=>?_);obtain ⟨it,fp,tn,J,H2,e,I2,T,st2,f2,hR⟩:=h2;subst e;refine Zd9 (RR:=fun acc C=>compPost (model X.prog X.w) X.A X.xe none (EP X pins σ Q) acc C) B hc hb I2 T st2 f2 hR ?_;intro D C s' H' m I' hn hf q;exact ⟨m,hn,fun h' hs'=>⟨.ref D,H',I'.gone hs' hf,rfl,q⟩⟩
theorem ZlC {wi:TI}{i:Nat}{y:Str}{py spos:Pos} (B:ZaE X scope N' js) (hc:X.calm=true) (hi:PI X tg iter wi)
  (hb:∀ C fp s₀ H₀,PG (J0 X scope N' C fp s₀ H₀) tg g∧PTs (J0 X scope N' C fp s₀ H₀) ifs tt∧PE (J0 X scope N' C fp s₀ H₀) elt te)
  (hN:X.N.Nodup) (hy:X.N[i]?=some y) (hx:Loc X.env.scope y)
  (hsw:swapsWith (.ListComp elt [⟨tg,iter,ifs,0⟩] scope pos) (some (.Name y py)) spos.line X.env=pure true:=by rfl)
  (hs:∀ x,foldedSetIterable iter X.env x=pure x:=by intro _; rfl) (hf:X.fn y=true∨X.env.scope.names.lookup y=some .local:=by first | exact .inl rfl | exact .inr rfl):
  PS X (.Assign [.Name y py] (.ListComp elt [⟨tg,iter,ifs,0⟩] scope pos) spos) (ZmH (ZlZ wi js g tt te) (JK i)):=by
 intro pins s σ H D I h;have hcells:∀ x,(x,NameKind.free)∈scope.names→∃ c,X.env.cells.lookup x=some c:=fun x hx=>I.ok.has x (.inl (B.frees _ hx rfl));rw [exec_Assign_Name_used _ _ _ _ hsw];refine wpAny_bind (wpAny_standAt (wpAny_bind ?_));show wpAny _ X.A (do let _ ←comprehension (.ListComp elt [⟨tg,iter,ifs,0⟩] scope pos) scope X.env _ (newList []) false (eval iter X.env) (some (assign (.Name y py) X.env))) _ _ s;refine wpAny_bind (wpAny_mono (wpAny_comprehension_free (use:=some (assign (.Name y py) X.env)) (Q:=fun _ s'=>SP X pins D .next s') rfl hs (closure_of hcells) B.kind B.locs
  (thn (hi pins s σ H _ I h) fun v s1 h1=>thn h1 fun itv s2 h2=>?_)) (fun _ s' hq=>wpAny_pure (wpAny_pure hq)) fun _ _ e=>e)
 obtain ⟨it,fp,tn,J,H2,e,I2,T,st2,f2,hR⟩:=h2;subst e;refine Zd9 (RR:=fun acc C=>compPost (model X.prog X.w) X.A X.xe (some (assign (.Name y py) X.env)) (fun _ s'=>SP X pins D .next s') acc C) B hc hb I2 T st2 f2 hR ?_;intro L C s' H' m I' hn hfp q;show wpAny _ X.A (assign (.Name y py) X.env (.ref L)) _ _ _;refine wpAny_assign_Name (store_ok2 I' hN hy hx (show RelV (.ref L) (.ref L) from rfl) (fun s'' I'' qz=>?_) hf);obtain ⟨a,hs'',ha⟩:=qz;have hCa:C≠a:=by
  rcases ha with ha | ha
  ·rw [ha]; exact hfp.2.1
  ·exact (hfp.2.2.2.2.1 y a ha).symm
 exact ⟨m,hn.sameBut hs'' hCa,fun h' hs'=>⟨_,H',I''.gone hs' hfp,q⟩⟩
end
def Ext (H H':Hp):Prop:=∀ b o,H b=some o→H' b=some o∨((∃ kvs,o=.dK kvs)∧∃ ob,H' b=some (.frz ob o))
section
variable {H H1 H2:Hp}{a b l:Addr}{o:HO}{xs:List V}{K:Znj}
theorem Ext.refl (H:Hp):Ext H H:=fun _ _ h=>.inl h
theorem Ext.trans (x:Ext H H1) (y:Ext H1 H2):Ext H H2:=fun b o h=>by
 rcases x b o h with h1 | ⟨⟨kvs,e⟩,ob,h1⟩
 ·exact y b o h1
 ·rcases y b _ h1 with h2 | ⟨⟨kvs',e'⟩,_⟩
  ·exact .inr ⟨⟨kvs,e⟩,ob,h2⟩
  ·cases e'
theorem Ext.keep (x:Ext H H1) (h:H b=some o) (hn:∀ kvs,o≠.dK kvs):H1 b=some o:=by
 rcases x b o h with h1 | ⟨⟨kvs,e⟩,_⟩
 ·exact h1
 ·exact absurd e (hn kvs)
theorem Ext.lst (x:Ext H H1) (h:H b=some (.lst xs)):H1 b=some (.lst xs):=x.keep h fun _ e=>nomatch e
theorem Ext.tup (x:Ext H H1) (h:H b=some (.tup xs)):H1 b=some (.tup xs):=x.keep h fun _ e=>nomatch e
theorem Ext.ins {C dx:Addr}{fs:List (Str × V)} (x:Ext H H1) (h:H b=some (.ins C dx fs)):H1 b=some (.ins C dx fs):=x.keep h fun _ e=>nomatch e
theorem Ext.free (x:Ext H H1) (h:H1 l=none):H l=none:=by
 cases q:H l with
 | none=>rfl
 | some o=>
  rcases x l o q with h1 | ⟨_,ob,h1⟩
  ·rw [h] at h1; cases h1
  ·rw [h] at h1; cases h1
theorem Ext.new (h:H l=none):Ext H (upd H l o):=fun b u e=>.inl (by rw [Zp (ne_of_none e h)]; exact e)
theorem Ext.newer (x:Ext H H1) (h:H1 l=none):Ext H (upd H1 l o):=x.trans (Ext.new h)
theorem Ext.over (x:Ext H H1) (h:H l=none):Ext H (upd H1 l o):=fun b u e=>by
 rw [Zp (ne_of_none e h)]; exact x b u e
theorem Ext.sqL (x:Ext H H1) (h:SqL K H a xs):SqL K H1 a xs:=by
 rcases h with (h | ⟨ob,h⟩) | h
 ·exact .inl (.inl (x.lst h))
 ·exact .inl (.inr ⟨ob,x.keep h fun _ e=>nomatch e⟩)
 ·exact .inr h
theorem Ext.rdK {kvs:List (Key × V)} (x:Ext H H1) (h:Rd H a (.dK kvs)):Rd H1 a (.dK kvs):=by
 rcases h with h | ⟨ob,h⟩
 ·rcases x a _ h with h1 | ⟨_,ob,h1⟩
  ·exact .inl h1
  ·exact .inr ⟨ob,h1⟩
 ·exact .inr ⟨ob,x.keep h fun _ e=>nomatch e⟩
end
def Zht (tt:TT) (σ:St) (H:Hp) (b:Bool):Prop:=∀ Q:Bool→Hp→Prop,(∀ H',Ext H H'→Q b H')→tt σ H Q
def Zd1 (te:TE) (σ:St) (H:Hp) (Φ:V→Hp→Prop):Prop:=∀ Q:VK,(∀ v H',Ext H H'→Φ v H'→Q v H')→te σ H Q
def ZbT (H H':Hp):Prop:=∀ b o,H b=some o→(∀ xs,o≠.lst xs)→(∀ kvs,o≠.dK kvs)→H' b=some o
theorem Ext.kp {H H':Hp} (x:Ext H H'):ZbT H H':=fun _ _ h _ hn=>x.keep h hn
theorem ZbT.over {H:Hp}{D:Addr}{ys zs:List V} (h:H D=some (.lst ys)):ZbT H (upd H D (.lst zs)):=fun b o e hl _=>by
 have:b≠D:=fun z=>by subst z; rw [h] at e; cases e; exact hl _ rfl
 rw [Zp this]; exact e
theorem Paired.imp2 {α β:Type}{F G:α→β→Prop} (h:∀ a b,F a b→G a b):∀ {xs:List α}{ys:List β},Paired F xs ys→Paired G xs ys
 | _,_,.nil=>.nil
 | _,_,.cons r t=>.cons (h _ _ r) (Paired.imp2 h t)
theorem Zbj {J:It}{n:Nat}{f:Nat→V}{tt:TT}{te:TE}{σ:St}{H1:Hp}{Q:VK}{j0:Option Nat}{jr:List (Option Nat)} (hn:n≤sizeLine)
  (hgo:∀ i H',Ext H1 H'→i < n→J.go i H') (hyl:∀ i H' x H2,Ext H1 H'→i < n→J.yld i H' x H2→x=f i∧H2=H') (hst:∀ H',Ext H1 H'→J.stop n H')
  (p:Nat→Bool) (Φ:Nat→V→Hp→Prop) (hm:∀ i v H' H2,ZbT H' H2→Φ i v H'→Φ i v H2)
  (htt:∀ i H',Ext H1 H'→i < n→Zht tt (some (f i) :: Y4 jr σ) H' (p i))
  (hte:∀ i H',Ext H1 H'→i < n→p i=true→Zd1 te (some (f i) :: Y4 jr σ) H' (Φ i))
  (hQ:∀ D H' ys,H1 D=none→Ext H1 H'→H' D=some (.lst ys)→Paired (fun i y=>Φ i y H') ((ZnB n).filter p) ys→Q (.ref D) H'):
  J9 J (j0 :: jr) (JK 0) tt te σ H1 Q:=by
 intro D hD;refine ⟨fun i m σ' H'=>m=n - i∧i≤n∧(∃ y,σ'=y :: Y4 jr σ)∧Ext H1 H'∧∃ ys,H' D=some (.lst ys)∧Paired (fun i y=>Φ i y H') ((ZnB i).filter p) ys,
  ⟨n,by simp,ZnH _,⟨_,rfl⟩,Ext.new hD,[],Za,.nil⟩,?_⟩
 rintro i m σ' H' ⟨rfl,hi,⟨y,rfl⟩,x,ys,hys,hp⟩;by_cases hlt:i < n
 ·refine .inr ⟨hgo i H' x hlt,fun σ2 H2=>(∃ y,σ2=y :: Y4 jr σ)∧Ext H1 H2∧∃ ys,H2 D=some (.lst ys)∧Paired (fun i y=>Φ i y H2) ((ZnB (i+1)).filter p) ys,fun σ2 H2 h=>⟨n - (i+1),by omega,rfl,hlt,h⟩,?_⟩;intro v H2 hy;obtain ⟨rfl,rfl⟩:=hyl i H' v H2 x hlt hy;refine htt i _ x hlt _ fun H4 x4=>?_;have er:(ZnB (i+1)).filter p=(ZnB i).filter p++(if p i then [i] else []):=by
   rw [Zq2,ZpC];cases hpi:p i <;> simp [hpi]
  cases hpi:p i with
  | false=>
   rw [if_neg (by decide)];refine ⟨⟨_,rfl⟩,x.trans x4,ys,x4.lst hys,?_⟩;rw [er,hpi];simpa using Paired.imp2 (fun i y h=>hm i y _ _ x4.kp h) hp
  | true=>
   rw [if_pos rfl];refine hte i _ (x.trans x4) hlt hpi _ fun w H5 x5 hw=>?_;have hy5:=x5.lst (x4.lst hys);have hlen:ys.length=((ZnB i).filter p).length:=hp.length.symm;have hle:((ZnB i).filter p).length≤i:=Zog (Zo9 _ _) (by simp);refine ⟨ys,hy5,by omega,⟨_,rfl⟩,Ext.over ((x.trans x4).trans x5) hD,ys++[w],Za,?_⟩;rw [er,hpi];have k:=ZbT.over (zs:=ys++[w]) hy5;exact Paired.snoc (Paired.imp2 (fun i y h=>hm i y _ _ k (hm i y _ _ (x4.trans x5).kp h)) hp) (hm i w _ _ k hw)
 ·have e:i=n:=by omega
  subst e;exact .inl ⟨hst H' x,hQ D H' ys hD x hys hp⟩
theorem ZcP {K:Znj}{a:Addr}{xs:List V}{tt:TT}{te:TE}{σ:St}{H1:Hp}{Q:VK}{j0:Option Nat}{jr:List (Option Nat)} (hS:SqL K H1 a xs) (hn:xs.length≤sizeLine)
  (p:V→Bool) (Φ:V→V→Hp→Prop) (hm:∀ x v H' H2,ZbT H' H2→Φ x v H'→Φ x v H2)
  (htt:∀ x H',x∈xs→Ext H1 H'→Zht tt (some x :: Y4 jr σ) H' (p x))
  (hte:∀ x H',x∈xs→Ext H1 H'→p x=true→Zd1 te (some x :: Y4 jr σ) H' (Φ x))
  (hQ:∀ D H' ys,H1 D=none→Ext H1 H'→H' D=some (.lst ys)→Paired (fun x y=>Φ x y H') (xs.filter p) ys→Q (.ref D) H'):
  J9 (Itl K a) (j0 :: jr) (JK 0) tt te σ H1 Q:=by
 have get:∀ i,i < xs.length→∃ x,xs[i]?=some x∧x∈xs∧xs.getD i .non=x:=fun i hi=>⟨xs[i],by simp [hi],by simp,by simp [hi]⟩;refine Zbj (n:=xs.length) (f:=fun i=>xs.getD i .non) hn (fun i H' x hi=>?_) (fun i H' v H2 x hi hy=>?_) (fun H' x=>⟨xs,x.sqL hS,Znn _⟩) (fun i=>p (xs.getD i .non)) (fun i=>Φ (xs.getD i .non)) (fun i=>hm _) (fun i H' x hi=>?_) (fun i H' x hi hp=>?_) (fun D H' ys h1 h2 h3 h4=>hQ D H' ys h1 h2 h3 ?_)
 ·obtain ⟨v,e,_⟩:=get i hi;exact ⟨xs,v,x.sqL hS,e⟩
 ·obtain ⟨v',e,_,e'⟩:=get i hi;obtain ⟨h1,h2⟩:=hy;have:=h2 xs (x.sqL hS);rw [e] at this;exact ⟨by rw [e']; exact (Option.some.inj this).symm,h1⟩
 ·obtain ⟨v,e,hv,e'⟩:=get i hi;rw [e']; exact htt v H' hv x
 ·obtain ⟨v,e,hv,e'⟩:=get i hi;rw [e'] at hp ⊢; exact hte v H' hv x hp
 ·have e1:xs=(ZnB xs.length).map fun i=>xs.getD i .non:=by
   apply ZpW
   ·simp
   ·intro i h1 h2;simp [Znp h1]
  have e2:xs.filter p=((ZnB xs.length).filter fun i=>p (xs.getD i .non)).map fun i=>xs.getD i .non:=by
   conv=>lhs; rw [e1]
   rw [List.filter_map];rfl
  rw [e2];have:∀ {is:List Nat}{ys:List V},Paired (fun i y=>Φ (xs.getD i .non) y H') is ys→Paired (fun x y=>Φ x y H') (is.map fun i=>xs.getD i .non) ys:=by
   intro is ys h;induction h with
   | nil=>exact .nil
   | cons r _ ih=>exact .cons r ih
  exact this h4
theorem Zii {K:Znj}{a:Addr}{xs:List V}{tt:TT}{te:TE}{σ:St}{H1:Hp}{Q:VK}{j0:Option Nat}{jr:List (Option Nat)} (hS:SqL K H1 a xs) (hn:xs.length≤sizeLine)
  (p:V→Bool) (f:V→V)
  (htt:∀ x H',x∈xs→Ext H1 H'→Zht tt (some x :: Y4 jr σ) H' (p x))
  (hte:∀ x H',x∈xs→Ext H1 H'→p x=true→Zd1 te (some x :: Y4 jr σ) H' (fun v _=>v=f x))
  (hQ:∀ D H',H1 D=none→Ext H1 H'→H' D=some (.lst ((xs.filter p).map f))→Q (.ref D) H'):
  J9 (Itl K a) (j0 :: jr) (JK 0) tt te σ H1 Q:=by
 refine ZcP hS hn p (fun x v _=>v=f x) (fun _ _ _ _ _ h=>h) htt hte fun D H' ys h1 h2 h3 h4=>hQ D H' h1 h2 ?_;have:∀ {as:List V}{ys:List V},Paired (fun x y=>y=f x) as ys→ys=as.map f:=by
  intro as ys h;induction h with
  | nil=>rfl
  | cons r _ ih=>rw [r,ih]; rfl
 rw [h3,this h4]
theorem ZS {K:Znj}{a:Addr}{xs:List V}{te:TE}{σ:St}{H1:Hp}{Q:VK}{j0:Option Nat}{jr:List (Option Nat)} (hS:SqL K H1 a xs) (hn:xs.length≤sizeLine) (f:V→V)
  (hte:∀ x H',x∈xs→Ext H1 H'→Zd1 te (some x :: Y4 jr σ) H' (fun v _=>v=f x))
  (hQ:∀ D H',H1 D=none→Ext H1 H'→H' D=some (.lst (xs.map f))→Q (.ref D) H'):
  J9 (Itl K a) (j0 :: jr) (JK 0) Zjk te σ H1 Q:=
 Zii hS hn (fun _=>true) f (fun _ H' _ _ Q h=>h H' (Ext.refl _)) (fun x H' hx x1 _=>hte x H' hx x1) fun D H' h1 h2 h3=>hQ D H' h1 h2 (by rw [Zpt.mpr (fun _ _=>rfl)] at h3; exact h3)
section
variable {X:Cx}{pins:List (Addr × Obj)}{σ:St}{H:Hp}{s:Shared}{a:Addr}{kvs:List (Key × V)}
theorem Inv.shut {o:Obj} (I:Inv X pins σ H s) (h:H a=some (.dK kvs)) (e:s.heap.get? a=some o):Inv X pins σ (upd H a (.frz o (.dK kvs))) s:=by
 have hne:∀ b u,H b=some u→(∀ kvs,u≠.dK kvs)→b≠a:=fun b u q hn z=>by subst z; rw [h] at q; cases q; exact hn _ rfl
 have un:Un X.fs [] H (upd H a (.frz o (.dK kvs))) s.heap s.heap:=
  ⟨fun b ob q _ _ _=>q,fun b ob q _ _ _=>⟨ob.slots,q⟩,fun b ob q n _=>by rw [Zp (fun z=>by subst z; rw [h] at n; cases n)]; exact n,fun b ob q _=>⟨ob,q⟩,
   fun b xs q=>by rw [Zp (hne b _ q fun _ z=>nomatch z)]; exact q,fun b ob u q=>by rw [Zp (hne b _ q fun _ z=>nomatch z)]; exact q,
   fun b ps q=>⟨#[],by rw [Zp (hne b _ q fun _ z=>nomatch z),q]; simp⟩⟩
 have hok:HOk X.prog X.w (upd H a (.frz o (.dK kvs))) s.heap:=fun b u q=>by
  have stay:∀ {b u},Yh X.prog X.w H s.heap b u→Yh X.prog X.w (upd H a (.frz o (.dK kvs))) s.heap b u:=fun z=>
   z.stay (fun _ _ _ q=>q) (fun c q=>by rw [Zp (hne c _ q fun _ z=>nomatch z)]; exact q) fun c xs q=>by rw [Zp (hne c _ q fun _ z=>nomatch z)]; exact q
  by_cases hb:b=a
  ·subst hb;rw [Za] at q;cases q;exact ⟨e,stay (I.hok _ _ h)⟩
  ·rw [Zp hb] at q;exact stay (I.hok b u q)
 exact I.un (h':=s.heap) (t':=s.toks) un hok
theorem ZhH {k:Key}{u:Value} (h:(Zy X.prog X.w).is k u=true):RelV (kV k) u:=by
 rw [ZgZ] at h;rcases keyIs_shape h with ⟨i,t,rfl,rfl⟩ | ⟨x,t,rfl,rfl⟩
 ·exact ⟨t,rfl⟩
 ·exact ⟨t,rfl⟩
def Itd (a:Addr) (o:Obj) (kvs:List (Key × V)):It:=
 ⟨fun i H=>i < kvs.length∧H a=some (.frz o (.dK kvs)),fun i H x H'=>H'=H∧∃ p,kvs[i]?=some p∧x=kV p.1,fun i H=>kvs.length≤i∧H a=some (.frz o (.dK kvs))⟩
theorem KV.get {κ:Type}:∀ {kvs:List (κ × V)}{vs:List (κ × Value)}{i:Nat}{p:κ × V},KV kvs vs→kvs[i]?=some p→∃ u,vs[i]?=some (p.1,u)∧RelV p.2 u
 | _,_,_,_,.nil,e=>by simp at e
 | _,(k,u) :: _,0,_,.cons r _,e=>by simp at e; subst e; exact ⟨u,by simp [r.1],r.2⟩
 | _,_,i+1,p,.cons _ t,e=>by
  obtain ⟨u,h1,h2⟩:=KV.get (i:=i) (p:=p) t (by simpa using e);exact ⟨u,by simpa using h1,h2⟩
theorem Zjl {P:Program}{w:World}{K:Znj}{tg:Expr}{o:Obj}{es:Array DictEntry}{ep:Nat} (a it:Addr) (ho:o.data=.dict es ep):
  ZeD P w K tg (Itd a o kvs) [it] it (fun i h=>h.IsKeyIter it a i kvs.length ep) where
 mem:=by simp
 obj:=fun i h st b hb=>by
  have e:b=it:=by simpa using hb
  subst e;obtain ⟨ob,e,c,d⟩:=st;exact ⟨ob,e,fun v z=>by rw [d] at z; cases z⟩
 keep:=fun i h h' st k=>st.at fun o e=>k it (by simp) o e
 item:=by
  intro X hP hw hK hc i pins s σ H E I hf st hg;subst hP hw hK;obtain ⟨hi,hH⟩:=hg;obtain ⟨eo,hz,hs,vs,kv,od⟩:=I.hok a _ hH;have hl:kvs.length=vs.length:=Paired.length kv;obtain ⟨ob,es',ep',e',ex,d',r⟩:=id od;rw [eo] at e'; cases e';rw [ho] at d'; cases d';have at':s.heap.DictAt (Zy X.prog X.w) a vs ep:=⟨o,es,eo,ex,ho,r⟩;obtain ⟨p,hp⟩:∃ p,kvs[i]?=some p:=⟨kvs[i],by simp [hi]⟩;obtain ⟨u,hu,ru⟩:=KV.get kv hp;obtain ⟨f0,f1,f2,f3,f4,f5⟩:=hf it (by simp);refine wpAny_pyNext_dict_item (hl ▸ st) at' hu fun key h' hkey st' sb=>?_;have I1:Inv X pins σ H { s with heap:=h' }:=I.turned (t':=s.toks) (fun b o hb e=>(sb.2 b hb).trans e) f0 f1 f3 f4 f5;obtain ⟨ob,e,c,d⟩:=id st';exact ⟨key,rfl,ZfJ (s:={ s with heap:=h' }) e c d (by decide) ⟨kV p.1,H,I1,ZhH hkey,⟨rfl,p,hp,rfl⟩,hl ▸ st',fun b hb=>(hf b hb).1⟩⟩
 done:=by
  intro X hP hw hK hc i pins s σ H E I hf st hg;subst hP hw hK;obtain ⟨hi,hH⟩:=hg;obtain ⟨eo,hz,hs,vs,kv,od⟩:=I.hok a _ hH;have hl:kvs.length=vs.length:=Paired.length kv;obtain ⟨ob,es',ep',e',ex,d',r⟩:=id od;rw [eo] at e'; cases e';rw [ho] at d'; cases d';have at':s.heap.DictAt (Zy X.prog X.w) a vs ep:=⟨o,es,eo,ex,ho,r⟩;obtain ⟨f0,f1,f2,f3,f4,f5⟩:=hf it (by simp);exact wpAny_pyNext_dict_end (I.ok.hd hc) (hl ▸ st) at' (by simp; omega) fun h' eb=>⟨rfl,I.turned (t':=s.toks) (fun b o hb e=>eb b o hb e) f0 f1 f3 f4 f5⟩
 self:=fun _ _ _ _ _ st h=>wpAny_pyIter_keyiter st h
def ZmV (tl:TE):TI:=fun σ H R=>tl σ H fun x H1=>∃ a kvs,x=.ref a∧Rd H1 a (.dK kvs)∧∀ o H2,Ext H1 H2→H2 a=some (.frz o (.dK kvs))→(∀ b,b≠a→H2 b=H1 b)→R (Itd a o kvs) H2
theorem ZhR {l tg:Expr}{tl:TE} (hl:PE X l tl):PI X tg l (ZmV tl):=by
 intro pins s σ H R I h;refine thn (hl pins s σ H _ I h) fun v s1 qz=>?_;obtain ⟨x,H1,I1,r1,q1⟩:=qz;obtain ⟨a,kvs,e,rd,q⟩:=q1;subst e;cases r1;have ⟨o,H2,I2,hH2,x2,ne2⟩:∃ o H2,Inv X pins σ H2 s1∧H2 a=some (.frz o (.dK kvs))∧Ext H1 H2∧∀ b,b≠a→H2 b=H1 b:=by
  rcases rd with h | ⟨o,h⟩
  ·obtain ⟨_,_,_,_,o,_,_,e,_⟩:=I1.hok a _ h;refine ⟨o,_,I1.shut h e,Za,fun b u q2=>?_,fun b hb=>Zp hb⟩;by_cases hb:b=a
   ·subst hb;rw [h] at q2;cases q2;exact .inr ⟨⟨_,rfl⟩,o,Za⟩
   ·exact .inl (by rw [Zp hb]; exact q2)
  ·exact ⟨o,H1,I1,h,Ext.refl _,fun _ _=>rfl⟩
 obtain ⟨eo,hz,hs,vs,kv,od⟩:=I2.hok a _ hH2;have hll:kvs.length=vs.length:=Paired.length kv;obtain ⟨ob,es,ep,e',ex,d',r⟩:=id od;rw [eo] at e'; cases e';have at':s1.heap.DictAt (Zy X.prog X.w) a vs ep:=⟨o,es,eo,ex,d',r⟩;refine wpAny_pyIter_dict hs at' ?_;refine ⟨s1.heap.objs.size,[s1.heap.objs.size],_,_,H2,rfl,I2.kept (t':=s1.toks) fun b o e=>Znk _ e,Zjl (es:=es) (ep:=ep) a _ d',?_,fun b hb=>?_,q o H2 x2 hH2 ne2⟩
 ·rw [hll];exact ⟨_,Znu _ rfl,rfl,rfl⟩
 ·have e:b=s1.heap.objs.size:=by simpa using hb
  subst e;exact I2.fpOk (Znn _) (I2.hok.fresh (Znn _))
end
end L2
namespace L2
open PySem PySem.Spec PyProof.Rows Tw
def JU {α:Type} (xs:List α) (lo hi:Option Int):List α:=(xs.drop (HT.sIx xs.length 0 lo)).take (HT.sIx xs.length xs.length hi - HT.sIx xs.length 0 lo)
theorem JW {α:Type} (xs:List α) (lo hi:Option Int):(JU xs lo hi).length≤xs.length:=by
 unfold JU; rw [ZnM,ZnV]; omega
theorem Zio (xs:List V) (lo hi:Option Int):cutV xs lo hi=JU xs lo hi:=rfl
theorem ZdS {α:Type}:∀ (xs:List α) (a n:Nat),((ZnB n).map fun k=>a+k).filterMap (fun i=>xs[i]?)=(xs.drop a).take n:=by
 intro xs a n;induction n generalizing a with
 | zero=>simp
 | succ n ih=>
  rw [List.range_succ_eq_map,ZnN,Zps,Znr];have e:((ZnB n).map ((fun k=>a+k) ∘ Nat.succ))=(ZnB n).map fun k=>(a+1)+k:=by
   apply ZnP; intro k _; simp; omega
  rw [e,ih (a+1),Nat.add_zero];cases h:xs[a]? with
  | none=>
   have:=Zpn.mp h;rw [Zo6 this,Zo6 (by omega)];simp
  | some x=>
   obtain ⟨h1,h2⟩:=Znw.mp h;rw [Zpk h1,List.take_succ_cons,h2]
theorem ZkI (lo hi:Option Int) (n:Nat):Builtin.Str.strSliceIndices lo hi 1 n=(ZnB (HT.sIx n n hi - HT.sIx n 0 lo)).map fun k=>HT.sIx n 0 lo+k:=by
 obtain ⟨h1,h2,h3⟩:=ZbQ lo hi n;have e:Builtin.Str.strSliceIndices lo hi 1 n=sliceRange (sliceBounds lo hi none n).1 (sliceBounds lo hi none n).2.1 (sliceBounds lo hi none n).2.2:=rfl;rw [e,h1,h2,h3];unfold sliceRange;simp only [show (1:Int) > 0 by decide,if_true];have e2:((if ((HT.sIx n 0 lo:Nat):Int) < ((HT.sIx n n hi:Nat):Int) then (((HT.sIx n n hi:Nat):Int) - ((HT.sIx n 0 lo:Nat):Int)+1 - 1) / 1 else 0:Int)).toNat=HT.sIx n n hi - HT.sIx n 0 lo:=by
  split <;> simp <;> omega
 rw [e2];apply ZnP;intro k _;omega
def IsPart.opt {v:Value}{o:Option Int} (p:IsPart v o):∃ q:Option (Int × Tok),v=partValue q∧q.map (·.1)=o:=by
 cases p with
 | none=>exact ⟨none,rfl,rfl⟩
 | int i t=>exact ⟨some (i,t),rfl,rfl⟩
def Zdx:V→Option Int→Option Int→Hp→VK→Prop:=fun x lo hi H Q=>∃ a,x=sv a∧a.length≤sizeLine∧Q (sv (JU a lo hi)) H
section
variable {X:Cx}
theorem Jy:SlR X Zdx:=by
 intro pins s σ H x v vl vu lo hi sl Q I rx hs pl pu h;obtain ⟨a,rfl,hz,q⟩:=h;obtain ⟨t,rfl⟩:=rx;obtain ⟨ql,rfl,el⟩:=IsPart.opt pl;obtain ⟨qu,rfl,eu⟩:=IsPart.opt pu;refine ⟨"str",_,Zqv.lookup,typeIs_str s _ t,?_⟩;refine wpAny_getItem_str_slice (l:=ql) (u:=qu) (st:=none) hs rfl ?_;have hp:((slicePicked (st a) ql qu none).filterMap ((st a).cps[·]?))=JU a lo hi:=by
  unfold slicePicked;rw [el,eu,st_len];show (Builtin.Str.strSliceIndices lo hi 1 a.length).filterMap _=_;rw [ZkI];have:(fun i:Nat=>(st a).cps[i]?)=fun i:Nat=>a[i]?:=by funext i; show (a.toArray)[i]?=a[i]?; simp
  rw [this,ZdS];rfl
 unfold sliceMade;split
 ·rename_i hc;have hl:(slicePicked (st a) ql qu none).length=a.length:=by
   have:=(ZnA _ _ ▸ hc).2;rw [st_len] at this;simpa using this
  have hfull:JU a lo hi=a:=by
   have e:(slicePicked (st a) ql qu none).length=HT.sIx a.length a.length hi - HT.sIx a.length 0 lo:=by
    unfold slicePicked;rw [el,eu,st_len];show (Builtin.Str.strSliceIndices lo hi 1 a.length).length=_;rw [ZkI,Zni,Zod]
   have h1:=HT.sIx_le a.length a.length (Znn _) hi;unfold JU;have h0:HT.sIx a.length 0 lo=0∨a.length=0:=by omega
   rcases h0 with h0 | h0
   ·rw [h0,ZoW,Zok (by omega)]
   ·have:a=[]:=ZnU h0;subst this; simp
  rw [hfull] at q;exact ⟨sv a,H,I,⟨t,rfl⟩,q⟩
 ·show Made.post (.str ⟨_⟩) _ _;rw [hp];exact ⟨by rw [show (⟨(JU a lo hi).toArray⟩:Str)=st (JU a lo hi) from rfl,st_len]; exact Zog (JW a lo hi) hz,sv (JU a lo hi),H,I.tok _,⟨_,rfl⟩,q⟩
def ZlW (K:Znj) (neg:Bool):R2:=fun x y H Q=>∃ (p q:Addr) (ns ms:List Int),x=.ref p∧y=.ref q∧SqL K H p (ns.map V.int)∧SqL K H q (ms.map V.int)∧Q (.bl (if neg then !decide (ns=ms) else decide (ns=ms))) H
theorem ZhL (hu:X.A.units+64 < cLine):OpR X (compareOp .Eq) (ZlW X.K false):=by
 intro pins s σ H x y v u Q I rx ry h;obtain ⟨p,q,ns,ms,rfl,rfl,hp,hq,k⟩:=h;cases rx;cases ry;obtain ⟨its,r,pl,_⟩:=I.list hp;obtain ⟨its',r',pl',_⟩:=I.list hq;exact PySem.W.ke_eq_ints pl.isList pl'.isList (Yp r) (Yp r') hu ⟨.bl _,H,I,rfl,k⟩
theorem JB (hu:X.A.units+64 < cLine):OpR X (compareOp .NotEq) (ZlW X.K true):=by
 intro pins s σ H x y v u Q I rx ry h;obtain ⟨p,q,ns,ms,rfl,rfl,hp,hq,k⟩:=h;cases rx;cases ry;obtain ⟨its,r,pl,_⟩:=I.list hp;obtain ⟨its',r',pl',_⟩:=I.list hq;exact PySem.W.ke_ne_ints pl.isList pl'.isList (Yp r) (Yp r') hu ⟨.bl _,H,I,rfl,k⟩
theorem ZaZ:∀ {ns:List Int}{us:List Value},IntsAre us ns→ZA (ns.map V.int) us
 | _,_,.nil=>.nil
 | _,_,.cons _ t r=>.cons ⟨t,rfl⟩ (ZaZ r)
theorem Zey:∀ {ss:List Str}{us:List Value},StrsAre us ss→ZA (ss.map V.str) us
 | _,_,.nil=>.nil
 | _,_,.cons _ t r=>.cons ⟨t,rfl⟩ (Zey r)
theorem ZaB:YR X (.builtin "sorted") (fun xs H Q=>∃ (p:Addr) (ns:List Int),xs=[.ref p]∧SqL X.K H p (ns.map V.int)∧ns.length < 64∧
  ∀ (l:Addr) (ms:List Int),H l=none→ms.Perm ns→ms.Pairwise (·≤·)→Q (.ref l) (upd H l (.lst (ms.map V.int)))):=by
 intro pins s σ H xs us Q I r h;obtain ⟨p,ns,rfl,hp,h64,k⟩:=h;obtain ⟨u,rfl,rx⟩:=YJ r;cases rx;obtain ⟨its,r',pl,hz⟩:=I.list hp;have hl:its.length=ns.length:=by rw [←r'.length]; simp
 refine sorted_ints pl.isList (Yp r') (by omega) fun out ms hI hP hS=>?_;obtain ⟨e,he⟩:=sortedAll_at s.heap its out;have hfr:H (s.heap.objs.size+1)=none:=I.hok.fresh (Zpb _);refine ⟨.ref (s.heap.objs.size+1),_,I.laid (t':=s.toks) (o:=.lst (ms.map V.int)) (fun b u e=>sortedAll_old e) (Zpb _) ?_,rfl,k _ ms hfr hP hS⟩;refine ⟨?_,out.toList,e,ZaZ hI,?_⟩
 ·rw [Zni,hP.length_eq]; simpa using hz
 ·simpa using he
theorem ZjV:∀ a b:W,ltCps a b=true↔a < b
 | [],[]=>by simp [ltCps]
 | [],_ :: _=>by simp [ltCps]
 | _ :: _,[]=>by simp [ltCps]
 | a :: r,b :: t=>by
  rw [List.cons_lt_cons_iff,ltCps,ZqX,ZnA,decide_eq_true_iff,beq_iff_eq,ZjV r t]
theorem Zmm (a b:W):ltCps b a=false↔a≤b:=by
 rw [←ZpV,ZjV,List.not_lt]
theorem Zje:∀ (l:List Str) (x:Str),risingS x l=true→(x :: l).Pairwise fun a b=>a.cps.toList≤b.cps.toList:=by
 intro l;induction l with
 | nil=>intro x _; exact .cons (by simp) .nil
 | cons y l ih=>
  intro x h;have h':(!ltCps y.cps.toList x.cps.toList && risingS y l)=true:=h;rw [ZnA,Zn3,Zmm] at h';have p:=ih y h'.2;refine .cons (fun z hz=>?_) p;rcases Znz.mp hz with rfl | hz
  ·exact h'.1
  ·exact List.le_trans h'.1 ((ZpE.mp p).1 z hz)
theorem YW:YR X (.builtin "sorted") (fun xs H Q=>∃ (p:Addr) (ws:List W),xs=[.ref p]∧SqL X.K H p (ws.map sv)∧ws.length < 64∧
  ∀ (l:Addr) (us:List W),H l=none→us.Perm ws→us.Pairwise (·≤·)→Q (.ref l) (upd H l (.lst (us.map sv)))):=by
 intro pins s σ H xs us Q I r h;obtain ⟨p,ws,rfl,hp,h64,k⟩:=h;obtain ⟨u,rfl,rx⟩:=YJ r;cases rx;obtain ⟨its,r',pl,hz⟩:=I.list hp;have hl:its.length=ws.length:=by rw [←r'.length]; simp
 refine sorted_strs pl.isList (Zay r') (by omega) fun out ss hI hP hS=>?_;obtain ⟨e,he⟩:=sortedAll_at s.heap its out;have hfr:H (s.heap.objs.size+1)=none:=I.hok.fresh (Zpb _);have ess:ss=(ss.map fun s=>s.cps.toList).map st:=by
  rw [Znr];conv=>lhs; rw [←Zpv ss]
  exact ZnP fun a _=>(ZdI a).symm
 have hP':(ss.map fun s=>s.cps.toList).Perm ws:=by
  have:=hP.map fun s:Str=>s.cps.toList;rw [Znr] at this;have e:(ws.map ((fun s:Str=>s.cps.toList) ∘ st))=ws:=by
   conv=>rhs; rw [←Zpv ws]
   exact ZnP fun a _=>Zhl a
  rw [e] at this;exact this
 have hS':(ss.map fun s=>s.cps.toList).Pairwise (·≤·):=by
  rw [Zpg];cases ss with
  | nil=>exact .nil
  | cons x l=>exact Zje l x hS
 refine ⟨.ref (s.heap.objs.size+1),_,I.laid (t':=s.toks) (o:=.lst ((ss.map fun s=>s.cps.toList).map sv)) (fun b u e=>sortedAll_old e) (Zpb _) ?_,rfl,k _ _ hfr hP' hS'⟩;refine ⟨?_,out.toList,e,?_,?_⟩
 ·rw [Zni,hP'.length_eq]; simpa using hz
 ·have:=Zey hI;rw [ess] at this;rw [Znr] at this ⊢;simpa [Function.comp_def] using this
 ·simpa using he
end
end L2
namespace PySem
open PySem.Calls
theorem ZeP:typeLookup (.type "list") "keys"=pure none:=by rw [typeLookup_type,builtinLookup_eq_fast]; kernel_rfl
theorem ZeS {prog:Program}{w:World}{A:Around}{E:Value→Shared→Prop}{s:Shared}{a:Addr}{o:Obj}{xs:Array Value}{k:Nat}{Q:Option Value→Shared→Prop}
  (ho:s.heap.get? a=some o) (oc:o.cls=.type "list") (od:o.data=.seq xs k) (on:o.dict=none) (hA:A.handled=none)
  (end':∀ h' tk e,Heap.NewExcOf s.heap h' e "AttributeError"→Q none { s with heap:=h',toks:=tk }):
  wpAny (model prog w) A (getAttr? (.ref a) "keys") Q E s:=by
 obtain ⟨c,dct,dat,sl⟩:=o;simp only at oc od on;subst oc od on;obtain ⟨hp,g,d,tk,os⟩:=s;have isL:∀ tk',(⟨hp,g,d,tk',os⟩:Shared).TypeIs (.ref a) "list":=fun _=>⟨_,ho,rfl⟩;have e1:=sub_AttributeError;have e3:=F.slot_list_getattribute.lookup;have e4:=F.slot_list_getattribute.bind (.ref a);have e5:=am_list_getattr_none;unfold getAttr? getAttrBy? getAttrBy
 repeat (any_goals (first | assumption | exact isL _ | ((with_reducible show wpAny _ _ (call (Value.builtin "list.__getattribute__") _ _) _ _ _); refine call_meets F.slot_list_getattribute (isL _) am_entry_list_getattribute (F.args_list_getattribute_2 _ _) (meets_getattribute_miss_list a xs k sl "keys" _ ZeP (by decide +kernel) (by decide +kernel)) ⟨ho,hA,fun h' tk' e ne=>?_⟩) | wp_step))
 obtain ⟨t1,u1,at1⟩:=ne.there;show wpAny _ A (getattributeRaised _ _ _ _ _ _ _) _ _ _;unfold getattributeRaised
 repeat (any_goals (first | assumption | wp_step))
 exact end' _ _ _ ne.of
theorem ZaU:entryFor table "dict.update.loop"=some Builtin.«dict.update.loop»:=entryFor_of_tree (by kernel_rfl)
theorem Ja:plainId "dict.update.loop"=true:=by decide +kernel
section
variable {prog:Program}{w:World}{K:Type} [DecidableEq K] {knd:KeyKind prog w K}{A:Around}{R:Result→Shared→Prop}
theorem Zg6 {I l d:Addr}{items:Array Value} (hA:A.handled=none) (n1:l≠I) (n2:d≠I) (n3:l≠d):∀ (k i:Nat) (s:Shared) (acc ps:List (K × Value)) (tk0:Tok),items.size - i=k→i≤items.size→
  s.heap.IsListIter I l i→s.heap.IsList l items→s.heap.DictOf knd d acc→ps.length=k→acc.length+ps.length≤sizeLine→
  (∀ j p,ps[j]?=some p→∃ t key,items[i+j]?=some (.ref t)∧t≠I∧t≠d∧s.heap.IsTuple t #[key,p.2]∧knd.is p.1 key=true)→
  (∀ h' tk,h'.DictOf knd d (merged acc ps)→(∀ b o,b≠I→b≠d→s.heap.get? b=some o→h'.get? b=some o)→R (.ok (.ret .none)) { s with heap:=h',toks:=tk })→
  codeAny (model prog w) A (.builtin "dict.update.loop" ⟨[.ref d,.ref I,.int i tk0,.none],[]⟩) R s:=by
 intro k;induction k with
 | zero=>
  intro i s acc ps tk0 hk hi it il dd hl hz hps hR;have hps0:ps=[]:=ZnU hl;subst hps0;refine codeAny_builtin ZaU ?_;rw [Around.under_plainId Ja _];show wpAny _ A.in1 (pyNext (.ref I) >>= _) _ _ s;refine wpAny_bind (wpAny_pyNext_list_end hA it il (by simp; omega) fun h' eb=>?_);refine wpAny_bind (wpAny_pure (wpAny_pure ?_));exact hR h' s.toks (dd.extBut eb n2) fun b o h1 _ e=>eb b o h1 e
 | succ k ih=>
  intro i s acc ps tk0 hk hi it il dd hl hz hps hR;cases ps with
  | nil=>simp at hl
  | cons p ps=>
   obtain ⟨t,key,e1,e2,e3,e4,e5⟩:=hps 0 p rfl;refine codeAny_builtin ZaU ?_;rw [Around.under_plainId Ja _];show wpAny _ A.in1 (pyNext (.ref I) >>= _) _ _ s;refine wpAny_bind (wpAny_pyNext_list_item it il (by simpa using e1) fun h1 it1 sb1=>?_);have tup1:h1.IsTuple t #[key,p.2]:=by
    obtain ⟨o,ho,r⟩:=e4;exact ⟨o,(sb1.2 t e2).trans ho,r⟩
   obtain ⟨ot,hot,hct,nt,hdt⟩:=id tup1;have isT:({ s with heap:=h1 }:Shared).TypeIs (.ref t) "tuple":=⟨ot,hot,hct⟩;refine wpAny_bind (wpAny_holding (wpAny_bind ?_));have got:wpAny (model prog w) A.in1 (Builtin.Dict.pairItems (.ref t)) (fun r s'=>r=[key,p.2]∧s'={ s with heap:=h1 }) (fun _ _=>False) { s with heap:=h1 }:=by
    unfold Builtin.Dict.pairItems;refine wpAny_bind (wpAny_typeOf isT ?_);rw [if_pos (by decide)];unfold seqItems?;refine wpAny_bind (wpAny_bind (wpAny_load hot ?_));rw [hdt];exact wpAny_pure (wpAny_pure ⟨rfl,rfl⟩)
   refine wpAny_tryCatch (wpAny_mono got (fun r s' hr=>?_) fun _ _ f=>f.elim);obtain ⟨rfl,rfl⟩:=hr;have dd1:h1.DictOf knd d acc:=dd.extBut sb1.extBut n2;refine wpAny_holding (wpAny_dictSet_pairs (hsz:=by simp at hz; omega) e5 dd1 fun h2 dd2 sb2=>?_);refine wpAny_pure ⟨plainId_quiet Ja _,?_⟩;have keep:∀ b o,b≠I→b≠d→s.heap.get? b=some o→h2.get? b=some o:=fun b o b1 b2 e=>(sb2.2 b b2).trans ((sb1.2 b b1).trans e);refine ih (i+1) { s with heap:=h2,toks:=s.toks+1 } (stored acc p.1 p.2) ps _ (by omega) (by omega) ?_ ?_ dd2 (by simpa using hl) ?_ ?_ fun h' tk dd' kp=>hR h' tk dd' fun b o b1 b2 e=>kp b o b1 b2 (keep b o b1 b2 e)
   ·exact it1.extBut sb2.extBut (Ne.symm n2)
   ·exact (il.extBut sb1.extBut n1).extBut sb2.extBut n3
   ·have:(stored acc p.1 p.2).length≤acc.length+1:=by unfold stored; split <;> simp
    simp at hz; omega
   ·intro j q hj;obtain ⟨t',key',a1,a2,a3,a4,a5⟩:=hps (j+1) q (by simpa using hj);refine ⟨t',key',by rw [show i+1+j=i+(j+1) by omega]; exact a1,a2,a3,?_,a5⟩;obtain ⟨o,ho,r⟩:=a4;exact ⟨o,keep t' o a2 a3 ho,r⟩
theorem ZdR {E:Value→Shared→Prop}{s:Shared}{l:Addr}{items:Array Value}{ps:List (K × Value)}{Q:Value→Shared→Prop} (hA:A.handled=none) (il:PlainL s.heap l items)
  (hl:ps.length=items.size) (hz:ps.length≤sizeLine)
  (hps:∀ (j:Nat) (p:K × Value),ps[j]?=some p→∃ t key,items[j]?=some (.ref t)∧s.heap.IsTuple t #[key,p.2]∧knd.is p.1 key=true)
  (fin:∀ h' tk,h'.DictOf knd s.heap.objs.size (merged [] ps)→(∀ b o,s.heap.get? b=some o→h'.get? b=some o)→Q (.ref s.heap.objs.size) { s with heap:=h',toks:=tk }):
  wpAny (model prog w) A (call (.type "dict") [.ref l]) Q E s:=by
 obtain ⟨ob,k0,ho,oc,on,od⟩:=il;refine callType_codes (Q₁:=fun obj s₁=>obj=.ref s.heap.objs.size∧s₁={ s with heap:=s.heap.push { cls:=.type "dict",data:=.dict #[] } }) F.kt_called_dict (F.kt_typeCall_dict_1 _) F.entry_dict_init (kt_code_dict_new _ ⟨rfl,rfl⟩) ?_;rintro obj s₁ ⟨rfl,rfl⟩;have new0:(s.heap.push { cls:=.type "dict",data:=.dict #[] }).DictOf knd s.heap.objs.size []:=Heap.DictOf.new s.heap;have ho1:(s.heap.push { cls:=.type "dict",data:=.dict #[] }).get? l=some ob:=Znk _ ho;have ne1:l≠s.heap.objs.size:=ZnK (Znx ho);have isL:({ s with heap:=s.heap.push { cls:=.type "dict",data:=.dict #[] } }:Shared).TypeIs (.ref l) "list":=⟨_,ho1,oc⟩;refine ⟨new0.typeIs,F.args_dict_init_2 _ _,?_⟩;unfold Builtin.«dict.__init__» Builtin.Dict.selfAndRest;refine wpAny_bind (wpAny_bind (wpAny_notOrdered_dict new0.typeIs (wpAny_of_eq (a:=(s.heap.objs.size,[Value.ref l])) rfl ?_)));show wpAny _ _ (Builtin.Dict.updateFrom "dict.__init__" s.heap.objs.size (.ref l) [] .none) _ _ _;unfold Builtin.Dict.updateFrom;refine wpAny_bind (wpAny_typeOf isL ?_);rw [if_pos (by decide)];refine wpAny_bind (ZeS (s:={ s with heap:=s.heap.push { cls:=.type "dict",data:=.dict #[] } }) ho1 oc od on hA fun h1 tk1 e ne=>?_);rw [if_pos (show (none:Option Value).isNone=true from rfl)];refine wpAny_bind (wpAny_rule (wpAny_bind ?_));have kp1:∀ b o,s.heap.get? b=some o→h1.get? b=some o:=fun b o q=>ne.keeps b o (Znk _ q);have il1:h1.IsList l items:=⟨_,kp1 l _ ho,oc,_,od⟩;refine wpAny_pyIter_list (s:={ s with heap:=h1,toks:=tk1 }) il1 (wpAny_pure ⟨plainId_quiet Ja _,?_⟩);have dd1:h1.DictOf knd s.heap.objs.size []:=by
  obtain ⟨o,es,ep,q,r⟩:=new0;exact ⟨o,es,ep,ne.keeps _ o q,r⟩
 have lt1:s.heap.objs.size < h1.objs.size:=by
  obtain ⟨o,es,ep,q,r⟩:=dd1;exact Znx q
 have old:∀ b o,s.heap.get? b=some o→b≠h1.objs.size∧b≠s.heap.objs.size:=fun b o q=>⟨ZnK (Znx (kp1 b o q)),ZnK (Znx q)⟩;refine Zg6 (A:=A.in1) (knd:=knd) (items:=items) hA (ZnK (Znx (kp1 l _ ho))) (ZnK lt1) ne1 items.size 0 _ [] ps _ (by simp) (ZnH _) ?_ ?_ ?_ hl (by simpa using hz) ?_ ?_
 ·exact ⟨_,Znu _ rfl,rfl,rfl⟩
 ·exact il1.push _
 ·exact dd1.push _
 ·intro j p hj;obtain ⟨t,key,a1,a2,a3⟩:=hps j p hj;obtain ⟨o,q,r⟩:=id a2;exact ⟨t,key,by rw [ZoN]; exact a1,(old t o q).1,(old t o q).2,⟨o,Znk _ (kp1 t o q),r⟩,a3⟩
 ·intro h' tk dd' kp;exact ⟨rfl,fin h' tk dd' fun b o q=>kp b o (old b o q).1 (old b o q).2 (Znk _ (kp1 b o q))⟩
end
end PySem
namespace L2
open PySem PySem.Spec PyProof.Rows Tw
section
variable {X:Cx}
theorem Zek {pins:List (Addr × Obj)}{σ:St}{H:Hp}{s:Shared} (I:Inv X pins σ H s):∀ {ts:List Addr}{kvs:List (Key × V)},Paired (fun t (kv:Key × V)=>SqT X.K H t [kV kv.1,kv.2]) ts kvs→
  ∃ ps:List (Key × Value),KV kvs ps∧∀ (j:Nat) (p:Key × Value),ps[j]?=some p→∃ t key,ts[j]?=some t∧s.heap.IsTuple t #[key,p.2]∧(Zy X.prog X.w).is p.1 key=true
 | _,_,.nil=>⟨[],.nil,fun j p e=>by simp at e⟩
 | t :: ts,kv :: kvs,.cons h r=>by
  obtain ⟨ps,q,f⟩:=Zek I r;obtain ⟨its,rv,it,_⟩:=I.tuple h;obtain ⟨a,b,rfl,ra,rb⟩:=ZA.two rv;refine ⟨(kv.1,b) :: ps,.cons ⟨rfl,rb⟩ q,fun j p e=>?_⟩;cases j with
  | zero=>
   simp at e;subst e;exact ⟨t,a,rfl,it,ZbK ra⟩
  | succ j=>simpa using f j p (by simpa using e)
theorem Zcs (hc:X.calm=true):YR X (.type "dict") (fun xs H Q=>∃ (p:Addr) (ts:List Addr) (kvs:List (Key × V)),xs=[.ref p]∧SqL X.K H p (ts.map V.ref)∧
  Paired (fun t (kv:Key × V)=>SqT X.K H t [kV kv.1,kv.2]) ts kvs∧∀ d,H d=none→Q (.ref d) (upd H d (.dK (Jg [] kvs)))):=by
 intro pins s σ H xs us Q I r h;obtain ⟨p,ts,kvs,rfl,hp,hk,k⟩:=h;obtain ⟨u,rfl,rx⟩:=YJ r;cases rx;obtain ⟨its,rv,pl,hz⟩:=I.list hp;obtain ⟨ps,kv,f⟩:=Zek I hk;have l1:ts.length=its.length:=by rw [←rv.length]; simp
 have l2:kvs.length=ps.length:=Paired.length kv;have l3:ts.length=kvs.length:=hk.length;have lz:ps.length≤sizeLine:=by rw [←l2,←l3]; simpa using hz
 have get:∀ (j:Nat) (t:Addr),ts[j]?=some t→its[j]?=some (Value.ref t):=fun j t e=>by
  obtain ⟨u,e1,e2⟩:=rv.get (i:=j) (x:=V.ref t) (by rw [Znq,e]; rfl);rw [e1,show u=Value.ref t from e2]
 refine ZdR (knd:=Zy X.prog X.w) (I.ok.hd hc) pl (by simp; omega) lz (fun j p e=>?_) fun h' tk dd kp=>?_
 ·obtain ⟨t,key,e1,e2,e3⟩:=f j p e;exact ⟨t,key,by simpa using get j t e1,e2,e3⟩
 ·have hfr:H s.heap.objs.size=none:=I.hok.fresh (Znn _);refine ⟨.ref s.heap.objs.size,_,I.laid (t':=tk) (o:=.dK (Jg [] kvs)) kp (Znn _) ?_,rfl,k _ hfr⟩;refine dk_new (vs:=merged [] ps) ?_ ?_ (KV.merge kv .nil) dd
  ·have:=J7 kvs [];simp at this;omega
  ·have:=I.big;simpa using Zpz this
end
def Def (K:Znj) (mg:Str→Option Value) (x qual:Str) (st:Stmt) (ps:List Str):Prop:=
 ∃ f fd,Fun K x qual st f fd∧mg x=some (.ref f)∧Zoj K (.ref f)=true∧Jc K fd ps []
def Cal (P:Program) (w:World) (K:Znj) (mg:Str→Option Value) (base:Heap) (CX:CXT) (k:Nat) (x:Str) (ps:List Str) (sp:Sp):Prop:=
 ∃ f fd,Ym P w K mg base CX k f fd ps sp∧mg x=some (.ref f)∧Zoj K (.ref f)=true∧Jc K fd ps []
section
variable {X:Cx}{CX:CXT}{k:Nat}{x:Str}{ps:List Str}{sp:Sp}{E:XK}{p pos:Pos}{e:Expr}{es:List Expr}{t:TA}
theorem Zc (C:Cal X.prog X.w X.K X.mg X.base CX k x ps sp) (hr:ZR k X.A) (ha:PA X (e :: es) t) (hx:Zao CX X E) (hg:Gl X x:=by rfl) (hdb:(x == ("__debug__":Str))=false:=by decide)
  (he:starEach (e :: es) X.env=(false,eval e X.env) :: starEach es X.env:=by rfl) (hpl:(backTo pos (starEach es X.env)).any (·.1)=false:=by rfl):PE X (.Call (.Name x p) (e :: es) [] pos) (ZkK sp [] E t):=by
 obtain ⟨f,fd,F,hm,hk,hb⟩:=C;exact Zlv F hr hg hm hk hb .nil hx ha hdb he hpl
theorem Def.cal {P:Program}{w:World}{K:Znj}{mg:Str→Option Value}{base:Heap}{qual:Str}{st:Stmt} (D:Def K mg x qual st ps)
  (h:∀ f fd,Fun K x qual st f fd→Ym P w K mg base CX k f fd ps sp):Cal P w K mg base CX k x ps sp:=by
 obtain ⟨f,fd,F,hm,hk,hb⟩:=D;exact ⟨f,fd,h f fd F,hm,hk,hb⟩
end
def ZcM (K:Znj) (H:Hp) (v:V):Prop:=∃ n,Zaq K H v (.type n)
def ZgM:V→Bool | .int _=>true | .bl _=>true | _=>false
def ZhE:V→Bool | .bl _=>true | _=>false
def Zmh:V→Bool | .str _=>true | _=>false
section
variable {K:Znj}{H:Hp}{v:V}
theorem Zk4 (h:ZcM K H v):∃ t,Zaq K H v t∧Zoc K t (.type "int")=some (ZgM v):=by
 obtain ⟨n,ty⟩:=h;refine ⟨_,ty,?_⟩;cases ty <;> kernel_rfl
theorem ZjQ (h:ZcM K H v):∃ t,Zaq K H v t∧Zoc K t (.type "bool")=some (ZhE v):=by
 obtain ⟨n,ty⟩:=h;refine ⟨_,ty,?_⟩;cases ty <;> kernel_rfl
theorem ZcD (h:ZcM K H v):∃ t,Zaq K H v t∧Zoc K t (.type "str")=some (Zmh v):=by
 obtain ⟨n,ty⟩:=h;refine ⟨_,ty,?_⟩;cases ty <;> kernel_rfl
theorem Zc7 (h:ZcM K H v):∃ t b,Zaq K H v t∧Zoc K t (.type "list")=some b∧(b=true↔∃ a xs,v=.ref a∧Rd H a (.lst xs)):=by
 obtain ⟨n,ty⟩:=h;have no:∀ {a:Addr}{o:HO},H a=some o→(∀ xs,o≠.lst xs)→(∀ ob xs,o≠.frz ob (.lst xs))→¬ ∃ b xs,V.ref a=.ref b∧Rd H b (.lst xs):=by
  rintro a o e h1 h2 ⟨b,xs,hb,hr⟩;cases hb;rcases hr with q | ⟨ob,q⟩
  ·rw [e] at q; cases q; exact h1 _ rfl
  ·rw [e] at q; cases q; exact h2 _ _ rfl
 refine ⟨_,?b,ty,?_,?_⟩
 case b=>exact (match v with | .ref a=>(match H a with | some (.lst _)=>true | some (.frz _ (.lst _))=>true | _=>false) | _=>false)
 ·cases ty with
  | lst e=>dsimp only; rw [e]; kernel_rfl
  | frz e=>dsimp only; rw [e]; kernel_rfl
  | tup e=>dsimp only; rw [e]; kernel_rfl
  | dK e=>dsimp only; rw [e]; kernel_rfl
  | dT e=>dsimp only; rw [e]; kernel_rfl
  | _=>kernel_rfl
 ·cases ty with
  | lst e=>dsimp only; rw [e]; exact ⟨fun _=>⟨_,_,rfl,.inl e⟩,fun _=>rfl⟩
  | frz e=>dsimp only; rw [e]; exact ⟨fun _=>⟨_,_,rfl,.inr ⟨_,e⟩⟩,fun _=>rfl⟩
  | tup e=>dsimp only; rw [e]; exact ⟨(fun z=>nomatch z),fun z=>absurd z (no e (fun _=>by simp) fun _ _=>by simp)⟩
  | dK e=>dsimp only; rw [e]; exact ⟨(fun z=>nomatch z),fun z=>absurd z (no e (fun _=>by simp) fun _ _=>by simp)⟩
  | dT e=>dsimp only; rw [e]; exact ⟨(fun z=>nomatch z),fun z=>absurd z (no e (fun _=>by simp) fun _ _=>by simp)⟩
  | _=>exact ⟨(fun z=>nomatch z),fun ⟨a,xs,e,_⟩=>nomatch e⟩
end
end L2
set_option maxHeartbeats 2000000
namespace L2
open PySem PySem.Spec PyProof.Rows
def Zfs (keys vs:List Value) (R:List Value→Prop):Prop:=
 (vs.length < 2→R vs)∧(2≤vs.length→keyKind' keys.toArray=pure oneType'∧
  ∀ (prog:Program) (w:World) (A:Around) (E:Value→Shared→Prop) (s:Shared),
   wpS (model prog w) A E s sortRuns' (fun _ st=>failedOf st=none∧((arrOf st).map (·.2)).size=vs.length∧R ((arrOf st).map (·.2)).toList) (SortSt.mk' oneType' (keys.toArray.zip vs.toArray) #[] 7 none))
section
variable {prog:Program}{w:World}{A:Around}{E:Value→Shared→Prop}{s:Shared}{a q kS:Addr}{vs:List Value}{n c:Nat}{R:List Value→Prop}{KeyIs:Nat→Value→Prop}{P:PySem.Fin→Shared→Prop}
def Zl6 (s:Shared) (a kS:Addr) (c:Nat) (KeyIs:Nat→Value→Prop) (i:Nat) (s':Shared):Prop:=
 ∃ h tk ks e,s'={ s with heap:=h,toks:=tk }∧(∀ b o,b≠a→s.heap.get? b=some o→h.get? b=some o)∧h.get? a=some (seqObj "list" #[] c)∧h.get? kS=some (seqObj "list" ks e)∧ks.size=i∧∀ j k,ks[j]?=some k→KeyIs j k
theorem Zba {h:Heap}{l b:Addr}{o:Obj}{f:Array Value→Array Value} (hb:b≠l) (e:h.get? b=some o):(h.update l (Obj.mapSeq f)).get? b=some o:=(Zn7 _ _ (Ne.symm hb)).trans e
theorem ZlM {st:SortSt}{ks:Array Value}{e:Nat} (oa:s.heap.get? a=some (seqObj "list" #[] c)) (ok:s.heap.get? kS=some (seqObj "list" ks e)) (ne:kS≠a) (kz:ks.size≤sizeLine) (fl:failedOf st=none) (fz:((arrOf st).map (·.2)).size≤sizeLine)
  (h:∀ h' c',h'.get? a=some (seqObj "list" ((arrOf st).map (·.2)) c')→(∀ b o,b≠a→b≠kS→s.heap.get? b=some o→h'.get? b=some o)→P (.done (.ret .none)) { s with heap:=h' }):wpAny (model prog w) A (ksk_tail a false c (.ref kS) st) P E s:=by
 have o1:=Zba (f:=fun _=>#[]) (Ne.symm ne) oa;refine wpAny_bind (listUpdate_at ok rfl (wpAny_bind (wpAny_letGo (wpAny_bind (seqEpoch_at o1 rfl (wpAny_bind (listUpdate_at o1 rfl ?_ (ZnH _) (Nat.le_succ_of_le fz))))))) kz (ZnH _));rw [fl];simp only [bne_self_eq_false,ZoI,if_false];exact wpAny_pure (h _ _ (get?_update_seq o1 fun _=>(arrOf st).map (·.2)) fun b o h1 h2 z=>Zba h1 (Zba h2 z))
theorem ZhW (ho:s.heap.get? a=some (seqObj "list" vs.toArray n)) (hz:vs.length≤sizeLine)
  (turn:∀ (i:Nat) (x:Value) (h:Heap) (tk:Nat),vs[i]?=some x→(∀ b o,b≠a→s.heap.get? b=some o→h.get? b=some o)→
   wpAny (model prog w) A (call (.ref q) [x]) (fun v s'=>KeyIs i v∧∃ h' tk',s'={ s with heap:=h',toks:=tk' }∧∀ b o,h.get? b=some o→h'.get? b=some o) (fun _ _=>False) { s with heap:=h,toks:=tk })
  (srt:∀ keys:List Value,keys.length=vs.length→(∀ i k,keys[i]?=some k→KeyIs i k)→Zfs keys vs R)
  (h:∀ h' tk out c',h'.get? a=some (seqObj "list" out c')→(∀ b o,b≠a→s.heap.get? b=some o→h'.get? b=some o)→R out.toList→out.size=vs.length→P (.done (.ret .none)) { s with heap:=h',toks:=tk }):
  wpAny (model prog w) A (Builtin.«list.sort» ⟨[.ref a],[(Str.ofString "key",.ref q)]⟩) P E s:=by
 rw [ksk_t1];have lt:a < s.heap.objs.size:=Znx ho;have o1:=get?_update_seq ho fun _=>#[];generalize (if ((fun _:Array Value=>(#[]:Array Value)) vs.toArray).size == vs.toArray.size then n else n+1)=c at o1;refine wpAny_bind (listItems_at ho rfl (wpAny_bind (listUpdate_at ho rfl (wpAny_bind (seqEpoch_at o1 rfl (wpAny_bind (wpAny_newTuple (wpAny_bind (wpAny_newList (wpAny_holding ?_))) hz)))) (by simpa using hz))));have sz:((s.heap.update a (Obj.mapSeq fun _=>(#[]:Array Value))).push (seqObj "tuple" vs.toArray 0)).objs.size=s.heap.objs.size+1:=by rw [size_push',ZqL]
 have old:∀ b o,b≠a→s.heap.get? b=some o→(((s.heap.update a (Obj.mapSeq fun _=>(#[]:Array Value))).push (seqObj "tuple" vs.toArray 0)).push (seqObj "list" #[] 0)).get? b=some o:=fun b o hb z=>Znk _ (Znk _ (Zba hb z));have oa:=Znk (seqObj "list" #[] 0) (Znk (seqObj "tuple" vs.toArray 0) o1);have ok:(((s.heap.update a (Obj.mapSeq fun _=>(#[]:Array Value))).push (seqObj "tuple" vs.toArray 0)).push (seqObj "list" #[] 0)).get? (s.heap.objs.size+1)=some (seqObj "list" #[] 0):=by rw [←sz]; exact Znu _ rfl
 show wpAny _ A (ksk_rest a (.ref q) false vs.toArray c (.ref ((s.heap.update a (Obj.mapSeq fun _=>(#[]:Array Value))).push (seqObj "tuple" vs.toArray 0)).objs.size)) P E { s with heap:=((s.heap.update a (Obj.mapSeq fun _=>(#[]:Array Value))).push (seqObj "tuple" vs.toArray 0)).push (seqObj "list" #[] 0) };rw [sz];generalize ((s.heap.update a (Obj.mapSeq fun _=>(#[]:Array Value))).push (seqObj "tuple" vs.toArray 0)).push (seqObj "list" #[] 0)=h0 at old oa ok;have nk:s.heap.objs.size+1≠a:=Zpz (ZoP lt);have below:∀ b o,s.heap.get? b=some o→b≠s.heap.objs.size+1:=fun b o z=>ZnK (ZoP (Znx z));refine wpAny_bind (wpAny_rule ?_);rw [List.forIn_toArray];refine wpAny_bind (ksk_fold (Zl6 s a (s.heap.objs.size+1) c KeyIs) vs 0 _ ⟨h0,s.toks,#[],0,rfl,old,oa,ok,rfl,fun j k z=>by simp at z⟩ (fun j x s' hx J=>?_) fun s' J=>?_)
 ·simp only [ZoN] at J ⊢;obtain ⟨h1,tk,ks,e,rfl,k1,a1,b1,z1,all⟩:=J;refine wpAny_bind (wpAny_attempt (wpAny_mono (turn j x h1 tk hx k1) (fun v s2 qz=>?_) fun _ _ z=>z.elim));obtain ⟨kv,h2,tk2,e2,k2⟩:=qz;subst e2;have lj:j < vs.length:=(Znw.mp hx).1;have b2:=k2 _ _ b1;refine wpAny_bind (listUpdate_at (f:=(·.push v)) b2 rfl ?_ (by omega) (by show (ks.push v).size≤_; rw [Array.size_push]; omega));refine wpAny_pure ⟨rfl,_,_,ks.push v,_,rfl,fun b o hb z=>Zba (below b o z) (k2 b o (k1 b o hb z)),Zba (Ne.symm nk) (k2 _ _ a1),get?_update_seq b2 (·.push v),by rw [Array.size_push,z1],fun i k z=>?_⟩;rw [Array.getElem?_push] at z;split at z
  next ei=>cases z; rw [ei,z1]; exact kv
  next=>exact all i k z
 ·simp only [ZoN] at J;obtain ⟨h1,tk,ks,e,rfl,k1,a1,b1,z1,all⟩:=J;refine wpAny_bind (listItems_at b1 rfl ?_);have S:=srt ks.toList (by rw [Zn8,z1]) fun i k z=>all i k (by rw [←ZnY]; exact z);have fin:∀ st:SortSt,failedOf st=none→((arrOf st).map (·.2)).size=vs.length→R ((arrOf st).map (·.2)).toList→wpAny (model prog w) A (ksk_tail a false c (.ref (s.heap.objs.size+1)) st) P E { s with heap:=h1,toks:=tk }:=fun st f1 f2 f3=>
   ZlM (s:={ s with heap:=h1,toks:=tk }) a1 b1 nk (by omega) f1 (by omega) fun h' c' o' k'=>h h' tk _ c' o' (fun b o hb z=>k' b o hb (below b o z) (k1 b o hb z)) f3 f2
  have vz:vs.toArray.size=vs.length:=Zny;show wpAny _ A (ksk_end a false vs.toArray c (.ref (s.heap.objs.size+1)) ks) P E _;unfold ksk_end;simp only [ZoI,if_false];have ez:(ks.zip vs.toArray).map (·.2)=vs.toArray:=by
   rw [←Array.toList_inj];simp only [ZqI,ZqJ];exact ZqN (show vs.length≤ks.toList.length from Zpx (z1.symm.trans Zn8.symm))
  by_cases few:vs.toArray.size < 2
  ·simp only [if_pos few,StateT.run_pure];refine wpAny_bind (wpAny_pure (wpAny_bind (wpAny_pure (fin (SortSt.mk' general' (ks.zip vs.toArray) #[] 7 none) rfl ?_ ?_))))
   ·show ((ks.zip vs.toArray).map (·.2)).size=_;rw [ez,vz]
   ·show R ((ks.zip vs.toArray).map (·.2)).toList;rw [ez];exact S.1 (by omega)
  ·simp only [if_neg few];obtain ⟨kk,run⟩:=S.2 (by omega);rw [Array.toArray_toList] at kk run;rw [kk];refine wpAny_bind (wpAny_pure (wpAny_bind (wpAny_mono (run prog w A E _) ?_ fun _ _ z=>z)));rintro ⟨⟨⟩,st⟩ s2 ⟨rfl,f1,f2,f3⟩;exact fin st f1 f2 f3
end
section
variable {prog:Program}{w:World}{A:Around}{E:Value→Shared→Prop}{s:Shared}
abbrev Zku (lo hi:Int) (t u v:Tok):Obj:={ cls:=.type "range",data:=.fields #[.int lo t,.int hi u,.int 1 v] }
theorem Zgi (n:Nat):Builtin.Range.rangeSize 0 n 1=n:=by
 rw [rangeSize_one];split <;> omega
theorem Zep {n:Nat} (h:n≤2 ^ 24):Builtin.Range.small 0 n 1=true:=small_one (by omega) (by omega) (by omega) (by omega)
theorem ZdQ {r:Addr}{n:Nat}{t u v:Tok}{Q:List Value→Shared→Prop} (hh:A.handled=none) (hr:s.heap.get? r=some (Zku 0 n t u v)) (hn:n≤2 ^ 24)
  (h:∀ (h':Heap) (tk:Nat) (us:List Value),us.length=n→(∀ (i:Nat) x,us[i]?=some x→∃ t,x=.int i t)→(∀ b o,s.heap.get? b=some o→h'.get? b=some o)→s.heap.objs.size≤h'.objs.size→Q us { s with heap:=h',toks:=tk }):
  wpAny (model prog w) A (collect (.ref r)) Q E s:=by
 generalize hl:s.heap.objs.size=l;have oL:(s.heap.push { cls:=.type "list",data:=.seq #[] }).get? l=some { cls:=.type "list",data:=.seq #[] }:=by rw [←hl]; exact Znu _ rfl
 refine wpAny_bind (wpAny_runValue (codeAny_builtin Zp8 ?_));rw [Around.under_plainId Zp9];refine wpAny_bind (m:=newList []) (wpAny_newObj_type (wpAny_pure ⟨plainId_quiet Zo3 _,codeAny_builtin ZqF ?_⟩));rw [Around.under_plainId Zo3,hl];refine wpAny_mono (wpAny_extend_range (s:={ s with heap:=s.heap.push { cls:=.type "list",data:=.seq #[] } }) (R:=fun r s'=>r=.ok (.ret (.ref l))∧∃ h' tk acc c',s'={ s with heap:=h',toks:=tk }∧(∀ b o,b≠l→(s.heap.push { cls:=.type "list",data:=.seq #[] }).get? b=some o→h'.get? b=some o)∧
  h'.get? l=some { cls:=.type "list",dict:=none,data:=.seq acc c',slots:=#[] }∧ItemsOf (fun i v=>∃ t,v=.int ((0:Int)+i * 1) t) acc n) hh (Znk _ hr) (Zep hn) (Zgi n) hn l (.ref l) 0 oL fun h' tk acc c' keep o' all=>⟨rfl,h',tk,acc,c',rfl,keep,o',all⟩) (fun fin s' hf=>?_) fun e s' he=>nomatch he.1
 have go:∀ s',(∃ h' tk acc c',s'={ s with heap:=h',toks:=tk }∧(∀ b o,b≠l→(s.heap.push { cls:=.type "list",data:=.seq #[] }).get? b=some o→h'.get? b=some o)∧h'.get? l=some { cls:=.type "list",dict:=none,data:=.seq acc c',slots:=#[] }∧ItemsOf (fun i v=>∃ t,v=.int ((0:Int)+i * 1) t) acc n)→
   wpAny (model prog w) A (do let o ←load l; match o.data with | .seq xs _=>pure xs.toList | _=>unsupported "internal:collect") Q E s':=by
  rintro s' ⟨h',tk,acc,c',rfl,keep,o',all⟩;refine wpAny_bind (wpAny_load o' (wpAny_pure ?_));refine h h' tk acc.toList (by rw [Zn8]; exact all.1) (fun i x e=>?_) (fun b o e=>keep b o ?_ (Znk _ e)) ?_
  ·obtain ⟨t,e⟩:=all.2 i x (by rw [←ZnY]; exact e);exact ⟨t,by rw [e]; simp⟩
  ·rw [←hl];exact ZnK (Znx e)
  ·rw [hl];exact Zpy (Znx o')
 cases fin with
 | done f=>
  obtain ⟨e,ph⟩:=hf;cases e;exact go s' ph
 | again c'=>
  refine ⟨hf.1,codeAny_mono hf.2 fun r s2 hs=>?_⟩;obtain ⟨e,ph⟩:=hs;subst e;exact go s2 ph
theorem Zc4 {us:List Value}{n:Nat} (hl:us.length=n) (h:∀ (i:Nat) x,us[i]?=some x→∃ t,x=.int i t):IntsAre us ((ZnB n).map Zot):=by
 have go:∀ (us:List Value) (m:Nat),(∀ (i:Nat) x,us[i]?=some x→∃ t,x=.int (m+i:Nat) t)→IntsAre us ((List.range' m us.length).map Zot):=by
  intro us;induction us with
  | nil=>exact fun _ _=>.nil
  | cons x us ih=>
   intro m q;obtain ⟨t,rfl⟩:=q 0 x rfl;refine .cons _ t (ih (m+1) fun i y e=>?_);obtain ⟨t,rfl⟩:=q (i+1) y e;exact ⟨t,by rw [show m+(i+1)=m+1+i by omega]⟩
 have:=go us 0 fun i x e=>by rw [ZoN]; exact h i x e
 rw [hl] at this;rwa [List.range_eq_range']
theorem ZcA {r q:Addr}{n:Nat}{t u v:Tok}{R:List Value→Prop}{KeyIs:Nat→Value→Prop}{Q:Value→Shared→Prop} (hh:A.handled=none) (hr:s.heap.get? r=some (Zku 0 n t u v)) (hn:n≤2 ^ 24)
  (turn:∀ (i:Nat) (t:Tok) (h:Heap) (tk:Nat),i < n→(∀ b o,s.heap.get? b=some o→h.get? b=some o)→
   wpAny (model prog w) A.in1.in1 (call (.ref q) [.int i t]) (fun v s'=>KeyIs i v∧∃ h' tk',s'={ s with heap:=h',toks:=tk' }∧∀ b o,h.get? b=some o→h'.get? b=some o) (fun _ _=>False) { s with heap:=h,toks:=tk })
  (srt:∀ keys vs:List Value,keys.length=n→vs.length=n→(∀ i k,keys[i]?=some k→KeyIs i k)→IntsAre vs ((ZnB n).map Zot)→Zfs keys vs R)
  (h:∀ D h' tk out c,s.heap.objs.size≤D→h'.get? D=some (seqObj "list" out c)→(∀ b o,s.heap.get? b=some o→h'.get? b=some o)→R out.toList→out.size=n→Q (.ref D) { s with heap:=h',toks:=tk }):
  wpAny (model prog w) A (call (.builtin "sorted") [.ref r] [(Str.ofString "key",.ref q)]) Q E s:=by
 refine call_function_entry_kw kind_sorted plain_sorted entry_sorted (ksk_s1 _ _) (wpAny_bind (wpAny_pure ?_));refine wpAny_bind (ZdQ (A:=A.in1) (by simpa using hh) hr hn fun h1 tk us e1 e2 keep le=>?_);have nz:us.length≤sizeLine:=by rw [e1,sizeLine_eq]; omega
 have oL:(h1.push (seqObj "list" us.toArray 0)).get? h1.objs.size=some (seqObj "list" us.toArray 0):=Znu _ rfl;have k1:∀ b o,s.heap.get? b=some o→b≠h1.objs.size∧(h1.push (seqObj "list" us.toArray 0)).get? b=some o:=fun b o e=>⟨ZnK (Znx (keep b o e)),Znk _ (keep b o e)⟩;refine wpAny_bind (wpAny_newList (wpAny_bind (wpAny_holding ?_)) nz);refine wpAny_call_entry_kw (s:={ s with heap:=h1.push (seqObj "list" us.toArray 0),toks:=tk }) slot_list_sort ⟨_,oL,rfl⟩ entry_list_sort ?_ (ksk_l1 _ _);refine ZhW (R:=R) (KeyIs:=KeyIs) oL nz (fun i x h2 tk2 ex k2=>?_) (fun keys l1 l2=>srt keys us (by rw [l1,e1]) e1 l2 (Zc4 e1 e2)) fun h2 tk2 out c o2 k2 r2 z2=>⟨_,rfl,?_⟩
 ·obtain ⟨t,rfl⟩:=e2 i x ex;exact turn i t h2 tk2 (by rw [←e1]; exact (Znw.mp ex).1) fun b o e=>k2 b o (k1 b o e).1 (k1 b o e).2
 ·exact wpAny_pure ⟨_,rfl,h _ h2 tk2 out c le o2 (fun b o e=>k2 b o (k1 b o e).1 (k1 b o e).2) r2 (by rw [z2,e1])⟩
end
theorem ZhD {vs:List Value}{n:Nat} (hv:IntsAre vs ((ZnB n).map Zot)) {i:Nat}{x:Value} (e:vs[i]?=some x):i < n∧∃ t,x=.int i t:=by
 have go:∀ {vs:List Value}{ns:List Int},IntsAre vs ns→∀ {i:Nat}{x:Value},vs[i]?=some x→∃ z t,ns[i]?=some z∧x=.int z t:=by
  intro vs ns h;induction h with
  | nil=>exact fun e=>nomatch e
  | cons z t _ ih=>
   intro i x e;cases i with
   | zero=>exact ⟨z,t,rfl,(Option.some.inj e).symm⟩
   | succ i=>exact ih e
 obtain ⟨z,t,e1,e2⟩:=go hv e;rw [Znq] at e1;obtain ⟨j,e3,e4⟩:=Option.map_eq_some_iff.mp e1;obtain ⟨l1,l2⟩:=Znw.mp e3;rw [List.getElem_range] at l2;rw [Zod] at l1;subst l2;exact ⟨l1,t,by rw [e2,←e4]; rfl⟩
theorem Zhb {γ:Type} (key:Value→γ) (le:γ→γ→Prop) {n:Nat}{keys vs:List Value}{xs:Array Keyed} (hp:xs.Perm (keys.toArray.zip vs.toArray)) (hl:keys.length=n) (hz:vs.length=n) (hv:IntsAre vs ((ZnB n).map Zot))
  (hs:∀ (i j:Nat) (hi:i < xs.size) (hj:j < xs.size),i < j→le (key xs[i].1) (key xs[j].1)):
  ∃ ms:List Nat,IntsAre (xs.map (·.2)).toList (ms.map Zot)∧ms.Perm (ZnB n)∧ms.Pairwise fun i j=>le (key (keys.getD i .none)) (key (keys.getD j .none)):=by
 have pl:xs.toList.Perm (keys.zip vs):=by
  have:=Zob.mp hp;rwa [ZqJ] at this
 have at_:∀ p∈xs.toList,∃ (i:Nat) (t:Tok),keys.getD i .none=p.1∧p.2=.int i t:=fun p hm=>by
  obtain ⟨i,hi⟩:=List.getElem?_of_mem (pl.mem_iff.mp hm);rw [List.getElem?_zip_eq_some] at hi;obtain ⟨_,t,e⟩:=ZhD hv hi.2;exact ⟨i,t,by rw [Znv,hi.1]; rfl,e⟩
 have ii:∀ (l:List Keyed),(∀ p∈l,∃ (i:Nat) (t:Tok),keys.getD i .none=p.1∧p.2=.int i t)→IntsAre (l.map (·.2)) ((l.map fun p=>(numOf p.2).toNat).map Zot):=by
  intro l;induction l with
  | nil=>exact fun _=>.nil
  | cons p l ih=>
   intro q;obtain ⟨i,t,_,e⟩:=q p (.head _);have q2:=ih fun r hr=>q r (.tail _ hr);simp only [ZnN];rw [e];exact .cons _ t q2
 refine ⟨xs.toList.map fun p=>(numOf p.2).toNat,by rw [ZqI]; exact ii _ at_,?_,?_⟩
 ·have:=pl.map fun p:Keyed=>(numOf p.2).toNat;refine this.trans (Zou.of_eq ?_);have e1:(keys.zip vs).map (fun p:Keyed=>(numOf p.2).toNat)=((keys.zip vs).map (·.2)).map fun x=>(numOf x).toNat:=by rw [Znr]; rfl
  rw [e1,ZqN (by omega)];have e2:vs.map numOf=(ZnB n).map Zot:=hv.nums;have e3:vs.map (fun x=>(numOf x).toNat)=(vs.map numOf).map ZoY:=by rw [Znr]; rfl
  rw [e3,e2,Znr];exact List.map_id'' (fun _=>rfl) _
 ·rw [Zpg,ZoF];intro i j hi hj lt;have hi':i < xs.size:=by simpa using hi
  have hj':j < xs.size:=by simpa using hj
  obtain ⟨a,t,e1,e2⟩:=at_ xs[i] (by simp);obtain ⟨b,t',e3,e4⟩:=at_ xs[j] (by simp);have q:=hs i j hi' hj' lt;simp only [Array.getElem_toList];rw [e2,e4];show le (key (keys.getD a .none)) (key (keys.getD b .none));rw [e1,e3];exact q
theorem ZmQ {α:Type}:∀ {l:List α},2≤l.length→∃ a b r,l=a :: b :: r
 | [],h=>absurd h (by simp)
 | [_],h=>absurd h (by simp)
 | a :: b :: r,_=>⟨a,b,r,rfl⟩
def ZmE:Value→List Nat
 | .str x _=>x.cps.toList
 | _=>[]
def wat (ws:List Str) (i:Nat):List Nat:=(ws.getD i ⟨#[]⟩).cps.toList
theorem Zh6 {keys:List Value}{ws:List Str} (h:StrsAre keys ws):∀ i,ZmE (keys.getD i .none)=wat ws i:=by
 induction h with
 | nil=>exact fun i=>by cases i <;> rfl
 | cons x t _ ih=>
  intro i;cases i with
  | zero=>rfl
  | succ i=>exact ih i
theorem ZlI {n:Nat}{vs:List Value}{T:Nat→Nat→Prop} (hv:IntsAre vs ((ZnB n).map Zot)) (h:n < 2):∃ ms:List Nat,IntsAre vs (ms.map Zot)∧ms.Perm (ZnB n)∧ms.Pairwise T:=by
 refine ⟨_,hv,Zou.refl _,?_⟩;match n,h with
 | 0,_=>exact .nil
 | 1,_=>exact List.pairwise_singleton _ _
theorem ZkF {n:Nat}{ws:List Str}{keys vs:List Value} (hk:StrsAre keys ws) (hl:keys.length=n) (hz:vs.length=n) (hv:IntsAre vs ((ZnB n).map Zot)) (h64:n < 64):
  Zfs keys vs fun out=>∃ ms:List Nat,IntsAre out (ms.map Zot)∧ms.Perm (ZnB n)∧ms.Pairwise fun i j=>¬ wat ws j < wat ws i:=by
 refine ⟨fun few=>ZlI hv (by omega),fun two=>?_⟩;have zz:(keys.toArray.zip vs.toArray).size=n:=by rw [Array.size_zip,Zny,Zny]; omega
 obtain ⟨k1,k2,r,rfl⟩:=ZmQ (l:=keys) (by omega);refine ⟨keyKind_strs hk,fun prog w A E s=>?_⟩;refine wpS_sortRunsK (κ:=strKind) strKind_oneLt (a₀:=(k1 :: k2 :: r).toArray.zip vs.toArray) (fun p hp=>?_) ⟨Zp3.refl _,rfl,rfl,rfl⟩ (by omega) (by omega) fun st p1 p2 p3=>⟨p2,?_,?_⟩
 ·rw [ZqJ] at hp;obtain ⟨x,t,e⟩:=hk.all _ (Zp6 hp).1;exact ⟨_,by rw [e]⟩
 ·rw [Array.size_map,p1.size_eq,zz,hz]
 ·have q:=Zhb ZmE (fun a b=>¬ b < a) p1 hl hz hv fun i j hi hj lt=>?_
  ·obtain ⟨ms,m1,m2,m3⟩:=q;exact ⟨ms,m1,m2,m3.imp fun {a b} z=>by rw [Zh6 hk,Zh6 hk] at z; exact z⟩
  ·have:=p3 i j (Zpy lt) (by rw [←p1.size_eq]; exact hj);have kk:∀ (i:Nat) (hi:i < (arrOf st).size),KK strKind (arrOf st) i=ZmE (arrOf st)[i].1:=fun i hi=>by
    unfold KK;rw [Zpj hi];generalize (arrOf st)[i]=p;obtain ⟨x,y⟩:=p;cases x <;> rfl
   rw [kk i hi,kk j hj] at this;exact of_decide_eq_false this
def Zd0 (c:Addr) (qual:Str):HO:=.ext fun h=>h.CodeRec (.ref c) qual
def Pk (P:Addr) (pos:Pos) (qual:Str) (H:Hp):Prop:=
 H P=some (.tbl #[])∨∃ c,H P=some (.tbl #[rawInt pos.line,rawInt pos.col,.ref c])∧H c=some (Zd0 c qual)
def Zaz (P:Addr) (H H':Hp):Prop:=∀ b o,b≠P→H b=some o→H' b=some o
theorem Zaz.refl {P:Addr}{H:Hp}:Zaz P H H:=fun _ _ _ e=>e
theorem Pk.same {P:Addr}{pos:Pos}{qual:Str}{H H':Hp} (p:Pk P pos qual H) (a:Same H H'):Pk P pos qual H':=by
 rcases p with p | ⟨c,p,q⟩
 ·exact .inl (a _ _ p)
 ·exact .inr ⟨c,a _ _ p,a _ _ q⟩
theorem Pk.at {P:Addr}{pos:Pos}{qual:Str}{H:Hp} (p:Pk P pos qual H):∃ ps,H P=some (.tbl ps):=by
 rcases p with p | ⟨c,p,_⟩
 ·exact ⟨_,p⟩
 ·exact ⟨_,p⟩
theorem Zaz.free {P:Addr}{H H':Hp} (k:Zaz P H H') {l:Addr} (hl:l≠P) (h:H' l=none):H l=none:=by
 cases q:H l with
 | none=>rfl
 | some o=>
  rw [k l o hl q] at h;cases h
theorem Zaz.seq {K:Znj}{P:Addr}{pos:Pos}{qual:Str}{H H':Hp}{a:Addr}{xs:List V} (k:Zaz P H H') (p:Pk P pos qual H) (h:SqL K H a xs):SqL K H' a xs:=by
 obtain ⟨ps,p⟩:=p.at;rcases h with (h | ⟨o,h⟩) | h
 ·exact .inl (.inl (k _ _ (Ye h p (fun z=>nomatch z)) h))
 ·exact .inl (.inr ⟨o,k _ _ (Ye h p (fun z=>nomatch z)) h⟩)
 ·exact .inr h
def BM (mg:Str→Option Value) (h:Heap):Prop:=∃ bm o,mg "__builtins__"=some (.ref bm)∧bm≠builtinsNs∧h.get? bm=some o∧o.cls=.type "module"∧o.dict=some builtinsNs∧o.data=.plain
theorem Zfy {X:Cx}:YR X (.type "range") (fun xs H Q=>∃ n:Nat,xs=[.int n]∧∀ l,H l=none→Q (.ref l) (upd H l (.rng 0 n))):=by
 intro pins s σ H xs us Q I r h;obtain ⟨n,rfl,q⟩:=h;obtain ⟨u,rfl,t,rfl⟩:=YJ r;have fr:H s.heap.objs.size=none:=I.hok.fresh (Znn _);exact call_range_1 ⟨.ref s.heap.objs.size,_,I.laid (o:=.rng 0 n) (fun b o e=>Znk _ e) (Znn _) ⟨_,_,_,Znu _ rfl⟩,rfl,q _ fr⟩
def Srt (xs:List V) (T:List Nat→Prop):Prop:=∀ keys vs:List Value,ZA xs keys→vs.length=xs.length→IntsAre vs ((ZnB xs.length).map Zot)→Zfs keys vs fun out=>∃ ms:List Nat,IntsAre out (ms.map Zot)∧T ms
section
variable {X:Cx}{pins:List (Addr × Obj)}{σ:St}{H:Hp}{s:Shared}{P:Addr}{qual:Str}{c':Addr}{h':Heap}{tk:Nat}
theorem Inv.coded (I:Inv X pins σ H s) {ps:Array Value} (hP:H P=some (.tbl #[])) (hx:∀ b o,b≠P→s.heap.get? b=some o→h'.get? b=some o) (hc:s.heap.objs.size≤c') (hr:h'.CodeRec (.ref c') qual) (ht:h'.get? P=some { cls:=.none,data:=.fields ps }):
  Inv X pins σ (upd (upd H P (.tbl ps)) c' (Zd0 c' qual)) { s with heap:=h',toks:=tk }:=by
 have fc:H c'=none:=I.hok.fresh hc;have ltP:P < s.heap.objs.size:=I.hok.lt hP;have cP:c'≠P:=fun z=>by rw [z,hP] at fc; cases fc
 have old:∀ b u,H b=some u→b≠P→(upd (upd H P (.tbl ps)) c' (Zd0 c' qual)) b=some u:=fun b u e n=>by
  rw [Zp (ne_of_none e fc),Zp n];exact e
 have un:Un X.fs [] H (upd (upd H P (.tbl ps)) c' (Zd0 c' qual)) s.heap h':=by
  have nP:∀ b,H b=none→b≠P:=fun b n z=>by subst z; rw [hP] at n; cases n
  have there:∀ b o,s.heap.get? b=some o→∃ o',h'.get? b=some o':=fun b o e=>by
   by_cases z:b=P
   ·subst z; exact ⟨_,ht⟩
   ·exact ⟨o,hx b o z e⟩
  refine ⟨fun b o e n _ _=>hx b o (nP b n) e,fun b o e n _ _=>⟨o.slots,hx b o (nP b n) e⟩,fun b o e n _=>?_,fun b o e _=>there b o e,fun b xs e=>old b _ e (Ye e hP (fun z=>nomatch z)),fun b o u e=>old b _ e (Ye e hP (fun z=>nomatch z)),fun b qs e=>?_⟩
  ·rw [Zp (ZnK (ZnQ (Znx e) hc)),Zp (nP b n)];exact n
  ·by_cases z:b=P
   ·subst z;rw [hP] at e;cases e;exact ⟨ps,by rw [Zp (Ne.symm cP),Za]; simp⟩
   ·exact ⟨#[],by rw [old b _ e z]; simp⟩
 refine I.un un fun b u e=>?_;by_cases z:b=c'
 ·subst z;rw [Za] at e;cases e;obtain ⟨c2,o,vs,t,e1,e2,e3⟩:=hr;cases e1;refine ⟨⟨_,o,vs,t,rfl,e2,e3⟩,⟨o,e2⟩,fun h1 h2 ⟨c3,o3,vs3,t3,f1,f2,f3⟩ k=>?_⟩;cases f1;exact ⟨_,o3,vs3,t3,rfl,k _ f2,f3⟩
 ·rw [Zp z] at e;by_cases y:b=P
  ·subst y;rw [Za] at e;cases e;exact ht
  ·rw [Zp y] at e;refine (I.hok b u e).stay (fun d v hd q=>hx d v ?_ q) (fun d q=>old d _ q (Ye q hP (fun z=>nomatch z))) fun d xs q=>old d _ q (Ye q hP (fun z=>nomatch z));rcases hd with rfl | hd
   ·exact y
   ·exact Ye hd hP (fun z=>nomatch z)
end
theorem Zfx {prog:Program}{w:World}{A:Around}{s:Shared}{h:Heap}{tk:Nat}{f c c0 l:Addr}{v y qual:Str}{params:Arguments}{lsc:Scope}{pm ctv:Value}{p1 p2 p3:Pos}{its:Array Value}{i:Nat}{t:Tok}{x:Value}{KeyIs:Nat→Value→Prop}
  (hroom:A.depth < recursionLimit) (lim:h.NoLimit) (ho:h.get? f=some (ZpI "<lambda>" qual params (.Subscript (.Name v p1) (.Name y p2) p3) lsc [(v,c0)] pm c ctv)) (hcd:h.CodeRec (.ref c) qual)
  (hcell:h.IsCell c0 (some (.ref l))) (hl:h.IsList l its) (hi:i < 2 ^ 62) (hx:its[i]?=some x) (hk:KeyIs i x)
  (s1:lsc.kind=.function) (s2:lsc.isCoroutine=false) (s3:lsc.isGenerator=false) (s4:lsc.names.lookup y=some .local) (s5:lsc.names.lookup v=some .free) (s6:∀ z∈lsc.names,z.2≠.cell)
  (hb:∀ (qual:Str) (bd:Expr) (sc:Scope) (cl:List (Str × Addr)) (pm cdv ct u:Value),bindArgs (Zrh "<lambda>" qual params bd sc cl pm cdv ct) ⟨[u],[]⟩=pure [(y,u)])
  (hd1:(v == ("__debug__":Str))=false) (hd2:(y == ("__debug__":Str))=false) (hd3:(v == ("__classdict__":Str))=false):
  wpAny (model prog w) A (call (.ref f) [.int i t]) (fun r s'=>KeyIs i r∧∃ h' tk',s'={ s with heap:=h',toks:=tk' }∧∀ b o,h.get? b=some o→h'.get? b=some o) (fun _ _=>False) { s with heap:=h,toks:=tk }:=by
 refine wpAny_call (PySem.W.kla_callFunE (s:={ s with heap:=h,toks:=tk }) hroom ho rfl s2 s3 rfl hcd ?_);rw [hb];refine wpAny_pure (wpAny_newFunctionEnv s6 (fun z hz=>?_) (fun h1 ns sb=>⟨?_,PySem.W.kla_codeExpr ?_⟩) s1)
 ·rw [Znt.mp hz];exact s4
 ·exact lim.fresh _ sb
 ·have keep:∀ b o,h.get? b=some o→h1.get? b=some o:=fun b o e=>sb.extBut b o (ZnK (Znx e)) (Znk _ e);refine Subscript_ (wpAny_Name (wpAny_loadName_free s1 s5 ?_ (hcell.keeps keep) ?_ hd3) hd1)
  ·show Zpu v [(v,c0)]=some c0;simp
  ·refine wpAny_Name (wpAny_loadName_local s1 s4 ns (v:=.int i t) (by simp) ?_) hd2;have hl1:h1.IsList l its:=let ⟨o,e,r⟩:=hl; ⟨o,keep _ _ e,r⟩;exact item_listR (s:={ s with heap:=h1,toks:=_ }) hl1 (Int.natCast_nonneg i) (by omega) (by simpa using hx) ⟨hk,h1,_,rfl,keep⟩
abbrev rRng:List V→Hp→VK→Prop:=fun xs H Q=>∃ n:Nat,xs=[.int n]∧∀ l,H l=none→Q (.ref l) (upd H l (.rng 0 n))
def ZmN (K:Znj) (P:Addr) (pos:Pos) (qual:Str) (i:Nat) (te:TE):TE:=fun σ H Q=>Je (tCB rRng (Je te Zbw)) Zbw σ H fun us H1=>∃ (r l:Addr) (xs:List V) (T:List Nat→Prop),us=[.ref r]∧H1 r=some (.rng 0 xs.length)∧σ[i]?=some (some (.ref l))∧SqL K H1 l xs∧xs.length < 64∧Srt xs T∧Pk P pos qual H1∧
 ∀ (D:Addr) (ms:List Nat) (H2:Hp),Zaz P H1 H2→Pk P pos qual H2→D≠P→H1 D=none→H2 D=some (.lst (ms.map fun (m:Nat)=>V.int (m:Int)))→T ms→Q (.ref D) H2
theorem Zby:∀ {xs:List V}{us:List Value},xs.length=us.length→(∀ (i:Nat) x u,xs[i]?=some x→us[i]?=some u→RelV x u)→ZA xs us
 | [],[],_,_=>.nil
 | [],_ :: _,e,_=>by cases e
 | _ :: _,[],e,_=>by cases e
 | x :: xs,u :: us,e,h=>.cons (h 0 x u rfl rfl) (Zby (Nat.succ.inj e) fun i y w e1 e2=>h (i+1) y w e1 e2)
theorem Zam:∀ {out:List Value}{ms:List Nat},IntsAre out (ms.map Zot)→ZA (ms.map fun (m:Nat)=>V.int (m:Int)) out:=fun {out ms} h=>by
 have:=Zca h;rw [Znr] at this;exact this
section
variable {X:Cx}{e:Expr}{te:TE}{p p2 p3 p4 p5 p6 pos lpos kp:Pos}{v y:Str}{params:Arguments}{lsc:Scope}{i:Nat}{c c0 P:Addr}
theorem Zkl (hr:ZR 0 X.A) (hms:X.mg "sorted"=none) (hmr:X.mg "range"=none) (he:PE X e te) (hi:X.N[i]?=some v) (hvc:X.env.kindOf v=some .cell) (hc0:X.env.cells.lookup v=some c0) (hcl:PySem.closureFor lsc X.env=pure [(v,c0)])
  (hcode:X.env.code=.ref c) (C:Zo4 X.base c P) (B:BM X.mg X.base)
  (s1:lsc.kind=.function) (s2:lsc.isCoroutine=false) (s3:lsc.isGenerator=false) (s4:lsc.names.lookup y=some .local) (s5:lsc.names.lookup v=some .free) (s6:∀ z∈lsc.names,z.2≠.cell)
  (hb:∀ (qual:Str) (bd:Expr) (sc:Scope) (cl:List (Str × Addr)) (pm cdv ct u:Value),bindArgs (Zrh "<lambda>" qual params bd sc cl pm cdv ct) ⟨[u],[]⟩=pure [(y,u)]) (hdf:defaultsOf params X.env=([],[]))
  (hd1:(v == ("__debug__":Str))=false) (hd2:(y == ("__debug__":Str))=false) (hd3:(v == ("__classdict__":Str))=false)
  (hgs:Gl X "sorted":=by rfl) (hgr:Gl X "range":=by rfl)
  (hs1:starEach [e] X.env=[(false,eval e X.env)]:=by rfl) (hs2:starEach [.Call (.Name "range" p2) [e] [] p3] X.env=[(false,eval (.Call (.Name "range" p2) [e] [] p3) X.env)]:=by rfl)
 :PE X (.Call (.Name "sorted" p) [.Call (.Name "range" p2) [e] [] p3] [⟨some "key",.Lambda params (.Subscript (.Name v p4) (.Name y p5) p6) lsc lpos,kp⟩] pos) (ZmN X.K P lpos (X.env.qual++"<lambda>") i te):=by
 intro pins s σ H Q I h;refine wpAny_Call_Name_kw (ld_blt I hgs hms boot_sorted ?_);have hrng:PE X (.Call (.Name "range" p2) [e] [] p3) (tCB rRng (Je te Zbw)):=Yc Zfy hgr hmr boot_range (pa_cons he pa_nil hs1) (by decide) (by decide) hs1 rfl;refine PyProof.Rows.callWith_kw (thn ((pa_cons hrng pa_nil hs2) pos pins s σ H _ I h) fun us s1' qz=>?_) (by rw [hs2]; rfl) (by rw [hs2]; rfl) rfl rfl;obtain ⟨xs',H1,I1,r1,r,l,xs,T,e1,hr1,hσ,hq,h64,hT,pk,k⟩:=qz;subst e1;obtain ⟨u,rfl,ru⟩:=YJ r1;cases ru;obtain ⟨bm,bo,b1,b2,b3,b4,b5,b6⟩:=B;have glob:=I1.mod.glob.keeps I1.bk;obtain ⟨ps,hPs⟩:=pk.at;have apart:∀ b o,X.base.get? b=some o→b≠P:=fun b o z w=>by
  have:=(I1.bs b o z).2;rw [w,hPs] at this;cases this
 have gP:mainGlobals≠P:=by
  obtain ⟨o,_,_,z,_⟩:=I1.mod.glob;exact apart _ _ z
 have bG:bm≠mainGlobals:=fun z=>by
  obtain ⟨o,es,ep,w,d,_⟩:=I1.mod.glob;rw [z,w] at b3;cases b3;rw [d] at b6;cases b6
 have hB:s1'.heap.BuiltinsAt X.mg P:=⟨bm,bo,b1,b2,bG,apart _ _ b3,I1.bk _ _ b3,b4,b5,b6⟩;have hgl:X.env.globals=mainGlobals:=I1.ok.glob;have after:∀ (H2:Hp) (s2':Shared) (f cc:Addr) (ctv:Value),Inv X pins σ H2 s2'→Zaz P H1 H2→Pk P lpos (X.env.qual++"<lambda>") H2→H2 cc=some (Zd0 cc (X.env.qual++"<lambda>"))→
   s2'.heap.get? f=some (ZpI "<lambda>" (X.env.qual++"<lambda>") params (.Subscript (.Name v p4) (.Name y p5) p6) lsc [(v,c0)] ((X.mg "__name__").getD .none) cc ctv)→
   wpAny (model X.prog X.w) X.A (call (.builtin "sorted") [.ref r] [(Str.ofString "key",.ref f)]) (EP X pins σ Q) X.xe s2':=by
  intro H2 s2' f cc ctv I2 kp2 pk2 hcc hf;obtain ⟨ps2,hPs2⟩:=pk2.at;have hr2:H2 r=some (.rng 0 xs.length):=kp2 _ _ (Ye hr1 hPs (fun z=>nomatch z)) hr1;obtain ⟨t1,t2,t3,or⟩:=I2.hok r _ hr2;have hq2:=kp2.seq pk hq;obtain ⟨its,rv,pl,hz⟩:=I2.list hq2;obtain ⟨m,hn,hlk⟩:=I2.loc;obtain ⟨u,ru,lk⟩:=hlk i v (.ref l) hi hσ (.inr (.inl hvc));cases ru;have cell:s2'.heap.IsCell c0 (some (.ref l)):=by
   rcases lk with ⟨z,_⟩ | ⟨_,c1,z,w⟩
   ·rw [hvc] at z;cases z
   ·rw [hc0] at z;cases z;exact w
  have cd:s2'.heap.CodeRec (.ref cc) (X.env.qual++"<lambda>"):=(I2.hok cc _ hcc).1;have len:=rv.length;refine ZcA (R:=fun out=>∃ ms:List Nat,IntsAre out (ms.map Zot)∧T ms) (KeyIs:=fun i w=>∃ x,xs[i]?=some x∧RelV x w) hr.hd or (by omega) (fun j t h3 tk3 lt k3=>?_) (fun keys vs l1 l2 q1 q2=>hT keys vs ?_ l2 q2) fun D h3 tk3 out cn le o3 k3 ⟨ms,m1,m2⟩ z3=>?_
  ·obtain ⟨x,ex⟩:∃ x,xs[j]?=some x:=⟨_,Znp lt⟩;obtain ⟨w,ew,rw'⟩:=rv.get ex;refine Zfx (x:=w) (its:=its.toArray) (i:=j) (KeyIs:=fun i w=>∃ x,xs[i]?=some x∧RelV x w) ?_ (I2.nolimit.keeps k3) (k3 _ _ hf) (cd.keeps k3) (cell.keeps k3) ?_ (by omega) (by simpa using ew) ⟨x,ex,rw'⟩ s1 s2 s3 s4 s5 s6 hb hd1 hd2 hd3
   ·have:=hr.dp;show X.A.depth < _;omega
   ·obtain ⟨o,z,w⟩:=pl.isList;exact ⟨o,k3 _ _ z,w⟩
  ·exact Zby (by omega) fun j x kx e2 e3=>by
    obtain ⟨x',e4,e5⟩:=q1 j kx e3;rw [e2] at e4;cases e4;exact e5
  ·have fr:H2 D=none:=I2.hok.fresh le;have dP:D≠P:=fun z=>by rw [z,hPs2] at fr; cases fr
   refine ⟨.ref D,_,I2.laid (o:=.lst (ms.map fun (m:Nat)=>V.int (m:Int))) k3 le ⟨?_,out.toList,cn,Zam m1,by simpa using o3⟩,rfl,k D ms _ (fun b o hb z=>?_) ?_ dP ?_ Za m2⟩
   ·have l3:=(Zam m1).length.trans (Zn8.trans z3);rw [l3];exact hz
   ·rw [Zp (ne_of_none (kp2 b o hb z) fr)];exact kp2 b o hb z
   ·exact pk2.same fun b o z=>by rw [Zp (ne_of_none z fr)]; exact z
   ·exact kp2.free dP fr
 refine PyProof.Rows.kws_cons (PySem.W.kla_eval hdf ?_);rcases pk with hP | ⟨cc,hP,hcc⟩
 ·refine Zqx (ps:=#[]) hcl hgl glob hcode (C.keeps I1.bk) (I1.hok P _ hP) trivial rfl gP hB fun cc ctv h' tk hx hge hlt hrec htb=>PyProof.Rows.kws_nil ?_;have push:∀ b o,h'.get? b=some o→(h'.push (ZpI "<lambda>" (X.env.qual++"<lambda>") params (.Subscript (.Name v p4) (.Name y p5) p6) lsc [(v,c0)] ((X.mg "__name__").getD .none) cc ctv)).get? b=some o:=fun b o z=>Znk _ z;have fc:H1 cc=none:=I1.hok.fresh hge;have cP:cc≠P:=fun z=>by rw [z,hP] at fc; cases fc
  have I2:=I1.coded (tk:=tk) hP (fun b o hb z=>push b o (hx b o hb z)) hge (hrec.keeps push) (push _ _ htb);refine after _ _ _ cc ctv I2 (fun b o hb z=>?_) (.inr ⟨cc,?_,Za⟩) Za (Znu _ rfl)
  ·rw [Zp (ne_of_none z fc),Zp hb];exact z
  ·rw [Zp (Ne.symm cP),Za];rfl
 ·refine Zqa (cv:=.ref cc) (ps:=#[rawInt lpos.line,rawInt lpos.col,.ref cc]) hcl hgl glob hcode (C.keeps I1.bk) (I1.hok P _ hP) trivial ?_ hB fun ctv h' tk hk hsz=>PyProof.Rows.kws_nil ?_
  ·simp [codeAmong,rawInt]
  ·exact after H1 _ _ cc ctv (I1.kept (t':=tk) fun b o z=>Znk _ (hk b o z)) .refl (.inr ⟨cc,hP,hcc⟩) hcc (Znu _ rfl)
end
end L2
namespace Pl
open PySem L2
def top (i:Nat):Stmt:=PySem.Challenge.pw_tworeadings_k06_answers_by_hand.main.body.getD i (.Pass ⟨0,0,0,0⟩)
abbrev s_is_whole:Stmt:=top 6
abbrev s_is_word:Stmt:=top 7
abbrev s_are_words:Stmt:=top 8
abbrev s_is_code:Stmt:=top 9
abbrev s_is_place:Stmt:=top 10
abbrev s_are_places:Stmt:=top 11
abbrev s_words_at:Stmt:=top 12
abbrev s_joined:Stmt:=top 13
abbrev s_check_code:Stmt:=top 14
abbrev s_noted:Stmt:=top 15
abbrev s_in_order:Stmt:=top 16
abbrev s_count_below:Stmt:=top 17
abbrev s_grouped:Stmt:=top 18
abbrev s_standing:Stmt:=top 19
abbrev s_marks_behind:Stmt:=top 20
abbrev s_unrolled:Stmt:=top 21
abbrev s_copied:Stmt:=top 23
abbrev s_are_tails:Stmt:=top 24
abbrev s_rests_known:Stmt:=top 25
abbrev s_tails_closed:Stmt:=top 26
abbrev s_marks_closed:Stmt:=top 27
abbrev s_none_begins_next:Stmt:=top 28
abbrev s_is_count:Stmt:=top 29
abbrev s_are_lengths:Stmt:=top 30
abbrev s_spread:Stmt:=top 31
abbrev s_overfull:Stmt:=top 32
abbrev c_Clash_init:Stmt:=Yw (top 34) 0
abbrev c_Clash_shows:Stmt:=Yw (top 34) 1
abbrev c_Tails_init:Stmt:=Yw (top 35) 0
abbrev c_Tails_shows:Stmt:=Yw (top 35) 1
abbrev c_Reading_init:Stmt:=Yw (top 36) 0
abbrev c_Reading_shows:Stmt:=Yw (top 36) 1
abbrev c_Stuck_init:Stmt:=Yw (top 37) 0
abbrev c_Stuck_shows:Stmt:=Yw (top 37) 1
abbrev c_Begins_init:Stmt:=Yw (top 38) 0
abbrev c_Begins_shows:Stmt:=Yw (top 38) 1
abbrev c_Apart_init:Stmt:=Yw (top 39) 0
abbrev c_Apart_shows:Stmt:=Yw (top 39) 1
abbrev c_Words_init:Stmt:=Yw (top 40) 0
abbrev c_Words_shows:Stmt:=Yw (top 40) 1
abbrev c_Full_shows:Stmt:=Yw (top 41) 0
abbrev s_check_asked:Stmt:=top 43
abbrev s_chains_to_marks:Stmt:=top 44
abbrev s_read:Stmt:=top 45
abbrev c_Rest_init:Stmt:=Yw (top 48) 0
abbrev s_rest_numbers:Stmt:=top 49
abbrev s_first_rests:Stmt:=top 50
abbrev s_places_begun:Stmt:=top 51
abbrev s_rests_behind:Stmt:=top 52
abbrev s_take_new:Stmt:=top 53
abbrev s_all_rests:Stmt:=top 54
abbrev s_once:Stmt:=top 55
abbrev s_law_code:Stmt:=top 57
abbrev s_law_stands:Stmt:=top 58
abbrev s_law_text:Stmt:=top 59
abbrev s_law_says:Stmt:=top 60
abbrev s_law_bent:Stmt:=top 61
abbrev s_law_tails:Stmt:=top 62
abbrev s_law_made:Stmt:=top 63
abbrev s_law_codes_right:Stmt:=top 64
abbrev s_law_stuck:Stmt:=top 65
abbrev s_law_texts_right:Stmt:=top 66
abbrev s_law_beside:Stmt:=top 67
abbrev s_law_begins_right:Stmt:=top 68
abbrev s_law_words_right:Stmt:=top 69
abbrev s_law:Stmt:=top 70
def lamPos:Pos:=⟨32,42,32,69⟩
def lamQual:Str:=("in_order"++".<locals>.":Str)++"<lambda>"
def lamPos2:Pos:=⟨415,87,415,132⟩
def lamQual2:Str:=("_law_begins_right"++".<locals>.":Str)++"<lambda>"
end Pl
namespace L2
open PySem PySem.Spec PyProof.Rows Tw
theorem ZI {c A B:Prop} [Decidable c] (hc:c) (h:A):if c then A else B:=by rw [if_pos hc]; exact h
theorem Zx {c A B:Prop} [Decidable c] (hc:¬ c) (h:B):if c then A else B:=by rw [if_neg hc]; exact h
structure Yo (mg:Str→Option Value):Prop where
 isi:mg "isinstance"=none
 int:mg "int"=none
 bool:mg "bool"=none
 str:mg "str"=none
 list:mg "list"=none
 dict:mg "dict"=none
 all:mg "all"=none
 any:mg "any"=none
 len:mg "len"=none
 range:mg "range"=none
 sorted:mg "sorted"=none
 sum:mg "sum"=none
 enumerate:mg "enumerate"=none
 max:mg "max"=none
 valueError:mg "ValueError"=none
abbrev ZkM (K:Znj) (te:TE) (c:V):TE:=tCB (Zhc K) (Je te (Je (tC c) Zbw))
section
variable {X:Cx}{e:Expr}{te:TE}{p q pos:Pos}
theorem Ze5 {cv:V}{c:Expr} (hm:X.mg "isinstance"=none) (he:PE X e te) (hc:PE X c (tC cv)) (hg:Gl X "isinstance":=by rfl)
  (hs1:starEach (e :: [c]) X.env=(false,eval e X.env) :: starEach [c] X.env:=by rfl) (hs2:starEach (c :: []) X.env=(false,eval c X.env) :: starEach [] X.env:=by rfl)
  (hpl:(backTo pos (starEach [c] X.env)).any (·.1)=false:=by rfl):PE X (.Call (.Name "isinstance" p) [e,c] [] pos) (ZkM X.K te cv):=by
 exact Zg (r:=Zhc X.K) Zfw hg hm boot_isinstance (pa_cons he (pa_cons hc pa_nil hs2) hs1) (by decide) (by decide) hs1 hpl
theorem Zg8 (B:Yo X.mg) (he:PE X e te) (hg:Gl X "isinstance":=by rfl) (hg2:Gl X "int":=by rfl)
  (hs1:starEach (e :: [.Name "int" q]) X.env=(false,eval e X.env) :: starEach [.Name "int" q] X.env:=by rfl):PE X (.Call (.Name "isinstance" p) [e,.Name "int" q] [] pos) (ZkM X.K te (.ty "int")):=
 Ze5 B.isi he (ZbN hg2 B.int boot_int rfl) hg hs1 rfl rfl
theorem Zcm (B:Yo X.mg) (he:PE X e te) (hg:Gl X "isinstance":=by rfl) (hg2:Gl X "bool":=by rfl)
  (hs1:starEach (e :: [.Name "bool" q]) X.env=(false,eval e X.env) :: starEach [.Name "bool" q] X.env:=by rfl):PE X (.Call (.Name "isinstance" p) [e,.Name "bool" q] [] pos) (ZkM X.K te (.ty "bool")):=
 Ze5 B.isi he (ZbN hg2 B.bool boot_bool rfl) hg hs1 rfl rfl
theorem Zbr (B:Yo X.mg) (he:PE X e te) (hg:Gl X "isinstance":=by rfl) (hg2:Gl X "str":=by rfl)
  (hs1:starEach (e :: [.Name "str" q]) X.env=(false,eval e X.env) :: starEach [.Name "str" q] X.env:=by rfl):PE X (.Call (.Name "isinstance" p) [e,.Name "str" q] [] pos) (ZkM X.K te (.ty "str")):=
 Ze5 B.isi he (ZbN hg2 B.str boot_str rfl) hg hs1 rfl rfl
theorem Yz (B:Yo X.mg) (he:PE X e te) (hg:Gl X "isinstance":=by rfl) (hg2:Gl X "list":=by rfl)
  (hs1:starEach (e :: [.Name "list" q]) X.env=(false,eval e X.env) :: starEach [.Name "list" q] X.env:=by rfl):PE X (.Call (.Name "isinstance" p) [e,.Name "list" q] [] pos) (ZkM X.K te (.ty "list")):=
 Ze5 B.isi he (ZbN hg2 B.list boot_list rfl) hg hs1 rfl rfl
end
section
variable {P:Program}{w:World}{K:Znj}{mg:Str→Option Value}{base:Heap}
def Za7 (K:Znj):Sp:=fun vs H Q _=>∃ v,vs=[v]∧ZcM K H v∧Q (.bl (ZgM v && !ZhE v)) H
theorem Zf6 (D:Def K mg "is_whole" "is_whole" Pl.s_is_whole ["value"]) (B:Yo mg):Cal P w K mg base CX0 1 "is_whole" ["value"] (Za7 K):=by
 have sc:Zn ["value"] ["value"] (Zf Pl.s_is_whole):=scO;refine D.cal fun f fd F=>F.ok sc (fun vs H Q E h=>?_) (fun cdv A outer s H vs Q E hr h=>?_)
 ·obtain ⟨v,rfl,_⟩:=h;rfl
 ·obtain ⟨v,rfl,hd,k⟩:=h;refine ⟨_,pss_one (ps_ret (ZO (Zg8 B (pv 0)) (Z3 (Zg9 (Zcm B (pv 0)))))),?_⟩;try dsimp only [ZH,Cx.nox,Cx.wish]
  obtain ⟨t,ty,e⟩:=Zk4 hd;refine ⟨_,rfl,_,_,t,_,rfl,trivial,ty,e,_,rfl,?_⟩;cases hi:ZgM v with
  | false=>
   rw [hi] at k;exact Z8 k
  | true=>
   refine Yi ?_;obtain ⟨t,ty,e⟩:=ZjQ hd;refine ⟨_,rfl,_,_,t,_,rfl,trivial,ty,e,_,rfl,?_⟩;rw [hi] at k;exact k
def YN (letters:W):V→Bool
 | .str x=>decide (x.cps.toList≠[]) && x.cps.toList.all fun c=>letters.contains c
 | _=>false
def Zgo (K:Znj):Sp:=fun vs H Q _=>∃ v letters,vs=[v,sv letters]∧ZcM K H v∧(∀ x,v=.str x→x.length≤sizeLine)∧Q (.bl (YN letters v)) H
theorem Zg5 (D:Def K mg "is_word" "is_word" Pl.s_is_word ["value","letters"]) (B:Yo mg):Cal P w K mg base CX0 1 "is_word" ["value","letters"] (Zgo K):=by
 have sc:Zn ["value","letters"] ["value","letters"] (Zf Pl.s_is_word):=scO;refine D.cal fun f fd F=>F.ok sc (fun vs H Q E h=>?_) (fun cdv A outer s H vs Q E hr h=>?_)
 ·obtain ⟨v,l,rfl,_⟩:=h;rfl
 ·obtain ⟨v,letters,rfl,hd,hz,k⟩:=h;refine ⟨_,pss_one (ps_ret (ZO (Zbr B (pv 0)) (ZO (ZV Zcl (pv 0) ZQ (Zu _)) (Z3 (ZV Jt (Yx Zol ZqG ZqH Zei (pv 0) (pa_cons (pv 1) pa_nil)) ZQ (Zu _)))))),?_⟩;try dsimp only [ZH,Cx.nox,Cx.wish]
  obtain ⟨t,ty,e⟩:=ZcD hd;refine ⟨_,rfl,_,_,t,_,rfl,trivial,ty,e,_,rfl,?_⟩;cases v with
  | str x=>
   refine Yi ?_;refine ⟨_,rfl,rfl,_,rfl,?_⟩;obtain ⟨a,rfl⟩:∃ a,x=st a:=⟨x.cps.toList,(ZdI x).symm⟩;by_cases ha:a=[]
   ·subst ha;exact Zx (by decide +kernel) k
   ·refine ZI (by rw [Zn3,decide_eq_false_iff_not]; intro z; exact ha (st_inj (V.str.inj z))) ?_;refine ⟨_,rfl,rfl,_,rfl,a,letters,rfl,rfl,by have:=hz _ rfl; rw [st_len] at this; exact this,fun c hc=>⟨rfl,?_⟩⟩;have e:YN letters (.str (st a))=decide (sv c=V.str (st [])):=by
     show (decide (a≠[]) && a.all fun z=>letters.contains z)=_;rw [ZnW,ZnA,decide_eq_true_iff,Zn1,decide_eq_true_iff];constructor
     ·rintro ⟨_,h2⟩;rw [hc.mpr fun z hz=>by simpa using h2 z hz]
     ·intro z;exact ⟨ha,fun y hy=>by simpa using hc.mp (st_inj (V.str.inj z)) y hy⟩
    rw [e] at k;exact k
  | _=>exact Z8 k
def JG (K:Znj) (H:Hp) (v:V):Prop:=ZcM K H v∧∀ a xs,v=.ref a→Rd H a (.lst xs)→xs.length≤sizeLine∧∀ y∈xs,∀ H',Ext H H'→ZcM K H' y
def Y0 (H:Hp) (v:V) (p:V→Bool) (b:Bool):Prop:=(∀ a xs,v=.ref a→Rd H a (.lst xs)→b=xs.all p)∧((∀ a xs,¬ (v=.ref a∧Rd H a (.lst xs)))→b=false)
theorem Rd.inj {H:Hp}{a:Addr}{xs ys:List V} (h:Rd H a (.lst xs)) (h':Rd H a (.lst ys)):xs=ys:=by
 rcases h with h | ⟨o,h⟩ <;> rcases h' with h' | ⟨o',h'⟩ <;> rw [h] at h' <;> cases h' <;> rfl
theorem Y0.of {H:Hp}{a:Addr}{xs:List V}{p:V→Bool} (h:Rd H a (.lst xs)):Y0 H (.ref a) p (xs.all p):=
 ⟨fun b ys e h'=>by cases e; rw [h.inj h'],fun z=>absurd ⟨rfl,h⟩ (z a xs)⟩
theorem Y0.eq {H:Hp}{a:Addr}{xs:List V}{p:V→Bool}{b:Bool} (h:Rd H a (.lst xs)) (q:Y0 H (.ref a) p b):b=xs.all p:=q.1 a xs rfl h
def Zbs (K:Znj):Sp:=fun vs H Q _=>∃ v letters,vs=[v,sv letters]∧JG K H v∧(∀ a xs,v=.ref a→Rd H a (.lst xs)→∀ x,V.str x∈xs→x.length≤sizeLine)∧
 ∀ b H',Ext H H'→Y0 H v (YN letters) b→Q (.bl b) H'
theorem ZeY (D:Def K mg "are_words" "are_words" Pl.s_are_words ["values","letters"]) (B:Yo mg) (C1:Cal P w K mg base CX0 1 "is_word" ["value","letters"] (Zgo K)):
  Cal P w K mg base CX0 2 "are_words" ["values","letters"] (Zbs K):=by
 have sc:Zn ["values","letters"] ["values","letters"] (Zf Pl.s_are_words):=scO;refine D.cal fun f fd F=>F.ok sc (fun vs H Q E h=>?_) (fun cdv A outer s H vs Q E hr h=>?_)
 ·obtain ⟨v,l,rfl,_⟩:=h;rfl
 ·obtain ⟨v,letters,rfl,⟨hd,hl⟩,hz,k⟩:=h;have nd:(["value","letters"]:List Str).Nodup:=by decide +kernel
  refine ⟨_,pss_one (ps_ret (ZO (Yz B (pv 0)) (Z3 (Zg (YL rfl) (by rfl) B.all Boot.«all» (pa_cons
   (Z5 (N':=["value","letters"]) (js:=[none,some 1]) (.of (by kernel_rfl)) rfl (ZF (pv 0)) fun C fp s₀ H₀=>⟨Zr (i:=0) nd rfl (Or.inl rfl),ZZ,
    Zc C1 hr (pa_cons (pv 0) (pa_cons (pv 1) pa_nil)) Zm⟩) pa_nil))))),?_⟩
  try dsimp only [ZH,Cx.nox,Cx.wish]
  obtain ⟨t,b,ty,e,hb⟩:=Zc7 hd;refine ⟨_,rfl,_,_,t,_,rfl,trivial,ty,e,_,rfl,?_⟩;cases b with
  | false=>
   refine Z8 (k false H (Ext.refl _) ⟨fun a xs e h=>?_,fun _=>rfl⟩);exact absurd (hb.mpr ⟨a,xs,e,h⟩) (by decide)
  | true=>
   refine Yi ?_;obtain ⟨a,xs,rfl,hr2⟩:=hb.mp rfl;have hq:SqL K H a xs:=.inl hr2;refine ⟨_,rfl,a,rfl,⟨xs,hq⟩,?_⟩;obtain ⟨hl1,hl2⟩:=hl a xs rfl hr2;refine ZS hq hl1 (fun y=>.bl (YN letters y)) (fun y H' hy x1 Q' k'=>?_) (fun D H' _ x1 hD=>?_)
   ·exact ⟨_,rfl,_,rfl,y,letters,rfl,hl2 y hy H' x1,fun x e=>hz a xs rfl hr2 x (e ▸ hy),k' _ H' (Ext.refl _) rfl⟩
   ·refine ⟨D,xs.map (YN letters),rfl,SqL.of (by rw [hD,Znr]; rfl),?_⟩;have:=k (xs.all (YN letters)) H' x1 (Y0.of hr2);rw [Zqf];exact this
def az:W:=[97,98,99,100,101,102,103,104,105,106,107,108,109,110,111,112,113,114,115,116,117,118,119,120,121,122]
theorem Zhx:(Str.ofString "abcdefghijklmnopqrstuvwxyz")=st az:=by decide +kernel
def Jv (K:Znj):Sp:=fun vs H Q _=>∃ v,vs=[v]∧JG K H v∧(∀ a xs,v=.ref a→Rd H a (.lst xs)→∀ x,V.str x∈xs→x.length≤sizeLine)∧∀ b H',Ext H H'→Y0 H v (YN az) b→Q (.bl b) H'
theorem Zg4 (D:Def K mg "is_code" "is_code" Pl.s_is_code ["value"]) (L:∃ t,mg "LETTERS"=some (.str "abcdefghijklmnopqrstuvwxyz" t)) (C1:Cal P w K mg base CX0 2 "are_words" ["values","letters"] (Zbs K)):
  Cal P w K mg base CX0 3 "is_code" ["value"] (Jv K):=by
 have sc:Zn ["value"] ["value"] (Zf Pl.s_is_code):=scO;obtain ⟨tk,hL⟩:=L;refine D.cal fun f fd F=>F.ok sc (fun vs H Q E h=>?_) (fun cdv A outer s H vs Q E hr h=>?_)
 ·obtain ⟨v,rfl,_⟩:=h;rfl
 ·obtain ⟨v,rfl,hl,hz,k⟩:=h;refine ⟨_,pss_one (ps_ret (Zc C1 hr (pa_cons (pv 0) (pa_cons (Y8 (v:=sv az) (by rfl) hL ⟨tk,by rw [Zhx]⟩) pa_nil)) Zm)),?_⟩;try dsimp only [ZH,Cx.nox,Cx.wish]
  exact ⟨_,rfl,v,az,rfl,hl,hz,k⟩
def ZU (n:Int):V→Bool
 | .int i=>decide (0≤i) && decide (i < n)
 | _=>false
def Zb6 (K:Znj):Sp:=fun vs H Q _=>∃ v n,vs=[v,.int n]∧ZcM K H v∧Q (.bl (ZU n v)) H
theorem Zf5 (D:Def K mg "is_place" "is_place" Pl.s_is_place ["value","count"]) (C1:Cal P w K mg base CX0 1 "is_whole" ["value"] (Za7 K)):Cal P w K mg base CX0 2 "is_place" ["value","count"] (Zb6 K):=by
 have sc:Zn ["value","count"] ["value","count"] (Zf Pl.s_is_place):=scO;refine D.cal fun f fd F=>F.ok sc (fun vs H Q E h=>?_) (fun cdv A outer s H vs Q E hr h=>?_)
 ·obtain ⟨v,n,rfl,_⟩:=h;rfl
 ·obtain ⟨v,n,rfl,hd,k⟩:=h;refine ⟨_,pss_one (ps_ret (ZO (Zc C1 hr (pa_cons (pv 0) pa_nil) Zm) (Z3 (ZbO Zdt Zck Ze (pv 0) (pv 1))))),?_⟩;try dsimp only [ZH,Cx.nox,Cx.wish]
  refine ⟨_,rfl,v,rfl,hd,_,rfl,?_⟩;cases v with
  | int i=>
   refine Yi ?_;refine ⟨_,rfl,_,_,rfl,rfl,_,rfl,?_⟩;by_cases h0:(0:Int)≤i
   ·refine ZI (by simpa using h0) ?_;refine ⟨_,rfl,_,_,rfl,rfl,?_⟩;have e:ZU n (.int i)=decide (i < n):=by show (decide (0≤i) && decide (i < n))=_; rw [decide_eq_true h0,Zo0]
    rw [e] at k;exact k
   ·refine Zx (by simpa using h0) ?_;have e:ZU n (.int i)=false:=by show (decide (0≤i) && decide (i < n))=_; rw [decide_eq_false h0,ZoU]
    rw [e] at k;first | exact k | (rw [decide_eq_false h0]; exact k)
  | _=>exact Zx (fun z=>ZqK z) k
end
end L2
namespace Tw
abbrev Zbi:=List W
def Yy (c:Zbi) (r:List Nat):W:=(r.map fun i=>c.getD i []).flatten
theorem Zgs (c:Zbi) (i:Nat) (r:List Nat):Yy c (i :: r)=c.getD i []++Yy c r:=rfl
end Tw
namespace L2
open PySem PySem.Spec PyProof.Rows Tw
section
variable {P:Program}{w:World}{K:Znj}{mg:Str→Option Value}{base:Heap}
def Ju (K:Znj):Sp:=fun vs H Q _=>∃ v n,vs=[v,.int n]∧JG K H v∧∀ b H',Ext H H'→Y0 H v (ZU n) b→Q (.bl b) H'
theorem ZdV (D:Def K mg "are_places" "are_places" Pl.s_are_places ["values","count"]) (B:Yo mg) (C1:Cal P w K mg base CX0 2 "is_place" ["value","count"] (Zb6 K)):
  Cal P w K mg base CX0 3 "are_places" ["values","count"] (Ju K):=by
 have sc:Zn ["values","count"] ["values","count"] (Zf Pl.s_are_places):=scO;refine D.cal fun f fd F=>F.ok sc (fun vs H Q E h=>?_) (fun cdv A outer s H vs Q E hr h=>?_)
 ·obtain ⟨v,l,rfl,_⟩:=h;rfl
 ·obtain ⟨v,n,rfl,⟨hd,hl⟩,k⟩:=h;have nd:(["value","count"]:List Str).Nodup:=by decide +kernel
  refine ⟨_,pss_one (ps_ret (ZO (Yz B (pv 0)) (Z3 (Zg (YL rfl) (by rfl) B.all Boot.«all» (pa_cons
   (Z5 (N':=["value","count"]) (js:=[none,some 1]) (.of (by kernel_rfl)) rfl (ZF (pv 0)) fun C fp s₀ H₀=>⟨Zr (i:=0) nd rfl (Or.inl rfl),ZZ,
    Zc C1 hr (pa_cons (pv 0) (pa_cons (pv 1) pa_nil)) Zm⟩) pa_nil))))),?_⟩
  try dsimp only [ZH,Cx.nox,Cx.wish]
  obtain ⟨t,b,ty,e,hb⟩:=Zc7 hd;refine ⟨_,rfl,_,_,t,_,rfl,trivial,ty,e,_,rfl,?_⟩;cases b with
  | false=>
   refine Z8 (k false H (Ext.refl _) ⟨fun a xs e h=>?_,fun _=>rfl⟩);exact absurd (hb.mpr ⟨a,xs,e,h⟩) (by decide)
  | true=>
   refine Yi ?_;obtain ⟨a,xs,rfl,hr2⟩:=hb.mp rfl;have hq:SqL K H a xs:=.inl hr2;refine ⟨_,rfl,a,rfl,⟨xs,hq⟩,?_⟩;obtain ⟨hl1,hl2⟩:=hl a xs rfl hr2;refine ZS hq hl1 (fun y=>.bl (ZU n y)) (fun y H' hy x1 Q' k'=>?_) (fun D H' _ x1 hD=>?_)
   ·exact ⟨_,rfl,_,rfl,y,n,rfl,hl2 y hy H' x1,k' _ H' (Ext.refl _) rfl⟩
   ·refine ⟨D,xs.map (ZU n),rfl,SqL.of (by rw [hD,Znr]; rfl),?_⟩;have:=k (xs.all (ZU n)) H' x1 (Y0.of hr2);rw [Zqf];exact this
def Zan (K:Znj) (H:Hp) (a:Addr) (ws:List W):Prop:=SqL K H a (ws.map sv)∧ws.length≤10000∧∀ x∈ws,x.length≤10000
def ZcN (K:Znj) (H:Hp) (a:Addr) (r:List Nat):Prop:=SqL K H a (r.map fun (i:Nat)=>V.int i)∧r.length≤100000
theorem Ext.code {H H':Hp}{a:Addr}{ws:List W} (x:Ext H H') (h:Zan K H a ws):Zan K H' a ws:=⟨x.sqL h.1,h.2⟩
theorem Zd {n:Nat} (h:n≤1000000):n≤sizeLine:=Zog h (by decide)
def Za8 (K:Znj):Sp:=fun vs H Q _=>∃ (a b:Addr) (ws:List W) (r:List Nat),vs=[.ref a,.ref b]∧Zan K H a ws∧ZcN K H b r∧(∀ i∈r,i < ws.length)∧
 ∀ D H',H D=none→Ext H H'→H' D=some (.lst ((r.map fun i=>ws.getD i []).map sv))→Q (.ref D) H'
theorem Zgc (D:Def K mg "words_at" "words_at" Pl.s_words_at ["code","places"]):Cal P w K mg base CX0 1 "words_at" ["code","places"] (Za8 K):=by
 have sc:Zn ["code","places"] ["code","places"] (Zf Pl.s_words_at):=scO;refine D.cal fun f fd F=>F.ok sc (fun vs H Q E h=>?_) (fun cdv A outer s H vs Q E hr h=>?_)
 ·obtain ⟨_,_,_,_,rfl,_⟩:=h;rfl
 ·obtain ⟨a,b,ws,r,rfl,hc,hp,hin,k⟩:=h;have nd:(["place","code"]:List Str).Nodup:=by decide +kernel
  refine ⟨_,pss_one (ps_ret (Z5 (N':=["place","code"]) (js:=[none,some 0]) (.of (by kernel_rfl)) rfl (ZF (pv 1)) fun C fp s₀ H₀=>⟨Zr (i:=0) nd rfl (Or.inl rfl),ZZ,
    pe_ix (r:=YG K) ZB (pv 1) (pv 0) (fun _ _=>rfl)⟩)),?_⟩
  try dsimp only [ZH,Cx.nox,Cx.wish]
  refine ⟨_,rfl,b,rfl,⟨_,hp.1⟩,?_⟩;refine ZS hp.1 (by rw [Zni]; exact Zd (by have:=hp.2; omega)) (fun y=>match y with | .int i=>sv (ws.getD i.toNat []) | _=>.non) (fun y H' hy x1 Q' k'=>?_) (fun D H' h1 x1 hD=>?_)
  ·obtain ⟨i,hi,rfl⟩:=Znm.mp hy;have hlt:=hin i hi;have hc':=(x1.code hc).1;refine ⟨_,rfl,_,rfl,a,_,(i:Int),sv (ws.getD i []),rfl,rfl,hc',ZE (by rw [Znq]; simp [hlt]),k' _ H' (Ext.refl _) rfl⟩
  ·refine k D H' h1 x1 ?_;rw [hD,Znr,Znr];rfl
def ZdD (K:Znj):Sp:=fun vs H Q _=>∃ (a b:Addr) (ws:List W) (r:List Nat),vs=[.ref a,.ref b]∧Zan K H a ws∧ZcN K H b r∧(∀ i∈r,i < ws.length)∧(Yy ws r).length≤1000000∧
 ∀ H',Ext H H'→Q (sv (Yy ws r)) H'
theorem ZiY (D:Def K mg "joined" "joined" Pl.s_joined ["code","places"]) (C1:Cal P w K mg base CX0 1 "words_at" ["code","places"] (Za8 K)):Cal P w K mg base CX0 2 "joined" ["code","places"] (ZdD K):=by
 have sc:Zn ["code","places"] ["code","places"] (Zf Pl.s_joined):=scO;refine D.cal fun f fd F=>F.ok sc (fun vs H Q E h=>?_) (fun cdv A outer s H vs Q E hr h=>?_)
 ·obtain ⟨_,_,_,_,rfl,_⟩:=h;rfl
 ·obtain ⟨a,b,ws,r,rfl,hc,hp,hin,hz,k⟩:=h;refine ⟨_,pss_one (ps_ret (Yx Zol ZpT ZpU ZeV ZQ (pa_cons (Zc C1 hr (pa_cons (pv 0) (pa_cons (pv 1) pa_nil)) Zm) pa_nil))),?_⟩;try dsimp only [ZH,Cx.nox,Cx.wish]
  refine ⟨rfl,_,rfl,_,rfl,a,b,ws,r,rfl,hc,hp,hin,fun D H' h1 x1 hD=>?_⟩;refine ⟨D,r.map fun i=>ws.getD i [],rfl,rfl,SqL.of hD,?_,k H' x1⟩;have e:((r.map fun i=>ws.getD i []).map Zoe).sum=(Yy ws r).length:=by rw [Yy,Zp4]
  rw [e]; omega
end
end L2
set_option maxHeartbeats 1500000
namespace L2
open PySem
def Zl9 (f:Obj→Obj):Prop:=∀ o vs,o.data=.fields vs→∃ vs',(f o).data=.fields vs'∧vs'[2]?=vs[2]?
def Mild {α:Type}:Sem α→Prop
 | .rule _ k=>Mild (k ())
 | .at _ k=>Mild (k ())
 | .load _ _ k=>∀ o,Mild (k o)
 | .update _ _ f k=>Zl9 f∧Mild (k ())
 | .alloc _ k=>∀ n,Mild (k n)
 | .loadIfAlive _ k=>∀ o,Mild (k o)
 | .point _ k=>Mild (k ())
 | .fresh k=>∀ n,Mild (k n)
 | .ask k=>∀ x,Mild (k x)
 | .handled _ k=>∀ x,Mild (k x)
 | .stack k=>∀ x,Mild (k x)
 | .thread k=>∀ x,Mild (k x)
 | .pure _=>True
 | .raise _=>True
 | .unsupported _=>True
 | .finish _=>True
 | _=>False
def ZaA (e:Addr) (v:Value) (h:Heap):Prop:=∃ o vs,h.get? e=some o∧o.data=.fields vs∧vs[2]?=some v
theorem ZaA.upd {e a:Addr}{v:Value}{h:Heap}{f:Obj→Obj} (x:ZaA e v h) (hf:Zl9 f):ZaA e v (h.update a f):=by
 obtain ⟨o,vs,h1,h2,h3⟩:=x;by_cases z:a=e
 ·subst z;obtain ⟨vs',g1,g2⟩:=hf o vs h2;exact ⟨f o,vs',Zoz f h1 (Obj.isFreed_of_fields g1),g1,g2.trans h3⟩
 ·exact ⟨o,vs,(Zn7 _ _ z).trans h1,h2,h3⟩
theorem Zlh {α:Type}{M:Model}{Γ:Ctx}{e:Addr}{v:Value}:∀ {t:Sem α}{Q:α→Pos→Shared→Prop}{E:Value→Pos→Shared→Prop}{p:Pos}{s:Shared},Mild t→ZaA e v s.heap→Sem.wp M Γ t Q E p s→
  Sem.wp M Γ t (fun a p' s'=>Q a p' s'∧ZaA e v s'.heap) (fun x p' s'=>E x p' s'∧ZaA e v s'.heap) p s:=by
 intro t;induction t with
 | pure a=>exact fun _ x h=>⟨h,x⟩
 | raise u=>exact fun _ x h=>⟨h,x⟩
 | unsupported u=>exact fun _ _ h=>h
 | finish u=>exact fun _ _ h=>h
 | rule _ k ih=>exact fun m x h=>ih () m x h
 | «at» _ k ih=>exact fun m x h=>ih () m x h
 | load a _ k ih=>exact fun m x h=>h.imp fun o q=>⟨q.1,ih o (m o) x q.2⟩
 | update a _ f k ih=>exact fun m x h=>⟨h.1,ih () m.2 (x.upd m.1) h.2⟩
 | alloc o k ih=>exact fun m x h=>ih _ (m _) (let ⟨u,vs,q⟩:=x; ⟨u,vs,Znk _ q.1,q.2⟩) h
 | loadIfAlive a k ih=>exact fun m x h=>ih _ (m _) x h
 | point _ k ih=>exact fun m x h=>ih () m x h
 | fresh k ih=>exact fun m x h=>ih _ (m _) x h
 | ask k ih=>exact fun m x h=>ih _ (m _) x h
 | handled _ k ih=>exact fun m x h=>ih _ (m _) x h
 | stack k ih=>exact fun m x h=>ih _ (m _) x h
 | thread k ih=>exact fun m x h=>ih _ (m _) x h
 | _=>exact fun m _ _=>m.elim
theorem Mild.bind {α β:Type}{f:α→Sem β}:∀ {t:Sem α},Mild t→(∀ a,Mild (f a))→Mild (t.bind f):=by
 intro t;induction t with
 | pure a=>exact fun _ h=>h a
 | raise u=>exact fun _ _=>trivial
 | unsupported u=>exact fun _ _=>trivial
 | finish u=>exact fun _ _=>trivial
 | rule _ k ih=>exact fun m h=>ih () m h
 | «at» _ k ih=>exact fun m h=>ih () m h
 | load a _ k ih=>exact fun m h o=>ih o (m o) h
 | update a _ f k ih=>exact fun m h=>⟨m.1,ih () m.2 h⟩
 | alloc o k ih=>exact fun m h n=>ih n (m n) h
 | loadIfAlive a k ih=>exact fun m h o=>ih o (m o) h
 | point _ k ih=>exact fun m h=>ih () m h
 | fresh k ih=>exact fun m h n=>ih n (m n) h
 | ask k ih=>exact fun m h n=>ih n (m n) h
 | handled _ k ih=>exact fun m h n=>ih n (m n) h
 | stack k ih=>exact fun m h n=>ih n (m n) h
 | thread k ih=>exact fun m h n=>ih n (m n) h
 | _=>exact fun m _=>m.elim
theorem Zcq {α:Type}{M:Model}{A:Around}{t:Sem α}{Q:α→Shared→Prop}{E:Value→Shared→Prop}{s:Shared}{e:Addr}{v:Value} (m:Mild t) (x:ZaA e v s.heap) (h:wpAny M A t Q E s):
  wpAny M A t (fun a s'=>Q a s'∧ZaA e v s'.heap) (fun u s'=>E u s'∧ZaA e v s'.heap) s:=fun Γ p g=>Zlh m x (h Γ p g)
theorem Zau (v:Value) (i:Nat):Mild (field v i):=by
 have f:Mild (fieldsOf v):=by
  cases v with
  | ref a=>
   intro o;show Mild (match o.data with | .fields vs=>pure vs | _=>unsupported "internal:no-fields");split <;> trivial
  | _=>trivial
 refine f.bind fun vs=>?_;split <;> trivial
theorem ZkA {i:Nat} (h:i≠2) (x:Value):Zl9 (Obj.mapFields (·.setIfInBounds i x)):=fun o vs e=>⟨_,Obj.data_mapFields e _,by rw [Array.getElem?_setIfInBounds_ne h]⟩
theorem Zdg {i:Nat} (h:i≠2) (v x:Value):Mild (setField v i x):=by
 cases v with
 | ref a=>
  intro o;show Mild (match o.data with | .fields vs=>if i < vs.size then update a (Obj.mapFields (·.setIfInBounds i x)) else unsupported "internal:no-such-field" | _=>unsupported "internal:write-to-non-record");split
  ·split
   ·exact ⟨ZkA h x,trivial⟩
   ·trivial
  ·trivial
 | _=>trivial
theorem ZfV (v:Value) (f:Option Addr):Mild (setFlight v f):=by
 refine (Zau v 1).bind fun tb=>?_;split
 ·exact Zdg (by decide) _ _
 ·trivial
theorem ZiO (env:Env) (outer:List Env):Mild (behindIsImport env outer):=by
 unfold behindIsImport;split
 ·trivial
 ·split
  ·trivial
  ·exact (Zau _ _).bind fun _=>trivial
theorem Zdf:∀ l:List Env,Mild (readyFrames l)
 | []=>trivial
 | env :: outer=>by
  unfold readyFrames;cases env.frame with
  | none=>trivial
  | some f=>
   intro o;show Mild (if (o.slots.getD 3 none).isSome=true then pure () else _);split
   ·trivial
   ·refine (ZiO env outer).bind fun im=>?_;have kb:Mild (keptBack env im outer):=by
     unfold keptBack;cases outer with
     | nil=>
      dsimp only;split
      ·trivial
      ·intro x; trivial
     | cons c r=>trivial
    exact kb.bind fun b=>⟨fun o vs e=>⟨vs,e,rfl⟩,Zdf outer⟩
theorem ZfW (ty:String) (vs:List Value):Mild (newFields ty vs):=by
 unfold newFields newObj;dsimp only;split
 ·trivial
 ·exact fun n=>trivial
theorem ZiP (v:Value) (env:Env):Mild (noteFrame v env):=by
 unfold noteFrame;cases env.frame with
 | none=>trivial
 | some f=>
  have tail:∀ head:Value,Mild (do setField v 1 (←EntryCells.newEntry head (←frameOf env) .none (rawInt f) .none (←entryPlaceOf f (head != .none)))):=fun head=>by
   have fr:Mild (frameOf env):=by
    unfold frameOf;refine Mild.bind (show Mild frameEnvs from fun _=>trivial) fun l=>Mild.bind ?_ fun r=>by split <;> trivial
    unfold frameObject;split
    ·trivial
    ·exact (Zdf _).bind fun _=>trivial
   have pl:Mild (entryPlaceOf f (head != .none)):=by
    unfold entryPlaceOf;exact Mild.bind (show Mild stack from fun _=>trivial) fun acts=>by split <;> trivial
   have ne:∀ a l,Mild (EntryCells.newEntry head a .none (rawInt f) .none l):=fun a l=>ZfW "traceback" _;exact fr.bind fun a=>pl.bind fun l=>(ne a l).bind fun b=>Zdg (by decide) v b
  refine (Zau v 1).bind fun head=>?_;split
  ·refine (Zau head 3).bind fun x=>?_;split
   ·trivial
   ·exact (Zdg (by decide) head .none).bind fun _=>tail head
  ·exact tail head
theorem Zde (env:Env) (v:Value):Mild (leaving env v):=(ZiP v env).bind fun _=>ZfV v none
end L2
namespace L2
open PySem PySem.Spec PyProof.Rows
section
variable {P:Program}{w:World}{H:Hp}{h:Heap}{a:Addr}{o:HO}
theorem Yh.there (x:Yh P w H h a o):∃ ob,h.get? a=some ob:=by
 cases o with
 | lst xs=>obtain ⟨_,_,_,_,e⟩:=x; exact ⟨_,e⟩
 | tup xs=>obtain ⟨_,_,_,ob,e,_⟩:=x; exact ⟨_,e⟩
 | dK kvs=>obtain ⟨_,_,_,_,ob,_,_,e,_⟩:=x; exact ⟨_,e⟩
 | dT kvs=>obtain ⟨_,_,_,_,ob,_,_,e,_⟩:=x; exact ⟨_,e⟩
 | set S n=>obtain ⟨ob,_,_,_,e,_⟩:=x; exact ⟨_,e⟩
 | ins C dx fs=>obtain ⟨_,_,_,e,_⟩:=x; exact ⟨_,e⟩
 | own y=>exact x
 | xd fs=>obtain ⟨_,⟨_,_,_,e,_⟩,_⟩:=x; exact ⟨_,e⟩
 | rng lo hi=>obtain ⟨_,_,_,e⟩:=x; exact ⟨_,e⟩
 | frz ob u=>exact ⟨_,x.1⟩
 | tbl ps=>exact ⟨_,(show h.get? a=some _ from x)⟩
 | met f y=>exact ⟨_,(show h.get? a=some _ from x)⟩
 | ext φ=>exact x.2.1
end
structure Zhr (P:Program) (w:World) (outer:List Env) (H:Hp) (s:Shared) (ea:Addr) (cls:Value) (H':Hp) (s':Shared):Prop where
 os:s'.os=s.os
 bare:AllBare s'.gens
 un:Un (frs outer) [] H H' s.heap s'.heap
 hok:HOk P w H' s'.heap
 fly:∃ B a0,ZqY B outer ea cls a0 s'.heap∧∀ b o,s'.heap.get? b=some o→b ∉ frs outer→((∃ o',s.heap.get? b=some o')∨∃ u,H' b=some u)→B.get? b=some o
 ctx:ZaA ea .none s'.heap
def CX1 (P:Program) (w:World):CXT:=fun outer H s E e s'=>∃ ea cls H',e=.ref ea∧Zhr P w outer H s ea cls H' s'∧E cls none H'
section
variable {X:Cx}{pins:List (Addr × Obj)}{σ:St}{H1 H':Hp}{s1 s':Shared}{ea:Addr}{cls a0:Value}{B h':Heap}
theorem Zhr.mv (F:Zhr X.prog X.w X.stack H1 s1 ea cls H' s') (I:Inv X pins σ H1 s1):Inv X pins σ H' s':=
 I.call' (ch:=[]) F.os F.un F.hok F.bare fun _ hb=>nomatch hb
theorem Zm4 (I:Inv X pins σ H1 s1) (I':Inv X pins σ H' s') (hex:X.ex=[])
  (hB:∀ b o,s'.heap.get? b=some o→b ∉ frs X.stack→((∃ o',s1.heap.get? b=some o')∨∃ u,H' b=some u)→h'.get? b=some o) (up:s'.heap.UpToSlots h'):
  Un X.fs [] X.H₀ H' X.s₀.heap h'∧HOk X.prog X.w H' h':=by
 have nx:∀ b,b ∉ X.ex:=fun b=>by rw [hex]; simp
 have old:∀ b o,X.s₀.heap.get? b=some o→b ∉ X.fs→b ∉ frs X.stack:=fun b o e hb hs=>by
  rcases Znz.mp (I.stkSub b hs) with z | z
  ·have l:=ZnQ (Znx e) I.ok.above;rw [z] at l;exact ZoT _ l
  ·exact hb z
 refine ⟨⟨fun b o q n hf _=>?_,fun b o q n hf _=>?_,fun b o q n _=>I'.base.free b o q n (nx b),fun b o q _=>?_,I'.base.tups,I'.base.frzs,I'.base.tbls⟩,fun a o e=>?_⟩
 ·exact hB b o (I'.base.keep b o q n hf (nx b)) (old b o q hf) (.inl (I.base.there b o q (nx b)))
 ·obtain ⟨sl,q1⟩:=I'.base.slot b o q n hf (nx b);obtain ⟨_,o1,ho1,hd⟩:=I.ok.funs.mem hf;rw [q] at ho1;cases ho1;obtain ⟨sl2,q2⟩:=up b _ q1 hd;exact ⟨sl2,q2⟩
 ·obtain ⟨o1,q1⟩:=I'.base.there b o q (nx b);by_cases hs:b∈frs X.stack
  ·obtain ⟨_,o2,q2,hd⟩:=I'.stack.mem hs;obtain ⟨sl,q3⟩:=up b o2 q2 hd;exact ⟨_,q3⟩
  ·exact ⟨o1,hB b o1 q1 hs (.inl (I.base.there b o q (nx b)))⟩
 ·refine (I'.hok a o e).stay (fun b u hb q=>?_) (fun _ q=>q) fun _ _ q=>q;have tr:∃ v,H' b=some v:=by
   rcases hb with z | z
   ·exact ⟨_,z ▸ e⟩
   ·exact ⟨_,z⟩
  refine hB b u q (fun hs=>?_) (.inr tr);obtain ⟨v,hv⟩:=tr;rw [I'.stkFree b hs] at hv;cases hv
theorem ZfF (I:Inv X pins σ H1 s1) (I':Inv X pins σ H' s') (hex:X.ex=[])
  (hB:∀ b o,s'.heap.get? b=some o→b ∉ frs X.stack→((∃ o',s1.heap.get? b=some o')∨∃ u,H' b=some u)→B.get? b=some o)
  (fl:ZqY B X.outer ea cls a0 h') (up:s'.heap.UpToSlots h') (cx:ZaA ea .none h'):Zhr X.prog X.w X.outer X.H₀ X.s₀ ea cls H' { s' with heap:=h' }:=by
 obtain ⟨un,hok⟩:=Zm4 (h':=h') I I' hex (fun b o q hs c=>fl.1 b o (hB b o q hs c)) up;refine ⟨I'.os,I'.bare,un,hok,⟨B,a0,fl,fun b o q hf c=>?_⟩,cx⟩;have nx:∀ b,b ∉ X.ex:=fun b=>by rw [hex]; simp
 have hs:b ∉ frs X.stack:=fun hs=>by
  rcases Znz.mp (I.stkSub b hs) with z | z
  ·rcases c with ⟨o',e⟩ | ⟨u,e⟩
   ·have l:=ZnQ (Znx e) I.ok.above;rw [z] at l;exact ZoT _ l
   ·rw [z,I'.free] at e;cases e
  ·exact hf z
 have ⟨o2,q2⟩:∃ o2,s'.heap.get? b=some o2:=by
  rcases c with ⟨o',e⟩ | ⟨u,e⟩
  ·exact I'.base.there b o' e (nx b)
  ·exact (I'.hok b u e).there
 have c1:(∃ o',s1.heap.get? b=some o')∨∃ u,H' b=some u:=by
  rcases c with ⟨o',e⟩ | c
  ·exact .inl (I.base.there b o' e (nx b))
  ·exact .inr c
 have q3:=hB b o2 q2 hs c1;have q4:=fl.1 b o2 q3;have q':h'.get? b=some o:=q;rw [q'] at q4;cases q4;exact q3
end
section
variable {P:Program}{w:World}{K:Znj}{mg:Str→Option Value}{base:Heap}{N:List Str}{qual:Str}{scope:Scope}{f:Addr}{cd:Value}{A:Around}{outer:List Env}{s:Shared}{H:Hp}{E:XK}
theorem ZlV:Zao (CX1 P w) (ZH (CX1 P w) P w K mg base N qual scope f cd A outer s H E) E:=by
 intro pins σ H1 s1 e s' I h;obtain ⟨ea,cls,H',rfl,F,q⟩:=h;obtain ⟨B,a0,fl,hB⟩:=F.fly;show wpAny _ _ (leaving _ (.ref ea)) _ _ s';have on:=wpAny_leaves_onW (M:=model P w) (E:=fun _ _=>False) (Q:=fun _ s2=>∃ h',s2={ s' with heap:=h' }∧ZqY B outer ea cls a0 h'∧s'.heap.UpToSlots h') (A:=A.deeper (envOfC qual scope s.heap.objs.size f cd)) (env:=envOfC qual scope s.heap.objs.size f cd) (outer:=outer) I.ok.frames rfl fl fun h' fl' up=>⟨h',rfl,fl',up⟩;refine wpAny_mono (Zcq (Zde _ _) F.ctx on) (fun _ s2 q2=>?_) fun _ _ z=>z.1.elim;obtain ⟨⟨h',rfl,fl',up⟩,cx⟩:=q2;exact ⟨ea,cls,H',rfl,ZfF (X:=ZH (CX1 P w) P w K mg base N qual scope f cd A outer s H E) I (F.mv I) rfl hB fl' up cx,q⟩
def Zju (X:Cx) (E:XK):Prop:=∀ (pins:List (Addr × Obj)) (σ:St) (H1:Hp) (s1:Shared) (h2:Heap) (ea:Addr) (cls:Value) (args:List Value),Inv X pins σ H1 s1→Heap.MadeExcOf s1.heap h2 ea cls args→E cls none H1→X.xe (.ref ea) { s1 with heap:=h2 }
theorem ZhT:Zju (ZH (CX1 P w) P w K mg base N qual scope f cd A outer s H E) E:=by
 intro pins σ H1 s1 h2 ea cls args I hm q;show wpAny _ _ (leaving _ (.ref ea)) _ _ _;have hin:∀ env∈(ZH (CX1 P w) P w K mg base N qual scope f cd A outer s H E).stack,∀ a,env.frame=some a→a∈frs (ZH (CX1 P w) P w K mg base N qual scope f cd A outer s H E).stack:=fun env he a ha=>ZoS.mpr ⟨env,he,ha⟩;have cx0:ZaA ea .none h2:=let ⟨t,ht,_⟩:=hm.there; ⟨_,_,ht,rfl,rfl⟩;have on:=wpAny_leaves_madeW (M:=model P w) (E:=fun _ _=>False) (Q:=fun _ s2=>∃ h' t,s2={ s1 with heap:=h' }∧ZqY (PySem.W.hideAll s1.heap (frs (ZH (CX1 P w) P w K mg base N qual scope f cd A outer s H E).stack)) outer ea cls (.ref t) h'∧h2.UpToSlots h')
  (s:={ s1 with heap:=h2 }) (A:=A.deeper (envOfC qual scope s.heap.objs.size f cd)) (env:=envOfC qual scope s.heap.objs.size f cd) (outer:=outer) (h:=s1.heap) I.ok.frames rfl
  (fun b o z=>Zrr _ z) (PySem.W.funFrames_hide I.stack hin) hm fun h' t fl ht htn up=>⟨h',t,rfl,fl,up⟩
 refine wpAny_mono (Zcq (Zde _ _) cx0 on) (fun _ s2 q2=>?_) fun _ _ z=>z.1.elim;obtain ⟨⟨h',t,rfl,fl,up⟩,cx⟩:=q2;exact ⟨ea,cls,H1,rfl,ZfF (X:=ZH (CX1 P w) P w K mg base N qual scope f cd A outer s H E) (s1:=s1) (s':=s1) (h':=h') I I rfl (fun b o z hs _=>Zrl _ z hs) fl ((Heap.UpToSlots.of_keeps hm.keeps).trans up) cx,q⟩
theorem Fun.okX {x:Str}{st:Stmt}{fd:FuncData}{ps:List Str}{k:Nat}{sp:Sp} (F:Fun K x qual st f fd) (S:Zn N ps (Zf st)) (len:∀ vs H Q E,sp vs H Q E→vs.length=ps.length)
  (hbody:∀ (cdv:Value) (A:Around) (outer:List Env) (s:Shared) (H:Hp) (vs:List V) (Q:VK) (E:XK),ZR k (A.deeper (envOfC qual (Zf st) s.heap.objs.size f cdv))→sp vs H Q E→
   ∃ t,PSs (ZH (CX1 P w) P w K mg base N qual (Zf st) f cdv A outer s H E) (YB st) t∧t { nx:=fun _ H'=>Q .non H',rt:=Q } (Zbh N vs) H):Ym P w K mg base (CX1 P w) (k+1) f fd ps sp:=by
 obtain ⟨oc,od,kV,doc,pm,an,cdv,ct,osl,rfl,lk,hcd⟩:=F.ex;exact ZjI lk hcd S len fun A outer s H vs Q E hr hsp=>hbody cdv A outer s H vs Q E hr hsp
end
theorem Zme {K:Znj}{h:Heap}{C:Addr}{bmB:List Value}{newId:String} (X:K.In h) (q:ZpH K C bmB newId=true):
  ∃ bm N nm qn bs hd sn sub ab col dd k0 k1 k2 k3 k5 mN,h.get? C=some (excClassObj nm qn C N bs bm hd sn sub ab col dd k0 k1 k2 k3 k5 newId)∧h.Ns N mN∧mN "__init__"=none∧OwnTail h bmB bm:=by
 unfold ZpH at q;split at q
 next dd cd sl ho=>
  split at q
  next C1 bm e0 e1 e2 e3 nn e5 hmro hslots=>
   simp only [ZnA,beq_iff_eq,Zn3] at q;obtain ⟨⟨⟨⟨⟨rfl,rfl⟩,del⟩,tl⟩,okN⟩,noI⟩:=q;obtain ⟨c1,c2,c3,c4,c5,c6,c7,c8,c9,c10,c11⟩:=cd;dsimp only at hmro del okN noI;subst hmro del;have es:sl=#[e0,e1,e2,e3,some (.builtin nn),e5]:=by
    obtain ⟨ll⟩:=sl;dsimp only at hslots;rw [hslots]
   subst es;exact ⟨bm,c4,c1,c5,c2,c6,c7,c8,c9,c10,dd,e0,e1,e2,e3,e5,_,X _ _ ho,.of_isNs (PySem.W.isNs_of_in X okN),PySem.W.nsMap_none_of_in X okN noI,PySem.W.tail_of_in X tl⟩
  next=>cases q
 next=>cases q
def Zjx:List Value:=[.type "ValueError",.type "Exception",.type "BaseException",.type "object"]
structure Exc (K:Znj) (mg:Str→Option Value) (x:Str) (C:Addr):Prop where
 there:mg x=some (.ref C)
 ok:ZpH K C Zjx "ValueError.__new__"=true
def ZmO (E:XK) (c:Value) (te:TE):TS:=fun _ σ H=>Je te Zbw σ H fun xs H1=>xs.length≤10∧E c none H1
theorem Zgf {X:Cx}{E:XK}{x:Str}{C:Addr}{e:Expr}{te:TE}{np cpos pos:Pos} (hR:Zju X E) (hc:X.calm=true) (Z:Exc X.K X.mg x C) (he:PE X e te) (hg:Gl X x:=by rfl) (hd:(x == ("__debug__":Str))=false:=by decide)
  (hs:starEach [e] X.env=(false,eval e X.env) :: starEach [] X.env:=by rfl) (hpl:(backTo cpos (starEach [e] X.env)).any (·.1)=false:=by rfl):
  PS X (.Raise (some (.Call (.Name x np) [e] [] cpos)) none pos) (ZmO E (.ref C) te):=by
 intro pins s σ H D I h;obtain ⟨bm,N,nm,qn,bs,hdc,sn,sub,ab,col,dd,k0,k1,k2,k3,k5,mN,hC,hN,hni,T⟩:=Zme I.mod.kin Z.ok;refine wpAny_Raise_call_subT (bmB:=Zjx) (nm:=nm) (q:=qn) (C:=C) (N:=N) (bs:=bs) (bm:=bm) (hdct:=hdc) (sn:=sn) (sub:=sub) (ab:=ab) (col:=col) (dd:=dd) (k0:=k0) (k1:=k1) (k2:=k2) (k3:=k3) (k5:=k5) (mN:=mN) Zqe (T.hasType Zqe.hasBase) (I.ok.hd hc) hpl hni (ld_glob I hg Z.there ⟨rfl,?_⟩ hd);have sp:=(pa_cons he pa_nil hs) cpos pins s σ H _ I h;rw [hs] at sp ⊢;refine Calls.evalArgs_plain (wpAny_mono sp (fun us s₂ hq=>?_) fun _ _ z=>z);obtain ⟨xs,H2,I2,r,hl,q2⟩:=hq;have hl2:us.length≤sizeLine:=by
  rw [←r.length];exact Zog hl (by decide)
 exact ⟨rfl,hl2,I2.bk _ _ hC,hN.keeps I2.bk,T.keeps I2.bk,fun h' ea hm=>hR pins σ H2 s₂ h' ea _ _ I2 hm q2⟩
end L2
namespace L2
open PySem PySem.Spec PyProof.Rows Tw
def tDSd (td ty tx:TE):TE:=fun σ H Q=>td σ H fun x H1=>∃ a,x=.ref a∧IsD H1 a∧ty σ H1 fun y H2=>tx σ H2 fun z H3=>∃ kvs k,H3 a=some (.dK kvs)∧y=kV k∧
 (∀ v,Yn kvs k=some v→Q v H3)∧(Yn kvs k=none→kvs.length < sizeLine∧Q z (upd H3 a (.dK (YF kvs k z))))
section
variable {X:Cx}{o e f:Expr}{apos cpos:Pos}{td ty tx:TE}
theorem Zmr (ho:PE X o td) (he:PE X e ty) (hf:PE X f tx) (m:M2 X o "setdefault" apos e f cpos):PE X (.Call (.Attribute o "setdefault" apos) [e,f] [] cpos) (tDSd td ty tx):=by
 intro pins s σ H Q I h;refine wpAny_Call_method m.base m.few m.line Zo2 ZoM Zp2 (thn (ho pins s σ H _ I h) fun u s1 qz=>?_);obtain ⟨x,H1,I1,rx,a,ex,d,q1⟩:=qz;subst ex;obtain rfl:u=Value.ref a:=rx;obtain ⟨t1,t2,_⟩:=ZgK I1 d;refine ⟨t1,t2,?_⟩;rw [m.trees];refine Calls.callWith_builtin rfl (Calls.evalArgs_plain (Calls.spliced_cons (thn (he pins s1 σ H1 _ I1 q1) fun iv s2 ⟨y,H2,I2,ry,q2⟩=>
  Calls.spliced_cons (thn (hf pins s2 σ H2 _ I2 q2) fun fv s3 ⟨z,H3,I3,rz,kvs,k,ea,ey,q3,q4⟩=>Calls.spliced_nil ?_))))
 subst ey;obtain ⟨hz,hd,vs,rel,dd⟩:=ZjD I3.hok ea;have rv:=rel.val k;refine call_meetsIn ZoM dd.typeIs ZpX (ZpQ _ _ _) (kt_meets_setdefault (Zy X.prog X.w) a (ZbK ry) hd fv)
  ⟨vs,dd,by rw [←rel.length]; exact hz,fun w' hw=>?_,fun hn h' dd' hs=>?_⟩
 ·cases l:Yn kvs k with
  | none=>rw [l,hw] at rv; exact rv.elim
  | some v=>rw [l,hw] at rv; exact ⟨v,H3,I3.tok _,rv,q3 v l⟩
 ·cases l:Yn kvs k with
  | some v=>rw [l,hn] at rv; exact rv.elim
  | none=>
   obtain ⟨hl,q5⟩:=q4 l;have hl2:(YF kvs k z).length≤sizeLine:=by have:=Jr kvs k z; omega
   have he:∃ q,h'.get? a=some q:=let ⟨q,_,_,hq,_⟩:=dd'; ⟨q,hq⟩;exact ⟨z,_,ZbG I3 (by rw [ea]; exact True.intro) hs he (dk_new hl2 hd (rel.put k rz) dd'),rz,q5⟩
end
section
variable {X:Cx}{pins:List (Addr × Obj)}{σ:St}{H H':Hp}{s:Shared}{h':Heap}
theorem Zk {b t:Addr}{o u:HO} (e:H b=some o) (hn:H t=none):upd H t u b=some o:=by rw [Zp (ne_of_none e hn)]; exact e
theorem Inv.turned2 {e it t:Addr}{xs:List V}{tk:Nat} (I:Inv X pins σ H s) (k:∀ b o,b≠e→b≠it→s.heap.get? b=some o→h'.get? b=some o) (he:ZaG X pins H e) (hi:ZaG X pins H it) (ht:s.heap.objs.size≤t)
  (new:Yh X.prog X.w (upd H t (.tup xs)) h' t (.tup xs)) (hle:∃ o,h'.get? e=some o) (hli:∃ o,h'.get? it=some o):Inv X pins σ (upd H t (.tup xs)) { s with heap:=h',toks:=tk }:=by
 have hn:H t=none:=I.hok.fresh ht;have nch:∀ b,b ∉ [e,it]→b≠e∧b≠it:=fun b hb=>⟨fun z=>hb (by simp [z]),fun z=>hb (by simp [z])⟩;refine I.step (g':=s.gens) (d':=s.drawn) (ch:=[e,it]) (fun b hb=>?_) (fun b o _ _ hc q _=>k b o (nch b hc).1 (nch b hc).2 q) (fun b o _ _ hc q _=>⟨o.slots,k b o (nch b hc).1 (nch b hc).2 q⟩)
  (fun b o _ q n=>by rw [Zp (ZnK (ZnQ (Znx q) ht))]; exact n) (fun b o hc q=>⟨o,k b o (nch b hc).1 (nch b hc).2 q⟩) (fun b ys q=>Zk q hn) (fun b o u q=>Zk q hn)
  (fun b ps q=>⟨#[],by rw [Zk q hn]; simp⟩) (fun m hm=>?_) (fun b u q=>?_) I.bare
 ·rcases Znz.mp hb with z | hb
  ·rw [z]; exact ⟨he.2.2.2.1,he.2.1,he.2.2.2.2.1,he.2.2.2.2.2⟩
  ·have z:b=it:=by simpa using hb
   rw [z]; exact ⟨hi.2.2.2.1,hi.2.1,hi.2.2.2.2.1,hi.2.2.2.2.2⟩
 ·obtain ⟨o,es,ep,ho,r⟩:=hm;exact ⟨o,es,ep,k _ o he.2.1.symm hi.2.1.symm ho,r⟩
 ·by_cases hb:b=t
  ·subst hb;rw [Za] at q;cases q;exact new
  ·rw [Zp hb] at q;refine (I.hok b u q).stay (fun c v hc z=>k c v ?_ ?_ z) (fun c z=>Zk z hn) fun c ys z=>Zk z hn
   ·rintro rfl;rcases hc with z | z
    ·rw [←z,he.1] at q; cases q
    ·rw [he.1] at z; cases z
   ·rintro rfl;rcases hc with z | z
    ·rw [←z,hi.1] at q; cases q
    ·rw [hi.1] at z; cases z
end
def Ite (K:Znj) (a:Addr):It:=
 ⟨fun i H=>∃ xs x,SqL K H a xs∧xs[i]?=some x,fun i H v H'=>∃ t,v=.ref t∧H t=none∧∀ xs,SqL K H a xs→∃ x,xs[i]?=some x∧H'=upd H t (.tup [.int i,x]),fun i H=>∃ xs,SqL K H a xs∧xs.length≤i⟩
theorem Zjn {P:Program}{w:World}{K:Znj}{elts:List Expr}{x1}{pos:Pos} (a e it:Addr) (hne:e≠it):
  ZeD P w K (.Tuple elts x1 pos) (Ite K a) [e,it] e (fun i h=>(∃ old,IsEnum h e it i old)∧h.IsListIter it a i) where
 mem:=by simp
 obj:=fun i h st b hb=>by
  obtain ⟨⟨old,st1⟩,o,h1,c,d⟩:=st;rcases Znz.mp hb with z | hb
  ·subst z;exact ⟨_,st1,fun v z=>by
    have z':Data.fields _=Data.cell v:=z;cases z'⟩
  ·have z:b=it:=by simpa using hb
   subst z;exact ⟨o,h1,fun v z=>by rw [d] at z; cases z⟩
 keep:=fun i h h' st k=>⟨let ⟨old,q⟩:=st.1; ⟨old,k e (by simp) _ q⟩,st.2.at fun o q=>k it (by simp) o q⟩
 item:=by
  intro X hP hw hK hc i pins s σ H E I hf st hg;subst hP hw hK;obtain ⟨xs,x,hq,hx⟩:=hg;obtain ⟨⟨old,he⟩,hit⟩:=st;obtain ⟨its,rv,p,hz⟩:=I.list hq;obtain ⟨u,hu,ru⟩:=rv.get hx;refine wpAny_pyNext_enum_item he hit p.isList (x:=u) (by simpa using hu) hne fun h' ho hit' hT hsz hk=>?_;have hfr:H s.heap.objs.size=none:=I.hok.fresh (Znn _);have I1:Inv X pins σ (upd H s.heap.objs.size (.tup [.int i,x])) { s with heap:=h',toks:=s.toks+1 }:=
   I.turned2 hk (hf e (by simp)) (hf it (by simp)) (Znn _) ⟨by show 2≤sizeLine; decide,[.int i s.toks,u],.cons ⟨_,rfl⟩ (.cons ru .nil),⟨_,hT,rfl,_,rfl⟩⟩ ⟨_,ho⟩ (let ⟨o,q,_⟩:=hit'; ⟨o,q⟩)
  refine ⟨_,rfl,wpAny_letOwnedTupleGo_enum (s:={ s with heap:=h',toks:=s.toks+1 }) ho fun h2 he2 sb2=>?_⟩;have hlt:e < s.heap.objs.size:=Znx he;have ilt:it < s.heap.objs.size:=let ⟨o,q,_⟩:=hit; Znx q;obtain ⟨f0,f1,f2,f3,f4,f5⟩:=hf e (by simp);have I2:=I1.turned (h':=h2) (t':=s.toks+1) (it:=e) (fun b o hb q=>(sb2.2 b hb).trans q) (by rw [Zp (ZnK hlt)]; exact f0) f1 f3 f4 f5;refine ⟨.ref s.heap.objs.size,_,I2,rfl,⟨_,rfl,hfr,fun ys hy=>⟨x,by rw [I.list_inj hy hq]; exact hx,rfl⟩⟩,⟨⟨_,by simpa using he2⟩,hit'.at fun o q=>(sb2.2 it hne.symm).trans q⟩,fun b hb=>?_⟩;have hb':b < s.heap.objs.size:=by
   rcases Znz.mp hb with z | hb
   ·rw [z]; exact hlt
   ·have z:b=it:=by simpa using hb
    rw [z]; exact ilt
  rw [Zp (ZnK hb')];exact (hf b hb).1
 done:=by
  intro X hP hw hK hc i pins s σ H E I hf st hg;subst hP hw hK;obtain ⟨xs,hq,hx⟩:=hg;obtain ⟨⟨old,he⟩,hit⟩:=st;obtain ⟨its,rv,p,hz⟩:=I.list hq;have hl:=rv.length;obtain ⟨f0,f1,f2,f3,f4,f5⟩:=hf it (by simp);exact wpAny_pyNext_enum_end (I.ok.hd hc) he hit p.isList (by simp; omega) fun h' eb=>⟨rfl,I.turned (t':=s.toks) (it:=it) (fun b o hb q=>eb b o hb q) f0 f1 f3 f4 f5⟩
 self:=fun _ _ _ _ _ st h=>let ⟨⟨_,he⟩,_⟩:=st; wpAny_pyIter_enum he h
def ZmX (K:Znj) (ta:TA):TI:=fun σ H R=>ta σ H fun vs H1=>∃ a,vs=[.ref a]∧(∃ xs,SqL K H1 a xs)∧R (Ite K a) H1
theorem ZhS {X:Cx}{a:Expr}{ta:TA}{p pos tpos:Pos}{elts:List Expr}{x1} (hg:Gl X "enumerate") (hm:X.mg "enumerate"=none) (ha:PA X [a] ta) (hs:starEach [a] X.env=[(false,eval a X.env)]:=by rfl):
  PI X (.Tuple elts x1 tpos) (.Call (.Name "enumerate" p) [a] [] pos) (ZmX X.K ta):=by
 intro pins s σ H R I h;refine Call_ (ld_blt I hg hm boot_enumerate (PyProof.Rows.callWith_type1 (thn (ha pos pins s σ H _ I h) fun us s1 qz=>?_) hs rfl));obtain ⟨vs,H1,I1,r1,q1⟩:=qz;obtain ⟨l,ev,⟨xs,hq⟩,q⟩:=q1;subst ev;obtain ⟨u,rfl,ru⟩:=YJ r1;cases ru;obtain ⟨its,rv,pl,hz⟩:=I1.list hq;refine call_enumerate_list pl.isList fun h' he hit hsz hk=>?_;refine wpAny_pyIter_enum (s:={ s1 with heap:=h' }) he ?_;have I2:Inv X pins σ H1 { s1 with heap:=h',toks:=s1.toks }:=I1.kept (t':=s1.toks) hk;refine ⟨s1.heap.objs.size+1,[s1.heap.objs.size+1,s1.heap.objs.size],_,_,H1,rfl,I2,Zjn l _ _ (Nat.succ_ne_self _),⟨⟨_,by simpa using he⟩,hit⟩,fun b hb=>?_,q⟩;have hb':s1.heap.objs.size≤b:=by
  rcases Znz.mp hb with z | hb
  ·rw [z]; exact Zpb _
  ·have z:b=s1.heap.objs.size:=by simpa using hb
   rw [z]; exact Znn _
 obtain ⟨f0,f1,f2,f3,f4,f5⟩:=I1.fpOk hb' (I1.hok.fresh hb');exact ⟨f0,f1,f2,f3,f4,f5⟩
def Zjr (hi:Int) (n:Nat):It:=⟨fun i _=>i < n,fun i H x H'=>H'=H∧x=.int (hi - i),fun i _=>n≤i⟩
theorem Zjm {P:Program}{w:World}{K:Znj}{tg:Expr} (it:Addr) (hi:Int) (n:Nat):ZeD P w K tg (Zjr hi n) [it] it (fun i h=>IsRangeIter h it (hi+(i:Nat) * (-1)) ((n:Int) - (i:Nat)) (-1)) where
 mem:=by simp
 obj:=fun i h st b hb=>by
  have e:b=it:=by simpa using hb
  subst e;exact ⟨_,st,fun v z=>by
   have z':Data.fields _=Data.cell v:=z;cases z'⟩
 keep:=fun i h h' st k=>k it (by simp) _ st
 item:=by
  intro X hP hw hK hc i pins s σ H E I hf st hg;subst hP hw hK;obtain ⟨f0,f1,f2,f3,f4,f5⟩:=hf it (by simp);have W:=Walks.range (prog:=X.prog) (w:=X.w) (I.ok.hd hc) it hi (-1) n;refine W.item i s _ _ hg st fun v h' tk hv st' kk=>?_;obtain ⟨t,rfl⟩:=hv;have I1:Inv X pins σ H { s with heap:=h',toks:=tk }:=I.turned (fun b o hb e=>kk b o (by simpa using hb) e) f0 f1 f3 f4 f5;refine ⟨_,rfl,ZfJ (s:={ s with heap:=h',toks:=tk }) (n:="range_iterator") st' rfl rfl (by decide) ⟨.int (hi - i),H,I1,⟨t,?_⟩,⟨rfl,rfl⟩,st',fun b hb=>(hf b hb).1⟩⟩;rw [show hi+(i:Int) * (-1)=hi - i by omega]
 done:=by
  intro X hP hw hK hc i pins s σ H E I hf st hg;subst hP hw hK;obtain ⟨f0,f1,f2,f3,f4,f5⟩:=hf it (by simp);exact wpAny_pyNext_range_end (I.ok.hd hc) st (by have:n≤i:=hg; omega) fun h' eb=>⟨rfl,I.turned (t':=s.toks) (fun b o hb e=>eb b o hb e) f0 f1 f3 f4 f5⟩
 self:=fun _ _ _ _ _ st h=>wpAny_pyIter_rangeiter st h
def ZmW (ta:TA):TI:=fun σ H R=>ta σ H fun vs H1=>∃ i j:Int,vs=[.int i,.int j,.int (-1)]∧(-1000000000≤i∧i≤1000000000∧-1000000000≤j∧j≤1000000000)∧R (Zjr i (i - j).toNat) H1
theorem Zhi {a b:Int} (ha:-1000000000≤a) (ha':a≤1000000000) (hb:-1000000000≤b) (hb':b≤1000000000):Builtin.Range.small a b (-1)=true:=by
 unfold Builtin.Range.small;rw [PySem.W.rangeSize_down];simp only [Builtin.Range.rangeFitsLong,ZnA,ZqX,decide_eq_true_eq,beq_iff_eq,show ¬ ((-1:Int) > 0) by decide,if_false];split <;> omega
theorem Zlz {X:Cx}{tg a b c:Expr}{ta:TA}{p pos:Pos} (hg:Gl X "range") (hm:X.mg "range"=none) (ha:PA X [a,b,c] ta) (hs:starEach [a,b,c] X.env=(false,eval a X.env) :: starEach [b,c] X.env:=by rfl)
  (hs2:(backTo pos (starEach [b,c] X.env)).any (·.1)=false:=by rfl):PI X tg (.Call (.Name "range" p) [a,b,c] [] pos) (ZmW ta):=by
 intro pins s σ H R I h;refine Call_ (ld_blt I hg hm boot_range (PyProof.Rows.callWith_type1 (thn (ha pos pins s σ H _ I h) fun us s1 qz=>?_) hs hs2));obtain ⟨vs,H1,I1,r1,q1⟩:=qz;obtain ⟨i,j,e,⟨q1,q2,q3,q4⟩,q⟩:=q1;subst e;obtain ⟨u1,u2,u3,rfl,⟨t1,rfl⟩,⟨t2,rfl⟩,⟨t3,rfl⟩⟩:∃ u1 u2 u3,us=[u1,u2,u3]∧RelV (.int i) u1∧RelV (.int j) u2∧RelV (.int (-1)) u3:=by
  cases r1 with
  | cons a1 r1=>cases r1 with
   | cons a2 r1=>cases r1 with
    | cons a3 r1=>cases r1; exact ⟨_,_,_,rfl,a1,a2,a3⟩
 refine call_range_3 (by decide) ?_ (.inl (PyProof.noPylong_small (by omega)));refine wpAny_pyIter_range (IsRange.new ..) (Zhi q1 q2 q3 q4) ?_;have I2:Inv X pins σ H1 { s1 with heap:=s1.heap.push { cls:=.type "range",data:=.fields #[.int i t1,.int j t2,.int (-1) t3] },toks:=s1.toks }:=I1.kept fun b o e=>Znk _ e;refine ⟨(s1.heap.push { cls:=.type "range",data:=.fields #[.int i t1,.int j t2,.int (-1) t3] }).objs.size,[(s1.heap.push { cls:=.type "range",data:=.fields #[.int i t1,.int j t2,.int (-1) t3] }).objs.size],_,_,H1,rfl,
  I2.kept (t':=s1.toks) fun b o e=>Znk _ e,Zjm _ i (i - j).toNat,?_,fun b hb=>?_,q⟩
 ·have e1:i+((0:Nat):Int) * (-1)=i:=by simp
  have e2:(((i - j).toNat:Nat):Int) - ((0:Nat):Int)=Builtin.Range.rangeSize i j (-1):=by rw [PySem.W.rangeSize_downNat]; simp
  show IsRangeIter _ _ (i+((0:Nat):Int) * (-1)) ((((i - j).toNat:Nat):Int) - ((0:Nat):Int)) (-1);rw [e1,e2];exact Znu _ rfl
 ·have e:b=(s1.heap.push { cls:=.type "range",data:=.fields #[.int i t1,.int j t2,.int (-1) t3] }).objs.size:=by simpa using hb
  subst e;exact I2.fpOk (Znn _) (I2.hok.fresh (Znn _))
end L2
namespace Tw
def Y5 {α:Type} [DecidableEq α] (l:List α) (x:α):List α:=if x∈l then l else l++[x]
theorem Zdc {α:Type} [DecidableEq α] {l:List α}{x y:α}:y∈Y5 l x↔y∈l∨y=x:=by
 unfold Y5;split
 ·rename_i h;exact ⟨.inl,fun z=>z.elim id fun e=>e ▸ h⟩
 ·simp
theorem ZiQ {α:Type} [DecidableEq α] {l:List α}{x:α} (h:l.Nodup):(Y5 l x).Nodup:=by
 unfold Y5;split
 ·exact h
 ·rename_i hx;rw [ZoZ];exact ⟨h,by simp,fun a ha b hb=>by rw [Znt.mp hb]; intro e; exact hx (e ▸ ha)⟩
def ZP (ws:List W):List Nat:=ws.foldl (fun acc x=>Y5 acc x.length) []
def YK (ws:List W) (n:Nat):List W:=ws.foldl (fun acc x=>if x.length=n then Y5 acc x else acc) []
def Yb (ws:List W) (x:W):List Nat:=(ZnB ws.length).filter fun i=>decide (ws[i]?=some x)
theorem Js (ws:List W) (x:W):ZP (ws++[x])=Y5 (ZP ws) x.length:=by
 unfold ZP; rw [Zqp]; rfl
theorem JC (ws:List W) (x:W) (n:Nat):YK (ws++[x]) n=if x.length=n then Y5 (YK ws n) x else YK ws n:=by
 unfold YK; rw [Zqp]; rfl
theorem ZaP {α:Type}{P:List α→Prop} (h0:P []) (hs:∀ l x,P l→P (l++[x])):∀ l,P l:=by
 intro l;have:∀ n,∀ l:List α,l.length=n→P l:=by
  intro n;induction n with
  | zero=>intro l hl; rw [ZnU hl]; exact h0
  | succ n ih=>
   intro l hl;have hne:l≠[]:=fun e=>by rw [e] at hl; cases hl
   rw [←List.dropLast_concat_getLast hne];exact hs _ _ (ih _ (by simp [hl]))
 exact this _ l rfl
theorem ZgX (ws:List W) (n:Nat):n∈ZP ws↔∃ x∈ws,x.length=n:=by
 induction ws using ZaP with
 | h0=>simp [ZP]
 | hs ws x ih=>
  rw [Js,Zdc,ih];constructor
  ·rintro (⟨y,hy,e⟩ | e)
   ·exact ⟨y,ZoC _ hy,e⟩
   ·exact ⟨x,by simp,e.symm⟩
  ·rintro ⟨y,hy,e⟩;rcases Zns.mp hy with hy | hy
   ·exact .inl ⟨y,hy,e⟩
   ·rw [Znt.mp hy] at e; exact .inr e.symm
theorem ZiR (ws:List W):(ZP ws).Nodup:=by
 induction ws using ZaP with
 | h0=>exact Zqk
 | hs ws x ih=>rw [Js]; exact ZiQ ih
theorem Zbo (ws:List W):(ZP ws).length≤ws.length:=by
 induction ws using ZaP with
 | h0=>exact Znn _
 | hs ws x ih=>
  rw [Js];unfold Y5;split <;> simp <;> omega
theorem mem_wordsOf (ws:List W) (n:Nat) (x:W):x∈YK ws n↔x∈ws∧x.length=n:=by
 induction ws using ZaP with
 | h0=>simp [YK]
 | hs ws y ih=>
  rw [JC,Zns,Znt];split
  ·rename_i hy;rw [Zdc,ih];constructor
   ·rintro (⟨a,b⟩ | e)
    ·exact ⟨.inl a,b⟩
    ·exact ⟨.inr e,by rw [e]; exact hy⟩
   ·rintro ⟨a | a,b⟩
    ·exact .inl ⟨a,b⟩
    ·exact .inr a
  ·rename_i hy;rw [ih];constructor
   ·rintro ⟨a,b⟩; exact ⟨.inl a,b⟩
   ·rintro ⟨a | a,b⟩
    ·exact ⟨a,b⟩
    ·exact absurd (a ▸ b) hy
theorem Zgw (ws:List W) (n:Nat):(YK ws n).length≤ws.length:=by
 induction ws using ZaP with
 | h0=>exact Znn _
 | hs ws x ih=>
  rw [JC];unfold Y5;split
  ·split <;> simp <;> omega
  ·simp; omega
theorem Zbg (ws:List W) (x y:W):Yb (ws++[x]) y=Yb ws y++if x=y then [ws.length] else []:=by
 unfold Yb;rw [Znl,ZnT,Zq2,ZpC];congr 1
 ·apply List.filter_congr;intro i hi;rw [Zpm (Zoq.mp hi)]
 ·simp [List.filter_cons]
theorem mem_placesOf (ws:List W) (x:W) (i:Nat):i∈Yb ws x↔ws[i]?=some x:=by
 unfold Yb;rw [Zp5,Zoq,decide_eq_true_iff];exact ⟨fun h=>h.2,fun h=>⟨(Znw.mp h).1,h⟩⟩
theorem Ze9 (ws:List W) (x:W):(Yb ws x).length≤ws.length:=by
 unfold Yb;exact Zog (Zo9 _ _) (by simp)
theorem ZdX {ws:List W}{x:W} (h:x ∉ ws):Yb ws x=[]:=by
 rw [ZpN];intro i hi;rw [mem_placesOf] at hi;exact h (ZnD hi)
def cut (t:W) (m n:Nat):W:=(t.drop m).take n
def Yk (ws:List W) (t:W) (m:Nat):List Nat:=(ZP ws).filter fun n=>decide (n≤t.length - m) && decide (cut t m n∈ws)
theorem Yv (ws:List W) (t:W) (m n:Nat) (hm:m≤t.length):n∈Yk ws t m↔cut t m n∈ws∧n≤t.length - m∧(cut t m n).length=n:=by
 unfold Yk;rw [Zp5,ZnA,decide_eq_true_iff,decide_eq_true_iff,ZgX];have hl:n≤t.length - m→(cut t m n).length=n:=fun h=>by unfold cut; simp; omega
 constructor
 ·rintro ⟨_,h1,h2⟩; exact ⟨h2,h1,hl h1⟩
 ·rintro ⟨h1,h2,h3⟩; exact ⟨⟨_,h1,h3⟩,h2,h1⟩
theorem Zbv (ws:List W) (t:W) (m:Nat):(Yk ws t m).length≤ws.length:=Zog (Zo9 _ _) (Zbo ws)
def Full (ws:List W):Prop:=∀ x∈ws,x≠[]
theorem Zhm {ws:List W} (hf:Full ws) {t:W}{m n:Nat} (hm:m≤t.length) (h:n∈Yk ws t m):0 < n∧m+n≤t.length:=by
 obtain ⟨h1,h2,h3⟩:=(Yv ws t m n hm).mp h;refine ⟨?_,by omega⟩;rcases Nat.eq_zero_or_pos n with z | z
 ·subst z;exact absurd (ZnU h3) (hf _ h1)
 ·exact z
end Tw
namespace L2
open PySem PySem.Spec PyProof.Rows Tw
theorem JZ {α:Type}{κ:α→Key}{v:α→V}:∀ {l:List α},(∀ a∈l,∀ b∈l,κ a=κ b→a=b)→∀ {a:α},a∈l→Yn (l.map fun a=>(κ a,v a)) (κ a)=some (v a)
 | [],_,_,h=>nomatch h
 | b :: l,inj,a,h=>by
  rw [ZnN];by_cases e:κ b=κ a
  ·have:=inj b ZnF a h e;subst this;exact Yr rfl
  ·rw [Yq (p:=(κ b,v b)) e];rcases Znz.mp h with z | z
   ·exact absurd (by rw [z]) e
   ·exact JZ (fun x hx y hy=>inj x (ZnC _ hx) y (ZnC _ hy)) z
theorem JY {α:Type}{κ:α→Key}{v:α→V}{k:Key}:∀ {l:List α},(∀ a∈l,κ a≠k)→Yn (l.map fun a=>(κ a,v a)) k=none
 | [],_=>rfl
 | b :: l,h=>by
  rw [ZnN,Yq (p:=(κ b,v b)) (h b ZnF)];exact JY fun a ha=>h a (ZnC _ ha)
theorem YU {a b:Nat} (e:(.inl (a:Int):Key)=.inl (b:Int)):a=b:=by have:=Sum.inl.inj e; omega
theorem ZaV {a b:W} (e:(.inr (st a):Key)=.inr (st b)):a=b:=st_inj (Sum.inr.inj e)
theorem upd_k {H:Hp}{b t:Addr}{o u:HO} (e:H b=some o) (hn:b≠t):upd H t u b=some o:=by rw [Zp hn]; exact e
theorem ZC {n:Nat} (h:n≤1000000):n < sizeLine:=ZoJ h (by decide)
abbrev intsV (r:List Nat):List V:=r.map fun (i:Nat)=>V.int i
structure GL (H:Hp) (g:Addr) (ws:List W) (L:List Nat) (d:Nat→Addr) (f:W→Addr):Prop where
 gd:H g=some (.dK (L.map fun (n:Nat)=>((.inl (n:Int):Key),V.ref (d n))))
 inn:∀ n∈L,H (d n)=some (.dK ((YK ws n).map fun (x:W)=>((.inr (st x):Key),V.ref (f x))))
 lst:∀ x∈ws,H (f x)=some (.lst (intsV (Yb ws x)))
 dinj:∀ n∈L,∀ m∈L,d n=d m→n=m
 finj:∀ x∈ws,∀ y∈ws,f x=f y→x=y
 dg:∀ n∈L,d n≠g
 cov:∀ x∈ws,x.length∈L
section
variable {H:Hp}{g l:Addr}{ws:List W}{L:List Nat}{d:Nat→Addr}{f:W→Addr}{x:W}{n:Nat}{o:HO}
theorem GL.new (G:GL H g ws L d f) (h:H l=none):GL (upd H l o) g ws L d f:=
 ⟨Zk G.gd h,fun n hn=>Zk (G.inn n hn) h,fun x hx=>Zk (G.lst x hx) h,G.dinj,G.finj,G.dg,G.cov⟩
theorem GL.len (G:GL H g ws L d f) (hn:n ∉ L) (h:H l=none):
  GL (upd (upd H l (.dK [])) g (.dK (YF (L.map fun (n:Nat)=>((.inl (n:Int):Key),V.ref (d n))) (.inl (n:Int)) (.ref l)))) g ws (L++[n]) (fun k=>if k=n then l else d k) f:=by
 have lg:l≠g:=(ne_of_none G.gd h).symm;have hd:∀ m∈L,(if m=n then l else d m)=d m:=fun m hm=>if_neg fun (e:m=n)=>hn (e ▸ hm);refine ⟨?_,fun m hm=>?_,fun x hx=>?_,fun m hm k hk e=>?_,G.finj,fun m hm=>?_,fun x hx=>ZoC _ (G.cov x hx)⟩
 ·rw [Za,Zaj _ (JY (κ:=fun n:Nat=>(.inl (n:Int):Key)) fun a ha e=>hn (YU (b:=n) e ▸ ha)),Zn2];congr 2
  ·congr 1
   ·apply ZnP;intro m hm;rw [hd m hm]
   ·simp
 ·rcases Zns.mp hm with hm | hm
  ·show upd (upd H l (.dK [])) g _ (if m=n then l else d m)=_;rw [hd m hm];exact upd_k (Zk (G.inn m hm) h) (G.dg m hm)
  ·have e:m=n:=by simpa using hm
   subst e;show upd (upd H l (.dK [])) g _ (if m=m then l else d m)=_;rw [if_pos rfl,Zp lg,Za];have:YK ws m=[]:=by
    rw [ZpN];intro x hx;obtain ⟨h1,h2⟩:=(mem_wordsOf ws m x).mp hx;exact hn (h2 ▸ G.cov x h1)
   rw [this]; rfl
 ·exact upd_k (Zk (G.lst x hx) h) (Ye (G.lst x hx) G.gd (by simp))
 ·have dn:∀ m∈L,d m≠l:=fun m hm=>ne_of_none (G.inn m hm) h;rcases Zns.mp hm with hm | hm <;> rcases Zns.mp hk with hk | hk
  ·replace e:(if m=n then l else d m)=(if k=n then l else d k):=e
   rw [hd m hm,hd k hk] at e;exact G.dinj m hm k hk e
  ·have ek:k=n:=by simpa using hk
   replace e:(if m=n then l else d m)=(if k=n then l else d k):=e
   rw [hd m hm,if_pos ek] at e;exact absurd e (dn m hm)
  ·have em:m=n:=by simpa using hm
   replace e:(if m=n then l else d m)=(if k=n then l else d k):=e
   rw [hd k hk,if_pos em] at e;exact absurd e.symm (dn k hk)
  ·have em:m=n:=by simpa using hm
   have ek:k=n:=by simpa using hk
   rw [em,ek]
 ·rcases Zns.mp hm with hm | hm
  ·show (if m=n then l else d m)≠g;rw [hd m hm]; exact G.dg m hm
  ·have em:m=n:=by simpa using hm
   show (if m=n then l else d m)≠g;rw [if_pos em]; exact lg
theorem GL.more (G:GL H g ws L d f) (hx:x∈ws):GL (upd H (f x) (.lst (intsV (Yb ws x)++[.int (ws.length:Nat)]))) g (ws++[x]) L d f:=by
 have hl:=G.lst x hx;have all:∀ y,y∈ws++[x]→y∈ws:=fun y hy=>by
  rcases Zns.mp hy with z | z
  ·exact z
  ·rw [Znt.mp z]; exact hx
 refine ⟨upd_k G.gd (Ye G.gd hl (by simp)),fun m hm=>?_,fun y hy=>?_,G.dinj,fun a ha b hb=>G.finj a (all a ha) b (all b hb),G.dg,fun y hy=>G.cov y (all y hy)⟩
 ·have:YK (ws++[x]) m=YK ws m:=by
   rw [JC];split
   ·rename_i e;unfold Y5;rw [if_pos ((mem_wordsOf ws m x).mpr ⟨hx,e⟩)]
   ·rfl
  rw [this];exact upd_k (G.inn m hm) (Ye (G.inn m hm) hl (by simp))
 ·rw [Zbg];by_cases e:x=y
  ·subst e;rw [Za,if_pos rfl];simp [intsV]
  ·rw [if_neg e,ZoG];exact upd_k (G.lst y (all y hy)) fun z=>e (G.finj y (all y hy) x hx z).symm
theorem GL.word (G:GL H g ws L d f) (hx:x ∉ ws) (hn:x.length∈L) (h:H l=none):
  GL (upd (upd (upd H l (.lst [])) (d x.length) (.dK (YF ((YK ws x.length).map fun (x:W)=>((.inr (st x):Key),V.ref (f x))) (.inr (st x)) (.ref l)))) l (.lst ([]++[.int (ws.length:Nat)]))) g (ws++[x]) L d (fun y=>if y=x then l else f y):=by
 have hf:∀ y∈ws,(if y=x then l else f y)=f y:=fun y hy=>if_neg fun (e:y=x)=>hx (e ▸ hy);have fl:∀ y∈ws,f y≠l:=fun y hy=>ne_of_none (G.lst y hy) h;have dl:∀ m∈L,d m≠l:=fun m hm=>ne_of_none (G.inn m hm) h;refine ⟨?_,fun m hm=>?_,fun y hy=>?_,G.dinj,fun a ha b hb e=>?_,G.dg,fun y hy=>?_⟩
 ·exact upd_k (upd_k (Zk G.gd h) (G.dg _ hn).symm) (ne_of_none G.gd h)
 ·rw [Zp (dl m hm),JC];by_cases e:x.length=m
  ·subst e;rw [Za,if_pos rfl];have nx:x ∉ YK ws x.length:=fun z=>hx ((mem_wordsOf ws _ x).mp z).1;unfold Y5;rw [if_neg nx,Zaj _ (JY (κ:=fun x:W=>(.inr (st x):Key)) fun a ha e=>nx (by have z:=ZaV (a:=a) (b:=x) e; rw [z] at ha; exact ha)),Zn2];congr 2;congr 1
   ·apply ZnP;intro y hy;rw [hf y ((mem_wordsOf ws _ y).mp hy).1]
   ·simp
  ·have dne:d m≠d x.length:=fun z=>e (G.dinj _ hm _ hn z).symm;rw [if_neg e,Zp dne,Zp (dl m hm),G.inn m hm];congr 2;apply ZnP;intro y hy;rw [hf y ((mem_wordsOf ws _ y).mp hy).1]
 ·rw [Zbg];rcases Zns.mp hy with hy | hy
  ·have e:¬ x=y:=fun e=>hx (e ▸ hy);rw [if_neg e,ZoG];show upd _ l _ (if y=x then l else f y)=_;rw [hf y hy];exact upd_k (upd_k (Zk (G.lst y hy) h) (Ye (G.lst y hy) (G.inn _ hn) (by simp))) (fl y hy)
  ·have e:y=x:=by simpa using hy
   subst e;show upd _ l _ (if y=y then l else f y)=_;rw [if_pos rfl,if_pos rfl,Za,ZdX hx];simp [intsV]
 ·rcases Zns.mp ha with ha | ha <;> rcases Zns.mp hb with hb | hb
  ·replace e:(if a=x then l else f a)=(if b=x then l else f b):=e
   rw [hf a ha,hf b hb] at e;exact G.finj a ha b hb e
  ·have eb:b=x:=by simpa using hb
   replace e:(if a=x then l else f a)=(if b=x then l else f b):=e
   rw [hf a ha,if_pos eb] at e;exact absurd e (fl a ha)
  ·have ea:a=x:=by simpa using ha
   replace e:(if a=x then l else f a)=(if b=x then l else f b):=e
   rw [hf b hb,if_pos ea] at e;exact absurd e.symm (fl b hb)
  ·have ea:a=x:=by simpa using ha
   have eb:b=x:=by simpa using hb
   rw [ea,eb]
 ·rcases Zns.mp hy with hy | hy
  ·exact G.cov y hy
  ·have e:y=x:=by simpa using hy
   rw [e]; exact hn
end
theorem ZfI {K:Znj}{a:Addr}{xs:List V}{g:TG}{tb:TS}{D:Zab}{σ:St}{H:Hp} (Pv:Nat→St→Hp→Prop) (h0:Pv 0 σ H) (hl:∀ i σ H,i≤xs.length→Pv i σ H→SqL K H a xs)
  (hs:∀ i x t σ H,xs[i]?=some x→Pv i σ H→H t=none→g (.ref t) σ (upd H t (.tup [.int i,x])) fun σ2 H2=>tb { D with nx:=Pv (i+1),ct:=Pv (i+1),bk:=D.nx } σ2 H2) (hd:∀ σ H,Pv xs.length σ H→D.nx σ H):
  ∃ W:Nat→Nat→St→Hp→Prop,(∃ m,W 0 m σ H)∧∀ i m σ H,W i m σ H→
   ((Ite K a).stop i H∧D.nx σ H)∨((Ite K a).go i H∧∃ N:St→Hp→Prop,(∀ σ' H',N σ' H'→∃ m',m' < m∧W (i+1) m' σ' H')∧∀ x H',(Ite K a).yld i H x H'→g x σ H' fun σ2 H2=>tb { D with nx:=N,ct:=N,bk:=D.nx } σ2 H2):=by
 refine ⟨fun i m σ H=>m=xs.length - i∧i≤xs.length∧Pv i σ H,⟨xs.length,by simp,ZnH _,h0⟩,?_⟩;rintro i m σ H ⟨rfl,hi,p⟩;have q:=hl i σ H hi p;by_cases hlt:i < xs.length
 ·refine .inr ⟨⟨xs,xs[i],q,by simp [hlt]⟩,Pv (i+1),fun σ' H' p'=>⟨xs.length - (i+1),by omega,rfl,hlt,p'⟩,fun x H' y=>?_⟩;obtain ⟨t,rfl,ht,y⟩:=y;obtain ⟨x,hx,rfl⟩:=y xs q;exact hs i x t σ H hx p ht
 ·have e:i=xs.length:=by omega
  subst e;exact .inl ⟨⟨xs,q,Znn _⟩,hd σ H p⟩
theorem ZfH {a:Addr}{o:Obj}{kvs:List (Key × V)}{g:TG}{tb:TS}{D:Zab}{σ:St}{H:Hp} (Pv:Nat→St→Hp→Prop) (h0:Pv 0 σ H) (hl:∀ i σ H,i≤kvs.length→Pv i σ H→H a=some (.frz o (.dK kvs)))
  (hs:∀ i p σ H,kvs[i]?=some p→Pv i σ H→g (kV p.1) σ H fun σ2 H2=>tb { D with nx:=Pv (i+1),ct:=Pv (i+1),bk:=D.nx } σ2 H2) (hd:∀ σ H,Pv kvs.length σ H→D.nx σ H):
  ∃ W:Nat→Nat→St→Hp→Prop,(∃ m,W 0 m σ H)∧∀ i m σ H,W i m σ H→
   ((Itd a o kvs).stop i H∧D.nx σ H)∨((Itd a o kvs).go i H∧∃ N:St→Hp→Prop,(∀ σ' H',N σ' H'→∃ m',m' < m∧W (i+1) m' σ' H')∧∀ x H',(Itd a o kvs).yld i H x H'→g x σ H' fun σ2 H2=>tb { D with nx:=N,ct:=N,bk:=D.nx } σ2 H2):=by
 refine ⟨fun i m σ H=>m=kvs.length - i∧i≤kvs.length∧Pv i σ H,⟨kvs.length,by simp,ZnH _,h0⟩,?_⟩;rintro i m σ H ⟨rfl,hi,p⟩;have q:=hl i σ H hi p;by_cases hlt:i < kvs.length
 ·refine .inr ⟨⟨hlt,q⟩,Pv (i+1),fun σ' H' p'=>⟨kvs.length - (i+1),by omega,rfl,hlt,p'⟩,fun x H' y=>?_⟩;obtain ⟨rfl,kv,hkv,rfl⟩:=y;exact hs i kv σ _ hkv p
 ·have e:i=kvs.length:=by omega
  subst e;exact .inl ⟨⟨Znn _,q⟩,hd σ H p⟩
theorem ZjJ {hi:Int}{n:Nat}{g:TG}{tb:TS}{D:Zab}{σ:St}{H:Hp} (Pv:Nat→St→Hp→Prop) (h0:Pv 0 σ H)
  (hs:∀ i σ H,i < n→Pv i σ H→g (.int (hi - i)) σ H fun σ2 H2=>tb { D with nx:=Pv (i+1),ct:=Pv (i+1),bk:=D.nx } σ2 H2) (hd:∀ σ H,Pv n σ H→D.nx σ H):
  ∃ W:Nat→Nat→St→Hp→Prop,(∃ m,W 0 m σ H)∧∀ i m σ H,W i m σ H→
   ((Zjr hi n).stop i H∧D.nx σ H)∨((Zjr hi n).go i H∧∃ N:St→Hp→Prop,(∀ σ' H',N σ' H'→∃ m',m' < m∧W (i+1) m' σ' H')∧∀ x H',(Zjr hi n).yld i H x H'→g x σ H' fun σ2 H2=>tb { D with nx:=N,ct:=N,bk:=D.nx } σ2 H2):=by
 refine ⟨fun i m σ H=>m=n - i∧i≤n∧Pv i σ H,⟨n,by simp,ZnH _,h0⟩,?_⟩;rintro i m σ H ⟨rfl,hi,p⟩;by_cases hlt:i < n
 ·refine .inr ⟨hlt,Pv (i+1),fun σ' H' p'=>⟨n - (i+1),by omega,rfl,hlt,p'⟩,fun x H' y=>?_⟩;obtain ⟨e,y⟩:=y;subst e y;exact hs i σ _ hlt p
 ·have e:i=n:=by omega
  subst e;exact .inl ⟨Znn _,hd σ H p⟩
section
variable {P:Program}{w:World}{K:Znj}{mg:Str→Option Value}{base:Heap}
def Zak (K:Znj):Sp:=fun vs H Q _=>∃ (a:Addr) (ws:List W),vs=[.ref a]∧Zan K H a ws∧∀ g d f H',H g=none→Ext H H'→GL H' g ws (ZP ws) d f→Q (.ref g) H'
theorem Zg3 (D:Def K mg "grouped" "grouped" Pl.s_grouped ["words"]) (B:Yo mg):Cal P w K mg base CX0 1 "grouped" ["words"] (Zak K):=by
 have sc:Zn ["words","groups","place","word"] ["words"] (Zf Pl.s_grouped):=scO;refine D.cal fun f fd F=>F.ok sc (fun vs H Q E h=>?_) (fun cdv A outer s H vs Q E hr h=>?_)
 ·obtain ⟨_,_,rfl,_⟩:=h;rfl
 ·obtain ⟨a,ws,rfl,hc,k⟩:=h;have hu:=Zbf hr;refine ⟨_,Zb (Zl (i:=1) sc.nd rfl (Or.inl rfl) Zdu)
   (Zb (Z9 PassesOwn.never rfl (ZhS (by rfl) B.enumerate (pa_cons (pv 0) pa_nil)) (Zkn rfl (Yu (Zr (i:=2) sc.nd rfl (Or.inl rfl)) (Yu (Zr (i:=3) sc.nd rfl (Or.inl rfl)) Zav)))
    (Zb (ZD (JR (Ji hu (Zg Zs (by rfl) B.len Zno (pa_cons (pv 3) pa_nil)) (pv 1)))
     (pss_one (Zfa hu (pv 1) (Zg Zs (by rfl) B.len Zno (pa_cons (pv 3) pa_nil)) Zdu rfl)) pss_nil)
    (pss_one (Yg (Yx ZnG ZnR ZnS Z7
     (Zmr (Za4 hu (pv 1) (Zg Zs (by rfl) B.len Zno (pa_cons (pv 3) pa_nil)) (fun _ _=>rfl)) (pv 3) (Yd pa_nil) ⟨rfl,rfl,rfl,rfl⟩) (pa_cons (pv 2) pa_nil))))))
   (pss_one (ps_ret (pv 1)))),?_⟩
  try dsimp only [ZH,Cx.nox,Cx.wish]
  intro g hg;refine ⟨_,rfl,a,rfl,⟨_,(Ext.new hg).sqL hc.1⟩,ZfI (K:=K) (a:=a) (xs:=ws.map sv) (fun i σ H2=>∃ (d:Nat→Addr) (f:W→Addr) (p v:Option V),σ=[some (.ref a),some (.ref g),p,v]∧Ext H H2∧(∀ n∈ZP (ws.take i),H (d n)=none)∧
   (∀ x∈ws.take i,H (f x)=none)∧GL H2 g (ws.take i) (ZP (ws.take i)) d f) ?_ ?_ ?_ ?_⟩
  ·refine ⟨fun _=>g,fun _=>g,none,none,rfl,Ext.new hg,fun n hn=>?_,fun x hx=>?_,?_⟩
   ·simp [ZP] at hn
   ·simp at hx
   ·exact ⟨Za,fun n hn=>by simp [ZP] at hn,fun x hx=>by simp at hx,fun n hn=>by simp [ZP] at hn,fun x hx=>by simp at hx,fun n hn=>by simp [ZP] at hn,fun x hx=>by simp at hx⟩
  ·rintro i σ H2 hi ⟨d,f,p,v,rfl,x2,_⟩;exact x2.sqL hc.1
  ·rintro i y t σ H2 hy ⟨d,f,p,v,rfl,x2,hd,hf,G⟩ ht;obtain ⟨x,hx,rfl⟩:∃ x,ws[i]?=some x∧sv x=y:=by
    rw [Znq] at hy;cases q:ws[i]? with
    | none=>rw [q] at hy; cases hy
    | some x=>rw [q] at hy; exact ⟨x,rfl,by simpa using hy⟩
   have hlt:i < ws.length:=(Znw.mp hx).1;have hw:ws.take (i+1)=ws.take i++[x]:=by rw [List.take_succ,hx]; rfl
   have hil:(ws.take i).length=i:=by rw [ZnM]; omega
   have hwl:=hc.2.1;have hxl:x.length≤10000:=hc.2.2 x (ZnD hx);have hsz:(st x).length≤sizeLine:=by rw [st_len]; exact Zd (by omega)
   have ek:V.int ((st x).length:Nat)=kV (.inl (x.length:Int)):=by rw [st_len]; rfl
   have hLl:(ZP (ws.take i)).length≤i:=by have:=Zbo (ws.take i); omega
   refine ⟨t,_,rfl,SqT.of Za,rfl,_,_,rfl,_,_,rfl,rfl,?_⟩;have x3:=x2.newer (o:=.tup [.int i,sv x]) ht;have G3:=G.new (o:=.tup [.int i,sv x]) ht;generalize upd H2 t (.tup [.int i,sv x])=H3 at x3 G3;have second:∀ (H4:Hp) (L:List Nat) (d:Nat→Addr),Ext H H4→(∀ n∈L,H (d n)=none)→GL H4 g (ws.take i) L d f→x.length∈L→L=ZP (ws.take (i+1))→
     ZkL (tBM K "list" Zfc (tDSd (Zl0 (Zbc 1) (tCB (fun xs H Q=>∃ z,xs=[.str z]∧z.length≤sizeLine∧Q (.int z.length) H) (Je (Zbc 3) Zbw))) (Zbc 3) (tLst Zbw)) (Je (Zbc 2) Zbw))
      { nx:=fun σ H2=>∃ (d:Nat→Addr) (f:W→Addr) (p v:Option V),σ=[some (.ref a),some (.ref g),p,v]∧Ext H H2∧(∀ n∈ZP (ws.take (i+1)),H (d n)=none)∧(∀ x∈ws.take (i+1),H (f x)=none)∧GL H2 g (ws.take (i+1)) (ZP (ws.take (i+1))) d f,rt:=Q }
      [some (.ref a),some (.ref g),some (.int i),some (sv x)] H4:=by
    intro H4 L d x4 hd4 G4 hxL eL;subst eL;have hnd:=ZiR (ws.take (i+1));refine ⟨_,rfl,_,rfl,st x,rfl,hsz,g,.ref (d x.length),rfl,?_,d x.length,rfl,.inl ⟨_,.inl (G4.inn _ hxL)⟩,_,rfl,by show 0≤sizeLine; exact ZnH _,fun l hl=>?_⟩
    ·rw [ek];exact .inl ⟨_,_,.inl G4.gd,rfl,(JZ (κ:=fun n:Nat=>(.inl (n:Int):Key)) (v:=fun n=>V.ref (d n)) (fun a _ b _ e=>YU e) hxL).symm⟩
    ·have G5:=G4.new (o:=.lst []) hl;have x5:=x4.newer (o:=.lst []) hl;refine ⟨_,.inr (st x),G5.inn _ hxL,rfl,fun v hv=>?_,fun hv=>?_⟩
     ·have hxw:x∈ws.take i:=by
       by_cases h:x∈ws.take i
       ·exact h
       ·rw [JY (κ:=fun x:W=>(.inr (st x):Key)) (fun a ha e=>h (ZaV (b:=x) e ▸ ((mem_wordsOf _ _ a).mp ha).1))] at hv;cases hv
      rw [JZ (κ:=fun x:W=>(.inr (st x):Key)) (fun a _ b _ e=>ZaV e) ((mem_wordsOf _ _ x).mpr ⟨hxw,rfl⟩)] at hv;cases hv;refine ⟨.inl ⟨rfl,_,SqL.of (G5.lst x hxw)⟩,_,rfl,f x,_,_,rfl,rfl,G5.lst x hxw,?_,?_⟩
      ·rw [Zni];have:=Ze9 (ws.take i) x;exact ZC (by omega)
      ·refine ⟨d,f,_,_,rfl,x5.over (hf x hxw),hd4,fun y hy=>?_,?_⟩
       ·rw [hw] at hy;rcases Zns.mp hy with hy | hy
        ·exact hf y hy
        ·rw [Znt.mp hy]; exact hf x hxw
       ·have G6:=G5.more hxw;rw [hil] at G6;rw [←hw] at G6;exact G6
     ·have hxw:x ∉ ws.take i:=fun h=>by
       rw [JZ (κ:=fun x:W=>(.inr (st x):Key)) (fun a _ b _ e=>ZaV e) ((mem_wordsOf _ _ x).mpr ⟨h,rfl⟩)] at hv;cases hv
      have dl:l≠d x.length:=(ne_of_none (G4.inn _ hxL) hl).symm;refine ⟨?_,.inl ⟨rfl,_,SqL.of (upd_k Za dl)⟩,_,rfl,l,[],_,rfl,rfl,upd_k Za dl,by decide,?_⟩
      ·rw [Zni];have:=Zgw (ws.take i) x.length;exact ZC (by omega)
      ·refine ⟨d,fun y=>if y=x then l else f y,_,_,rfl,(x5.over (hd4 _ hxL)).over (x4.free hl),hd4,fun y hy=>?_,?_⟩
       ·rw [hw] at hy;show H (if y=x then l else f y)=none;split
        ·exact x4.free hl
        ·rename_i hne;rcases Zns.mp hy with hy | hy
         ·exact hf y hy
         ·exact absurd (Znt.mp hy) hne
       ·have G6:=G4.word hxw hxL hl;rw [hil] at G6;rw [←hw] at G6;exact G6
   refine ⟨_,rfl,st x,rfl,hsz,_,rfl,g,_,rfl,.inl ⟨_,(.inl (x.length:Int):Key),.inl G3.gd,ek,rfl⟩,_,rfl,?_⟩;by_cases hk:x.length∈ZP (ws.take i)
   ·rw [JZ (κ:=fun n:Nat=>(.inl (n:Int):Key)) (fun a _ b _ e=>YU e) hk];refine Zx (by simp) ?_;refine second H3 _ d x3 hd G3 hk ?_;rw [hw,Js];unfold Y5;rw [if_pos hk]
   ·rw [JY (κ:=fun n:Nat=>(.inl (n:Int):Key)) (fun a ha e=>hk (YU (b:=x.length) e ▸ ha))];refine ZI (by decide) ?_;intro dd hdd;have hg3:=Zk (u:=.dK []) G3.gd hdd;refine ⟨_,rfl,_,rfl,st x,rfl,hsz,g,_,rfl,.inl ⟨_,(.inl (x.length:Int):Key),hg3,ek,by rw [Zni]; exact ZC (by omega),rfl⟩,?_⟩;refine second _ (ZP (ws.take i)++[x.length]) (fun k=>if k=x.length then dd else d k) ((x3.newer hdd).over hg) (fun n hn=>?_) (G3.len hk hdd) (by simp) ?_
    ·show H (if n=x.length then dd else d n)=none;split
     ·exact x3.free hdd
     ·rename_i hne;rcases Zns.mp hn with hn | hn
      ·exact hd n hn
      ·exact absurd (Znt.mp hn) hne
    ·rw [hw,Js];unfold Y5;rw [if_neg hk]
  ·rintro σ H2 ⟨d,f,p,v,rfl,x2,_,_,G⟩;rw [Zni,Zor] at G;exact ⟨_,rfl,k g d f H2 hg x2 G⟩
end
structure GR (H:Hp) (g:Addr) (ws:List W) (d:Nat→Addr) (f:W→Addr):Prop where
 gd:Rd H g (.dK ((ZP ws).map fun (n:Nat)=>((.inl (n:Int):Key),V.ref (d n))))
 inn:∀ n∈ZP ws,Rd H (d n) (.dK ((YK ws n).map fun (x:W)=>((.inr (st x):Key),V.ref (f x))))
 lst:∀ x∈ws,H (f x)=some (.lst (intsV (Yb ws x)))
section
variable {H H':Hp}{g:Addr}{ws:List W}{d:Nat→Addr}{f:W→Addr}{L:List Nat}
theorem GL.rd (G:GL H g ws (ZP ws) d f):GR H g ws d f:=⟨.inl G.gd,fun n hn=>.inl (G.inn n hn),G.lst⟩
theorem Ext.gr (x:Ext H H') (G:GR H g ws d f):GR H' g ws d f:=⟨x.rdK G.gd,fun n hn=>x.rdK (G.inn n hn),fun y hy=>x.lst (G.lst y hy)⟩
end
def Zd2 (f:W→Addr) (t:W) (m n:Nat) (v:V) (H:Hp):Prop:=∃ a,v=.ref a∧H a=some (.tup [.int ((m:Int)+(n:Int)),.ref (f (cut t m n))])
theorem Zd2.keep {f:W→Addr}{t:W}{m n:Nat}{v:V}{H H':Hp} (h:Zd2 f t m n v H) (k:ZbT H H'):Zd2 f t m n v H':=by
 obtain ⟨a,e,z⟩:=h;exact ⟨a,e,k a _ z (fun _=>by simp) fun _=>by simp⟩
theorem ZbT.trans' {H H1 H2:Hp} (a:ZbT H H1) (b:ZbT H1 H2):ZbT H H2:=fun c o e h1 h2=>b c o (a c o e h1 h2) h1 h2
theorem ZjR {H:Hp}{l:Addr}{o:HO} (h:H l=none):ZbT H (upd H l o):=(Ext.new h).kp
theorem ZfB (t:W) (m n:Nat) (h:m≤t.length):JU t (some (m:Int)) (some ((m:Int)+(n:Int)))=cut t m n:=by
 unfold JU cut;rw [HT.sIx_nat,show ((m:Int)+(n:Int))=((m+n:Nat):Int) by omega,HT.sIx_nat,ZoH h];by_cases h2:m+n≤t.length
 ·rw [ZoH h2,ZqD]
 ·rw [ZqQ (by omega),Zok (by simp),Zok (by simp; omega)]
theorem kget {α:Type}{l:List α}{κ:α→Key}{v:α→V}{i:Nat}{p:Key × V} (h:(l.map fun a=>(κ a,v a))[i]?=some p):∃ a,l[i]?=some a∧p=(κ a,v a):=by
 rw [Znq] at h;cases q:l[i]? with
 | none=>rw [q] at h; cases h
 | some a=>rw [q] at h; exact ⟨a,rfl,by simpa using h.symm⟩
theorem YQ {α:Type}{l:List α}{i:Nat}{a:α} (h:l[i]?=some a):l.take (i+1)=l.take i++[a]:=by rw [List.take_succ,h]; rfl
section
variable {P:Program}{w:World}{K:Znj}{mg:Str→Option Value}{base:Heap}
def JS (K:Znj):Sp:=fun vs H Q _=>∃ (g:Addr) (ws:List W) (d:Nat→Addr) (f:W→Addr) (t:W) (m:Nat),vs=[.ref g,sv t,.int (m:Int)]∧GR H g ws d f∧ws.length≤10000∧t.length≤1000000∧m≤t.length∧
 ∀ D H' ys,H D=none→Ext H H'→(∀ b o,b≠g→H b=some o→H' b=some o)→H' D=some (.lst ys)→Paired (fun n v=>Zd2 f t m n v H') (Yk ws t m) ys→Q (.ref D) H'
theorem Zga (D:Def K mg "standing" "standing" Pl.s_standing ["groups","text","mark"]) (B:Yo mg):Cal P w K mg base CX0 1 "standing" ["groups","text","mark"] (JS K):=by
 have sc:Zn ["groups","text","mark","left","found","length","places"] ["groups","text","mark"] (Zf Pl.s_standing):=scO;refine D.cal fun f fd F=>F.ok sc (fun vs H Q E h=>?_) (fun cdv A outer s H vs Q E hr h=>?_)
 ·obtain ⟨_,_,_,_,_,_,rfl,_⟩:=h;rfl
 ·obtain ⟨g,ws,d,f,t,m,rfl,G,hwl,htl,hmt,k⟩:=h;have hu:=Zbf hr;refine ⟨_,Zb (Zl (i:=3) sc.nd rfl (Or.inl rfl) (Zo Jh (Zg Zs (by rfl) B.len Zno (pa_cons (pv 1) pa_nil)) (pv 2)))
   (Zb (Zl (i:=4) sc.nd rfl (Or.inl rfl) (Yd pa_nil))
   (Zb (Z9 PassesOwn.never rfl (ZhR (pv 0)) (Zr (i:=5) sc.nd rfl (Or.inl rfl))
    (pss_one (ZD (Zz Zdt (pv 5) (pv 3) (Zu _))
     (Zb (Zl (i:=6) sc.nd rfl (Or.inl rfl) (Zki hu (Za4 hu (pv 0) (pv 5) (fun _ _=>rfl)) (ZM (r:=Zdx) Jy (pv 1) (ZN (pv 2)) (ZN (Zo Z2 (pv 2) (pv 5)))) ⟨rfl,rfl,rfl,rfl⟩))
     (pss_one (ZD (JR (ZhP (pv 6)))
      (pss_one (Yg (Yx ZnG ZnR ZnS Z7 (pv 4) (pa_cons (Jj (pa_cons (Zo Z2 (pv 2) (pv 5)) (pa_cons (pv 6) pa_nil))) pa_nil)))) pss_nil)))
     pss_nil)))
   (pss_one (ps_ret (pv 4))))),?_⟩
  try dsimp only [ZH,Cx.nox,Cx.wish]
  have hsz:(st t).length≤sizeLine:=by rw [st_len]; exact Zd htl
  refine ⟨_,rfl,st t,rfl,hsz,_,rfl,_,_,rfl,rfl,by show 0≤sizeLine; exact ZnH _,fun D hD=>?_⟩;have x1:Ext H (upd H D (.lst [])):=Ext.new hD;refine ⟨_,rfl,g,_,rfl,(x1.gr G).gd,fun o H2 x2 hH2 ne2=>?_⟩;have hDg:D≠g:=by
   rintro rfl;rcases G.gd with z | ⟨_,z⟩ <;> rw [hD] at z <;> cases z
  let p:Nat→Bool:=fun n=>decide (n≤t.length - m) && decide (cut t m n∈ws);refine ZfH (a:=g) (o:=o) (fun i σ H3=>∃ (ln pl:Option V) (ys:List V),σ=[some (.ref g),some (sv t),some (.int (m:Int)),some (.int (((st t).length:Int) - (m:Int))),some (.ref D),ln,pl]∧H3 g=some (.frz o (.dK ((ZP ws).map fun (n:Nat)=>((.inl (n:Int):Key),V.ref (d n)))))∧(∀ b o,b≠g→H b=some o→H3 b=some o)∧Ext H H3∧H3 D=some (.lst ys)∧
   Paired (fun n v=>Zd2 f t m n v H3) (((ZP ws).take i).filter p) ys) ?_ ?_ ?_ ?_
  ·exact ⟨none,none,[],rfl,hH2,fun b o hb e=>by rw [ne2 b hb]; exact Zk e hD,x1.trans x2,by rw [ne2 D hDg]; exact Za,.nil⟩
  ·rintro i σ H3 _ ⟨ln,pl,ys,rfl,x3,_⟩;exact x3
  ·rintro i q σ H3 hq ⟨ln,pl,ys,rfl,x3,kb,x4,hys,hp⟩;obtain ⟨n,hn,rfl⟩:=kget hq;have hnm:n∈ZP ws:=ZnD hn;have G4:=x4.gr G;have et:(ZP ws).take (i+1)=(ZP ws).take i++[n]:=YQ hn;have ys_len:ys.length≤10000:=by
    rw [←hp.length];have h1:=Zo9 p ((ZP ws).take i);have h2:=List.length_take_le i (ZP ws);have h3:=Zbo ws;have h4:((ZP ws).take i).length≤(ZP ws).length:=by rw [ZnM]; omega
    omega
   have skip:p n=false→∀ l0 p0:Option V,∃ (ln pl:Option V) (ys:List V),[some (.ref g),some (sv t),some (.int (m:Int)),some (.int (((st t).length:Int) - (m:Int))),some (.ref D),l0,p0]=[some (.ref g),some (sv t),some (.int (m:Int)),some (.int (((st t).length:Int) - (m:Int))),some (.ref D),ln,pl]∧H3 g=some (.frz o (.dK ((ZP ws).map fun (n:Nat)=>((.inl (n:Int):Key),V.ref (d n)))))∧(∀ b o,b≠g→H b=some o→H3 b=some o)∧Ext H H3∧H3 D=some (.lst ys)∧
     Paired (fun n v=>Zd2 f t m n v H3) (((ZP ws).take (i+1)).filter p) ys:=fun hpn l0 p0=>by
    refine ⟨l0,p0,ys,rfl,x3,kb,x4,hys,?_⟩;rw [et,ZpC];simp [hpn];exact hp
   refine ⟨_,rfl,_,rfl,_,_,rfl,rfl,_,rfl,?_⟩;by_cases hle:n≤t.length - m
   ·refine ZI (by rw [decide_eq_true_iff,st_len]; omega) ?_;have ec:=ZfB t m n hmt;have hcl:(cut t m n).length=n:=by unfold cut; simp; omega
    refine ⟨_,rfl,_,rfl,g,.ref (d n),rfl,.inl ⟨_,(.inl (n:Int):Key),G4.gd,rfl,(JZ (κ:=fun n:Nat=>(.inl (n:Int):Key)) (v:=fun n=>V.ref (d n)) (fun a _ b _ e=>YU e) hnm).symm⟩,d n,rfl,.inl ⟨_,G4.inn n hnm⟩,_,rfl,_,rfl,_,rfl,_,rfl,_,rfl,_,_,rfl,rfl,_,rfl,t,rfl,Zd htl,?_⟩;rw [ec];refine ⟨_,.inl ⟨_,(.inr (st (cut t m n)):Key),G4.inn n hnm,rfl,rfl⟩,?_⟩;by_cases hc:cut t m n∈ws
    ·rw [JZ (κ:=fun x:W=>(.inr (st x):Key)) (fun a _ b _ e=>ZaV e) ((mem_wordsOf ws n _).mpr ⟨hc,hcl⟩)];refine ⟨_,rfl,_,rfl,ZI (by simp) ?_⟩;refine ⟨_,rfl,.inl ⟨rfl,_,SqL.of hys⟩,_,rfl,_,rfl,_,_,rfl,rfl,_,rfl,by show 2≤sizeLine; decide,fun tp htp=>?_⟩;have hys':=Zk (u:=.tup [.int ((m:Int)+(n:Int)),.ref (f (cut t m n))]) hys htp;refine ⟨D,ys,_,rfl,rfl,hys',ZC (by omega),?_⟩;have k2:=(ZjR htp).trans' (ZbT.over (zs:=ys++[.ref tp]) hys');refine ⟨_,_,ys++[.ref tp],rfl,?_,fun b o hb e=>upd_k (Zk (kb b o hb e) htp) (ne_of_none e hD),(x4.newer htp).over hD,Za,?_⟩
     ·exact upd_k (Zk x3 htp) hDg.symm
     ·rw [et,ZpC];have hpn:p n=true:=by simp [p,hle,hc]
      simp only [List.filter_cons,hpn,if_true,List.filter_nil];exact Paired.snoc (Paired.imp2 (fun n v h=>h.keep k2) hp) ⟨tp,rfl,by rw [Zp (ne_of_none hys htp).symm,Za]; rfl⟩
    ·rw [JY (κ:=fun x:W=>(.inr (st x):Key)) (fun a ha e=>hc (ZaV (b:=cut t m n) e ▸ ((mem_wordsOf ws n a).mp ha).1))];refine ⟨_,rfl,_,rfl,Zx (by simp) ?_⟩;exact skip (by simp [p,hc]) _ _
   ·refine Zx (by rw [decide_eq_true_iff,st_len]; omega) ?_;exact skip (by simp [p]; intro z; exact absurd z hle) _ _
  ·rintro σ H3 ⟨ln,pl,ys,rfl,x3,kb,x4,hys,hp⟩;rw [Zni,Zor] at hp;exact ⟨_,rfl,k D H3 ys hD x4 kb hys hp⟩
end
def Zkr (K:Znj):List V→Hp→VK→Prop:=fun xs H Q=>∃ p ys,xs=[.ref p]∧(SqL K H p ys∨SqT K H p ys)∧Q (.int ys.length) H
theorem ZcR {X:Cx}{K:Znj} (h:X.K=K):YR X (.builtin "len") (Zkr K):=by subst h; exact Zq
theorem Za5 {X:Cx}{K:Znj}{es:List Expr}{k:Nat}{t:TGs}{n:Nat}{pos:Pos} (h:X.K=K) (hc:X.calm=true) (hp:PGs X es t) (hn:(assignEach es X.env).length=n:=by rfl)
  (hst:(assignEach es X.env).findIdx? (·.1)=none:=by rfl):PG X (.Tuple es k pos) (Zmf K n t):=by subst h; exact Zkn hc hp hn hst
theorem Zfu {K:Znj}{D:Addr}{ys:List V}{te:TE}{σ:St}{H1:Hp}{Q:VK}{j0 j1:Option Nat}{jr:List (Option Nat)} (hS:SqL K H1 D ys) (hn:ys.length≤sizeLine) (A B f:Nat→V)
  (hT:∀ i v,ys[i]?=some v→∃ t,v=.ref t∧H1 t=some (.tup [A i,B i])) (hte:∀ i H' (R:VK),i < ys.length→(∀ b o,H1 b=some o→H' b=some o)→R (f i) H'→te (some (A i) :: some (B i) :: Y4 jr σ) H' R)
  (hQ:∀ E,H1 E=none→Q (.ref E) (upd H1 E (.lst ((ZnB ys.length).map f)))):J9 (Itl K D) (j0 :: j1 :: jr) (Zmf K 2 (ZjM (JK 0) (ZjM (JK 1) gNil))) Zjk te σ H1 Q:=by
 intro E hE;have SQ:∀ zs,SqL K (upd H1 E (.lst zs)) D ys:=fun zs=>(Ext.new hE).sqL hS;refine ⟨fun i m σ' H'=>m=ys.length - i∧i≤ys.length∧(∃ y z,σ'=y :: z :: Y4 jr σ)∧H'=upd H1 E (.lst ((ZnB i).map f)),⟨ys.length,by simp,ZnH _,⟨_,_,rfl⟩,rfl⟩,?_⟩;rintro i m σ' H' ⟨rfl,hi,⟨y,z,rfl⟩,rfl⟩;by_cases hlt:i < ys.length
 ·refine .inr ⟨⟨ys,ys[i],SQ _,by simp [hlt]⟩,fun σ2 H2=>(∃ y z,σ2=y :: z :: Y4 jr σ)∧H2=upd H1 E (.lst ((ZnB (i+1)).map f)),fun σ2 H2 h=>⟨ys.length - (i+1),by omega,rfl,hlt,h⟩,?_⟩;rintro v H2 ⟨rfl,hv⟩;obtain ⟨t,rfl,ht⟩:=hT i v (hv ys (SQ _));refine ⟨t,_,rfl,SqT.of (Zk ht hE),rfl,_,_,rfl,_,_,rfl,rfl,?_⟩;dsimp only [Zjk];rw [if_pos rfl];refine hte i _ _ hlt (fun b o e=>Zk e hE) ?_;refine ⟨_,Za,?_,⟨_,_,rfl⟩,?_⟩
  ·rw [Zni,Zod]; omega
  ·rw [Jp,Zq2,Zn2]; rfl
 ·have e:i=ys.length:=by omega
  subst e;exact .inl ⟨⟨ys,SQ _,Znn _⟩,hQ E hE⟩
theorem JO {α β:Type}{R:α→β→Prop}:∀ {l:List α}{r:List β},Paired R l r→∀ {i:Nat}{y:β},r[i]?=some y→∃ x,l[i]?=some x∧R x y
 | _,_,.nil,_,_,e=>by simp at e
 | _,_,.cons h t,0,_,e=>by simp at e; subst e; exact ⟨_,rfl,h⟩
 | _,_,.cons h t,i+1,y,e=>by
  obtain ⟨x,e1,e2⟩:=JO t (i:=i) (y:=y) (by simpa using e);exact ⟨x,by simpa using e1,e2⟩
def Sz (H:Hp) (v:V):Prop:=∀ a xs,v=.ref a→Rd H a (.lst xs)→∀ x,V.str x∈xs→x.length≤sizeLine
section
variable {P:Program}{w:World}{K:Znj}{mg:Str→Option Value}{base:Heap}{cCode cText cRead cNumber cPlaces cLengths:Addr}
def ZaR (K:Znj) (c:Addr):Sp:=fun vs H Q E=>∃ v,vs=[v]∧JG K H v∧Sz H v∧∀ b H',Ext H H'→Y0 H v (YN az) b→(b=true→Q .non H')∧(b=false→E (.ref c) none H')
theorem ZdW (D:Def K mg "check_code" "check_code" Pl.s_check_code ["value"]) (Z:Exc K mg "BadCode" cCode) (C1:Cal P w K mg base CX0 3 "is_code" ["value"] (Jv K)):
  Cal P w K mg base (CX1 P w) 4 "check_code" ["value"] (ZaR K cCode):=by
 have sc:Zn ["value"] ["value"] (Zf Pl.s_check_code):=scO;refine D.cal fun f fd F=>F.okX sc (fun vs H Q E h=>?_) (fun cdv A outer s H vs Q E hr h=>?_)
 ·obtain ⟨_,rfl,_⟩:=h;rfl
 ·obtain ⟨v,rfl,hl,hz,k⟩:=h;refine ⟨_,pss_one (ZD (Z6 (ZK (Zc C1 hr (pa_cons (pv 0) pa_nil) Zm))) (pss_one (Zgf ZhT rfl Z ZQ)) pss_nil),?_⟩;try dsimp only [ZH,Cx.nox,Cx.wish]
  refine ⟨_,rfl,v,rfl,hl,hz,fun b H' x1 hA=>⟨_,rfl,?_⟩⟩;cases b with
  | true=>exact Z8 ((k true H' x1 hA).1 rfl)
  | false=>exact Yi ⟨by decide,(k false H' x1 hA).2 rfl⟩
def Za0:V→Bool
 | .str x=>x.cps.toList.all fun c=>az.contains c
 | _=>false
def ZbR (K:Znj) (c1 c2:Addr):Sp:=fun vs H Q E=>∃ v y,vs=[v,y]∧JG K H v∧Sz H v∧(∀ H',Ext H H'→ZcM K H' y)∧(∀ x,y=.str x→x.length≤sizeLine)∧
 ∀ b H',Ext H H'→Y0 H v (YN az) b→(b=false→E (.ref c1) none H')∧(b=true→(Za0 y=true→Q .non H')∧(Za0 y=false→E (.ref c2) none H'))
theorem Zdn (D:Def K mg "check_asked" "check_asked" Pl.s_check_asked ["code","text"]) (B:Yo mg) (L:∃ t,mg "LETTERS"=some (.str "abcdefghijklmnopqrstuvwxyz" t)) (Z:Exc K mg "BadText" cText)
  (C1:Cal P w K mg base (CX1 P w) 4 "check_code" ["value"] (ZaR K cCode)):Cal P w K mg base (CX1 P w) 5 "check_asked" ["code","text"] (ZbR K cCode cText):=by
 have sc:Zn ["code","text"] ["code","text"] (Zf Pl.s_check_asked):=scO;obtain ⟨tk,hL⟩:=L;refine D.cal fun f fd F=>F.okX sc (fun vs H Q E h=>?_) (fun cdv A outer s H vs Q E hr h=>?_)
 ·obtain ⟨_,_,rfl,_⟩:=h;rfl
 ·obtain ⟨v,y,rfl,hl,hz,hd,hy,k⟩:=h;refine ⟨_,Zb (Yg (Zc C1 hr (pa_cons (pv 0) pa_nil) ZlV))
   (pss_one (ZD (Jz (Z6 (ZK (Zbr B (pv 1)))) (Y9 (Zz Zcl (Yx Zol ZqG ZqH Zei (pv 1) (pa_cons (Y8 (v:=sv az) (by rfl) hL ⟨tk,by rw [Zhx]⟩) pa_nil)) ZQ (Zu _)))).pt
    (pss_one (Zgf ZhT rfl Z ZQ)) pss_nil)),?_⟩
  try dsimp only [ZH,Cx.nox,Cx.wish]
  refine ⟨_,rfl,v,rfl,hl,hz,fun b H' x1 hA=>⟨fun hb=>?_,fun hb=>(k b H' x1 hA).1 hb⟩⟩;obtain ⟨k1,k2⟩:=(k b H' x1 hA).2 hb;obtain ⟨t,ty,e⟩:=ZcD (hd H' x1);refine ⟨_,rfl,_,_,t,_,rfl,trivial,ty,e,_,rfl,?_⟩;cases y with
  | str x=>
   refine Z8 ?_;obtain ⟨a,rfl⟩:∃ a,x=st a:=⟨x.cps.toList,(ZdI x).symm⟩;refine ⟨_,rfl,rfl,a,az,rfl,rfl,by have:=hy _ rfl; rw [st_len] at this; exact this,fun c hc=>⟨rfl,_,rfl,?_⟩⟩;have e2:Za0 (.str (st a))=decide (c=[]):=by
    show (a.all fun c=>az.contains c)=_;rw [ZnW,Zn1,decide_eq_true_iff,hc];constructor
    ·intro h z hz; simpa using h z hz
    ·intro h z hz; simpa using h z hz
   by_cases hcn:c=[]
   ·subst hcn;refine Zx (by decide +kernel) ?_;exact k1 (by rw [e2]; rfl)
   ·refine ZI (by
     rw [Zn3,decide_eq_false_iff_not];intro z;exact hcn (st_inj (V.str.inj z))) ?_
    exact ⟨by decide,k2 (by rw [e2,decide_eq_false hcn])⟩
  | _=>exact Yi ⟨by decide,k2 rfl⟩
end
structure Drw (X:Cx) (pins:List (Addr × Obj)) (σ:St) (H:Hp) (it:Addr) (fp:List Addr) (tn:Nat→Heap→Prop) (ns:List Int):Prop where
 item:∀ (i:Nat) (n:Int) (s:Shared) (Q:Option Value→Shared→Prop) (E:Value→Shared→Prop),ns[i]?=some n→Inv X pins σ H s→tn i s.heap→
  (∀ t s',Inv X pins σ H s'→tn (i+1) s'.heap→(∀ b o,b ∉ fp→s.heap.get? b=some o→s'.heap.get? b=some o)→Q (some (.int n t)) s')→wpAny (model X.prog X.w) X.A (pyNext (.ref it)) Q E s
 done:∀ (s:Shared) (Q:Option Value→Shared→Prop) (E:Value→Shared→Prop),Inv X pins σ H s→tn ns.length s.heap→
  (∀ s',Inv X pins σ H s'→(∀ b o,b ∉ fp→s.heap.get? b=some o→s'.heap.get? b=some o)→Q none s')→wpAny (model X.prog X.w) X.A (pyNext (.ref it)) Q E s
 keep:∀ i h h',tn i h→(∀ b∈fp,∀ o,h.get? b=some o→h'.get? b=some o)→tn i h'
def J8 (b:Option Int) (n:Int):Option Int:=match b with | none=>some n | some m=>some (if m < n then n else m)
def ZdT (ns:List Int):Option Int:=ns.foldl J8 none
def Zl7:Option Int→List Value→Prop
 | none,vb=>vb=[]
 | some m,vb=>∃ t,vb=[.int m t,.int m t]
theorem ZjX {X:Cx}{pins:List (Addr × Obj)}{σ:St}{H:Hp}{it S:Addr}{fp:List Addr}{tn:Nat→Heap→Prop}{ns:List Int}{A:Around}{R:Result→Shared→Prop} (hA:A.in1=X.A) (W:Drw X pins σ H it fp tn ns) (hSf:S ∉ fp) (hS:ZaG X pins H S) (dv:Value)
  (fin:∀ s' u,Inv X pins σ H s'→(match ZdT ns with | none=>u=dv | some m=>∃ t,u=.int m t)→R (.ok (.ret u)) s'):
  ∀ (k i:Nat) (s:Shared) (b:Option Int) (vb:List Value) (c:Nat),ns.length - i=k→i≤ns.length→Inv X pins σ H s→tn i s.heap→s.heap.get? S=some { cls:=.type "list",data:=.seq vb.toArray c }→b=(ns.take i).foldl J8 none→Zl7 b vb→
   codeAny (model X.prog X.w) A (.builtin "max.loop" ⟨[.ref it,.none,.ref S],[("default",dv)]⟩) R s:=by
 have nm:(toString "max"++toString ".loop":String)="max.loop":=by decide
 intro k;induction k with
 | zero=>
  intro i s b vb c hk hi I st hSo hb hv;have ei:i=ns.length:=by omega
  subst ei;rw [Zor] at hb;refine codeAny_builtin ZqV ?_;rw [Around.under_plainId ZoE _,hA];show wpAny _ X.A (seqItems? (.ref S) >>= _) _ _ s;refine wpAny_bind (wpAny_seqItems hSo rfl ?_);show wpAny _ X.A (tryCatch (pyNext (.ref it)) _ >>= _) _ _ s;refine wpAny_bind (wpAny_tryCatch (W.done s _ _ I st fun s1 I1 kp=>?_));have hS1:=kp S _ hSf hSo;cases b with
  | none=>
   subst hv;show wpAny _ X.A (rule _ >>= _) _ _ _;refine wpAny_bind (wpAny_rule (wpAny_pure ?_));exact fin s1 dv I1 (by unfold ZdT; rw [←hb])
  | some m=>
   obtain ⟨t,rfl⟩:=hv;show wpAny _ X.A (updateSeq S (fun _=>#[]) >>= _) _ _ _;refine wpAny_bind (wpAny_updateSeq hS1 rfl (wpAny_bind (wpAny_letGo (wpAny_pure ?_))));refine fin _ _ (I1.turned (t':=s1.toks) (it:=S) (fun b o hb e=>(Zn7 _ _ (Ne.symm hb)).trans e) hS.1 hS.2.1 hS.2.2.2.1 hS.2.2.2.2.1 hS.2.2.2.2.2) ?_;unfold ZdT;rw [←hb];exact ⟨t,rfl⟩
 | succ k ih=>
  intro i s b vb c hk hi I st hSo hb hv;have hlt:i < ns.length:=by omega
  have hn:ns[i]?=some ns[i]:=Znp hlt;have hb':∀ n,ns[i]?=some n→(ns.take (i+1)).foldl J8 none=J8 b n:=fun n hn=>by rw [YQ hn,Zqp,←hb]; rfl
  refine codeAny_builtin ZqV ?_;rw [Around.under_plainId ZoE _,hA];show wpAny _ X.A (seqItems? (.ref S) >>= _) _ _ s;refine wpAny_bind (wpAny_seqItems hSo rfl ?_);show wpAny _ X.A (tryCatch (pyNext (.ref it)) _ >>= _) _ _ s;refine wpAny_bind (wpAny_tryCatch (W.item i _ s _ _ hn I st fun t s1 I1 st1 kp=>?_));have hS1:=kp S _ hSf hSo;generalize hnn:ns[i]=n at hn;have turnS:∀ f,Inv X pins σ H { s1 with heap:=s1.heap.update S (Obj.mapSeq f) }:=fun f=>I1.turned (t':=s1.toks) (it:=S) (fun b o hb e=>(Zn7 _ _ (Ne.symm hb)).trans e) hS.1 hS.2.1 hS.2.2.2.1 hS.2.2.2.2.1 hS.2.2.2.2.2;have tnS:∀ f,tn (i+1) (s1.heap.update S (Obj.mapSeq f)):=fun f=>W.keep _ _ _ st1 fun b hbf o e=>(Zn7 _ _ (fun z:S=b=>hSf (z ▸ hbf))).trans e;cases b with
  | none=>
   subst hv;show wpAny _ X.A (updateSeq S (fun _=>#[.int n t,.int n t]) >>= _) _ _ _;refine wpAny_bind (wpAny_updateSeq hS1 rfl ?_);rw [nm];refine wpAny_pure ⟨plainId_quiet ZoE _,?_⟩;exact ih (i+1) _ (some n) [.int n t,.int n t] _ (by omega) hlt (turnS _) (tnS _) (Zoz _ hS1 rfl) (hb' n hn).symm ⟨t,rfl⟩
  | some m=>
   obtain ⟨u,rfl⟩:=hv;show wpAny _ X.A (tryCatch (holding [.int n t,.int n t] (richCompare .Gt (.int n t) (.int m u) >>= _)) _ >>= _) _ _ _;refine wpAny_bind (wpAny_tryCatch (wpAny_holding (wpAny_bind (richCompare_gives (op:=.Gt) (typeIs_int s1 _ t) (typeIs_int s1 _ u) PySem.F.slot_int_gt PySem.F.entry_int_gt (PySem.F.args_int_gt_2 _ _) (gives_int_gt _ _ t u) (fun x=>nomatch x) ?_))));refine wpAny_bind (wpAny_holding (wpAny_truthy_bool ?_));refine wpAny_bind (wpAny_letGo (wpAny_pure ?_));by_cases hgt:n > m
   ·rw [decide_eq_true hgt];simp only [if_true];refine wpAny_bind (wpAny_updateSeq hS1 rfl (wpAny_bind (wpAny_letGo ?_)));rw [nm];refine wpAny_pure ⟨plainId_quiet ZoE _,?_⟩;refine ih (i+1) _ (some n) [.int n t,.int n t] _ (by omega) hlt (turnS _) (tnS _) (Zoz _ hS1 rfl) ?_ ⟨t,rfl⟩;rw [hb' n hn];show _=some (if m < n then n else m);rw [if_pos hgt]
   ·rw [decide_eq_false hgt];simp only [ZoI,if_false];refine wpAny_bind (wpAny_letGo ?_);rw [nm];refine wpAny_pure ⟨plainId_quiet ZoE _,?_⟩;refine ih (i+1) _ (some m) [.int m u,.int m u] _ (by omega) hlt I1 st1 hS1 ?_ ⟨u,rfl⟩;rw [hb' n hn];show _=some (if m < n then n else m);rw [if_neg hgt]
def Cx.in1 (X:Cx):Cx:={ X with A:=X.A.in1 }
section
variable {X:Cx}{pins:List (Addr × Obj)}{σ:St}{H:Hp}{s:Shared}
theorem Inv.in1 (I:Inv X pins σ H s):Inv X.in1 pins σ H s:=
 ⟨⟨I.ok.mod,I.ok.kind,I.ok.glob,I.ok.blt,I.ok.above,I.ok.inj,I.ok.has,I.ok.cab,I.ok.hd,I.ok.frames,I.ok.stk,I.ok.exf,I.ok.bs,I.ok.bsz,I.ok.noex,I.ok.exfs,I.ok.funs,I.ok.frf⟩,I.os,I.bare,I.base,I.loc,I.cell,I.free,I.freeC,I.pin,I.hok,I.len⟩
theorem Inv.ofIn1 (I:Inv X.in1 pins σ H s):Inv X pins σ H s:=
 ⟨⟨I.ok.mod,I.ok.kind,I.ok.glob,I.ok.blt,I.ok.above,I.ok.inj,I.ok.has,I.ok.cab,I.ok.hd,I.ok.frames,I.ok.stk,I.ok.exf,I.ok.bs,I.ok.bsz,I.ok.noex,I.ok.exfs,I.ok.funs,I.ok.frf⟩,I.os,I.bare,I.base,I.loc,I.cell,I.free,I.freeC,I.pin,I.hok,I.len⟩
theorem Zie (v dv:Value):argsOk "max" ⟨[v],[("default",dv)]⟩:=by unfold argsOk; kernel_rfl
theorem Zim {v dv:Value}{Q:Value→Shared→Prop}{E:Value→Shared→Prop}
  (h:wpAny (model X.prog X.w) X.A.in1 (pyIter v) (fun itv s2=>∃ it fp tn ns H',itv=.ref it∧Inv X.in1 pins σ H' s2∧Drw X.in1 pins σ H' it fp tn ns∧tn 0 s2.heap∧(∀ b∈fp,b < s2.heap.objs.size)∧
   ∀ s' u,Inv X pins σ H' s'→(match ZdT ns with | none=>u=dv | some m=>∃ t,u=.int m t)→Q u s') E s):wpAny (model X.prog X.w) X.A (call (.builtin "max") [v] [("default",dv)]) Q E s:=by
 have nm:(toString "max"++toString ".loop":String)="max.loop":=by decide
 refine wpAny_call (codeAny_call_builtin PySem.F.plain_max PySem.F.entry_max ?_);have fin:∀ {R:Fin→Shared→Prop},wpAny (model X.prog X.w) X.A.in1 (Builtin.«max» ⟨[v],[("default",dv)]⟩) R E s→wpAny (model X.prog X.w) X.A.in1 (checkBuiltinCall "max" ⟨[v],[("default",dv)]⟩) (fun _ s=>wpAny (model X.prog X.w) X.A.in1 (Builtin.«max» ⟨[v],[("default",dv)]⟩) R E s) E s:=fun {R} hc=>by
  simp only [checkBuiltinCall,PySem.F.kind_max];have ha:=Zie v dv;cases hsig:Manifest.signature? "max" with
  | none=>exact wpAny_pure hc
  | some sig=>
   simp only [argsOk,hsig] at ha;have h2:Bind.checkArgs "max" sig ⟨[v],[("default",dv)]⟩=pure ():=ha;show wpAny _ X.A.in1 (Bind.checkArgs "max" sig ⟨[v],[("default",dv)]⟩) _ _ s;rw [h2];exact wpAny_pure hc
 refine fin ?_;show wpAny _ X.A.in1 (Builtin.Builtins.bindParams "max" ["key","default"] 0 ⟨[],[("default",dv)]⟩ >>= _) _ _ s;refine wpAny_bind (wpAny_of_eq (show Builtin.Builtins.bindParams "max" ["key","default"] 0 ⟨[],[("default",dv)]⟩=pure [none,some dv] from rfl) ?_);refine wpAny_bind (wpAny_pure ?_);refine wpAny_bind (wpAny_mono h (fun itv s2 h2=>?_) fun _ _ e=>e);obtain ⟨it,fp,tn,ns,H',rfl,I2,W,st,hfp,hQ⟩:=h2;refine wpAny_bind (wpAny_newObj_type ?_);have hSf:s2.heap.objs.size ∉ fp:=fun hm=>ZoT _ (hfp _ hm);rw [nm];refine wpAny_pure ⟨plainId_quiet ZoE _,?_⟩;have I3:Inv X.in1 pins σ H' { s2 with heap:=s2.heap.push { cls:=.type "list",data:=.seq ([]:List Value).toArray } }:=I2.kept (t':=s2.toks) fun b o e=>Znk _ e;refine ZjX (X:=X.in1) (A:=X.A) rfl W hSf (I2.fpOk (Znn _) (I2.hok.fresh (Znn _))) dv (fun s' u I' hu=>hQ s' u I'.ofIn1 hu) _ 0 _ none [] 0 rfl (ZnH _) I3 (W.keep _ _ _ st fun b _ o e=>Znk _ e) (Znu _ rfl) rfl rfl
theorem ZjE {a it:Addr}{ns:List Int} (hc:X.calm=true) (hq:SqL X.K H a (ns.map V.int)) (hf:ZaG X pins H it):Drw X pins σ H it [it] (fun i h=>h.IsListIter it a i) ns where
 item:=by
  intro i n s Q E hn I st h;obtain ⟨its,rv,p,hz⟩:=I.list hq;obtain ⟨u,hu,t,rfl⟩:=rv.get (i:=i) (x:=V.int n) (by rw [Znq,hn]; rfl);obtain ⟨f0,f1,f2,f3,f4,f5⟩:=hf;refine wpAny_pyNext_list_item st p.isList (x:=.int n t) (by simpa using hu) fun h' st' sb=>?_;exact h t _ (I.turned (t':=s.toks) (it:=it) (fun b o hb e=>(sb.2 b hb).trans e) f0 f1 f3 f4 f5) st' fun b o hb e=>(sb.2 b fun z=>hb (by simp [z])).trans e
 done:=by
  intro s Q E I st h;obtain ⟨its,rv,p,hz⟩:=I.list hq;have hl:=rv.length;rw [Zni] at hl;obtain ⟨f0,f1,f2,f3,f4,f5⟩:=hf;exact wpAny_pyNext_list_end (I.ok.hd hc) st p.isList (by simp; omega) fun h' eb=>h _ (I.turned (t':=s.toks) (it:=it) (fun b o hb e=>eb b o hb e) f0 f1 f3 f4 f5) fun b o hb e=>eb b o (fun z=>hb (by simp [z])) e
 keep:=fun i h h' st k=>st.at fun o e=>k it (by simp) o e
end
def mxV (ns:List Int) (d:V):V:=match ZdT ns with | none=>d | some m=>.int m
def Zl1 (K:Znj) (te:TA) (td:TE):TE:=fun σ H Q=>te σ H fun xs H1=>td σ H1 fun d H2=>∃ a ns,xs=[.ref a]∧SqL K H2 a (ns.map V.int)∧Q (mxV ns d) H2
theorem Zli {ns:List Int}{d:V}{dv u:Value} (r:RelV d dv) (h:match ZdT ns with | none=>u=dv | some m=>∃ t,u=.int m t):RelV (mxV ns d) u:=by
 unfold mxV;cases q:ZdT ns with
 | none=>rw [q] at h; rw [h]; exact r
 | some m=>rw [q] at h; exact h
section
variable {X:Cx}{e d:Expr}{te:TA}{td:TE}{p pos kpos:Pos}
theorem Zly (hc:X.calm=true) (hm:X.mg "max"=none) (he:PA X [e] te) (hd:PE X d td) (hg:Gl X "max":=by rfl)
  (hb:backTo pos (starEach [e] X.env)=(false,eval e X.env) :: backTo pos (starEach [] X.env):=by rfl) (hpl:(backTo pos (starEach [e] X.env)).any (·.1)=false:=by rfl):PE X (.Call (.Name "max" p) [e] [⟨some "default",d,kpos⟩] pos) (Zl1 X.K te td):=by
 intro pins s σ H Q I h;refine wpAny_Call_Name_kw (ld_blt I hg hm Boot.«max» ?_);refine PyProof.Rows.callWith_kw (thn (he pos pins s σ H _ I h) fun us s1 qz=>?_) hb hpl rfl rfl;obtain ⟨xs,H1,I1,r1,q1⟩:=qz;refine PyProof.Rows.kws_cons (thn (hd pins s1 σ H1 _ I1 q1) fun dv s2 ⟨dx,H2,I2,rd,a,ns,e1,hq,q2⟩=>PyProof.Rows.kws_nil ?_);subst e1;obtain ⟨u,rfl,ru⟩:=YJ r1;cases ru;refine Zim (pins:=pins) (σ:=σ) ?_;obtain ⟨its,rv,pl,hz⟩:=I2.list hq;refine wpAny_pyIter_list pl.isList ?_;have hfr:H2 s2.heap.objs.size=none:=I2.hok.fresh (Znn _);refine ⟨s2.heap.objs.size,[s2.heap.objs.size],_,ns,H2,rfl,(I2.kept (t':=s2.toks) fun b o e=>Znk _ e).in1,ZjE hc hq (I2.in1.fpOk (Znn _) hfr),⟨_,Znu _ rfl,rfl,rfl⟩,fun b hb=>?_,fun s' u I' hu=>⟨_,H2,I',Zli rd hu,q2⟩⟩;have:b=s2.heap.objs.size:=by simpa using hb
 rw [this,ZoV];exact Zpp _
end
structure ZW (H:Hp) (a:Addr) (ws:List W):Prop where
 at_:H a=some (.lst (ws.map sv))
 ok:∀ x∈ws,YN az (sv x)=true
 few:ws.length≤10000
 short:∀ x∈ws,x.length≤10000
section
variable {H H':Hp}{a:Addr}{ws:List W}{K:Znj}
theorem ZW.code (h:ZW H a ws):Zan K H a ws:=⟨SqL.of h.at_,h.few,h.short⟩
theorem ZW.ext (h:ZW H a ws) (x:Ext H H'):ZW H' a ws:=⟨x.lst h.at_,h.ok,h.few,h.short⟩
theorem ZW.full (h:ZW H a ws):Tw.Full ws:=fun x hx e=>by
 have:=h.ok x hx;subst e;exact absurd this (by decide)
theorem ZW.arg (h:ZW H a ws):JG K H (.ref a):=by
 refine ⟨⟨_,.lst h.at_⟩,fun b xs e hr=>?_⟩;cases e;have:=hr.inj (.inl h.at_);subst this;refine ⟨by rw [Zni]; exact Zd (by have:=h.few; omega),fun y hy H' _=>?_⟩;obtain ⟨x,_,rfl⟩:=Znm.mp hy;exact ⟨_,.str _⟩
theorem ZW.sz (h:ZW H a ws):Sz H (.ref a):=fun b xs e hr x hx=>by
 cases e;have:=hr.inj (.inl h.at_);subst this;obtain ⟨y,hy,e⟩:=Znm.mp hx;cases e;rw [st_len];exact Zd (by have:=h.short y hy; omega)
theorem ZW.all (h:ZW H a ws) {b:Bool} (q:Y0 H (.ref a) (YN az) b):b=true:=by
 rw [q.eq (.inl h.at_),Zn1];intro y hy;obtain ⟨x,hx,rfl⟩:=Znm.mp hy;exact h.ok x hx
end
def JF (H:Hp) (a:Addr) (r:List Nat):Prop:=H a=some (.lst (intsV r))∧r.length≤100000
section
variable {H H':Hp}{a:Addr}{r:List Nat}{K:Znj}
theorem JF.ext (h:JF H a r) (x:Ext H H'):JF H' a r:=⟨x.lst h.1,h.2⟩
theorem JF.arg (h:JF H a r):JG K H (.ref a):=by
 refine ⟨⟨_,.lst h.1⟩,fun b xs e hr=>?_⟩;cases e;have:=hr.inj (.inl h.1);subst this;refine ⟨by rw [Zni]; exact Zd (by have:=h.2; omega),fun y hy H' _=>?_⟩;obtain ⟨x,_,rfl⟩:=Znm.mp hy;exact ⟨_,.int _⟩
theorem JF.places (h:JF H a r):ZcN K H a r:=⟨SqL.of h.1,h.2⟩
end
section
variable {P:Program}{w:World}{K:Znj}{mg:Str→Option Value}{base:Heap}{cCode cText cRead cNumber cPlaces cLengths:Addr}
theorem ZlN {t:W} (h:t.length≤100000):∀ x,sv t=.str x→x.length≤sizeLine:=fun x e=>by
 cases e;rw [st_len];exact Zd (by omega)
end
end L2
namespace L2
open PySem PySem.Spec PyProof.Rows Tw
seal PSs PS PE PT PW PA PG PGs PI PC
abbrev PkL (P:Addr) (H:Hp):Prop:=Pk P Pl.lamPos Pl.lamQual H
structure XP (P:Addr) (H H':Hp):Prop where
 pk:PkL P H
 pk':PkL P H'
 ext:∀ b o,b≠P→H b=some o→H' b=some o∨((∃ kvs,o=.dK kvs)∧∃ ob,H' b=some (.frz ob o))
section
variable {P:Addr}{H H1 H2:Hp}{a b l:Addr}{o:HO}{xs:List V}{K:Znj}
theorem PkL.ext (p:PkL P H) (x:Ext H H1):PkL P H1:=by
 rcases p with p | ⟨c,p,q⟩
 ·exact .inl (x.keep p fun _ z=>nomatch z)
 ·exact .inr ⟨c,x.keep p (fun _ z=>nomatch z),x.keep q (fun _ z=>nomatch z)⟩
theorem XP.of (p:PkL P H) (x:Ext H H1):XP P H H1:=⟨p,PkL.ext p x,fun b o _ e=>x b o e⟩
theorem XP.ne (x:XP P H H1) (h:H b=some o) (n:∀ ps,o≠.tbl ps):b≠P:=by
 obtain ⟨ps,q⟩:=x.pk.at;exact Ye h q (n ps)
theorem XP.trans (x:XP P H H1) (y:XP P H1 H2):XP P H H2:=by
 refine ⟨x.pk,y.pk',fun b o hb h=>?_⟩;rcases x.ext b o hb h with h1 | ⟨⟨kvs,e⟩,ob,h1⟩
 ·exact y.ext b o hb h1
 ·rcases y.ext b _ hb h1 with h2 | ⟨⟨kvs,e⟩,_⟩
  ·exact .inr ⟨⟨kvs,e⟩,ob,h2⟩
  ·cases e
theorem XP.keep (x:XP P H H1) (h:H b=some o) (hn:∀ kvs,o≠.dK kvs) (ht:∀ ps,o≠.tbl ps):H1 b=some o:=by
 rcases x.ext b o (x.ne h ht) h with h1 | ⟨⟨kvs,e⟩,_⟩
 ·exact h1
 ·exact absurd e (hn kvs)
theorem XP.lst (x:XP P H H1) (h:H b=some (.lst xs)):H1 b=some (.lst xs):=x.keep h (fun _ e=>nomatch e) fun _ e=>nomatch e
theorem XP.free (x:XP P H H1) (h:H1 l=none):H l=none:=by
 cases q:H l with
 | none=>rfl
 | some u=>
  by_cases z:l=P
  ·subst z;obtain ⟨ps,r⟩:=x.pk'.at;rw [h] at r;cases r
  ·rcases x.ext l u z q with h1 | ⟨_,ob,h1⟩ <;> rw [h] at h1 <;> cases h1
theorem XP.then (x:XP P H H1) (y:Ext H1 H2):XP P H H2:=x.trans (.of x.pk' y)
theorem XP.over {u:HO} (x:XP P H H1) (h:H l=none) (h1:H1 l=some u) (nt:∀ ps,u≠.tbl ps) (nx:∀ φ,u≠.ext φ):XP P H (upd H1 l o):=by
 obtain ⟨ps,hp⟩:=x.pk'.at;have lP:P≠l:=Ye hp h1 (fun z=>nt ps z.symm);refine ⟨x.pk,?_,fun b w hb e=>?_⟩
 ·rcases x.pk' with p | ⟨c,p,q⟩
  ·exact .inl (by rw [Zp lP]; exact p)
  ·exact .inr ⟨c,by rw [Zp lP]; exact p,by rw [Zp (Ye q h1 (fun z=>nx _ z.symm))]; exact q⟩
 ·rw [Zp (ne_of_none e h)];exact x.ext b w hb e
theorem XP.codeL {ws:List W} (x:XP P H H1) (h:ZW H a ws):ZW H1 a ws:=⟨x.lst h.at_,h.ok,h.few,h.short⟩
end
section
variable {P:Program}{w:World}{K:Znj}{mg:Str→Option Value}{base:Heap}
theorem Fun.okC {x qual:Str}{st:Stmt}{f c:Addr}{fd:FuncData}{N ps:List Str}{k:Nat}{sp:Sp} (F:Fun K x qual st f fd) (hc:fd.code=.ref c) (S:Zn N ps (Zf st)) (len:∀ vs H Q E,sp vs H Q E→vs.length=ps.length)
  (hbody:∀ (A:Around) (outer:List Env) (s:Shared) (H:Hp) (vs:List V) (Q:VK) (E:XK),ZR k (A.deeper (envOfC qual (Zf st) s.heap.objs.size f (.ref c)))→sp vs H Q E→
   ∃ t,PSs (ZH CX0 P w K mg base N qual (Zf st) f (.ref c) A outer s H E).nox (YB st) t∧t { nx:=fun _ H'=>Q .non H',rt:=Q } (Zbh N vs) H):Ym P w K mg base CX0 (k+1) f fd ps sp:=by
 obtain ⟨oc,od,kV,doc,pm,an,cdv,ct,osl,rfl,lk,hcd⟩:=F.ex;cases (show cdv=.ref c from hc);refine ZjI lk hcd S len fun A outer s H vs Q E hr hsp=>?_;obtain ⟨t,h,q⟩:=hbody A outer s H vs Q E hr hsp;exact ⟨t,h.nox,q⟩
def Zes (K:Znj) (T:Addr):Sp:=fun vs H Q _=>∃ (l:Addr) (xs:List V) (R:List Nat→Prop),vs=[.ref l]∧SqL K H l xs∧xs.length < 64∧Srt xs R∧PkL T H∧∀ D ms H',XP T H H'→H D=none→H' D=some (.lst (intsV ms))→R ms→Q (.ref D) H'
def DefT (K:Znj) (mg:Str→Option Value) (base:Heap) (T:Addr):Prop:=
 ∃ f fd c,Fun K "in_order" "in_order" Pl.s_in_order f fd∧mg "in_order"=some (.ref f)∧Zoj K (.ref f)=true∧Jc K fd ["values"] []∧fd.code=.ref c∧Zo4 base c T
theorem Zf2 {T:Addr} (D:DefT K mg base T) (B:Yo mg) (M:BM mg base):Cal P w K mg base CX0 1 "in_order" ["values"] (Zes K T):=by
 have sc:Zn ["values"] ["values"] (Zf Pl.s_in_order):=scO;obtain ⟨f,fd,c,F,h1,h2,h3,h4,C⟩:=D;refine ⟨f,fd,F.okC h4 sc (fun vs H Q E h=>?_) (fun A outer s H vs Q E hr h=>?_),h1,h2,h3⟩
 ·obtain ⟨_,_,_,rfl,_⟩:=h;rfl
 ·obtain ⟨l,xs,R,rfl,hq,h64,hs,pk,k⟩:=h;refine ⟨_,pss_one (ps_ret (Zkl (P:=T) (i:=0) (v:="values") (y:="place") (c:=c) hr B.sorted B.range (Zg Zq (by rfl) B.len Zno (pa_cons (pv 0) pa_nil)) rfl rfl rfl rfl rfl C M rfl rfl rfl rfl rfl (by decide +kernel) (fun _ _ _ _ _ _ _ _=>rfl) rfl (by decide) (by decide) (by decide))),?_⟩;try dsimp only [ZH,Cx.nox,Cx.wish]
  ·refine ⟨_,rfl,l,xs,rfl,.inl hq,xs.length,rfl,fun r hr=>⟨r,l,xs,R,rfl,Za,rfl,?_,h64,hs,?_,fun D ms H2 kp pk2 hD h1 h2 h3=>?_⟩⟩
   ·exact Ext.sqL (Ext.new hr) hq
   ·exact PkL.ext pk (Ext.new hr)
   ·have fD:H D=none:=(Ext.new hr).free h1;exact k D ms H2 ⟨pk,pk2,fun b o hb z=>.inl (kp b o hb (by rw [Zp (ne_of_none z hr)]; exact z))⟩ fD h2 h3
end
end L2
namespace L2
open PySem PySem.Spec PyProof.Rows Tw
theorem ZfG (a:Array Nat):∀ (n:Nat) (acc:Array Nat),(ZnL n a).foldl (·++·) acc=acc++(ZnL n a.toList).flatten.toArray
 | 0,acc=>by simp
 | n+1,acc=>by
  rw [Zom,Zov,ZfG a n (acc++a),Zom,Zos];apply Array.ext';simp
def Zm6:R2:=fun x y H Q=>∃ (a:W) (n:Int),x=sv a∧y=.int n∧0≤n∧n≤1000∧a.length≤1000∧Q (sv (ZnL n.toNat a).flatten) H
theorem ZhN {X:Cx}:OpR X (binaryOp .Mult) Zm6:=by
 intro pins s σ H x y v u Q I rx ry h;obtain ⟨a,n,rfl,rfl,h0,h1,ha,q⟩:=h;obtain ⟨t,rfl⟩:=rx;obtain ⟨t',rfl⟩:=ry;have hlen:a.length * n.toNat≤1000000:=Nat.mul_le_mul ha (show n.toNat≤1000 by omega);refine PySem.P.mul_str (by
  have g1:¬ n < -(2 ^ 63:Int):=by omega
  have g2:¬ n ≥ 2 ^ 63:=by omega
  rw [decide_eq_false g1,decide_eq_false g2]; rfl) (fun g1 _=>?_) (fun _ _=>?_) ?_
 ·rw [st_len];have:(9223372036854775:Int)≤(2 ^ 63 - 1) / n:=by
   rw [Int.le_ediv_iff_mul_le (by omega)];omega
  omega
 ·rw [st_len];unfold Builtin.Str.tooLong;exact decide_eq_false (by have:=Zd hlen; omega)
 ·by_cases g1:n < 1
  ·rw [if_pos g1];have:n.toNat=0:=by omega
   rw [this] at q;exact ⟨by decide,sv [],H,I.tok _,⟨_,rfl⟩,q⟩
  ·rw [if_neg g1];by_cases g2:(n == 1 || (st a).length == 0)=true
   ·rw [if_pos g2];have e:(ZnL n.toNat a).flatten=a:=by
     rw [ZqX,beq_iff_eq,beq_iff_eq,st_len] at g2;rcases g2 with z | z
     ·rw [z]; simp
     ·have:a=[]:=ZnU z;rw [this]; simp
    rw [e] at q;exact ⟨sv a,H,I,⟨t,rfl⟩,q⟩
   ·rw [if_neg g2];have e:(⟨(ZnL n.toNat (st a).cps).foldl (·++·) #[]⟩:Str)=st (ZnL n.toNat a).flatten:=by
     rw [ZfG];show (⟨#[]++(ZnL n.toNat a).flatten.toArray⟩:Str)=⟨(ZnL n.toNat a).flatten.toArray⟩;simp
    rw [e];refine ⟨?_,sv _,H,I.tok _,⟨_,rfl⟩,q⟩;rw [st_len];have:(ZnL n.toNat a).flatten.length=n.toNat * a.length:=by simp
    rw [this,Nat.mul_comm];exact Zd hlen
section
variable {X:Cx}
theorem Zlr (hu:X.A.units < cLine):OpR X (compareOp .Eq) (fun x y H Q=>∃ (p q:Addr) (xs:List V),x=.ref p∧y=.ref q∧SqL X.K H p xs∧SqL X.K H q []∧Q (.bl (decide (xs=[]))) H):=by
 intro pins s σ H x y v u Q I rx ry h;obtain ⟨p,q,xs,rfl,rfl,hp,hq,k⟩:=h;cases rx;cases ry;obtain ⟨its,r,pl,_⟩:=I.list hp;obtain ⟨its',r',pl',_⟩:=I.list hq;have e':its'=[]:=ZnU (by rw [←r'.length]; rfl);subst e';cases xs with
 | nil=>
  have e:its=[]:=ZnU (by rw [←r.length]; rfl);subst e;exact SeqAt.eq_listAt (e:=fun _=>true) pl.isList pl'.isList rfl hu (fun j h1 _=>absurd h1 (Zp7 j)) ⟨.bl _,H,I,rfl,k⟩
 | cons x0 xs=>
  have hl:=r.length;refine SeqAt.eq_list_lengthsAt pl.isList pl'.isList ?_ hu ⟨.bl false,H,I,rfl,by simpa using k⟩;simp only [Zny,←hl];simp
theorem Zkt (n:Nat):Builtin.Str.strSliceIndices none none (-1) n=(ZnB n).map fun k=>n - 1 - k:=by
 show sliceRange (if (-1:Int) > 0 then 0 else (n:Int) - 1) (if (-1:Int) > 0 then (n:Int) else -1) (-1)=_;simp only [show ¬ ((-1:Int) > 0) by decide,if_false];unfold sliceRange;simp only [show ¬ ((-1:Int) > 0) by decide,if_false];have e:((if (n:Int) - 1 > -1 then ((n:Int) - 1 - -1 - -1 - 1) / (- -1) else 0:Int)).toNat=n:=by
  split <;> simp <;> omega
 rw [e];apply ZnP;intro k hk;have:=Zoq.mp hk;omega
theorem Zeo (n:Nat):(ZnB n).map (fun k=>n - 1 - k)=(ZnB n).reverse:=by
 apply ZpW
 ·simp
 ·intro i h1 h2;simp
theorem Zjd (a:W) (t:Tok):((slicePicked (st a) none none (some (-1,t))).filterMap ((st a).cps[·]?))=a.reverse:=by
 unfold slicePicked;rw [st_len];show (Builtin.Str.strSliceIndices none none (-1) a.length).filterMap _=_;rw [Zkt,Zeo,ZqS];have:(fun i:Nat=>(st a).cps[i]?)=fun i:Nat=>a[i]?:=by funext i; show (a.toArray)[i]?=a[i]?; simp
 rw [this,Zpl]
theorem Zmt {e es:Expr}{te ts:TE}{p2 pos:Pos} (he:PE X e te) (hs:PE X es ts):PE X (.Subscript e (.Slice none none (some es) p2) pos)
  (fun σ H Q=>te σ H fun x H1=>ts σ H1 fun i H2=>∃ a:W,x=sv a∧i=.int (-1)∧a.length≤sizeLine∧Q (sv a.reverse) H2):=by
 intro pins s σ H Q I h;refine Subscript_ (thn (he pins s σ H _ I h) fun v s1 qz=>?_);obtain ⟨x,H1,I1,r1,q1⟩:=qz;refine wpAny_Slice ?_;rw [evalPart_none];refine wpAny_pure ?_;rw [evalPart_some];refine wpAny_pure ?_;refine thn (hs pins s1 σ H1 _ I1 q1) fun u s2 qz=>?_;obtain ⟨y,H2,I2,r2,q2⟩:=qz;obtain ⟨a,rfl,rfl,hz,q⟩:=q2;obtain ⟨t,rfl⟩:=r1;obtain ⟨tu,rfl⟩:=r2;have I4:Inv X pins σ H2 { s2 with heap:=s2.heap.push { cls:=.type "slice",data:=.fields #[.none,.none,.int (-1) tu] } }:=I2.kept (t':=s2.toks) fun b ob q=>Znk _ q;refine tail_any (ops:=[.ref s2.heap.objs.size,.str (st a) t]) (typeIs_str _ _ t) Zqv.lookup ?_ (by with_unfolding_all rfl);refine wpAny_getItem_str_slice (l:=none) (u:=none) (st:=some (-1,tu)) ⟨_,Znu _ rfl,rfl,rfl⟩ rfl ?_;unfold sliceMade;rw [if_neg (by simp)];show Made.post (.str ⟨_⟩) _ _;rw [Zjd];exact ⟨by rw [show (⟨a.reverse.toArray⟩:Str)=st a.reverse from rfl,st_len,Zoa]; exact hz,sv a.reverse,H2,I4.tok _,⟨_,rfl⟩,q⟩
end
end L2
namespace L2
open PySem PySem.Spec PyProof.Rows Tw
seal PSs PS PE PT PW PA PG PGs PI PC
theorem Zbk {X:Cx}{K:Znj} (h:X.K=K):YR X (.builtin "isinstance") (Zhc K):=by subst h; exact Zfw
section
variable {P:Program}{w:World}{K:Znj}{mg:Str→Option Value}{base:Heap}
def Zal:Sp:=fun vs H Q _=>∃ (x t:W) (m:Nat),vs=[sv x,sv t,.int (m:Int)]∧x.length≤10000∧t.length≤100000∧m≤t.length∧Q (.bl (decide (cut t m x.length=x))) H
theorem Zi4 (D:Def K mg "_law_stands" "_law_stands" Pl.s_law_stands ["_law_word","_law_text_here","_law_at"]) (B:Yo mg):Cal P w K mg base CX0 1 "_law_stands" ["_law_word","_law_text_here","_law_at"] Zal:=by
 have sc:Zn ["_law_word","_law_text_here","_law_at"] ["_law_word","_law_text_here","_law_at"] (Zf Pl.s_law_stands):=scO;refine D.cal fun f fd F=>F.ok sc (fun vs H Q E h=>?_) (fun cdv A outer s H vs Q E hr h=>?_)
 ·obtain ⟨_,_,_,rfl,_⟩:=h;rfl
 ·obtain ⟨x,t,m,rfl,hx,ht,hm,k⟩:=h;refine ⟨_,pss_one (ps_ret (ZV Jt (ZM Jy (pv 1) (ZN (pv 2)) (ZN (Zo Z2 (pv 2) (Zg Zs (by rfl) B.len Zno (pa_cons (pv 0) pa_nil))))) (pv 0) (Zu _))),?_⟩;try dsimp only [ZH,Cx.nox,Cx.wish]
  refine ⟨_,rfl,_,rfl,(m:Int),rfl,_,rfl,_,rfl,st x,rfl,by rw [st_len]; exact Zd (by omega),_,_,rfl,rfl,_,rfl,t,rfl,Zd (by omega),_,rfl,rfl,?_⟩;rw [st_len,ZfB t m x.length hm];have e:decide (sv (cut t m x.length)=sv x)=decide (cut t m x.length=x):=by
   by_cases z:cut t m x.length=x
   ·rw [z]; simp
   ·rw [decide_eq_false z,decide_eq_false fun q=>z (st_inj (V.str.inj q))]
  rw [e];exact k
end
end L2
namespace L2
open PySem PySem.Spec PyProof.Rows Tw
theorem Zjw:∀ z∈az,z < 1000:=by decide
theorem ZjS:∀ ws:List W,(∀ x∈ws,∀ z∈x,z∈az)→PyData.canLayAll0 (ws.map fun x=>PyData.str (st x))=true
 | [],_=>rfl
 | x :: r,h=>by
  have h1:=h x ZnF;have h2:=ZjS r fun y hy=>h y (ZnC _ hy);have h3:PyData.strOk (st x)=true:=by
   show (st x).cps.all (· < 0x110000)=true;rw [Array.all_eq_true'];intro z hz;have hz':z∈x:=List.mem_toArray.mp (show z∈x.toArray from hz);have:=Zjw z (h1 z hz');simp only [decide_eq_true_iff];omega
  simp only [ZnN,PyData.canLayAll0,PyData.canLay0,h2,h3,Bool.and_self]
theorem ZfP:∀ ws:List W,PyData.depthAll (ws.map fun x=>PyData.str (st x))=0
 | []=>rfl
 | _ :: r=>by simp [PyData.depthAll,PyData.depth,ZfP r]
theorem Za2 (ws:List W) (h:∀ x∈ws,∀ z∈x,z∈az):SeqAt.shaped (.list (ws.map fun x=>PyData.str (st x)))=true:=by simp [SeqAt.shaped,PyData.canLay0,PyData.depth,ZjS ws h,ZfP]
theorem Zk5 (ws:List W):ZnJ.sameAll (ws.map fun x=>PyData.str (st x)) (ws.map fun x=>PyData.str (st x))=true:=by
 induction ws with
 | nil=>simp [ZnJ.sameAll]
 | cons x r ih=>simp [ZnJ.sameAll,ZnJ.same,ih]
theorem JL:∀ {ws:List W}{us:List Value},ZA (ws.map sv) us→CarriedAll us (ws.map fun x=>PyData.str (st x))
 | [],_,r=>by cases r; exact .nil
 | x :: ws,_,r=>by
  cases r with
  | cons r1 r2=>
   obtain ⟨t,rfl⟩:=r1;exact .cons (.str _ t) (JL r2)
def Zm8 (K:Znj) (b:Bool):R2:=fun x y H Q=>∃ (p q:Addr) (ws:List W),x=.ref p∧y=.ref q∧SqL K H p (ws.map sv)∧SqL K H q (ws.map sv)∧(∀ x∈ws,∀ z∈x,z∈az)∧Q (.bl b) H
theorem ZhO {X:Cx}{K:Znj} (h:X.K=K) (hu:X.A.units+64 < cLine):OpR X (compareOp .NotEq) (Zm8 K false):=by
 subst h;intro pins s σ H x y v u Q I rx ry h;obtain ⟨p,q,ws,rfl,rfl,hp,hq,hl,k⟩:=h;cases rx;cases ry;obtain ⟨its,r,pl,_⟩:=I.list hp;obtain ⟨its',r',pl',_⟩:=I.list hq;refine ne_dataH_same (reads_newData pl.isList (JL r)) (reads_newData pl'.isList (JL r')) (Za2 _ hl) (Za2 _ hl) hu (SeqAt.noMix_of_shape (.list .str) rfl _ _ (list_map_has fun _=>rfl) (list_map_has fun _=>rfl)) ?_;have e:ZnJ.same (.list (ws.map fun x=>PyData.str (st x))) (.list (ws.map fun x=>PyData.str (st x)))=true:=by simp only [ZnJ.same]; exact Zk5 ws
 rw [e];exact ⟨.bl _,H,I,rfl,k⟩
seal PSs PS PE PT PW PA PG PGs PI PC
def ZeT (H:Hp) (l:Addr):Nat:=match H l with
 | some (.lst xs)=>xs.length
 | _=>0
theorem Za3 {H:Hp}{l:Addr}{xs:List V} (h:H l=some (.lst xs)):ZeT H l=xs.length:=by unfold ZeT; rw [h]
theorem ZhK (K:Znj):Zoc K (.type "int") (.type "list")=some false:=by kernel_rfl
theorem Zgx (K:Znj):Zoc K (.type "list") (.type "list")=some true:=by kernel_rfl
theorem Zha {n:Nat}{r:List Nat}:(intsV r).all (ZU (n:Int))=decide (∀ i∈r,i < n):=by
 rw [ZnW,Zn1,decide_eq_true_iff];constructor
 ·intro h i hi;have:=h (.int (i:Int)) (Znm.mpr ⟨i,hi,rfl⟩);simp only [ZU,ZnA,decide_eq_true_iff] at this;omega
 ·intro h v hv;obtain ⟨i,hi,rfl⟩:=Znm.mp hv;have:=h i hi;simp only [ZU,ZnA,decide_eq_true_iff];omega
def Zfg (C:Addr) (fld:Str):Sp:=fun vs H Q _=>∃ (o p dx:Addr) (r:List Nat),vs=[.ref o,.ref p]∧H o=some (.ins C dx [])∧H p=some (.lst (intsV r))∧r.length≤100000∧
 ∀ l H1,H l=none→Ext H H1→H1 l=some (.lst (intsV r))→Q .non (upd H1 o (.ins C dx [(fld,.ref l)]))
theorem Zgd {X:Cx}{K:Znj}{e:Expr}{f:Str}{pos:Pos}{ta:TE} (h:X.K=K) (he:PE X e ta) (hb:attributeBase e f X.env (eval e X.env)=eval e X.env):PE X (.Attribute e f pos) (tFld K ta f):=by subst h; exact Zw he hb
theorem ZhM {X:Cx}{K:Znj} (h:X.K=K):OpR X (compareOp .In) (rIn K false):=by subst h; exact Zi5
theorem JN {X:Cx}{K:Znj} (h:X.K=K):OpR X (compareOp .NotIn) (rIn K true):=by subst h; exact Ze3
structure ZcL (K:Znj) (C:Addr):Prop where
 cls:Cls K C
 ha:Zn4 K (.ref C) "__class__"=some (some (.builtin "object.__class__"))
 hn:ZqA K (.builtin "object.__class__") "__get__"=some (some (.builtin "getset_descriptor.__get__"))
 htk:Zrc K (.builtin "object.__class__")=some true
 hm:Zrq K C (.type "object")=some true
theorem ZcL.ty {K:Znj}{C a dx:Addr}{H:Hp}{fs:List (Str × V)} (I:ZcL K C) (e:H a=some (.ins C dx fs)):Zaq K H (.ref a) (.ref C):=.ins e I.cls I.ha I.hn I.htk I.hm
theorem ZlU {P:Program}{w:World}{X:Cx}:Zao (CX1 P w) X (fun _ _ _=>False):=by
 intro pins σ H1 s1 e s' I h;obtain ⟨ea,cls,H',rfl,F,q⟩:=h;exact q.elim
end L2
namespace L2
open PySem PySem.Spec PyProof.Rows Tw
seal PSs PS PE PT PW PA PG PGs PI PC
structure Kls (P:Program) (w:World) (K:Znj) (mg:Str→Option Value) (base:Heap) (x:Str) (C:Addr) (ips:List Str) (ini:Sp) (sps:List Str) (sp:Sp):Prop where
 there:mg x=some (.ref C)
 cls:Cls K C
 mak:∃ f fd,Mk K C f∧Ym P w K mg base CX0 2 f fd ("self" :: ips) ini∧Jc K fd ("self" :: ips) []
 sh:∃ f fd,Zia K C "shows" f∧Ym P w K mg base CX0 5 f fd ("self" :: sps) sp∧Jc K fd ("self" :: sps) []
theorem JP {X:Cx}{x:Str}{C:Addr}{ips sps:List Str}{ini sp:Sp}{e:Expr}{es:List Expr}{t:TA}{p pos:Pos} (O:Kls X.prog X.w X.K X.mg X.base x C ips ini sps sp) (hr:ZR 3 X.A) (ha:PA X (e :: es) t) (hg:Gl X x:=by rfl) (hdb:(x == ("__debug__":Str))=false:=by decide)
  (he:starEach (e :: es) X.env=(false,eval e X.env) :: starEach es X.env:=by rfl) (hpl:(backTo pos (starEach es X.env)).any (·.1)=false:=by rfl):PE X (.Call (.Name x p) (e :: es) [] pos) (Zh7 C ini [] E0 t):=by
 obtain ⟨f,fd,M,F,b⟩:=O.mak;exact Ze7 M F hr hg O.there b .nil Zm ha hdb he hpl
theorem ZkU (ws:List W) (i:Nat):wat (ws.map st) i=ws.getD i []:=by
 unfold wat;rw [Znv,Znq,Znv];cases ws[i]? <;> rfl
def Zhs (ws:List W) (ms:List Nat):Prop:=ms.Perm (ZnB ws.length)∧ms.Pairwise fun i j=>¬ ws.getD j [] < ws.getD i []
theorem Zew {ws:List W} (h:ws.length < 64):Srt (ws.map sv) (Zhs ws):=by
 intro keys vs r hl hv;rw [Zni] at hl hv;have hk:StrsAre keys (ws.map st):=Zay r;have kl:keys.length=ws.length:=by rw [←r.length,Zni]
 have S:=ZkF hk kl hl hv h;have im:∀ out,(∃ ms:List Nat,IntsAre out (ms.map Zot)∧ms.Perm (ZnB ws.length)∧ms.Pairwise fun i j=>¬ wat (ws.map st) j < wat (ws.map st) i)→∃ ms:List Nat,IntsAre out (ms.map Zot)∧Zhs ws ms:=fun out ⟨ms,m1,m2,m3⟩=>⟨ms,m1,m2,m3.imp fun {a b} z=>by rw [ZkU,ZkU] at z; exact z⟩;refine ⟨fun z=>im _ (S.1 z),fun z=>⟨(S.2 z).1,fun prog w A E s=>?_⟩⟩;exact wpS_mono ((S.2 z).2 prog w A E s) fun _ st ⟨a1,a2,a3⟩=>⟨a1,a2,im _ a3⟩
end L2
set_option maxHeartbeats 1000000
namespace Ts
open PySem PyProof.Rows
section
variable {prog:Program}{w:World}{A:Around}{E:Value→Shared→Prop}{s:Shared}{σ:Type}{α β:Type}
def Kp (prog:Program) (w:World) (A:Around) (E:Value→Shared→Prop) (s:Shared) (I:σ→Prop) (m:StateT σ Sem α) (R:α→Prop):Prop:=∀ st,I st→wpS (model prog w) A E s m (fun a st'=>I st'∧R a) st
variable {I:σ→Prop}
theorem Zh {a:α}{R:α→Prop} (h:R a):Kp prog w A E s I (pure a:StateT σ Sem α) R:=fun _ i=>wpS_pure ⟨i,h⟩
theorem Zj {m:StateT σ Sem α}{f:α→StateT σ Sem β}{R:α→Prop}{R':β→Prop} (h:Kp prog w A E s I m R) (k:∀ a,R a→Kp prog w A E s I (f a) R'):Kp prog w A E s I (m >>= f) R':=
 fun st i=>wpS_bind (wpS_mono (h st i) fun a st' q=>k a q.2 st' q.1)
theorem kp_ite {c:Prop} [Decidable c] {x y:StateT σ Sem α}{R:α→Prop} (h1:c→Kp prog w A E s I x R) (h2:¬ c→Kp prog w A E s I y R):Kp prog w A E s I (if c then x else y) R:=by
 split
 next h=>exact h1 h
 next h=>exact h2 h
theorem Zag {f:σ→σ} (h:∀ st,I st→I (f st)):Kp prog w A E s I (modify f:StateT σ Sem PUnit) fun _=>True:=fun st i=>wpS_modify ⟨h st i,trivial⟩
theorem ZgN:Kp prog w A E s I (get:StateT σ Sem σ) fun st=>I st:=fun st i=>wpS_get ⟨i,i⟩
theorem Za1 {x:String}:Kp prog w A E s I (liftM (rule x):StateT σ Sem PUnit) fun _=>True:=fun st i=>wpS_lift (wpAny_rule ⟨rfl,i,trivial⟩)
theorem YM {a b:Nat}{c:β}{f:Nat→β→StateT σ Sem (ForInStep β)}{R:β→Prop} (J:Nat→β→Prop)
  (step:∀ i c,a≤i→i < b→J i c→Kp prog w A E s I (f i c) fun r=>match r with | .done c'=>R c' | .yield c'=>J (i+1) c') (fin:∀ c,J (max a b) c→R c) (h:J a c):Kp prog w A E s I (forIn [a:b] c f) R:=
 fun st i=>wpS_forRange (I:=fun n c st=>I st∧J n c) (fun n c st h1 h2 q=>wpS_mono (step n c h1 h2 q.2 st q.1) fun r st' q'=>by cases r <;> exact q') (fun c st q=>⟨q.1,fin c q.2⟩) ⟨i,h⟩
end
section
variable {prog:Program}{w:World}{A:Around}{E:Value→Shared→Prop}{s:Shared}
def Ik (xs:Array Keyed):Prop:=∀ (i:Nat) (p:Keyed),xs[i]?=some p→∃ n t,p.1=Value.int n t
theorem Ik.perm {xs ys:Array Keyed} (h:Ik ys) (p:xs.Perm ys):Ik xs:=fun i q e=>by
 have m:q∈ys.toList:=(Zob.mp p).mem_iff.mp (ZnD (by rw [ZnY]; exact e));obtain ⟨j,hj⟩:=ZpP.mp m;exact h j q (by rw [←ZnY]; exact hj)
structure SI (a₀:Array Keyed) (st:SortSt):Prop where
 perm:(arrOf st).Perm a₀
 kind:kindOf st=oneType'
 failed:failedOf st=none
abbrev isInt (p:Keyed):Prop:=∃ n t,p.1=Value.int n t
variable {I:SortSt→Prop}
theorem ZfN {x y:Keyed} (hk:∀ st,I st→kindOf st=oneType') (hx:isInt x) (hy:isInt y):Kp prog w A E s I (lt' x y) fun r=>∃ b,r=some b:=by
 intro st i;obtain ⟨n,t,e1⟩:=hx;obtain ⟨m,u,e2⟩:=hy;refine wpS_bind (wpS_get ?_);refine wpS_bind (wpS_lift (wpAny_attempt ?_));show wpAny _ _ (keyLt' (kindOf st) x.1 y.1) _ _ s;rw [hk st i,e1,e2];exact oneLt_int ⟨rfl,wpS_pure ⟨i,_,rfl⟩⟩
theorem ZJ {arr:Array Keyed}{i:Nat} (h:i < arr.size):Kp prog w A E s I (elem' arr i) fun p=>arr[i]?=some p:=by
 intro st q;rw [elem'_eq,getElem?_pos arr i h];exact wpS_pure ⟨q,rfl⟩
def Zk2:Bool→Keyed→Array Keyed→Nat→Nat→Nat→StateT SortSt Sem (Option Nat):=sortPriv% PySem.Builtin.gallop
theorem Y1 {left:Bool}{key:Keyed}{arr:Array Keyed}{base n hint:Nat} (hk:∀ st,I st→kindOf st=oneType') (ha:Ik arr) (hy:isInt key) (hb:base+n≤arr.size) (hh:hint < n):
  Kp prog w A E s I (Zk2 left key arr base n hint) fun r=>∃ k,r=some k∧k≤n:=by
 have bey:∀ i,i < n→Kp prog w A E s I (do
   let x ←elem' arr (base+i)
   if left then lt' x key else return (←lt' key x).map (!·)) fun r=>∃ b,r=some b:=fun i hi=>by
  refine Zj (ZJ (by omega)) fun p e=>?_;have ip:=ha _ _ e;refine kp_ite (fun _=>ZfN hk ip hy) fun _=>Zj (ZfN hk hy ip) fun r q=>?_;obtain ⟨b,rfl⟩:=q;exact Zh ⟨_,rfl⟩
 refine Zj (bey hint hh) fun r q=>?_;obtain ⟨b,rfl⟩:=q;refine kp_ite (fun _=>?_) fun _=>?_
 ·refine Zj (YM (fun _ c=>c.1=none) (R:=fun c=>c.1=none) ?_ (fun c h=>h) rfl) fun c hc=>?_
  ·rintro i ⟨r,lo,ofs⟩ _ _ rfl;refine kp_ite (fun _=>Zh rfl) fun lt=>Zj (bey _ (by dsimp only at lt ⊢; omega)) fun r q=>?_;obtain ⟨b,rfl⟩:=q;exact kp_ite (fun _=>Zh rfl) fun _=>Zh rfl
  ·obtain ⟨r,lastofs,ofs⟩:=c;cases (show r=none from hc);refine Zj (YM (fun _ c=>c.1=none∧c.2.2≤n) (R:=fun c=>c.1=none∧c.2.2≤n) ?_ (fun c h=>h) ⟨rfl,by (try dsimp only); omega⟩) fun c hc=>?_
   ·rintro i ⟨r,lo,hi⟩ _ _ ⟨rfl,h⟩;refine kp_ite (fun _=>Zh ⟨rfl,h⟩) fun lt=>Zj (bey _ (by dsimp only at lt h ⊢; omega)) fun r q=>?_;obtain ⟨b,rfl⟩:=q;exact kp_ite (fun _=>Zh ⟨rfl,h⟩) fun _=>Zh ⟨rfl,by dsimp only at lt h ⊢; omega⟩
   ·obtain ⟨r,lo,hi⟩:=c;obtain ⟨rfl,h⟩:=hc;exact Zh ⟨_,rfl,h⟩
 ·refine Zj (YM (fun _ c=>c.1=none) (R:=fun c=>c.1=none) ?_ (fun c h=>h) rfl) fun c hc=>?_
  ·rintro i ⟨r,lo,ofs⟩ _ _ rfl;refine kp_ite (fun _=>Zh rfl) fun lt=>Zj (bey _ (by omega)) fun r q=>?_;obtain ⟨b,rfl⟩:=q;exact kp_ite (fun _=>Zh rfl) fun _=>Zh rfl
  ·obtain ⟨r,lastofs,ofs⟩:=c;cases (show r=none from hc);refine Zj (YM (fun _ c=>c.1=none∧c.2.2≤n) (R:=fun c=>c.1=none∧c.2.2≤n) ?_ (fun c h=>h) ⟨rfl,by (try dsimp only); omega⟩) fun c hc=>?_
   ·rintro i ⟨r,lo,hi⟩ _ _ ⟨rfl,h⟩;refine kp_ite (fun _=>Zh ⟨rfl,h⟩) fun lt=>Zj (bey _ (by dsimp only at lt h ⊢; omega)) fun r q=>?_;obtain ⟨b,rfl⟩:=q;exact kp_ite (fun _=>Zh ⟨rfl,h⟩) fun _=>Zh ⟨rfl,by dsimp only at lt h ⊢; omega⟩
   ·obtain ⟨r,lo,hi⟩:=c;obtain ⟨rfl,h⟩:=hc;exact Zh ⟨_,rfl,h⟩
def Tk (a b out:Array Keyed) (i j:Nat):Prop:=out.toList.Perm (a.toList.take i++b.toList.take j)
section
variable {a b out:Array Keyed}{i j k:Nat}{p:Keyed}
theorem Zez {α:Type}{l:List α}{i:Nat}{p:α} (h:l[i]?=some p):l.take (i+1)=l.take i++[p]:=by
 rw [List.take_add_one,h]; rfl
theorem Tk.pushB (h:Tk a b out i j) (e:b[j]?=some p):Tk a b (out.push p) i (j+1):=by
 unfold Tk at h ⊢;rw [Zpf,Zez (by rw [ZnY]; exact e),←ZnO];exact h.append_right _
theorem Tk.pushA (h:Tk a b out i j) (e:a[i]?=some p):Tk a b (out.push p) (i+1) j:=by
 unfold Tk at h ⊢;rw [Zpf,Zez (by rw [ZnY]; exact e)];refine (h.append_right _).trans ?_;rw [ZnO,ZnO];exact Zou.append_left _ Zof
theorem Zel (xs:Array Keyed) (i k:Nat):(xs.extract i (i+k)).toList=(xs.toList.drop i).take k:=by
 rw [ZoB,Zon,ZqD]
theorem Tk.runA (h:Tk a b out i j):Tk a b (out++a.extract i (i+k)) (i+k) j:=by
 unfold Tk at h ⊢;rw [Zn9,Zel,List.take_add];refine (h.append_right _).trans ?_;rw [ZnO,ZnO];exact Zou.append_left _ Zof
theorem Tk.runB (h:Tk a b out i j):Tk a b (out++b.extract j (j+k)) i (j+k):=by
 unfold Tk at h ⊢;rw [Zn9,Zel,List.take_add,←ZnO];exact h.append_right _
theorem Zen (xs:Array Keyed) (i:Nat):(xs.extract i xs.size).toList=xs.toList.drop i:=by
 rw [ZoB,Zon];exact Zok (by rw [ZnV,Zn8]; exact Znn _)
theorem Tk.done (h:Tk a b out i j):(out++a.extract i a.size++b.extract j b.size).Perm (a++b):=by
 rw [Zob,Zn9,Zn9,Zn9,Zen,Zen];refine ((h.append_right _).append_right _).trans ?_;have e1:=Zoo i a.toList;have e2:=Zoo j b.toList;generalize a.toList.take i=x at *;generalize a.toList.drop i=y at *;generalize b.toList.take j=u at *;generalize b.toList.drop j=v at *;rw [←e1,←e2];simp only [ZnO];refine Zou.append_left _ ?_;rw [←ZnO,←ZnO];exact Zof.append_right _
theorem Tk.last (h:Tk a b out i j):(out++b.extract j b.size++a.extract i a.size).Perm (a++b):=by
 refine Zp3.trans ?_ h.done;rw [Zob];simp only [Zn9,ZnO];exact Zou.append_left _ Zof
end
def ZjZ:Array Keyed→Array Keyed→StateT SortSt Sem (Array Keyed):=sortPriv% PySem.Builtin.mergeLo
def ZjY:Array Keyed→Array Keyed→StateT SortSt Sem (Array Keyed):=sortPriv% PySem.Builtin.mergeHi
theorem ZcE {i n:Nat} (h:i+1 < n) (z:¬ (i+1+1 == n)=true):i+1+1 < n:=by
 simp only [beq_iff_eq] at z;omega
theorem ZgP {a b:Array Keyed} (hk:∀ st,I st→kindOf st=oneType') (hg:∀ st g,I st→I (SortSt.mk' (kindOf st) (arrOf st) (pendingOf st) g (failedOf st))) (ha:Ik a) (hb:Ik b) (na:0 < a.size) (nb:0 < b.size):
  Kp prog w A E s I (ZjZ a b) fun r=>r.Perm (a++b):=by
 refine Zj Za1 fun _ _=>Zj (ZJ nb) fun p0 e0=>?_;refine kp_ite (fun z=>Zh ?_) fun z1=>kp_ite (fun z=>Zh ?_) fun z2=>Zj ZgN fun st0 _=>?_
 ·have T0:Tk a b #[p0] 0 1:=by
   have:=Tk.pushB (a:=a) (b:=b) (out:=#[]) (i:=0) (j:=0) (show Zou _ _ by simp) e0;exact this
  exact T0.done
 ·have T0:Tk a b #[p0] 0 1:=by
   have:=Tk.pushB (a:=a) (b:=b) (out:=#[]) (i:=0) (j:=0) (show Zou _ _ by simp) e0;exact this
  exact T0.last
 ·have T0:Tk a b #[p0] 0 1:=by
   have:=Tk.pushB (a:=a) (b:=b) (out:=#[]) (i:=0) (j:=0) (show Zou _ _ by simp) e0;exact this
  have y1:1 < b.size:=by simp at z1; omega
  have y2:0+1 < a.size:=by simp at z2; omega
  refine Zj (R:=fun c=>∃ r,c.1=some r∧r.Perm (a++b)) (YM (fun i c=>c.1=none∧Tk a b c.2.1 c.2.2.1 c.2.2.2.1∧c.2.2.1+1 < a.size∧c.2.2.2.1 < b.size∧i+1≤c.2.2.1+c.2.2.2.1) ?_ ?_ ⟨rfl,T0,y2,y1,by (try dsimp only); omega⟩) fun c hc=>?_
  ·rintro i ⟨r,out,ia,ib,mg⟩ - hi ⟨rfl,T,h1,h2,h3⟩;dsimp only at T h1 h2 h3;refine Zj (R:=fun c=>(∃ r,c.1=some r∧r.Perm (a++b))∨(c.1=none∧Tk a b c.2.1 c.2.2.1 c.2.2.2.1∧c.2.2.1+1 < a.size∧c.2.2.2.1 < b.size∧i+2≤c.2.2.1+c.2.2.2.1))
    (YM (fun j c=>c.1=none∧Tk a b c.2.1 c.2.2.1 c.2.2.2.1∧c.2.2.1+1 < a.size∧c.2.2.2.1 < b.size∧i+1+j≤c.2.2.1+c.2.2.2.1) ?_ ?_ ⟨rfl,T,h1,h2,h3⟩) fun c hc=>?_
   ·rintro j ⟨r,out,ia,ib,ac,bc⟩ - hj ⟨rfl,T,h1,h2,h3⟩;dsimp only at T h1 h2 h3;refine Zj (ZJ h2) fun pb eb=>Zj (ZJ (i:=ia) (by omega)) fun pa ea=>Zj (ZfN hk (hb _ _ eb) (ha _ _ ea)) fun r q=>?_;obtain ⟨x,rfl⟩:=q;refine kp_ite (fun _=>Zj (ZJ h2) fun pb eb=>?_) fun _=>Zj (ZJ (i:=ia) (by omega)) fun pa ea=>?_
    ·have T':=T.pushB eb;refine kp_ite (fun z=>Zh (.inl ⟨_,rfl,T'.done⟩)) fun z=>?_;have z':ib+1 < b.size:=by simp at z; omega
     exact kp_ite (fun _=>Zh (.inr ⟨rfl,T',h1,z',by (try dsimp only); omega⟩)) fun _=>Zh ⟨rfl,T',h1,z',by (try dsimp only); omega⟩
    ·have T':=T.pushA ea;refine kp_ite (fun z=>Zh (.inl ⟨_,rfl,T'.last⟩)) fun z=>?_;have z':ia+1+1 < a.size:=by simp at z; omega
     exact kp_ite (fun _=>Zh (.inr ⟨rfl,T',z',h2,by (try dsimp only); omega⟩)) fun _=>Zh ⟨rfl,T',z',h2,by (try dsimp only); omega⟩
   ·rintro ⟨r,out,ia,ib,ac,bc⟩ ⟨rfl,T,h1,h2,h3⟩;exact .inr ⟨rfl,T,h1,h2,by dsimp only at h3 ⊢; omega⟩
   ·obtain ⟨r,out,ia,ib,ac,bc⟩:=c;rcases hc with ⟨r',e,q⟩ | ⟨e,T,h1,h2,h3⟩
    ·cases e;exact Zh ⟨_,rfl,q⟩
    ·cases (show r=none from e);dsimp only at T h1 h2 h3;refine Zj Za1 fun _ _=>?_;refine Zj (R:=fun c=>(∃ r,c.1=some r∧r.Perm (a++b))∨(c.1=none∧Tk a b c.2.1 c.2.2.1 c.2.2.2.1∧c.2.2.1+1 < a.size∧c.2.2.2.1 < b.size∧i+2≤c.2.2.1+c.2.2.2.1))
      (YM (fun _ c=>c.1=none∧Tk a b c.2.1 c.2.2.1 c.2.2.2.1∧c.2.2.1+1 < a.size∧c.2.2.2.1 < b.size∧i+2≤c.2.2.1+c.2.2.2.1) ?_ (fun c h=>.inr h) ⟨rfl,T,h1,h2,h3⟩) fun c hc=>?_
     ·rintro j ⟨r,out,ia,ib,mg,ac,bc⟩ - hj ⟨rfl,T,h1,h2,h3⟩;dsimp only at T h1 h2 h3;refine kp_ite (fun _=>?_) fun _=>?_;all_goals
       refine Zj (Zag fun st q=>hg st _ q) fun _ _=>Zj (ZJ h2) fun pb eb=>Zj (Y1 hk ha (hb _ _ eb) (by (try dsimp only); omega) (by (try dsimp only); omega)) fun r q=>?_;obtain ⟨k,rfl,kl⟩:=q;dsimp only at kl;refine kp_ite (fun k0=>?_) fun k0=>?_
       ·have T:=T.runA (k:=k);refine kp_ite (fun z=>Zh (.inl ⟨_,rfl,T.last⟩)) fun z=>kp_ite (fun z=>Zh (.inl ⟨_,rfl,T.done⟩)) fun z'=>?_;have h1:ia+k+1 < a.size:=by
         try dsimp only at z z'
         simp only [beq_iff_eq] at z z';omega
        have h3:i+2≤ia+k+ib:=by omega
        refine Zj (ZJ h2) fun pb eb=>?_;have T:=T.pushB eb;refine kp_ite (fun z=>Zh (.inl ⟨_,rfl,T.done⟩)) fun z=>?_;have h2:ib+1 < b.size:=by
         try dsimp only at z
         simp only [beq_iff_eq] at z;omega
        refine Zj (ZJ (ZoO h1)) fun pa ea=>Zj (Y1 hk hb (ha _ _ ea) (by (try dsimp only); omega) (by (try dsimp only); omega)) fun r q=>?_;obtain ⟨k2,rfl,kl2⟩:=q;try dsimp only at kl2
        refine kp_ite (fun k0=>?_) fun k0=>?_
        ·have T:=T.runB (k:=k2);refine kp_ite (fun z=>Zh (.inl ⟨_,rfl,T.done⟩)) fun z=>?_;have h2:ib+1+k2 < b.size:=by
          dsimp only at z;simp only [beq_iff_eq] at z;omega
         refine Zj (ZJ (ZoO h1)) fun pa ea=>?_;have T:=T.pushA ea;refine kp_ite (fun z=>Zh (.inl ⟨_,rfl,T.last⟩)) fun z=>?_;have h1:=ZcE h1 z;exact kp_ite (fun _=>Zh (.inr ⟨rfl,T,h1,h2,by (try dsimp only); omega⟩)) fun _=>Zh ⟨rfl,T,h1,h2,by (try dsimp only); omega⟩
        ·refine Zj (ZJ (ZoO h1)) fun pa ea=>?_;have T:=T.pushA ea;refine kp_ite (fun z=>Zh (.inl ⟨_,rfl,T.last⟩)) fun z=>?_;have h1:=ZcE h1 z;exact kp_ite (fun _=>Zh (.inr ⟨rfl,T,h1,h2,by (try dsimp only); omega⟩)) fun _=>Zh ⟨rfl,T,h1,h2,by (try dsimp only); omega⟩
       ·refine Zj (ZJ h2) fun pb eb=>?_;have T:=T.pushB eb;refine kp_ite (fun z=>Zh (.inl ⟨_,rfl,T.done⟩)) fun z=>?_;have h2:ib+1 < b.size:=by
         try dsimp only at z
         simp only [beq_iff_eq] at z;omega
        refine Zj (ZJ (ZoO h1)) fun pa ea=>Zj (Y1 hk hb (ha _ _ ea) (by (try dsimp only); omega) (by (try dsimp only); omega)) fun r q=>?_;obtain ⟨k2,rfl,kl2⟩:=q;try dsimp only at kl2
        refine kp_ite (fun k0=>?_) fun k0=>?_
        ·have T:=T.runB (k:=k2);refine kp_ite (fun z=>Zh (.inl ⟨_,rfl,T.done⟩)) fun z=>?_;have h2:ib+1+k2 < b.size:=by
          dsimp only at z;simp only [beq_iff_eq] at z;omega
         refine Zj (ZJ (ZoO h1)) fun pa ea=>?_;have T:=T.pushA ea;refine kp_ite (fun z=>Zh (.inl ⟨_,rfl,T.last⟩)) fun z=>?_;have h1:=ZcE h1 z;exact kp_ite (fun _=>Zh (.inr ⟨rfl,T,h1,h2,by (try dsimp only); omega⟩)) fun _=>Zh ⟨rfl,T,h1,h2,by (try dsimp only); omega⟩
        ·refine Zj (ZJ (ZoO h1)) fun pa ea=>?_;have T:=T.pushA ea;refine kp_ite (fun z=>Zh (.inl ⟨_,rfl,T.last⟩)) fun z=>?_;have h1:=ZcE h1 z;exact kp_ite (fun _=>Zh (.inr ⟨rfl,T,h1,h2,by (try dsimp only); omega⟩)) fun _=>Zh ⟨rfl,T,h1,h2,by (try dsimp only); omega⟩
     ·obtain ⟨r,out,ia,ib,mg,ac,bc⟩:=c;rcases hc with ⟨r',e,q⟩ | ⟨e,T,h1,h2,h3⟩
      ·cases e;exact Zh ⟨_,rfl,q⟩
      ·cases (show r=none from e);exact Zj (Zag fun st q=>hg st _ q) fun _ _=>Zh ⟨rfl,T,h1,h2,h3⟩
  ·rintro ⟨r,out,ia,ib,mg⟩ ⟨rfl,T,h1,h2,h3⟩;dsimp only at h1 h2 h3;omega
  ·obtain ⟨r,rest⟩:=c;obtain ⟨r',e,q⟩:=hc;cases e;exact Zh q
def Th (a b out:Array Keyed) (i j:Nat):Prop:=out.toList.Perm (a.toList.drop i++b.toList.drop j)
section
variable {a b out:Array Keyed}{i j k:Nat}{p:Keyed}
theorem Zeb {l:List Keyed}{i:Nat}{p:Keyed} (h0:0 < i) (h:l[i - 1]?=some p):l.drop (i - 1)=p :: l.drop i:=by
 obtain ⟨n,rfl⟩:∃ n,i=n+1:=⟨i - 1,by omega⟩;rw [Nat.add_sub_cancel] at h ⊢;obtain ⟨hl,e⟩:=Znw.mp h;rw [Zpk hl,e]
theorem Th.pushA (h:Th a b out i j) (h0:0 < i) (e:a[i - 1]?=some p):Th a b (out.push p) (i - 1) j:=by
 unfold Th at h ⊢;rw [Zpf,Zeb h0 (by rw [ZnY]; exact e)];exact (h.append_right _).trans Zof
theorem Th.pushB (h:Th a b out i j) (h0:0 < j) (e:b[j - 1]?=some p):Th a b (out.push p) i (j - 1):=by
 unfold Th at h ⊢;rw [Zpf,Zeb h0 (by rw [ZnY]; exact e)];refine ((h.append_right _).trans Zof).trans ?_;rw [Zq3];exact List.perm_middle.symm
theorem ZaY (l:List Keyed) {i k:Nat} (h:k≤i):l.drop k=(l.drop k).take (i - k)++l.drop i:=by
 have:=Zoo (i - k) (l.drop k);rw [Zrg,Nat.add_sub_cancel' h] at this;exact this.symm
theorem Th.runA (h:Th a b out i j) (hk:k≤i):Th a b (out++(a.extract k i).reverse) k j:=by
 unfold Th at h ⊢;refine Zou.trans ?_ (Zou.of_eq (congrArg (·++b.toList.drop j) (ZaY a.toList hk).symm));rw [Zn9,ZpY,ZoB,Zon,ZnO];exact ((h.append_right _).trans Zof).trans ((Zqs _).append_right _)
theorem Th.runB (h:Th a b out i j) (hk:k≤j):Th a b (out++(b.extract k j).reverse) i k:=by
 unfold Th at h ⊢;refine Zou.trans ?_ (Zou.of_eq (congrArg (a.toList.drop i++·) (ZaY b.toList hk).symm));rw [Zn9,ZpY,ZoB,Zon];refine (h.append (Zqs _)).trans ?_;rw [ZnO];exact Zou.append_left _ Zof
theorem Zc0 (xs:Array Keyed) (i:Nat):(xs.extract 0 i).toList=xs.toList.take i:=by
 rw [ZoB,Zon,ZoW,Zq6]
theorem Th.done (h:Th a b out i j):(a.extract 0 i++b.extract 0 j++out.reverse).Perm (a++b):=by
 rw [Zob,Zn9,Zn9,Zn9,Zc0,Zc0,ZpY];refine (Zou.append_left _ ((Zqs _).trans h)).trans ?_;have e1:=Zoo i a.toList;have e2:=Zoo j b.toList;generalize a.toList.take i=x at *;generalize a.toList.drop i=y at *;generalize b.toList.take j=u at *;generalize b.toList.drop j=v at *;rw [←e1,←e2];simp only [ZnO];refine Zou.append_left _ ?_;rw [←ZnO,←ZnO];exact Zof.append_right _
theorem Th.first (h:Th a b out i j):(b.extract 0 j++a.extract 0 i++out.reverse).Perm (a++b):=by
 refine Zp3.trans ?_ h.done;rw [Zob];simp only [Zn9];exact Zof.append_right _
theorem ZbI {i:Nat} (h:0 < i) (z:¬ (i - 1 == 0)=true):0 < i - 1:=by
 simp only [beq_iff_eq] at z;omega
theorem ZeL {j:Nat} (h:1 < j) (z:¬ (j - 1 == 1)=true):1 < j - 1:=by
 simp only [beq_iff_eq] at z;omega
end
theorem ZgO {a b:Array Keyed} (hk:∀ st,I st→kindOf st=oneType') (hg:∀ st g,I st→I (SortSt.mk' (kindOf st) (arrOf st) (pendingOf st) g (failedOf st))) (ha:Ik a) (hb:Ik b) (na:0 < a.size) (nb:0 < b.size):
  Kp prog w A E s I (ZjY a b) fun r=>r.Perm (a++b):=by
 refine Zj Za1 fun _ _=>Zj (ZJ (i:=a.size - 1) (by omega)) fun p0 e0=>?_;have T0:Th a b #[p0] (a.size - 1) b.size:=by
  have:=Th.pushA (a:=a) (b:=b) (out:=#[]) (i:=a.size) (j:=b.size) (show Zou _ _ by simp) na e0;exact this
 refine kp_ite (fun z=>Zh T0.done) fun z1=>kp_ite (fun z=>Zh T0.first) fun z2=>Zj ZgN fun st0 _=>?_;have y1:0 < a.size - 1:=by simp at z1; omega
 have y2:1 < b.size:=by simp at z2; omega
 refine Zj (R:=fun c=>∃ r,c.1=some r∧r.Perm (a++b)) (YM (fun i c=>c.1=none∧Th a b c.2.2.2.1 c.2.1 c.2.2.1∧0 < c.2.1∧1 < c.2.2.1∧c.2.1≤a.size∧c.2.2.1≤b.size∧i+1+c.2.1+c.2.2.1≤a.size+b.size) ?_ ?_ ⟨rfl,T0,y1,y2,by (try dsimp only); omega,by (try dsimp only); omega,by (try dsimp only); omega⟩) fun c hc=>?_
 ·rintro i ⟨r,na,nb,out,mg⟩ - hi ⟨rfl,T,h1,h2,h3,h4,h5⟩;dsimp only at T h1 h2 h3 h4 h5;refine Zj (R:=fun c=>(∃ r,c.1=some r∧r.Perm (a++b))∨(c.1=none∧Th a b c.2.2.2.1 c.2.1 c.2.2.1∧0 < c.2.1∧1 < c.2.2.1∧c.2.1≤a.size∧c.2.2.1≤b.size∧i+2+c.2.1+c.2.2.1≤a.size+b.size))
   (YM (fun j c=>c.1=none∧Th a b c.2.2.2.1 c.2.1 c.2.2.1∧0 < c.2.1∧1 < c.2.2.1∧c.2.1≤a.size∧c.2.2.1≤b.size∧i+1+j+c.2.1+c.2.2.1≤a.size+b.size) ?_ ?_ ⟨rfl,T,h1,h2,h3,h4,h5⟩) fun c hc=>?_
  ·rintro j ⟨r,na,nb,out,ac,bc⟩ - hj ⟨rfl,T,h1,h2,h3,h4,h5⟩;dsimp only at T h1 h2 h3 h4 h5;refine Zj (ZJ (i:=nb - 1) (by omega)) fun pb eb=>Zj (ZJ (i:=na - 1) (by omega)) fun pa ea=>Zj (ZfN hk (hb _ _ eb) (ha _ _ ea)) fun r q=>?_;obtain ⟨x,rfl⟩:=q;refine kp_ite (fun _=>Zj (ZJ (i:=na - 1) (by omega)) fun pa ea=>?_) fun _=>Zj (ZJ (i:=nb - 1) (by omega)) fun pb eb=>?_
   ·have T':=T.pushA h1 ea;refine kp_ite (fun z=>Zh (.inl ⟨_,rfl,T'.done⟩)) fun z=>?_;have z':=ZbI h1 z;exact kp_ite (fun _=>Zh (.inr ⟨rfl,T',z',h2,by (try dsimp only); omega,h4,by (try dsimp only); omega⟩)) fun _=>Zh ⟨rfl,T',z',h2,by (try dsimp only); omega,h4,by (try dsimp only); omega⟩
   ·have T':=T.pushB (by omega) eb;refine kp_ite (fun z=>Zh (.inl ⟨_,rfl,T'.first⟩)) fun z=>?_;have z':=ZeL h2 z;exact kp_ite (fun _=>Zh (.inr ⟨rfl,T',h1,z',h3,by (try dsimp only); omega,by (try dsimp only); omega⟩)) fun _=>Zh ⟨rfl,T',h1,z',h3,by (try dsimp only); omega,by (try dsimp only); omega⟩
  ·rintro ⟨r,na,nb,out,ac,bc⟩ ⟨rfl,T,h1,h2,h3,h4,h5⟩;exact .inr ⟨rfl,T,h1,h2,h3,h4,by dsimp only at h5 ⊢; omega⟩
  ·obtain ⟨r,na,nb,out,ac,bc⟩:=c;rcases hc with ⟨r',e,q⟩ | ⟨e,T,h1,h2,h3,h4,h5⟩
   ·cases e;exact Zh ⟨_,rfl,q⟩
   ·cases (show r=none from e);dsimp only at T h1 h2 h3 h4 h5;refine Zj Za1 fun _ _=>?_;refine Zj (R:=fun c=>(∃ r,c.1=some r∧r.Perm (a++b))∨(c.1=none∧Th a b c.2.2.2.1 c.2.1 c.2.2.1∧0 < c.2.1∧1 < c.2.2.1∧c.2.1≤a.size∧c.2.2.1≤b.size∧i+2+c.2.1+c.2.2.1≤a.size+b.size))
     (YM (fun _ c=>c.1=none∧Th a b c.2.2.2.1 c.2.1 c.2.2.1∧0 < c.2.1∧1 < c.2.2.1∧c.2.1≤a.size∧c.2.2.1≤b.size∧i+2+c.2.1+c.2.2.1≤a.size+b.size) ?_ (fun c h=>.inr h) ⟨rfl,T,h1,h2,h3,h4,h5⟩) fun c hc=>?_
    ·rintro j ⟨r,na,nb,out,mg,ac,bc⟩ - hj ⟨rfl,T,h1,h2,h3,h4,h5⟩;dsimp only at T h1 h2 h3 h4 h5;refine kp_ite (fun _=>?_) fun _=>?_;all_goals
      refine Zj (Zag fun st q=>hg st _ q) fun _ _=>Zj (ZJ (i:=nb - 1) (by omega)) fun pb eb=>Zj (Y1 hk ha (hb _ _ eb) (by (try dsimp only); omega) (by (try dsimp only); omega)) fun r q=>?_;obtain ⟨k,rfl,kl⟩:=q;dsimp only at kl;refine kp_ite (fun k0=>?_) fun k0=>?_
      ·have T:=T.runA kl;refine kp_ite (fun z=>Zh (.inl ⟨_,rfl,T.done⟩)) fun z=>?_;have h1:0 < k:=by
        try dsimp only at z
        simp only [beq_iff_eq] at z;omega
       have h3:k≤a.size:=by omega
       have h5:i+2+k+nb≤a.size+b.size:=by omega
       refine Zj (ZJ (i:=nb - 1) (by omega)) fun pb eb=>?_;have T:=T.pushB (by omega) eb;refine kp_ite (fun z=>Zh (.inl ⟨_,rfl,T.first⟩)) fun z=>?_;have h2:=ZeL h2 z;refine Zj (ZJ (by omega)) fun pa ea=>Zj (Y1 hk hb (ha _ _ ea) (by (try dsimp only); omega) (by (try dsimp only); omega)) fun r q=>?_;obtain ⟨k2,rfl,kl2⟩:=q;try dsimp only at kl2
       refine kp_ite (fun k0=>?_) fun k0=>?_
       ·have T:=T.runB kl2;refine kp_ite (fun z=>Zh (.inl ⟨_,rfl,T.first⟩)) fun z=>kp_ite (fun z=>Zh (.inl ⟨_,rfl,T.done⟩)) fun z'=>?_;have h2:1 < k2:=by
         try dsimp only at z z'
         simp only [beq_iff_eq] at z z';omega
        refine Zj (ZJ (by omega)) fun pa ea=>?_;have T:=T.pushA h1 ea;refine kp_ite (fun z=>Zh (.inl ⟨_,rfl,T.done⟩)) fun z=>?_;have h1:=ZbI h1 z;exact kp_ite (fun _=>Zh (.inr ⟨rfl,T,h1,h2,by (try dsimp only); omega,by (try dsimp only); omega,by (try dsimp only); omega⟩)) fun _=>Zh ⟨rfl,T,h1,h2,by (try dsimp only); omega,by (try dsimp only); omega,by (try dsimp only); omega⟩
       ·refine Zj (ZJ (by omega)) fun pa ea=>?_;have T:=T.pushA h1 ea;refine kp_ite (fun z=>Zh (.inl ⟨_,rfl,T.done⟩)) fun z=>?_;have h1:=ZbI h1 z;exact kp_ite (fun _=>Zh (.inr ⟨rfl,T,h1,h2,by (try dsimp only); omega,by (try dsimp only); omega,by (try dsimp only); omega⟩)) fun _=>Zh ⟨rfl,T,h1,h2,by (try dsimp only); omega,by (try dsimp only); omega,by (try dsimp only); omega⟩
      ·refine Zj (ZJ (i:=nb - 1) (by omega)) fun pb eb=>?_;have T:=T.pushB (by omega) eb;refine kp_ite (fun z=>Zh (.inl ⟨_,rfl,T.first⟩)) fun z=>?_;have h2:=ZeL h2 z;refine Zj (ZJ (by omega)) fun pa ea=>Zj (Y1 hk hb (ha _ _ ea) (by (try dsimp only); omega) (by (try dsimp only); omega)) fun r q=>?_;obtain ⟨k2,rfl,kl2⟩:=q;try dsimp only at kl2
       refine kp_ite (fun k0=>?_) fun k0=>?_
       ·have T:=T.runB kl2;refine kp_ite (fun z=>Zh (.inl ⟨_,rfl,T.first⟩)) fun z=>kp_ite (fun z=>Zh (.inl ⟨_,rfl,T.done⟩)) fun z'=>?_;have h2:1 < k2:=by
         try dsimp only at z z'
         simp only [beq_iff_eq] at z z';omega
        refine Zj (ZJ (by omega)) fun pa ea=>?_;have T:=T.pushA h1 ea;refine kp_ite (fun z=>Zh (.inl ⟨_,rfl,T.done⟩)) fun z=>?_;have h1:=ZbI h1 z;exact kp_ite (fun _=>Zh (.inr ⟨rfl,T,h1,h2,by (try dsimp only); omega,by (try dsimp only); omega,by (try dsimp only); omega⟩)) fun _=>Zh ⟨rfl,T,h1,h2,by (try dsimp only); omega,by (try dsimp only); omega,by (try dsimp only); omega⟩
       ·refine Zj (ZJ (by omega)) fun pa ea=>?_;have T:=T.pushA h1 ea;refine kp_ite (fun z=>Zh (.inl ⟨_,rfl,T.done⟩)) fun z=>?_;have h1:=ZbI h1 z;exact kp_ite (fun _=>Zh (.inr ⟨rfl,T,h1,h2,by (try dsimp only); omega,by (try dsimp only); omega,by (try dsimp only); omega⟩)) fun _=>Zh ⟨rfl,T,h1,h2,by (try dsimp only); omega,by (try dsimp only); omega,by (try dsimp only); omega⟩
    ·obtain ⟨r,na,nb,out,mg,ac,bc⟩:=c;rcases hc with ⟨r',e,q⟩ | ⟨e,T,h1,h2,h3,h4,h5⟩
     ·cases e;exact Zh ⟨_,rfl,q⟩
     ·cases (show r=none from e);exact Zj (Zag fun st q=>hg st _ q) fun _ _=>Zh ⟨rfl,T,h1,h2,h3,h4,h5⟩
 ·rintro ⟨r,na,nb,out,mg⟩ ⟨rfl,T,h1,h2,h3,h4,h5⟩;dsimp only at h1 h2 h5;omega
 ·obtain ⟨r,rest⟩:=c;obtain ⟨r',e,q⟩:=hc;cases e;exact Zh q
theorem Kp.wp {α σ:Type}{I:σ→Prop}{m:StateT σ Sem α}{R:α→Prop}{Q:α→σ→Prop}{st:σ} (h:Kp prog w A E s I m R) (i:I st) (k:∀ a st',I st'→R a→Q a st'):wpS (model prog w) A E s m Q st:=wpS_mono (h st i) fun a st' q=>k a st' q.1 q.2
theorem ZmR {σ:Type}{st st':σ}{Q:PUnit→σ→Prop} (h:Q ⟨⟩ st'):wpS (model prog w) A E s (set st':StateT σ Sem PUnit) Q st:=by
 unfold wpS;rw [StateT.run_set];exact wpAny_pure ⟨rfl,h⟩
theorem ZfQ (sa:Nat):∀ (l:List Keyed) (j:Nat) (xs:Array Keyed),sa+j+l.length≤xs.size→
  ((l.zipIdx j).foldl (fun a (q:Keyed × Nat)=>a.setIfInBounds (sa+q.2) q.1) xs).toList=xs.toList.take (sa+j)++l++xs.toList.drop (sa+j+l.length)
 | [],j,xs,_=>by simp
 | p :: l,j,xs,h=>by
  rw [List.zipIdx_cons,Zov];have n:sa+j < xs.size:=by rw [ZnZ] at h; omega
  rw [ZfQ sa l (j+1) _ (by rw [Array.size_setIfInBounds]; rw [ZnZ] at h; omega)];dsimp only;rw [Zqc,ZnZ,List.drop_set_of_lt (by omega),show sa+(j+1)=sa+j+1 by omega,List.take_set,List.take_add_one,List.set_append_right _ _ (by rw [ZnM]; omega)];have z:sa+j - (xs.toList.take (sa+j)).length=0:=by rw [ZnM,Zn8]; omega
  rw [Znp (by rw [Zn8]; exact n),z];simp only [Option.toList_some,List.set_cons_zero,ZnO,Zq3,ZqM,Zq1];rw [show sa+j+1+l.length=sa+j+(l.length+1) by omega]
def Rn:List (Nat × Nat × Nat)→Nat→Nat→Prop
 | [],lo,hi=>lo=hi
 | (b,n,_) :: r,lo,hi=>b=lo∧0 < n∧Rn r (lo+n) hi
theorem Rn.merge:∀ {l:List (Nat × Nat × Nat)}{i lo hi b n p b' n' p':Nat},Rn l lo hi→l[i]?=some (b,n,p)→l[i+1]?=some (b',n',p')→
  b'=b+n∧0 < n∧0 < n'∧b'+n'≤hi∧Rn ((l.set i (b,n+n',p)).eraseIdx (i+1)) lo hi
 | [],i,_,_,_,_,_,_,_,_,_,e,_=>by simp at e
 | [_],i,_,_,_,_,_,_,_,_,_,_,e=>by simp at e
 | (b0,n0,p0) :: (b1,n1,p1) :: r,0,lo,hi,b,n,p,b',n',p',h,e,e'=>by
  simp only [List.getElem?_cons_zero,Option.some.injEq,Prod.mk.injEq,ZoN,List.getElem?_cons_succ] at e e';obtain ⟨rfl,rfl,rfl⟩:=e;obtain ⟨rfl,rfl,rfl⟩:=e';obtain ⟨rfl,h1,h2,h3,h4⟩:=h;have up:∀ {l:List (Nat × Nat × Nat)}{lo hi:Nat},Rn l lo hi→lo≤hi:=by
   intro l;induction l with
   | nil=>exact fun h=>Zpx h
   | cons q l ih=>
    intro lo hi h;have:=ih h.2.2;have:=h.2.1;omega
  refine ⟨h2,h1,h3,by have:=up h4; omega,?_⟩;show Rn (_ :: r) _ _;exact ⟨rfl,by omega,by rw [←Nat.add_assoc]; exact h4⟩
 | (b0,n0,p0) :: (b1,n1,p1) :: r,i+1,lo,hi,b,n,p,b',n',p',h,e,e'=>by
  obtain ⟨h1,h2,h3⟩:=h;obtain ⟨x1,x2,x3,x4,x5⟩:=Rn.merge (l:=(b1,n1,p1) :: r) h3 (by simpa using e) (by simpa using e');exact ⟨x1,x2,x3,x4,h1,h2,x5⟩
theorem ZiJ {xs m:Array Keyed}{b c e:Nat} (h1:b≤c) (h2:c≤e) (h3:e≤xs.size) (hp:m.Perm (xs.extract b c++xs.extract c e)):
  (m.toList.zipIdx.foldl (fun a (q:Keyed × Nat)=>a.setIfInBounds (b+q.2) q.1) xs).Perm xs:=by
 have hp:=Zob.mp hp;rw [Zn9,ZoB,ZoB,Zon,Zon] at hp;have hl:m.toList.length=e - b:=by
  rw [hp.length_eq];simp only [Znl,ZnM,ZnV,Zn8];omega
 rw [Zob,ZfQ b m.toList 0 xs (by rw [hl]; omega),hl,Nat.add_zero,show b+(e - b)=e by omega];refine ((hp.append_left _).append_right _).trans (Zou.of_eq ?_);rw [ZnO,ZnO,←ZaY _ h2,←ZaY _ h1,Zoo]
structure SR (a₀:Array Keyed) (hi:Nat) (st:SortSt):Prop extends SI a₀ st where
 runs:Rn (pendingOf st).toList 0 hi
 fits:hi≤a₀.size
theorem Zbz {a₀:Array Keyed}{hi i:Nat}{st:SortSt}{Q:Bool→SortSt→Prop} (h0:Ik a₀) (h:SR a₀ hi st) (hi':i+1 < (pendingOf st).size) (k:∀ st',SR a₀ hi st'→Q true st'):wpS (model prog w) A E s (mergeAt' i) Q st:=by
 have e1:=Zpj (ZoO hi');have e2:=Zpj hi';generalize (pendingOf st)[i]=u at e1;generalize (pendingOf st)[i+1]=v at e2;obtain ⟨sa,na,pa⟩:=u;obtain ⟨sb,nb,pb⟩:=v;refine wpS_bind (wpS_get ?_);have e1':(sortPriv% PySem.Builtin.SortState.pending) st=pendingOf st:=rfl;simp only [e1',e1,e2];have R:=h.runs.merge (by rw [ZnY]; exact e1) (by rw [ZnY]; exact e2);obtain ⟨rfl,n1,n2,n3,R⟩:=R;have fits:=h.fits;have sz:(arrOf st).size=a₀.size:=h.perm.size_eq;have hx:Ik (arrOf st):=h0.perm h.perm;refine wpS_bind (ZmR ?_);have J1:SR a₀ hi (SortSt.mk' (kindOf st) (arrOf st) (((pendingOf st).setIfInBounds i (sa,na+nb,pa)).eraseIdxIfInBounds (i+1)) (gallopOf st) (failedOf st))∧arrOf st=arrOf st:=⟨⟨⟨h.perm,h.kind,h.failed⟩,by
  show Rn (((pendingOf st).setIfInBounds i (sa,na+nb,pa)).eraseIdxIfInBounds (i+1)).toList 0 hi;rw [Array.toList_eraseIdxIfInBounds,Zqc];exact R,fits⟩,rfl⟩
 have hk:∀ st',(SR a₀ hi st'∧arrOf st'=arrOf st)→kindOf st'=oneType':=fun st' q=>q.1.kind;have hg:∀ st' g,(SR a₀ hi st'∧arrOf st'=arrOf st)→SR a₀ hi (SortSt.mk' (kindOf st') (arrOf st') (pendingOf st') g (failedOf st'))∧arrOf st'=arrOf st:=fun st' g q=>⟨⟨⟨q.1.perm,q.1.kind,q.1.failed⟩,q.1.runs,fits⟩,q.2⟩;refine wpS_bind ((ZJ (I:=fun st'=>SR a₀ hi st'∧arrOf st'=arrOf st) (arr:=arrOf st) (i:=sa+na) (by omega)).wp J1 fun p st1 J1 ep=>?_);refine wpS_bind ((Y1 hk hx (hx _ _ ep) (by omega) n1).wp J1 fun r st2 J2 q=>?_);obtain ⟨g,rfl,gl⟩:=q;dsimp only;split
 ·exact wpS_pure (k _ J2.1)
 next z=>
 have z:g < na:=by simp only [beq_iff_eq] at z; omega
 refine wpS_bind ((ZJ (I:=fun st'=>SR a₀ hi st'∧arrOf st'=arrOf st) (arr:=arrOf st) (i:=sa+g+(na - g) - 1) (by omega)).wp J2 fun p' st3 J3 ep'=>?_);refine wpS_bind ((Y1 hk hx (hx _ _ ep') (by omega) (by omega)).wp J3 fun r st4 J4 q=>?_);obtain ⟨g',rfl,gl'⟩:=q;dsimp only;split
 ·exact wpS_pure (k _ J4.1)
 next z'=>
 have z':0 < g':=by simp only [beq_iff_eq] at z'; omega
 have part:∀ b e,Ik ((arrOf st).extract b e):=fun b e i p q=>by
  rw [Array.getElem?_extract] at q;split at q
  ·exact hx _ _ q
  ·cases q
 have last:∀ (m:Array Keyed) (st5:SortSt),(SR a₀ hi st5∧arrOf st5=arrOf st)→m.Perm ((arrOf st).extract (sa+g) (sa+na)++(arrOf st).extract (sa+na) (sa+na+g'))→
   SR a₀ hi (SortSt.mk' (kindOf st5) (m.toList.zipIdx.foldl (fun a (q:Keyed × Nat)=>a.setIfInBounds (sa+g+q.2) q.1) (arrOf st5)) (pendingOf st5) (gallopOf st5) (failedOf st5)):=fun m st5 J5 hp=>
  ⟨⟨Zp3.trans (by rw [J5.2]; exact ZiJ (by omega) (by omega) (by omega) hp) h.perm,J5.1.kind,J5.1.failed⟩,J5.1.runs,fits⟩
 have nx:0 < ((arrOf st).extract (sa+g) (sa+na)).size:=by rw [Zro]; omega
 have ny:0 < ((arrOf st).extract (sa+na) (sa+na+g')).size:=by rw [Zro]; omega
 split
 ·refine wpS_bind ((ZgP hk hg (part _ _) (part _ _) nx ny).wp J4 fun m st5 J5 hp=>wpS_bind (wpS_modify (wpS_bind (wpS_get (wpS_pure ?_)))));have J6:=last m st5 J5 hp;have nf:(failedOf st5).isNone=true:=by rw [J5.1.failed]; rfl
  exact (show ∀ b,b=true→Q b _ from fun b e=>by subst e; exact k _ J6) _ nf
 ·refine wpS_bind ((ZgO hk hg (part _ _) (part _ _) nx ny).wp J4 fun m st5 J5 hp=>wpS_bind (wpS_modify (wpS_bind (wpS_get (wpS_pure ?_)))));have J6:=last m st5 J5 hp;have nf:(failedOf st5).isNone=true:=by rw [J5.1.failed]; rfl
  exact (show ∀ b,b=true→Q b _ from fun b e=>by subst e; exact k _ J6) _ nf
variable {a₀:Array Keyed}{hi:Nat}
theorem JA {i j:Nat} (h0:Ik a₀) (h1:i < a₀.size) (h2:j < a₀.size):Kp prog w A E s (SR a₀ hi) (ltAt' i j) fun r=>∃ b,r=some b:=by
 refine Zj ZgN fun st q=>?_;have sz:(arrOf st).size=a₀.size:=q.perm.size_eq;have hx:=h0.perm q.perm;exact Zj (ZJ (arr:=arrOf st) (by omega)) fun p e=>Zj (ZJ (arr:=arrOf st) (by omega)) fun p' e'=>ZfN (fun _ z=>z.kind) (hx _ _ e) (hx _ _ e')
theorem ZhI {f:SortSt→SortSt}{g:Array Keyed→Array Keyed} (hf:∀ st,f st=setArr st (g (arrOf st))) (hg:∀ xs,(g xs).Perm xs):Kp prog w A E s (SR a₀ hi) (modify f:StateT SortSt Sem PUnit) fun _=>True:=
 Zag fun st q=>by rw [hf]; exact ⟨⟨(hg _).trans q.perm,q.kind,q.failed⟩,q.runs,q.fits⟩
theorem YZ {i j:Nat}:Kp prog w A E s (SR a₀ hi) (reverseSlice' i j) fun _=>True:=ZhI (fun _=>rfl) fun xs=>mirror_perm xs i j _
theorem ZfO {i j:Nat}:Kp prog w A E s (SR a₀ hi) (moveDown' i j) fun _=>True:=ZhI (fun _=>rfl) fun xs=>bubble_perm xs i _
theorem ZiI {lo n ok:Nat} (h0:Ik a₀) (h1:lo+n≤a₀.size):Kp prog w A E s (SR a₀ hi) (binarySort' lo n ok) fun r=>r=true:=by
 refine Zj (R:=fun c=>c.1=none) (YM (fun _ c=>c.1=none) ?_ (fun _ h=>h) rfl) fun c hc=>?_
 ·rintro k ⟨r,c⟩ - hk rfl;refine Zj (R:=fun c=>c.1=none) (YM (fun _ c=>c.1=none∧c.2.2≤k) ?_ (fun _ h=>h.1) ⟨rfl,Znn _⟩) fun c hc=>?_
  ·rintro j ⟨r,l,u⟩ - hj ⟨rfl,hu⟩;dsimp only at hu;refine kp_ite (fun _=>Zh rfl) fun z=>?_;have z:l < u:=ZqP z;refine Zj (JA h0 (i:=lo+k) (j:=lo+(l+u) / 2) (by omega) (by omega)) fun r q=>?_;obtain ⟨b,rfl⟩:=q;exact kp_ite (fun _=>Zh ⟨rfl,by (try dsimp only); omega⟩) fun _=>Zh ⟨rfl,hu⟩
  ·obtain ⟨r,l,u⟩:=c;cases (show r=none from hc);exact Zj ZfO fun _ _=>Zh rfl
 ·obtain ⟨r,c⟩:=c;cases (show r=none from hc);exact Zh rfl
theorem ZfM {lo n:Nat} (h0:Ik a₀) (h1:lo+n≤a₀.size) (h2:1≤n):Kp prog w A E s (SR a₀ hi) (countRun' lo n) fun r=>∃ m,r=some m∧1≤m∧m≤n:=by
 refine Zj (R:=fun c=>c.1=none∧1≤c.2∧c.2≤n) (YM (fun i c=>c.1=none∧c.2=i) ?_ (fun c h=>⟨h.1,by rw [h.2]; omega,by rw [h.2]; omega⟩) ⟨rfl,rfl⟩) fun c hc=>?_
 ·rintro i ⟨r,m⟩ h3 h4 ⟨rfl,h5⟩;cases (show m=i from h5);refine Zj (JA h0 (by (try dsimp only); omega) (by (try dsimp only); omega)) fun r q=>?_;obtain ⟨b,rfl⟩:=q;exact kp_ite (fun _=>Zh ⟨rfl,h3,Zpy h4⟩) fun _=>Zh ⟨rfl,rfl⟩
 ·obtain ⟨r,m⟩:=c;obtain ⟨rfl,h3,h4⟩:=hc;dsimp only at h3 h4;refine kp_ite (fun _=>Zh ⟨_,rfl,h3,h4⟩) fun z=>?_;have z:m < n:=by
   try dsimp only at z
   simp only [beq_iff_eq] at z;omega
  refine kp_ite (fun _=>Zj (JA h0 (by (try dsimp only); omega) (by (try dsimp only); omega)) fun r q=>?_) fun _=>?_
  ·obtain ⟨b,rfl⟩:=q;refine kp_ite (fun _=>Zh ⟨_,rfl,h3,h4⟩) fun _=>Zj YZ fun _ _=>?_;refine Zj Za1 fun _ _=>?_;refine Zj (R:=fun c=>c.1=none∧1≤c.2.1∧c.2.1≤n) (YM (fun i c=>c.1=none∧c.2.1=i) ?_ (fun c h=>⟨h.1,by rw [h.2]; (try dsimp only); omega,by rw [h.2]; (try dsimp only); omega⟩) ⟨rfl,rfl⟩) fun c hc=>?_
   ·rintro i ⟨r,m',e⟩ h3' h4' ⟨rfl,h5⟩;cases (show m'=i from h5);try dsimp only at h3'
    refine Zj (JA h0 (by (try dsimp only); omega) (by (try dsimp only); omega)) fun r q=>?_;obtain ⟨b,rfl⟩:=q;refine kp_ite (fun _=>?_) fun _=>Zj (JA h0 (by (try dsimp only); omega) (by (try dsimp only); omega)) fun r q=>?_
    ·exact kp_ite (fun _=>Zj YZ fun _ _=>Zh ⟨rfl,rfl⟩) fun _=>Zh ⟨rfl,rfl⟩
    ·obtain ⟨b,rfl⟩:=q;exact kp_ite (fun _=>Zh ⟨rfl,by (try dsimp only); omega,by (try dsimp only); omega⟩) fun _=>Zh ⟨rfl,rfl⟩
   ·obtain ⟨r,m',e⟩:=c;obtain ⟨rfl,h3',h4'⟩:=hc;try dsimp only at h3' h4'
    refine kp_ite (fun _=>Zj YZ fun _ _=>?_) fun _=>?_;all_goals
     refine Zj YZ fun _ _=>?_;refine Zj (R:=fun c=>c.1=none∧1≤c.2∧c.2≤n) (YM (fun i c=>c.1=none∧c.2=i) ?_ (fun c h=>⟨h.1,by rw [h.2]; (try dsimp only); omega,by rw [h.2]; (try dsimp only); omega⟩) ⟨rfl,rfl⟩) fun c hc=>?_
     ·rintro i ⟨r,m2⟩ h3'' h4'' ⟨rfl,h5⟩;cases (show m2=i from h5);try dsimp only at h3''
      refine Zj (JA h0 (by (try dsimp only); omega) (by (try dsimp only); omega)) fun r q=>?_;obtain ⟨b,rfl⟩:=q;exact kp_ite (fun _=>Zh ⟨rfl,by (try dsimp only); omega,by (try dsimp only); omega⟩) fun _=>Zh ⟨rfl,rfl⟩
     ·obtain ⟨r,m2⟩:=c;obtain ⟨rfl,h3'',h4''⟩:=hc;exact Zh ⟨_,rfl,h3'',h4''⟩
  ·refine Zj Za1 fun _ _=>?_;refine Zj (R:=fun c=>c.1=none∧1≤c.2.1∧c.2.1≤n) (YM (fun i c=>c.1=none∧c.2.1=i) ?_ (fun c h=>⟨h.1,by rw [h.2]; (try dsimp only); omega,by rw [h.2]; (try dsimp only); omega⟩) ⟨rfl,rfl⟩) fun c hc=>?_
   ·rintro i ⟨r,m',e⟩ h3' h4' ⟨rfl,h5⟩;cases (show m'=i from h5);try dsimp only at h3'
    refine Zj (JA h0 (by (try dsimp only); omega) (by (try dsimp only); omega)) fun r q=>?_;obtain ⟨b,rfl⟩:=q;refine kp_ite (fun _=>?_) fun _=>Zj (JA h0 (by (try dsimp only); omega) (by (try dsimp only); omega)) fun r q=>?_
    ·exact kp_ite (fun _=>Zj YZ fun _ _=>Zh ⟨rfl,rfl⟩) fun _=>Zh ⟨rfl,rfl⟩
    ·obtain ⟨b,rfl⟩:=q;exact kp_ite (fun _=>Zh ⟨rfl,by (try dsimp only); omega,by (try dsimp only); omega⟩) fun _=>Zh ⟨rfl,rfl⟩
   ·obtain ⟨r,m',e⟩:=c;obtain ⟨rfl,h3',h4'⟩:=hc;try dsimp only at h3' h4'
    refine kp_ite (fun _=>Zj YZ fun _ _=>?_) fun _=>?_;all_goals
     refine Zj YZ fun _ _=>?_;refine Zj (R:=fun c=>c.1=none∧1≤c.2∧c.2≤n) (YM (fun i c=>c.1=none∧c.2=i) ?_ (fun c h=>⟨h.1,by rw [h.2]; (try dsimp only); omega,by rw [h.2]; (try dsimp only); omega⟩) ⟨rfl,rfl⟩) fun c hc=>?_
     ·rintro i ⟨r,m2⟩ h3'' h4'' ⟨rfl,h5⟩;cases (show m2=i from h5);try dsimp only at h3''
      refine Zj (JA h0 (by (try dsimp only); omega) (by (try dsimp only); omega)) fun r q=>?_;obtain ⟨b,rfl⟩:=q;exact kp_ite (fun _=>Zh ⟨rfl,by (try dsimp only); omega,by (try dsimp only); omega⟩) fun _=>Zh ⟨rfl,rfl⟩
     ·obtain ⟨r,m2⟩:=c;obtain ⟨rfl,h3'',h4''⟩:=hc;exact Zh ⟨_,rfl,h3'',h4''⟩
theorem Rn.push:∀ {l:List (Nat × Nat × Nat)}{lo hi n p:Nat},Rn l lo hi→0 < n→Rn (l++[(hi,n,p)]) lo (hi+n)
 | [],lo,hi,n,p,h,hn=>⟨(show lo=hi from h).symm,hn,by rw [show lo=hi from h]; rfl⟩
 | (b,m,q) :: r,lo,hi,n,p,h,hn=>⟨h.1,h.2.1,Rn.push h.2.2 hn⟩
theorem Rn.power {pw:Nat}:∀ {l:List (Nat × Nat × Nat)}{i lo hi:Nat},Rn l lo hi→Rn (l.modify i fun q=>(q.1,q.2.1,pw)) lo hi
 | [],_,_,_,h=>by simpa using h
 | (b,m,q) :: r,0,_,_,h=>⟨h.1,h.2.1,h.2.2⟩
 | (b,m,q) :: r,i+1,_,_,h=>⟨h.1,h.2.1,Rn.power h.2.2⟩
theorem Zcb {α σ:Type}{c:Prop} [Decidable c] {x y:StateT σ Sem α}{Q:α→σ→Prop}{st:σ} (h1:c→wpS (model prog w) A E s x Q st) (h2:¬ c→wpS (model prog w) A E s y Q st):wpS (model prog w) A E s (if c then x else y) Q st:=by
 split
 next h=>exact h1 h
 next h=>exact h2 h
theorem SR.push {st:SortSt}{n:Nat} (S:SR a₀ hi st) (h1:0 < n) (h2:hi+n≤a₀.size):SR a₀ (hi+n) (setPending st ((pendingOf st).push (hi,n,0))):=
 ⟨⟨S.perm,S.kind,S.failed⟩,by
  show Rn ((pendingOf st).push (hi,n,0)).toList 0 (hi+n);rw [Zpf];exact S.runs.push h1,h2⟩
theorem wp_sortRuns {st:SortSt}{Q:Unit→SortSt→Prop} (h0:Ik a₀) (hB:SI a₀ st) (hp:pendingOf st=#[]) (k:∀ st',SI a₀ st'→Q () st'):wpS (model prog w) A E s sortRuns' Q st:=by
 refine wpS_bind (wpS_get ?_);have sz:(arrOf st).size=a₀.size:=hB.perm.size_eq;refine wpS_bind (wpS_mono (wpS_forRange (I:=fun _ c st'=>c.1=none∧SR a₀ c.2 st') (Q:=fun c st'=>c.1=none∧SR a₀ c.2 st') ?step (fun _ _ h=>h) ⟨rfl,hB,by rw [hp]; rfl,ZnH _⟩) ?post)
 case step=>
  rintro x ⟨r,lo⟩ st1 - hx ⟨rfl,S⟩;dsimp only at S;have fits:=S.fits;refine Zcb (fun _=>wpS_pure ⟨rfl,S⟩) fun z=>?_;have z:lo < a₀.size:=by rw [←sz]; exact ZqP z
  refine wpS_bind ((ZfM h0 (lo:=lo) (n:=(arrOf st).size - lo) (by omega) (by omega)).wp S fun r st2 S2 q=>?_);obtain ⟨n,rfl,n1,n2⟩:=q;have n2:lo+n≤a₀.size:=by omega
  refine Zcb (fun small=>wpS_bind (wpS_lift (wpAny_rule ⟨rfl,?_⟩))) fun _=>?_
  ·refine wpS_bind ((ZiI h0 (lo:=lo) (n:=min ((arrOf st).size - lo) (minRun' (arrOf st).size (arrOf st).size 0)) (ok:=n) (by omega)).wp S2 fun r st3 S q=>?_);subst q;have n1:0 < min ((arrOf st).size - lo) (minRun' (arrOf st).size (arrOf st).size 0):=by
    have:n < minRun' (arrOf st).size (arrOf st).size 0:=small;omega
   have n2:lo+min ((arrOf st).size - lo) (minRun' (arrOf st).size (arrOf st).size 0)≤a₀.size:=by omega
   refine Zcb (fun e=>nomatch e) fun _=>?_;refine wpS_bind (wpS_get ?_);cases eb:(pendingOf st3).back? with
   | none=>
    simp only [show (sortPriv% PySem.Builtin.SortState.pending) st3=pendingOf st3 from rfl,eb];exact wpS_bind (wpS_modify (wpS_pure ⟨rfl,S.push n1 n2⟩))
   | some u=>
    obtain ⟨s1,m1,p1⟩:=u;simp only [show (sortPriv% PySem.Builtin.SortState.pending) st3=pendingOf st3 from rfl,eb];refine wpS_bind (wpS_mono (wpS_forRange (I:=fun _ c st'=>c.1=none∧SR a₀ lo st') (Q:=fun c st'=>c.1=none∧SR a₀ lo st') ?_ (fun _ _ h=>h) ⟨rfl,S⟩) ?_)
    ·rintro y ⟨r,c⟩ st4 - hy ⟨rfl,S4⟩;refine wpS_bind (wpS_get ?_);split
     next f1 f2 older e=>
      refine Zcb (fun _=>wpS_pure ⟨rfl,S4⟩) fun _=>?_;have big:1 < (pendingOf st4).size:=by
       split at e
       ·assumption
       ·cases e
      exact wpS_bind (Zbz h0 S4 (by show (pendingOf st4).size - 2+1 < (pendingOf st4).size; omega) fun st5 S5=>wpS_pure ⟨rfl,S5⟩)
     next=>exact wpS_pure ⟨rfl,S4⟩
    ·rintro ⟨r,c⟩ st4 ⟨rfl,S4⟩;refine wpS_bind (wpS_modify (wpS_bind (wpS_modify (wpS_pure ⟨rfl,?_⟩))));refine SR.push (st:=setPending st4 ((pendingOf st4).modify ((pendingOf st4).size - 1) fun q=>(q.1,q.2.1,_))) ⟨⟨S4.perm,S4.kind,S4.failed⟩,?_,S4.fits⟩ n1 n2;show Rn ((pendingOf st4).modify ((pendingOf st4).size - 1) _).toList 0 lo;rw [Zri];exact S4.runs.power
  ·have S:=S2;generalize st2=st3 at S;refine wpS_bind (wpS_get ?_);cases eb:(pendingOf st3).back? with
   | none=>
    simp only [show (sortPriv% PySem.Builtin.SortState.pending) st3=pendingOf st3 from rfl,eb];exact wpS_bind (wpS_modify (wpS_pure ⟨rfl,S.push n1 n2⟩))
   | some u=>
    obtain ⟨s1,m1,p1⟩:=u;simp only [show (sortPriv% PySem.Builtin.SortState.pending) st3=pendingOf st3 from rfl,eb];refine wpS_bind (wpS_mono (wpS_forRange (I:=fun _ c st'=>c.1=none∧SR a₀ lo st') (Q:=fun c st'=>c.1=none∧SR a₀ lo st') ?_ (fun _ _ h=>h) ⟨rfl,S⟩) ?_)
    ·rintro y ⟨r,c⟩ st4 - hy ⟨rfl,S4⟩;refine wpS_bind (wpS_get ?_);split
     next f1 f2 older e=>
      refine Zcb (fun _=>wpS_pure ⟨rfl,S4⟩) fun _=>?_;have big:1 < (pendingOf st4).size:=by
       split at e
       ·assumption
       ·cases e
      exact wpS_bind (Zbz h0 S4 (by show (pendingOf st4).size - 2+1 < (pendingOf st4).size; omega) fun st5 S5=>wpS_pure ⟨rfl,S5⟩)
     next=>exact wpS_pure ⟨rfl,S4⟩
    ·rintro ⟨r,c⟩ st4 ⟨rfl,S4⟩;refine wpS_bind (wpS_modify (wpS_bind (wpS_modify (wpS_pure ⟨rfl,?_⟩))));refine SR.push (st:=setPending st4 ((pendingOf st4).modify ((pendingOf st4).size - 1) fun q=>(q.1,q.2.1,_))) ⟨⟨S4.perm,S4.kind,S4.failed⟩,?_,S4.fits⟩ n1 n2;show Rn ((pendingOf st4).modify ((pendingOf st4).size - 1) _).toList 0 lo;rw [Zri];exact S4.runs.power
 case post=>
  rintro ⟨r,lo⟩ st1 ⟨rfl,S⟩;refine wpS_bind (wpS_mono (wpS_forRange (I:=fun _ c st'=>c.1=none∧SR a₀ lo st') (Q:=fun c st'=>c.1=none∧SR a₀ lo st') ?_ (fun _ _ h=>h) ⟨rfl,S⟩) ?_)
  ·rintro y ⟨r,c⟩ st4 - hy ⟨rfl,S4⟩;refine wpS_bind (wpS_get (Zcb (fun _=>wpS_pure ⟨rfl,S4⟩) fun z=>?_));have z:1 < (pendingOf st4).size:=ZqP z;refine wpS_bind (Zbz h0 S4 ?_ fun st5 S5=>wpS_pure ⟨rfl,S5⟩);have at_:∀ (c:Prop) [Decidable c],(if c then (pendingOf st4).size - 2 - 1 else (pendingOf st4).size - 2)+1 < (pendingOf st4).size:=by
    intro c _;split <;> omega
   exact at_ _
  ·rintro ⟨r,c⟩ st4 ⟨rfl,S4⟩;exact wpS_pure (k _ S4.toSI)
end
end Ts
namespace L2
open PySem PySem.Spec PyProof.Rows
theorem Zm2 {vs:List Value}{ns:List Int} (h:IntsAre vs ns):Ts.Ik (pairsOf vs):=fun i p e=>by
 have m:p∈(pairsOf vs).toList:=ZnD (by rw [ZnY]; exact e);rw [pairsOf_toList] at m;exact h.all _ (mem_zip_self m).2
theorem Zkm {vs:List Value}{ns:List Int} (h:IntsAre vs ns) {xs:Array Keyed} (hp:xs.Perm (pairsOf vs)):∃ ms,IntsAre (xs.map (·.2)).toList ms∧ms.Perm ns:=by
 have hl:xs.toList.Perm (vs.zip vs):=by rw [←pairsOf_toList]; exact Zob.mp hp
 have same:(xs.map (·.2)).toList.Perm vs:=by
  rw [ZqI];refine (hl.map _).trans (Zou.of_eq ?_);exact ZqN (Znn _)
 refine ⟨_,intsAre_map _ fun v hv=>h.all v (same.mem_iff.mp hv),?_⟩;have:=same.map numOf;rwa [h.nums] at this
section
variable {prog:Program}{w:World}{A:Around}{E:Value→Shared→Prop}{s:Shared}
theorem Zgj {a:Addr}{vs:List Value}{ns:List Int}{n:Nat}{P:Fin→Shared→Prop} (ho:s.heap.get? a=some (seqObj "list" vs.toArray n)) (hI:IntsAre vs ns) (hz:vs.length≤sizeLine)
  (h:∀ (out:Array Value) (ms:List Int),IntsAre out.toList ms→ms.Perm ns→P (.done (.ret .none)) { s with heap:=sortedHeap s.heap a vs out }):wpAny (model prog w) A (Builtin.«list.sort» ⟨[.ref a],[]⟩) P E s:=by
 rw [list_sort_plain];have o1:=get?_update_seq ho fun _=>#[];have lt:a < s.heap.objs.size:=Znx ho;generalize ec:(if ((fun _:Array Value=>(#[]:Array Value)) vs.toArray).size == vs.toArray.size then n else n+1)=c at o1;have o2:(((s.heap.update a (Obj.mapSeq fun _=>#[])).push (seqObj "tuple" vs.toArray 0)).push (seqObj "list" #[] 0)).get? a=some (seqObj "list" #[] c):=Znk _ (Znk _ o1);refine wpAny_bind (listItems_at ho rfl (wpAny_bind (listUpdate_at ho rfl (wpAny_bind (seqEpoch_at o1 rfl (wpAny_bind (wpAny_newTuple (wpAny_bind (wpAny_newList (wpAny_holding ?_)))))) ) (by simpa using hz))));have sz:vs.toArray.size=vs.length:=Zny;have fin:∀ st':SortSt,(arrOf st').Perm (pairsOf vs)→P (.done (.ret .none)) { s with heap:=sortedHeap s.heap a vs ((arrOf st').map (·.2)) }:=fun st' hp=>by
  obtain ⟨ms,m1,m2⟩:=Zkm hI hp;exact h _ ms m1 m2
 have fits:∀ st':SortSt,(arrOf st').Perm (pairsOf vs)→((arrOf st').map (·.2)).size≤sizeLine+1:=fun st' hp=>by
  rw [Array.size_map,hp.size_eq,pairsOf_size];omega
 by_cases few:vs.toArray.size < 2
 ·simp only [if_pos few,StateT.run_pure];refine wpAny_bind (wpAny_pure (wpAny_bind (wpAny_pure (wpAny_bind (seqEpoch_at o2 rfl (wpAny_bind (listUpdate_at o2 rfl ?_ (ZnH _) (fits (SortSt.mk' general' (pairsOf vs) #[] 7 none) (Zp3.refl _)))))))));simp only [bne_self_eq_false,ZoI,if_false];exact wpAny_pure (fin (SortSt.mk' general' (pairsOf vs) #[] 7 none) (Zp3.refl _))
 ·simp only [if_neg few];have kk:keyKind' vs.toArray=pure oneType':=by
   match vs,few,hI with
   | [],few,_=>exact absurd (show (0:Nat) < 2 by decide) few
   | [_],few,_=>exact absurd (show (1:Nat) < 2 by decide) few
   | _ :: _ :: _,_,hI=>exact keyKind_ints hI
  rw [kk];refine wpAny_bind (wpAny_pure (wpAny_bind (wpAny_mono (Ts.wp_sortRuns (a₀:=pairsOf vs) (st:=SortSt.mk' oneType' (pairsOf vs) #[] 7 none) (Q:=fun _ st'=>(arrOf st').Perm (pairsOf vs)∧failedOf st'=none) (Zm2 hI) ⟨Zp3.refl _,rfl,rfl⟩ rfl fun st' q=>⟨q.perm,q.failed⟩) ?_ fun _ _ e=>e)));rintro ⟨⟨⟩,st'⟩ s' ⟨rfl,hp,hf⟩;refine wpAny_bind (seqEpoch_at o2 rfl (wpAny_bind (listUpdate_at o2 rfl ?_ (ZnH _) (fits st' hp))));simp only [show (sortPriv% PySem.Builtin.SortState.failed) st'=none from hf,bne_self_eq_false,ZoI,if_false];exact wpAny_pure (fin st' hp)
abbrev Jx:Obj:={ cls:=.type "list",data:=.seq #[] }
abbrev ZbZ (a:Addr) (n ep:Nat):Obj:={ cls:=.type "dict_keyiterator",data:=.fields #[.ref a,.int 0 0,.int n 0,.int ep 0] }
theorem ZlO {l:Addr}{Q:Unit→Shared→Prop} (ho:s.heap.get? l=some Jx) (h:∀ h' c,h'.get? l=some { cls:=.type "list",data:=.seq #[] c }→(∀ b o,b≠l→s.heap.get? b=some o→h'.get? b=some o)→Q () { s with heap:=h' }):
  wpAny (model prog w) A (Builtin.List.listTouch (.ref l)) Q E s:=by
 have o1:=Zoz (Obj.mapSeq (·.push Value.none)) ho rfl;refine wpAny_bind (listUpdate_at ho rfl (listUpdate_at o1 rfl (h _ _ (Zoz (Obj.mapSeq (·.pop)) o1 rfl) fun b o hb z=>?_)));rw [Zn7 _ _ (Ne.symm hb),Zn7 _ _ (Ne.symm hb)];exact z
theorem Zit {a:Addr}{Q:Bool→Shared→Prop} (hT:s.TypeIs (.ref a) "dict") (h:Q false s):wpAny (model prog w) A (Builtin.List.listLengthHint (.ref a)) Q E s:=by
 have self:isSubtype (.type "dict") (.type "dict")=pure true:=by rw [isSubtype_type]; kernel_rfl
 refine wpAny_bind (wpAny_specialOf hT ZpS.lookup ?_);dsimp only;rw [show splitId "dict.__len__"=some ("dict","__len__") by decide +kernel];refine wpAny_bind (wpAny_isInstance hT self ?_);rw [if_neg (by simp),if_pos]
 ·exact wpAny_bind (wpAny_typeOf hT (wpAny_pure h))
 ·decide +kernel
theorem ZeG {a:Addr}{kvs:List (Key × Value)}{ep:Nat}{Q:List Value→Shared→Prop} (hh:A.handled=none) (hs:(a == sysModules)=false) (D:s.heap.DictAt (Zy prog w) a kvs ep) (hn:kvs.length≤sizeLine)
  (h:∀ (h':Heap) (tk:Nat) (us:List Value),us.length=kvs.length→(∀ (i:Nat) u,us[i]?=some u→∃ k x,kvs[i]?=some (k,x)∧(Zy prog w).is k u=true)→(∀ b o,s.heap.get? b=some o→h'.get? b=some o)→s.heap.objs.size≤h'.objs.size→
   s.toks≤tk→Q us { s with heap:=h',toks:=tk }):wpAny (model prog w) A (collect (.ref a)) Q E s:=by
 have la:a < s.heap.objs.size:=let ⟨_,_,e,_⟩:=D; Znx e;generalize hl:s.heap.objs.size=l at la;have D1:(s.heap.push Jx).DictAt (Zy prog w) a kvs ep:=D.at' fun o e=>Znk _ e;have D2:((s.heap.push Jx).push (ZbZ a kvs.length ep)).DictAt (Zy prog w) a kvs ep:=D1.at' fun o e=>Znk _ e;have sz:(s.heap.push Jx).objs.size=l+1:=by rw [ZoV,hl]
 have oL:((s.heap.push Jx).push (ZbZ a kvs.length ep)).get? l=some Jx:=by rw [←hl]; exact Znk _ (Znu _ rfl)
 have oI:((s.heap.push Jx).push (ZbZ a kvs.length ep)).get? (l+1)=some (ZbZ a kvs.length ep):=by rw [←sz]; exact Znu _ rfl
 refine wpAny_bind (wpAny_runValue (codeAny_builtin Zp8 ?_));rw [Around.under_plainId Zp9];refine wpAny_bind (m:=newList []) (wpAny_newObj_type (wpAny_pure ⟨plainId_quiet Zo3 _,codeAny_builtin ZqF ?_⟩));rw [Around.under_plainId Zo3,hl];show wpAny _ A.in1 (Builtin.List.listExtendWith (.ref l) (.ref a) (.ref l)) _ _ { s with heap:=s.heap.push Jx };refine wpAny_bind (wpAny_typeOf (s:={ s with heap:=s.heap.push Jx }) D1.dictOf.typeIs ?_);rw [if_neg (by rw [show Builtin.List.listSameRef (.ref l) (.ref a)=false from beq_false_of_ne (Zpz la)]; decide)];refine wpAny_bind (wpAny_pyIter_dict hs D1 (wpAny_bind (wpAny_holding (Zit (s:={ s with heap:=(s.heap.push Jx).push (ZbZ a kvs.length ep) }) D2.dictOf.typeIs ?_))));rw [if_pos (by decide +kernel)];refine wpAny_bind (wpAny_rule (wpAny_bind (ZlO (s:={ s with heap:=(s.heap.push Jx).push (ZbZ a kvs.length ep) }) oL fun h1 c o1 k1=>?_)));have ne:a≠l+1:=ZnK (ZoP la);have W:=(Walks.dictKeys (prog:=prog) (w:=w) (knd:=Zy prog w) (A:=A.in1) (by simpa using hh) (l+1) a ne kvs ep).toS;have st0:h1.IsKeyIter (l+1) a 0 kvs.length ep∧h1.DictAt (Zy prog w) a kvs ep:=⟨⟨_,k1 _ _ (Nat.succ_ne_self l) oI,rfl,rfl⟩,D2.at' fun o e=>k1 a o (ZnK la) e⟩;show wpAny _ A.in1 (again (.builtin "list.extend.loop" ⟨[.ref l,.ref (s.heap.push Jx).objs.size,.ref l],[]⟩)) _ _ _;rw [sz];refine wpAny_pure ⟨plainId_quiet PySem.F.plain_extend_loop _,codeAny_extend_loopS W hn l (by simp [Zpz la]) (.ref l) kvs.length 0 _ #[] c rfl (ZnH _) st0 o1 (ItemsOf.nil _) fun s2 acc c2 mv o2 all=>?_⟩;refine wpAny_bind (wpAny_load o2 (wpAny_pure ?_));have e2:s2={ s with heap:=s2.heap,toks:=s2.toks }:=by cases s2; cases mv.gens; cases mv.drawn; cases mv.os; rfl
 have keep:∀ b o,s.heap.get? b=some o→s2.heap.get? b=some o:=fun b o e=>by
  have lb:=Znx e;have n1:b≠l:=by rw [←hl]; exact ZnK lb
  have n2:b≠l+1:=by rw [←hl]; exact ZnK (ZoP lb)
  exact mv.heap b o (by simp [n1,n2]) (k1 b o n1 (Znk _ (Znk _ e)))
 show Q acc.toList s2;rw [e2];refine h _ _ _ (by rw [Zn8]; exact all.1) (fun i u e=>all.2 i u (by rw [←ZnY]; exact e)) keep ?_ mv.toks;rw [hl];exact Zpy (Znx o2)
end
theorem ZiC {us:List Value}{ns:List Int} (hl:us.length=ns.length) (k:∀ (i:Nat) u n,us[i]?=some u→ns[i]?=some n→∃ t,u=.int n t):IntsAre us ns:=by
 induction us generalizing ns with
 | nil=>
  have e:ns=[]:=ZnU hl.symm;subst e;exact .nil
 | cons u us ih=>
  cases ns with
  | nil=>cases hl
  | cons n ns=>
   obtain ⟨t,rfl⟩:=k 0 u n rfl rfl;exact .cons n t (ih (Nat.succ.inj hl) fun i v m e1 e2=>k (i+1) v m e1 e2)
def ZmA:List V→Hp→VK→Prop:=fun xs H Q=>∃ (a:Addr) (kvs:List (Key × V)) (ns:List Int),xs=[.ref a]∧Rd H a (.dK kvs)∧kvs.map (·.1)=ns.map Sum.inl∧
 ∀ (l:Addr) (ms:List Int),H l=none→ms.Perm ns→Q (.ref l) (upd H l (.lst (ms.map V.int)))
theorem ZbX {X:Cx} (hc:X.calm=true):YR X (.builtin "sorted") ZmA:=by
 intro pins s σ H xs us Q I r h;obtain ⟨a,kvs,ns,rfl,rd,hk,k⟩:=h;obtain ⟨u,rfl,rx⟩:=YJ r;cases rx;have ⟨hz,hs,vs,kv,ep,D⟩:kvs.length≤sizeLine∧(a == sysModules)=false∧∃ vs,KV kvs vs∧∃ ep,s.heap.DictAt (Zy X.prog X.w) a vs ep:=by
  rcases rd with h | ⟨o,h⟩
  ·obtain ⟨hz,hs,vs,kv,ob,es,ep,e,ex,d,q⟩:=I.hok a _ h;exact ⟨hz,hs,vs,kv,ep,ob,es,e,ex,d,q⟩
  ·obtain ⟨_,hz,hs,vs,kv,ob,es,ep,e,ex,d,q⟩:=I.hok a _ h;exact ⟨hz,hs,vs,kv,ep,ob,es,e,ex,d,q⟩
 have hl:kvs.length=vs.length:=Paired.length kv;have hn:kvs.length=ns.length:=by have:=congrArg Zoe hk; simpa using this
 refine Calls.call_function_entry kind_sorted plain_sorted entry_sorted (args_sorted1 _) (wpAny_bind (wpAny_pure ?_));refine wpAny_bind (ZeG (by simpa using I.ok.hd hc) hs D (hl ▸ hz) fun h1 tk vals e1 e2 keep le lt=>?_);have inz:IntsAre vals ns:=ZiC (by omega) fun i u n q1 q2=>by
  obtain ⟨key,x,q3,q4⟩:=e2 i u q1;have q5:(kvs.map (·.1))[i]?=some (.inl n):=by rw [hk,Znq,q2]; rfl
  rw [Znq] at q5;obtain ⟨p,q6,q7⟩:=Option.map_eq_some_iff.mp q5;obtain ⟨y,q8,_⟩:=KV.get kv q6;rw [q3] at q8;obtain ⟨rfl,_⟩:=Prod.mk.inj (Option.some.inj q8);have rk:=ZhH (X:=X) q4;rw [q7] at rk;exact rk
 have vz:vals.length≤sizeLine:=by omega
 have oL:(h1.push (seqObj "list" vals.toArray 0)).get? h1.objs.size=some (seqObj "list" vals.toArray 0):=Znu _ rfl;refine wpAny_bind (wpAny_newList (wpAny_bind (wpAny_holding ?_)) vz);refine wpAny_call_entry (s:={ s with heap:=h1.push (seqObj "list" vals.toArray 0),toks:=tk }) slot_list_sort ⟨_,oL,rfl⟩ entry_list_sort (Zgj oL inz vz fun out ms i1 i2=>⟨_,rfl,?_⟩) (args_list_sort _);obtain ⟨c,oS⟩:=sortedHeap_at (out:=out) oL;have hfr:H h1.objs.size=none:=I.hok.fresh le;refine wpAny_pure ⟨_,rfl,.ref h1.objs.size,_,I.laid (t':=tk) (o:=.lst (ms.map V.int)) (fun b o z=>?_) le ⟨?_,out.toList,c,ZaZ i1,by simpa using oS⟩,rfl,k _ ms hfr i2⟩
 ·have z1:=keep b o z;have lb:=Znx z1;refine (sortedHeap_old (ZnK lb) ?_).trans (Znk _ z1);rw [size_push'];exact ZoP lb
 ·rw [Zni,i2.length_eq,←hn];exact hz
end L2
namespace L2
open PySem PySem.Spec PyProof.Rows Tw
section
variable {X:Cx}
theorem ZdP (hc:X.calm=true):YR X (.type "list") (fun xs H Q=>∃ (p:Addr) (n:Nat),xs=[.ref p]∧H p=some (.rng 0 n)∧n≤100000∧∀ l,H l=none→Q (.ref l) (upd H l (.lst ((ZnB n).map fun (i:Nat)=>V.int (i:Int))))):=by
 intro pins s σ H xs us Q I r h;obtain ⟨p,n,rfl,hp,hn,k⟩:=h;obtain ⟨u,rfl,rx⟩:=YJ r;cases rx;obtain ⟨t1,t2,t3,e⟩:=I.hok p _ hp;refine call_list_range (n:=n) (I.ok.hd hc) e (Zep (by omega)) (Zgi n) (by omega) fun h' tk acc c kp e' it=>?_;have fr:H s.heap.objs.size=none:=I.hok.fresh (Znn _);have it':=Zc4 (us:=acc.toList) (n:=n) (by rw [Zn8]; exact it.1) fun i x z=>by
  obtain ⟨t,q⟩:=it.2 i x (by rw [←ZnY]; exact z);exact ⟨t,by rw [q]; simp⟩
 refine ⟨.ref s.heap.objs.size,_,I.laid (o:=.lst ((ZnB n).map fun (i:Nat)=>V.int (i:Int))) kp (Znn _) ⟨?_,acc.toList,c,Zam it',by simpa using e'⟩,rfl,k _ fr⟩;rw [Zni,Zod,sizeLine_eq];omega
def ZmB (K:Znj):List V→Hp→VK→Prop:=fun xs H Q=>∃ (p:Addr) (ns:List Int),xs=[.ref p]∧SqL K H p (ns.map V.int)∧∀ (l:Addr) (ms:List Int),H l=none→ms.Perm ns→(ns.length < 64→ms.Pairwise (·≤·))→Q (.ref l) (upd H l (.lst (ms.map V.int)))
theorem Zad:YR X (.builtin "sorted") (ZmB X.K):=by
 intro pins s σ H xs us Q I r h;obtain ⟨p,ns,rfl,hp,k⟩:=h;by_cases h64:ns.length < 64
 ·exact ZaB pins s σ H _ us Q I r ⟨p,ns,rfl,hp,h64,fun l ms h1 h2 h3=>k l ms h1 h2 fun _=>h3⟩
 ·obtain ⟨u,rfl,rx⟩:=YJ r;cases rx;obtain ⟨its,r',pl,hz⟩:=I.list hp;have hl:its.length=ns.length:=by rw [←r'.length]; simp
  have iz:its.length≤sizeLine:=by rw [hl]; simpa using hz
  refine Calls.call_function_entry kind_sorted plain_sorted entry_sorted (args_sorted1 _) (wpAny_bind (wpAny_pure (wpAny_bind (collect_list pl.isList ?_ (by simpa using iz)))));have hsz:((s.heap.push (seqObj "list" #[] 0)).update s.heap.objs.size (Obj.mapSeq (·++its.toArray))).objs.size=s.heap.objs.size+1:=by rw [ZqL,size_push']
  generalize eh:(s.heap.push (seqObj "list" #[] 0)).update s.heap.objs.size (Obj.mapSeq (·++its.toArray))=h1 at hsz;have keep:∀ b o,s.heap.get? b=some o→h1.get? b=some o:=fun b o z=>by
   rw [←eh];exact (Zn7 _ _ (Zpz (Znx z))).trans (Znk _ z)
  have oL:(h1.push (seqObj "list" its.toArray 0)).get? h1.objs.size=some (seqObj "list" its.toArray 0):=Znu _ rfl;refine wpAny_bind (wpAny_newList (wpAny_bind (wpAny_holding ?_)) (by simpa using iz));refine wpAny_call_entry (s:={ s with heap:=h1.push (seqObj "list" its.toArray 0) }) slot_list_sort ⟨_,oL,rfl⟩ entry_list_sort (Zgj oL (Yp r') iz fun out ms i1 i2=>⟨_,rfl,?_⟩) (args_list_sort _);obtain ⟨c,oS⟩:=sortedHeap_at (out:=out) oL;have le:s.heap.objs.size≤h1.objs.size:=by omega
  have hfr:H h1.objs.size=none:=I.hok.fresh le;refine wpAny_pure ⟨_,rfl,.ref h1.objs.size,_,I.laid (t':=s.toks) (o:=.lst (ms.map V.int)) (fun b o z=>?_) le ⟨?_,out.toList,c,ZaZ i1,by simpa using oS⟩,rfl,k _ ms hfr i2 fun z=>absurd z h64⟩
  ·have z1:=keep b o z;have lb:=Znx z1;refine (sortedHeap_old (ZnK lb) ?_).trans (Znk _ z1);rw [size_push'];exact ZoP lb
  ·rw [Zni,i2.length_eq];simpa using hz
end
end L2
namespace L2
open PySem PySem.Spec PyProof.Rows Tw
seal PSs PS PE PT PW PA PG PGs PI PC
structure ZbA (ls:W) (n:Nat) (x:W):Prop where
 ne:x≠[]
 az_:∀ z∈x,z∈ls
 len:x.length≤n
theorem ZbA.ok {ls:W}{n:Nat}{x:W} (hl:∀ z∈ls,z∈az) (h:ZbA ls n x):YN az (sv x)=true:=by
 show (decide (x≠[]) && x.all fun z=>az.contains z)=true;rw [decide_eq_true h.ne,Zo0,Zn1];intro z hz;simpa using hl z (h.az_ z hz)
theorem ZbA.mono {ls:W}{n m:Nat}{x:W} (h:ZbA ls n x) (hm:n≤m):ZbA ls m x:=⟨h.ne,h.az_,by have:=h.len; omega⟩
theorem Ziu {H:Hp}{a:Addr}{ls:W}{ws:List W} (h:H a=some (.lst (ws.map sv))) (hl:ws.length≤64) (hz:∀ z∈ls,z∈az) (hg:∀ x∈ws,ZbA ls 65 x):ZW H a ws:=
 ⟨h,fun x hx=>(hg x hx).ok hz,by omega,fun x hx=>by have:=(hg x hx).len; omega⟩
theorem ZhU (n c:Nat):(ZnL n [c]).flatten.length=n:=by
 induction n with
 | zero=>rfl
 | succ n ih=>rw [Zom,Zos,Znl,ih,ZnT]; omega
theorem ZhV (c:Nat):(⟨#[c]⟩:Str)=st [c]:=rfl
theorem Jm {i k:Int} (hk:0 < k):∃ n:Nat,i % k=(n:Int)∧(n:Int) < k:=⟨(i % k).toNat,by have:=ZpB i (by omega:k≠0); omega,by have:=ZpA i hk; have:=ZpB i (by omega:k≠0); omega⟩
theorem Zdh {α:Type}{xs:List α}{i k:Int} (hk:0 < k) (hl:k≤xs.length):∃ v,atI xs (i % k)=some v∧v∈xs:=by
 obtain ⟨n,e,l⟩:=Jm (i:=i) hk;have hn:n < xs.length:=by omega
 exact ⟨xs[n],by rw [e]; exact ZE (by simp [hn]),by simp⟩
theorem ZjP {ns:List Int}{i:Nat}{y:V} (h:(ns.map V.int)[i]?=some y):∃ z,y=V.int z:=by
 rw [Znq] at h;cases e:ns[i]? with
 | none=>rw [e] at h; cases h
 | some z=>rw [e] at h; exact ⟨z,(Option.some.inj h).symm⟩
theorem Zea (ns:List Int) (lo hi:Option Int):∃ ms:List Int,cutV (ns.map V.int) lo hi=ms.map V.int∧ms.length≤ns.length:=by
 refine ⟨JU ns lo hi,?_,JW ns lo hi⟩;rw [Zio];unfold JU;rw [Zni,ZqB,List.map_drop]
theorem sE:Str.ofString ""=st []:=by decide +kernel
theorem ZgS:∀ v∈[V.str "abc",V.str "dmz",V.str "ahy"],∃ ls:W,v=sv ls∧ls.length=3∧∀ z∈ls,z∈az:=by
 intro v hv;simp only [Znz,ZnX,or_false] at hv;rcases hv with rfl | rfl | rfl
 ·exact ⟨[97,98,99],by rw [show (Str.ofString "abc")=st [97,98,99] by decide +kernel],rfl,by decide⟩
 ·exact ⟨[100,109,122],by rw [show (Str.ofString "dmz")=st [100,109,122] by decide +kernel],rfl,by decide⟩
 ·exact ⟨[97,104,121],by rw [show (Str.ofString "ahy")=st [97,104,121] by decide +kernel],rfl,by decide⟩
theorem Zjq:∀ v∈[V.int 2,V.int 3,V.int 2,V.int 3],∃ k:Int,v=.int k∧0 < k∧k≤3:=by
 intro v hv;simp only [Znz,ZnX,or_false] at hv;rcases hv with rfl | rfl | rfl | rfl <;> exact ⟨_,rfl,by decide,by decide⟩
def Zhw (ns:List Int) (i c:Nat) (wd:W):Prop:=(∀ j z,j+1 < i→ns[j]?=some z→z / 3 % 3≠0→c+1≤i)∧∀ j z,j+1=i→ns[j]?=some z→z / 3 % 3≠0→wd≠[]
theorem Zhw.step {ns:List Int}{i n:Nat}{wd wd':W}{z:Int} (h:Zhw ns i (n+min 1 wd.length) wd) (hn:n+min 1 wd.length≤i) (hz:ns[i]?=some z) (h':z / 3 % 3≠0→wd'≠[]):Zhw ns (i+1) (n+1) wd':=by
 refine ⟨fun j y hj hy hy'=>?_,fun j y hj hy hy'=>h' ?_⟩
 ·by_cases e:j+1=i
  ·have:=Zo1.mpr (h.2 j y e hy hy');omega
  ·have:=h.1 j y (by omega) hy hy';omega
 ·have e:j=i:=by omega
  rw [e,hz] at hy;cases hy;exact hy'
theorem ZmT (xs:List V):(cutV xs none (some 12)).length≤12:=by
 have e:HT.sIx xs.length xs.length (some ((12:Nat):Int))=min 12 xs.length:=HT.sIx_nat ..;have e':HT.sIx xs.length xs.length (some 12)=min 12 xs.length:=e;unfold cutV;rw [ZnM,e'];exact Zog (Zq5 _ _) (Zog (Nat.sub_le _ _) (Zq5 _ _))
theorem ZjT {K:Znj}{D:Zab}{a p2:Addr}{kd:Int}{ls wd:W}{c:Option V}{ws:List W}{H H1:Hp} (hp:H1 p2=some (.lst (ws.map sv))) (xH:Ext H H1) (hH2:H p2=none) (hwl:ws.length+min 1 wd.length≤63) (hdl:wd.length≤63)
  (hz:∀ z∈wd,z∈ls) (hg:∀ x∈ws,ZbA ls 63 x)
  (rest:∀ (ws':List W) (H3:Hp),Ext H H3→H3 p2=some (.lst (ws'.map sv))→ws'.length≤ws.length+min 1 wd.length→(∀ x∈ws',ZbA ls 63 x)→D.nx [some (.ref a),some (.int kd),some (sv ls),some (.ref p2),some (sv wd),c] H3):
  if (!decide (sv wd=V.str (Str.ofString "")))=true then ZkL (tBM K "list" Zfc (Zbc 3) (Je (Zbc 4) Zbw)) D [some (.ref a),some (.int kd),some (sv ls),some (.ref p2),some (sv wd),c] H1
   else Zl2 D [some (.ref a),some (.int kd),some (sv ls),some (.ref p2),some (sv wd),c] H1:=by
 by_cases e:wd=[]
 ·subst e;refine Zx (by rw [sE]; decide) (rest ws H1 xH hp (by omega) hg)
 ·refine ZI (by rw [sE,Zn3,decide_eq_false_iff_not]; intro z; exact e (st_inj (V.str.inj z))) ?_;refine ⟨_,rfl,.inl ⟨rfl,_,SqL.of hp⟩,_,rfl,p2,_,_,rfl,rfl,hp,?_,rest (ws++[wd]) _ (xH.over hH2) (by rw [Za]; simp) ?_ fun x hx=>?_⟩
  ·rw [Zni];exact ZoJ (show ws.length≤63 by omega) (by decide)
  ·have:0 < wd.length:=Zo1.mpr e;rw [Znl,ZnT]; omega
  ·rcases Zns.mp hx with h | h
   ·exact hg x h
   ·rw [Znt] at h; subst h;exact ⟨e,hz,hdl⟩
section
variable {P:Program}{w:World}{K:Znj}{mg:Str→Option Value}{base:Heap}
def Zet (K:Znj):Sp:=fun vs H Q _=>∃ (a:Addr) (ns:List Int),vs=[.ref a]∧SqL K H a (ns.map V.int)∧ns.length≤63∧∀ (p:Addr) (ws:List W) (ls:W) (H':Hp),H p=none→Ext H H'→H' p=some (.lst (ws.map sv))→ws.length≤63→ls.length=3→(∀ z∈ls,z∈az)→(∀ x∈ws,ZbA ls 65 x)→(ws.length=63→∀ j z,j < 62→ns[j]?=some z→z / 3 % 3=0)→Q (.ref p) H'
theorem Zf7 (D:Def K mg "_law_code" "_law_code" Pl.s_law_code ["_law_script"]) (B:Yo mg):Cal P w K mg base CX0 1 "_law_code" ["_law_script"] (Zet K):=by
 have sc:Zn ["_law_script","_law_kind","_law_letters","_law_words","_law_word","_law_cell"] ["_law_script"] (Zf Pl.s_law_code):=scO;refine D.cal fun f fd F=>F.ok sc (fun vs H Q E h=>?_) (fun cdv A outer s H vs Q E hr h=>?_)
 ·obtain ⟨_,_,rfl,_⟩:=h;rfl
 ·obtain ⟨a,ns,rfl,hS,hlen,k⟩:=h;have nd1:(["_law_cell","_law_letters"]:List Str).Nodup:=by decide +kernel
  have nd2:(["_law_word","_law_letters"]:List Str).Nodup:=by decide +kernel
  refine ⟨_,Zb (Zl (i:=1) sc.nd rfl (Or.inl rfl) (Zo Yj (Zg (Y7 rfl) (by rfl) B.sum Boot.«sum» (pa_cons (pv 0) pa_nil)) Ze))
   (Zb (Zl (i:=2) sc.nd rfl (Or.inr rfl) (pe_ix (r:=Zjc K) Zc8 (Jj (pa_cons ZQ (pa_cons ZQ (pa_cons ZQ pa_nil)))) (Zo Yj (Zo ZX (Zg (Y7 rfl) (by rfl) B.sum Boot.«sum» (pa_cons (pv 0) pa_nil)) Ze) Ze) (fun _ _=>rfl)))
   (Zb (Zl (i:=3) sc.nd rfl (Or.inl rfl) (Yd pa_nil)) (Zb (Zl (i:=4) sc.nd rfl (Or.inl rfl) ZQ)
   (Zb (Z9 PassesOwn.never rfl (ZF (pv 0)) (Zr (i:=5) sc.nd rfl (Or.inl rfl))
    (Zb (Zl (i:=4) sc.nd rfl (Or.inl rfl) (Zo JM (pv 4) (pe_ix (r:=Zhd) ZbY (pv 2) (Zo Yj (pv 5) (pe_ix (r:=Zjc K) Zc8 (Jj (pa_cons Ze (pa_cons Ze (pa_cons Ze (pa_cons Ze pa_nil))))) (pv 1) (fun _ _=>rfl))) (fun _ _=>rfl))))
    (pss_one (ZD (Zz Jt (Zo Yj (Zo ZX (pv 5) Ze) Ze) Ze (Zu _))
     (Zb (Yg (Yx ZnG ZnR ZnS Z7 (pv 3) (pa_cons (pv 4) pa_nil))) (pss_one (Zl (i:=4) sc.nd rfl (Or.inl rfl) ZQ))) pss_nil))))
   (Zb (ZD (Zz Zcl (pv 4) ZQ (Zu _)) (pss_one (Yg (Yx ZnG ZnR ZnS Z7 (pv 3) (pa_cons (pv 4) pa_nil)))) pss_nil)
   (Zb (ZD (Zz Jt (pv 1) Ze (Zu _)) (pss_one (ps_ret (Z5 (N':=["_law_cell","_law_letters"]) (js:=[none,some 2]) (.of (by kernel_rfl)) rfl (ZF (ZM YI (pv 0) ZY (ZN Ze))) fun C fp s₀ H₀=>
     ⟨Zr (i:=0) nd1 rfl (Or.inl rfl),ZZ,Zo JM (pe_ix (r:=Zhd) ZbY (pv 1) Ze (fun _ _=>rfl)) (Zo ZhN (pe_ix (r:=Zhd) ZbY (pv 1) Ze (fun _ _=>rfl)) (Zo Yj (Zo ZX (pv 0) Ze) Ze))⟩))) pss_nil)
   (pss_one (ps_ret (Zkk (Zz Jt (pv 1) Ze (Zu _)) (Z5 (N':=["_law_word","_law_letters"]) (js:=[none,some 2]) (.of (by kernel_rfl)) rfl (ZF (pv 3)) fun C fp s₀ H₀=>
     ⟨Zr (i:=0) nd2 rfl (Or.inl rfl),ZZ,Zo JM (pe_ix (r:=Zhd) ZbY (pv 1) Ze (fun _ _=>rfl)) (Zmt (pv 0) (Zge ZdN Ze))⟩) (pv 3)))))))))),?_⟩
  try dsimp only [ZH,Cx.nox,Cx.wish]
  refine ⟨_,rfl,a,ns,rfl,hS,_,_,rfl,rfl,by show (0:Int) < 4; decide,?_⟩;obtain ⟨v,hv,hvm⟩:=Zdh (xs:=[V.str "abc",V.str "dmz",V.str "ahy"]) (i:=ns.sum / 4) (k:=3) (by decide) (by decide);obtain ⟨ls,rfl,hl3,hlz⟩:=ZgS v hvm;obtain ⟨v4,hv4,hv4m⟩:=Zdh (xs:=[V.int 2,V.int 3,V.int 2,V.int 3]) (i:=ns.sum) (k:=4) (by decide) (by decide);obtain ⟨k4,rfl,hk0,hk3⟩:=Zjq v4 hv4m;have hsl:(st ls).length≤sizeLine:=by rw [st_len]; exact Zd (by omega)
  refine ⟨by show 3≤sizeLine; decide,fun p1 h1=>?_⟩;have x1:=Ext.new (o:=HO.tup [V.str "abc",V.str "dmz",V.str "ahy"]) h1;refine ⟨_,rfl,a,ns,rfl,x1.sqL hS,_,_,rfl,rfl,⟨by decide,by decide⟩,_,_,rfl,rfl,by show (0:Int) < 3; decide,p1,_,_,_,rfl,rfl,SqT.of Za,hv,?_⟩;refine ⟨by show 0≤sizeLine; decide,fun p2 h2=>?_⟩;have x2:=x1.newer (o:=HO.lst []) h2;have hH2:H p2=none:=x1.free h2;refine ⟨_,rfl,a,rfl,⟨_,x2.sqL hS⟩,Yl (K:=K) (a:=a) (xs:=ns.map V.int) (fun i σ H2=>∃ (ws:List W) (wd:W) (c:Option V),σ=[some (.ref a),some (.int (ns.sum % 4)),some (sv ls),some (.ref p2),some (sv wd),c]∧Ext H H2∧H2 p2=some (.lst (ws.map sv))∧ws.length+min 1 wd.length≤i∧wd.length≤i∧(∀ z∈wd,z∈ls)∧Zhw ns i (ws.length+min 1 wd.length) wd∧∀ x∈ws,ZbA ls i x) ?_ (fun i σ H2 _ ⟨_,_,_,_,x,_⟩=>x.sqL hS) ?_ ?_⟩
  ·exact ⟨[],[],none,by rw [sE]; rfl,x2,Za,by simp,Znn _,(fun z hz=>nomatch hz),⟨fun j z hj=>absurd hj (by omega),fun j z hj=>absurd hj (by omega)⟩,fun x hx=>nomatch hx⟩
  ·rintro i y σ H2 hi ⟨ws,wd,c,rfl,xH,hp,hwl,hdl,hz,ht,hg⟩;obtain ⟨z,rfl⟩:=ZjP hi;have hzi:ns[i]?=some z:=by
    rw [Znq] at hi;obtain ⟨z',e,e'⟩:=Option.map_eq_some_iff.mp hi;rw [e,V.int.inj e']
   have hin:i < 63:=by have:=(Znw.mp hi).1; rw [Zni] at this; omega
   obtain ⟨ch,hch,hcm⟩:=Zdh (xs:=ls) (i:=z) (k:=k4) hk0 (by rw [hl3]; exact hk3);refine ⟨_,rfl,_,rfl,_,rfl,by show 4≤sizeLine; decide,fun q hq=>⟨_,rfl,q,_,_,_,rfl,rfl,SqT.of Za,hv4,_,_,rfl,rfl,hk0,st ls,_,ch,rfl,rfl,hsl,hch,_,_,rfl,rfl,?_,?_⟩⟩
   ·rw [st_len]; exact Zd (by show wd.length+1≤1000000; omega)
   have e1:st wd++(⟨#[ch]⟩:Str)=st (wd++[ch]):=Zb8 wd [ch];rw [e1];have x3:=xH.newer (o:=HO.tup [V.int 2,V.int 3,V.int 2,V.int 3]) hq;have hp3:=Zk (u:=HO.tup [V.int 2,V.int 3,V.int 2,V.int 3]) hp hq;have hz3:∀ y∈wd++[ch],y∈ls:=fun y hy=>by
    rcases Zns.mp hy with h | h
    ·exact hz y h
    ·rw [Znt] at h; subst h; exact hcm
   refine ⟨_,rfl,_,_,rfl,rfl,⟨by decide,by decide⟩,_,_,rfl,rfl,by show (0:Int) < 3; decide,rfl,_,rfl,?_⟩;by_cases h0:z / 3 % 3=0
   ·refine ZI (by show decide (V.int (z / 3 % 3)=V.int 0)=true; rw [h0]; decide) ?_;refine ⟨_,rfl,.inl ⟨rfl,_,SqL.of hp3⟩,_,rfl,p2,_,_,rfl,rfl,hp3,?_,?_⟩
    ·rw [Zni];exact ZoJ (show ws.length≤63 by omega) (by decide)
    ·refine ⟨ws++[wd++[ch]],[],_,by rw [sE]; rfl,x3.over hH2,by rw [Za]; simp,?_,ZnH _,(fun z hz=>nomatch hz),by rw [Znl,ZnT]; exact ht.step hwl hzi fun q=>absurd h0 q,fun x hx=>?_⟩
     ·simp only [Znl,ZnT,Zpa]; omega
     ·rcases Zns.mp hx with h | h
      ·exact (hg x h).mono (by omega)
      ·rw [Znt] at h; subst h;exact ⟨by simp,hz3,by rw [Znl,ZnT]; omega⟩
   ·refine Zx (by rw [decide_eq_true_iff]; intro q; exact h0 (V.int.inj q)) ?_;exact ⟨ws,wd++[ch],_,rfl,x3,hp3,by omega,by rw [Znl,ZnT]; omega,hz3,by rw [Znl,ZnT,ZoH (Nat.le_add_left _ _)]; exact ht.step hwl hzi fun _=>by simp,fun x hx=>(hg x hx).mono (by omega)⟩
  ·rintro σ H2 ⟨ws,wd,c,rfl,xH,hp,hwl,hdl,hz,ht,hg⟩;rw [Zni] at hwl hdl hg ht;refine ⟨_,rfl,rfl,_,rfl,ZjT hp xH hH2 (by omega) (by omega) hz (fun x hx=>(hg x hx).mono (by omega)) fun ws' H3 x3 hp3 hl3a hg3=>?_⟩;have hl3':ws'.length≤63:=by omega
   have tight:ws'.length=63→∀ j z,j < 62→ns[j]?=some z→z / 3 % 3=0:=fun e j z hj hz=>Classical.byContradiction fun q=>by
    have:=ht.1 j z (by omega) hz q;omega
   obtain ⟨c0,c1,c2,rfl⟩:∃ c0 c1 c2,ls=[c0,c1,c2]:=by
    match ls,hl3 with
    | [c0,c1,c2],_=>exact ⟨c0,c1,c2,rfl⟩
   have z0:c0∈[c0,c1,c2]:=by simp
   have z1:c1∈[c0,c1,c2]:=by simp
   have z2:c2∈[c0,c1,c2]:=by simp
   refine ⟨_,rfl,rfl,_,rfl,?_⟩;by_cases k2:ns.sum % 4=2
   ·refine ZI (by show decide (V.int (ns.sum % 4)=V.int 2)=true; rw [k2]; decide) ?_;obtain ⟨ms,em,hml⟩:=Zea ns none (some 12);refine ⟨_,rfl,12,rfl,a,_,rfl,x3.sqL hS,fun q hq=>⟨q,rfl,⟨_,SqL.of Za⟩,?_⟩⟩;have x4:=x3.newer (o:=HO.lst (cutV (ns.map V.int) none (some 12))) hq;refine ZS (SqL.of Za) (by rw [em,Zni]; exact Zd (by omega)) (fun y=>match y with | .int z=>.str ((⟨#[c1]⟩:Str)++st (ZnL (z / 2 % 9).toNat [c0]).flatten) | _=>.non) (fun y H' hy x1 Q' k'=>?_) (fun D' H' hD' x1 hD=>?_)
    ·rw [em] at hy;obtain ⟨z,_,rfl⟩:=Znm.mp hy;have g0:0≤z / 2 % 9:=ZpB _ (by decide);have g1:z / 2 % 9 < 9:=ZpA _ (by decide);refine ⟨_,rfl,st [c0,c1,c2],1,c1,rfl,rfl,hsl,rfl,_,rfl,st [c0,c1,c2],0,c0,rfl,rfl,hsl,rfl,_,rfl,_,_,rfl,rfl,⟨by decide,by decide⟩,_,_,rfl,rfl,by show (0:Int) < 9; decide,[c0],z / 2 % 9,rfl,rfl,g0,by omega,by show 1≤1000; decide,_,_,rfl,rfl,?_,k' _ H' (Ext.refl _) rfl⟩;rw [st_len,ZhU];exact Zd (by show 1+(z / 2 % 9).toNat≤1000000; omega)
    ·refine k D' (ms.map fun z=>[c1]++(ZnL (z / 2 % 9).toNat [c0]).flatten) [c0,c1,c2] H' (x4.free hD') (x4.trans x1) ?_ ?_ rfl hlz ?_ fun e=>absurd e (by rw [Zni]; have:=ZmT (ns.map V.int); rw [em,Zni] at this; omega)
     ·rw [hD,em,Znr,Znr];congr 2;apply ZnP;intro z _;show V.str ((⟨#[c1]⟩:Str)++st _)=_;rw [ZhV,Zb8];rfl
     ·rw [Zni]; omega
     ·intro x hx;obtain ⟨z,_,rfl⟩:=Znm.mp hx;have g0:0≤z / 2 % 9:=ZpB _ (by decide);have g1:z / 2 % 9 < 9:=ZpA _ (by decide);refine ⟨by simp,fun y hy=>?_,?_⟩
      ·rcases Zns.mp hy with h | h
       ·rw [Znt] at h; subst h; exact z1
       ·obtain ⟨l,hl,hyl⟩:=ZqO.mp h;rw [Zpw hl,Znt] at hyl;subst hyl; exact z0
      ·rw [Znl,ZhU];show 1+(z / 2 % 9).toNat≤65;omega
   ·refine Zx (by rw [decide_eq_true_iff]; intro q; exact k2 (V.int.inj q)) ?_;refine ⟨_,rfl,rfl,_,rfl,?_⟩;by_cases k3:ns.sum % 4=3
    ·refine ZI (by show decide (V.int (ns.sum % 4)=V.int 3)=true; rw [k3]; decide) ?_;refine ⟨_,rfl,p2,rfl,⟨_,SqL.of hp3⟩,?_⟩;refine ZS (SqL.of hp3) (by rw [Zni]; exact Zd (by omega)) (fun y=>match y with | .str x=>.str ((⟨#[c2]⟩:Str)++st x.cps.toList.reverse) | _=>.non) (fun y H' hy x1 Q' k'=>?_) (fun D' H' hD' x1 hD=>?_)
     ·obtain ⟨x,hx,rfl⟩:=Znm.mp hy;have hxl:=(hg3 x hx).len;refine ⟨_,rfl,st [c0,c1,c2],2,c2,rfl,rfl,hsl,rfl,_,rfl,1,rfl,x,rfl,rfl,Zd (by omega),_,_,rfl,rfl,?_,k' _ H' (Ext.refl _) rfl⟩;rw [st_len,Zoa];exact Zd (by show 1+x.length≤1000000; omega)
     ·refine k D' (ws'.map fun x=>[c2]++x.reverse) [c0,c1,c2] H' (x3.free hD') (x3.trans x1) ?_ ?_ rfl hlz ?_ (by rw [Zni]; exact tight)
      ·rw [hD,Znr,Znr];congr 2;apply ZnP;intro x _;show V.str ((⟨#[c2]⟩:Str)++st x.reverse)=_;rw [ZhV,Zb8];rfl
      ·rw [Zni]; exact hl3'
      ·intro x hx;obtain ⟨y,hy,rfl⟩:=Znm.mp hx;have hg':=hg3 y hy;refine ⟨by simp,fun z hz=>?_,?_⟩
       ·rcases Zns.mp hz with h | h
        ·rw [Znt] at h; subst h; exact z2
        ·exact hg'.az_ z (List.mem_reverse.mp h)
       ·rw [Znl,Zoa];have:=hg'.len;show 1+y.length≤65;omega
    ·refine Zx (by rw [decide_eq_true_iff]; intro q; exact k3 (V.int.inj q)) ?_;exact ⟨_,rfl,k p2 ws' [c0,c1,c2] H3 hH2 x3 hp3 hl3' rfl hlz (fun x hx=>(hg3 x hx).mono (by omega)) tight⟩
end
end L2
namespace L2
open PySem PySem.Spec PyProof.Rows Tw
abbrev ZlF (r c:Nat):List Key:=[.inl (r:Int),.inr ⟨#[c]⟩]
def Zfq (kvs:List (List Key × V)):Prop:=∀ k v,Yn kvs k=some v→∃ n:Nat,v=.int (n:Int)∧n≤6400
theorem Zkq {kvs:List (List Key × V)}{k:List Key}{v:V} (h:Yn kvs k=none):(YF kvs k v).length=kvs.length+1:=by rw [Zaj _ h,Znl]; rfl
theorem Zfq.put {kvs:List (List Key × V)} (h:Zfq kvs) {k:List Key} (hl:kvs.length < 6400):Zfq (YF kvs k (.int ((kvs.length:Int)+1))):=fun j v e=>by
 rw [Zgv] at e;split at e
 ·cases e;exact ⟨kvs.length+1,by simp,hl⟩
 ·exact h j v e
def Suf (ws:List W) (s:W):Prop:=∃ p m,p < ws.length∧m≤(ws.getD p []).length∧s=(ws.getD p []).drop m
def ZaI (x:W) (ns:List Nat):Prop:=ns.length=x.length+1∧∀ n∈ns,n≤6400
theorem ZaI.set {x:W}{ns:List Nat}{m n:Nat} (h:ZaI x ns) (hn:n≤6400):ZaI x (ns.set m n):=
 ⟨by rw [List.length_set]; exact h.1,fun z hz=>(List.mem_or_eq_of_mem_set hz).elim (h.2 z) fun e=>by rw [e]; exact hn⟩
def ZcO (H:Hp) (D:Addr) (ws:List W) (R:Nat→List Nat):Prop:=∃ ps:List Addr,H D=some (.lst (ps.map V.ref))∧ps.length=ws.length∧∀ p,p < ws.length→H (ps.getD p 0)=some (.lst (intsV (R p)))∧ZaI (ws.getD p []) (R p)
theorem ZcO.ext {H H':Hp}{D:Addr}{ws:List W}{R:Nat→List Nat} (h:ZcO H D ws R) (x:Ext H H'):ZcO H' D ws R:=
 let ⟨ps,h1,h2,h3⟩:=h; ⟨ps,x.lst h1,h2,fun p hp=>⟨x.lst (h3 p hp).1,(h3 p hp).2⟩⟩
section
variable {prog:Program}{w:World}{κ:Type} [DecidableEq κ] {knd:HeapKind prog w κ}{A:Around}{E:Value→Shared→Prop}{s:Shared}
theorem ZeI {d a:Addr}{xs:List (κ × Addr × Value)}{k:κ}{v:Value}{Q:Value→Shared→Prop} (hu:knd.room A) (hkey:knd.is s.heap k a) (hm:s.heap.DictOfH knd d xs) (hz:xs.length≤sizeLine)
  (h1:∀ p,atKey xs k=some p→Q p.2 { s with toks:=s.toks+knd.draws k })
  (h2:atKey xs k=none→∀ h',h'.DictOfH knd d (storedH xs k a v)→Zo7 d s.heap h'→Q v { s with heap:=h',toks:=s.toks+knd.draws k }):wpAny (model prog w) A (dictSetDefault d (.ref a) v) Q E s:=by
 obtain ⟨o,es,ep,ho,hc,hd,he,his,hn⟩:=id hm;have hes:es.size≤sizeLine:=by rw [size_of_entries he]; exact hz
 refine wpAny_holding (wpAny_bind (knd.pyHash hu hkey (wpAny_bind (wpAny_dictFind_heap (s:={ s with toks:=s.toks+knd.draws k }) hu hkey ho hd he his hn (fun no=>?_) fun j p hj=>?_))))
 ·have none_:=atKey_none_of_get no;have fresh:=not_mem_keys_of_get no;refine wpAny_bind (wpAny_rule (wpAny_bind (wpAny_updateDictKeys (hz:=by omega) (s:={ s with toks:=s.toks+knd.draws k }) ho hd (wpAny_pure (h2 none_ _ ?_ (Zo7.update ..))))));rw [storedH_new none_];have kp:∀ (f:Obj→Obj) {x:κ}{b:Addr},knd.is s.heap x b→knd.is (s.heap.update d f) x b:=fun f _ _ q=>knd.keeps q ho hd (Zo7.update ..);refine ⟨_,_,ep+1,Zoz _ ho (Obj.isFreed_of_dict (Obj.data_mapDictKeys hd _)),hc.mapDictKeys _,Obj.data_mapDictKeys hd _,by simp [he,entryOfKey],fun x hx=>?_,?_⟩
  ·rcases Zns.mp hx with hx | hx
   ·exact kp _ (his x hx)
   ·cases Znt.mp hx;exact kp _ hkey
  ·rw [Zn2];refine ZoZ.mpr ⟨hn,by simp,fun x hx y hy e=>fresh ?_⟩;rw [List.map_singleton,Znt] at hy;rw [←show x=k from e.trans hy];exact hx
 ·refine wpAny_bind (wpAny_dictEntries (s:={ s with toks:=s.toks+knd.draws k }) ho hd ?_);rw [entry_at he j,hj];exact wpAny_bind (wpAny_rule (wpAny_pure (h1 p (atKey_of_get hn hj))))
end
def Znd (td ty tx:TE):TE:=fun σ H Q=>td σ H fun x H1=>∃ a,x=.ref a∧IsD H1 a∧ty σ H1 fun y H2=>tx σ H2 fun z H3=>∃ kvs k b,H3 a=some (.dT kvs)∧y=.ref b∧H3 b=some (.tup (k.map kV))∧
 (∀ v,Yn kvs k=some v→Q v H3)∧(Yn kvs k=none→kvs.length < sizeLine∧Q z (upd H3 a (.dT (YF kvs k z))))
section
variable {X:Cx}{o e f:Expr}{apos cpos:Pos}{td ty tx:TE}
theorem Zlx (hu:X.A.units+2 < cLine) (ho:PE X o td) (he:PE X e ty) (hf:PE X f tx) (m:M2 X o "setdefault" apos e f cpos):PE X (.Call (.Attribute o "setdefault" apos) [e,f] [] cpos) (Znd td ty tx):=by
 intro pins s σ H Q I h;refine wpAny_Call_method m.base m.few m.line Zo2 ZoM Zp2 (thn (ho pins s σ H _ I h) fun u s1 qz=>?_);obtain ⟨x,H1,I1,rx,a,ex,d,q1⟩:=qz;subst ex;obtain rfl:u=Value.ref a:=rx;obtain ⟨t1,t2,_⟩:=ZgK I1 d;refine ⟨t1,t2,?_⟩;rw [m.trees];refine Calls.callWith_builtin rfl (Calls.evalArgs_plain (Calls.spliced_cons (thn (he pins s1 σ H1 _ I1 q1) fun iv s2 ⟨y,H2,I2,ry,q2⟩=>
  Calls.spliced_cons (thn (hf pins s2 σ H2 _ I2 q2) fun fv s3 ⟨z,H3,I3,rz,kvs,k,b,ea,ey,eb,q3,q4⟩=>Calls.spliced_nil ?_))))
 subst ey;obtain rfl:iv=Value.ref b:=ry;obtain ⟨hz,hd,xs,rel,dd⟩:=ZjG I3.hok ea;have rv:=rel.val k;have lz:xs.length≤sizeLine:=by rw [←Paired.length rel]; exact hz
 refine wpAny_call_entry ZoM dd.typeIs ZpX ?_ (ZpQ _ _ _);refine wpAny_bind (wpAny_bind (wpAny_notOrdered_dict dd.typeIs (wpAny_pure ?_)));show wpAny _ _ (if (a == sysModules)=true then _ else (dictSetDefault a (.ref b) fv >>= _)) _ _ s3;rw [if_neg (by rw [hd]; exact ZnE)];refine wpAny_bind (ZeI (knd:=tupleKind (Zy X.prog X.w)) (tupleKind_room_in1 (show X.A.units+1 < cLine by omega)) (Zbn I3.hok eb) dd lz (fun p hp=>wpAny_pure ⟨_,rfl,?_⟩) fun hp h' dd' hs=>wpAny_pure ⟨_,rfl,?_⟩)
 ·cases l:Yn kvs k with
  | none=>rw [l,hp] at rv; exact rv.elim
  | some v=>rw [l,hp] at rv; exact ⟨v,H3,I3.tok _,rv,q3 v l⟩
 ·cases l:Yn kvs k with
  | some v=>rw [l,hp] at rv; exact rv.elim
  | none=>
   obtain ⟨hl,q5⟩:=q4 l;have hl2:(YF kvs k z).length≤sizeLine:=by have:=Jr kvs k z; omega
   obtain ⟨q,es,ep,hq,h2,h3,h4,_,h5⟩:=dd';refine ⟨z,_,ZbG (ob:=.dT (YF kvs k z)) I3 (by rw [ea]; exact True.intro) hs ⟨q,hq⟩ ⟨hl2,hd,_,(rel.put k eb rz).keeps fun c ys ec=>?_,q,es,ep,hq,h2,h3,h4,h5⟩,rz,q5⟩;rw [Zp (Ye ec ea (fun z=>nomatch z))];exact ec
theorem Zik:YR X (.builtin "len") (fun xs H Q=>∃ a kvs,xs=[V.ref a]∧H a=some (.dT kvs)∧Q (.int kvs.length) H):=by
 intro pins s σ H xs us Q I r h;obtain ⟨a,kvs,rfl,ha,q⟩:=h;obtain ⟨u,rfl,ru⟩:=YJ r;cases ru;obtain ⟨hz,hd,xs,rel,dd⟩:=ZjG I.hok ha;have len:kvs.length=xs.length:=Paired.length rel;obtain ⟨o,es,ep,ho,hc,hdat,he,_⟩:=id dd;refine call_len_slot (n:=(kvs.length:Int)) dd.typeIs ZpS (fun Q' hq=>?_) (by omega) (by rw [sizeLine_eq] at hz; omega) ⟨.int kvs.length,H,I.tok _,⟨_,rfl⟩,q⟩;refine wpAny_call_entry ZpS dd.typeIs PySem.F.entry_dict_len ?_ (PySem.F.args_dict_len_1 _);show wpAny _ _ (dictSize a >>= _) _ _ s;refine wpAny_bind (wpAny_bind (wpAny_dictEntries ho hdat (wpAny_pure ?_)));show wpAny _ _ (Builtin.Dict.pendingCount a >>= _) _ _ s;refine wpAny_bind (wpAny_pendingCount_other hd (wpAny_ret_mkInt ?_));rw [Nat.add_zero,size_of_entries he,←len];exact hq
end
end L2
namespace L2
open PySem PySem.Spec PyProof.Rows Tw
seal PSs PS PE PT PW PA PG PGs PI PC
theorem ZhF {n m:Nat} (h:m < n):ixN n (m:Int)=some m:=by
 unfold ixN;rw [if_pos (by omega),if_pos (by omega)];simp
section
variable {P:Program}{w:World}{K:Znj}{mg:Str→Option Value}{base:Heap}
def Zev:Sp:=fun vs H Q _=>∃ (a:Addr) (ws:List W),vs=[.ref a]∧ZW H a ws∧ws.length < 64∧(∀ x∈ws,x.length≤100)∧∀ D R H',H D=none→Ext H H'→ZcO H' D ws R→Q (.ref D) H'
theorem Zb2 (D:Def K mg "rest_numbers" "rest_numbers" Pl.s_rest_numbers ["code"]) (B:Yo mg) (hE:∃ t,mg "EMPTY"=some (.int 0 t)):Cal P w K mg base CX0 1 "rest_numbers" ["code"] Zev:=by
 have sc:Zn ["code","numbers","rows","word","row","mark"] ["code"] (Zf Pl.s_rest_numbers):=scO;obtain ⟨tE,hE⟩:=hE;refine D.cal fun f fd F=>F.ok sc (fun vs H Q E h=>?_) (fun cdv A outer s H vs Q E hr h=>?_)
 ·obtain ⟨_,_,rfl,_⟩:=h;rfl
 ·obtain ⟨a,ws,rfl,hC,h64,hsh,k⟩:=h;have hu2:_+2 < cLine:=ZoJ (Zrj (by decide:2≤64) _) hr.units;refine ⟨_,Zb (Zl (i:=1) sc.nd rfl (Or.inl rfl) Zkj)
   (Zb (Zl (i:=2) sc.nd rfl (Or.inl rfl) (Yd pa_nil))
   (Zb (Z9 PassesOwn.never rfl (ZF (pv 0)) (Zr (i:=3) sc.nd rfl (Or.inl rfl))
    (Zb (Zl (i:=4) sc.nd rfl (Or.inl rfl) (Zo Zmq (Yd (pa_cons (Y8 (v:=.int 0) (by rfl) hE ⟨tE,rfl⟩) pa_nil)) (Zo Z2 (Zg Zs (by rfl) B.len Zno (pa_cons (pv 3) pa_nil)) Ze)))
    (Zb (Z9 PassesOwn.never rfl (Zlz (by rfl) B.range (pa_cons (Zo Jh (Zg Zs (by rfl) B.len Zno (pa_cons (pv 3) pa_nil)) Ze) (pa_cons (Zge ZdN Ze) (pa_cons (Zge ZdN Ze) pa_nil)))) (Zr (i:=5) sc.nd rfl (Or.inl rfl))
     (pss_one (Zmy (Zlx hu2 (pv 1) (Jj (pa_cons (pe_ix (r:=YG K) ZB (pv 4) (Zo Z2 (pv 5) Ze) (fun _ _=>rfl)) (pa_cons (pe_ix (r:=Zhd) ZbY (pv 3) (pv 5) (fun _ _=>rfl)) pa_nil)))
      (Zo Z2 (Zg Zik (by rfl) B.len Zno (pa_cons (pv 1) pa_nil)) Ze) ⟨rfl,rfl,rfl,rfl⟩) (Zmw (pv 4) (pv 5) Zky))))
    (pss_one (Yg (Yx ZnG ZnR ZnS Z7 (pv 2) (pa_cons (pv 4) pa_nil)))))))
   (pss_one (ps_ret (pv 2))))),?_⟩
  try dsimp only [ZH,Cx.nox,Cx.wish]
  intro nm hnm;have x1:Ext H (upd H nm (.dT [])):=Ext.new hnm;refine ⟨by show 0≤sizeLine; exact ZnH _,fun rw_ hrw=>?_⟩;have x2:Ext H (upd (upd H nm (.dT [])) rw_ (.lst [])):=x1.newer hrw;have hrw0:H rw_=none:=x1.free hrw;have nr:nm≠rw_:=ne_of_none Za hrw;refine ⟨_,rfl,a,rfl,⟨_,SqL.of (hC.ext x2).at_⟩,?_⟩;refine Yl (K:=K) (a:=a) (xs:=ws.map sv) (fun i σ H2=>∃ (kvs:List (List Key × V)) (ps:List Addr) (wd row mk:Option V),σ=[some (.ref a),some (.ref nm),some (.ref rw_),wd,row,mk]∧Ext H H2∧H2 nm=some (.dT kvs)∧H2 rw_=some (.lst (ps.map V.ref))∧ps.length=i∧kvs.length≤100 * i∧Zfq kvs∧
    ∀ p q,ps[p]?=some q→q≠nm∧q≠rw_∧H q=none∧∃ ns:List Nat,H2 q=some (.lst (intsV ns))∧ZaI (ws.getD p []) ns)
   ⟨[],[],none,none,none,rfl,x2,Zk Za hrw,Za,rfl,ZnH _,fun k v e=>by simp [Yn] at e,fun p q e=>by simp at e⟩ (fun i σ H2 _ h=>let ⟨_,_,_,_,_,_,x,_⟩:=h; SqL.of (hC.ext x).at_) ?_ ?_
  ·rintro i y σ H2 hy ⟨kvs,ps,wd,row,mk,rfl,xH,hn2,hr2,hzl,hkl,hok,hrows⟩;rw [Znq] at hy;obtain ⟨x,hx,rfl⟩:=Option.map_eq_some_iff.mp hy;have hxm:x∈ws:=ZnD hx;have hxl:=hsh x hxm;have hil:i < ws.length:=(Znw.mp hx).1;have hxd:ws.getD i []=x:=by rw [Znv,hx]; rfl
   have hsz:(st x).length≤sizeLine:=by rw [st_len]; exact Zd (by omega)
   refine ⟨by show 1≤sizeLine; decide,fun l0 hl0=>?_⟩;have x3:=xH.newer (o:=HO.lst [V.int 0]) hl0;have hn3:=Zk (u:=HO.lst [V.int 0]) hn2 hl0;have hr3:=Zk (u:=HO.lst [V.int 0]) hr2 hl0;refine ⟨_,rfl,st x,rfl,hsz,_,_,rfl,rfl,l0,_,_,rfl,rfl,Za,by omega,by rw [st_len]; omega,?_,fun rp hrp=>?_⟩
   ·rw [st_len];refine Zd ?_;show 1 * ((x.length:Int)+1).toNat≤1000000;omega
   have erow:(ZnL (((st x).length:Int)+1).toNat [V.int 0]).flatten=intsV (ZnL (x.length+1) 0):=by
    rw [st_len,show ((x.length:Int)+1).toNat=x.length+1 by omega];generalize x.length+1=m;induction m with
    | zero=>rfl
    | succ m ih=>rw [Zom,Zos,ih,Zom]; rfl
   rw [erow] at *;have x4:=x3.newer (o:=HO.lst (intsV (ZnL (x.length+1) 0))) hrp;have hn4:=Zk (u:=HO.lst (intsV (ZnL (x.length+1) 0))) hn3 hrp;have hr4:=Zk (u:=HO.lst (intsV (ZnL (x.length+1) 0))) hr3 hrp;have hrp0:H rp=none:=x3.free hrp;have npr:nm≠rp:=ne_of_none hn3 hrp;have nrr:rw_≠rp:=ne_of_none hr3 hrp;have rows4:∀ p q,ps[p]?=some q→q≠nm∧q≠rw_∧q≠rp∧H q=none∧∃ ns:List Nat,(upd (upd H2 l0 (HO.lst [V.int 0])) rp (HO.lst (intsV (ZnL (x.length+1) 0)))) q=some (.lst (intsV ns))∧ZaI (ws.getD p []) ns:=fun p q e=>by
    obtain ⟨a1,a2,a3,ns,a4,a5⟩:=hrows p q e;have a6:=Zk (u:=HO.lst [V.int 0]) a4 hl0;exact ⟨a1,a2,ne_of_none a6 hrp,a3,ns,Zk a6 hrp,a5⟩
   refine ⟨_,rfl,st x,rfl,hsz,_,_,rfl,rfl,_,rfl,_,rfl,_,_,rfl,by rw [st_len]; omega,?_⟩;have en:((((st x).length:Nat):Int) - 1 - -1).toNat=x.length:=by rw [st_len]; omega
   rw [en];refine ZjJ (fun j σ H4=>∃ (kvs:List (List Key × V)) (ns:List Nat) (mk:Option V),σ=[some (.ref a),some (.ref nm),some (.ref rw_),some (sv x),some (.ref rp),mk]∧Ext H H4∧H4 nm=some (.dT kvs)∧H4 rw_=some (.lst (ps.map V.ref))∧H4 rp=some (.lst (intsV ns))∧kvs.length≤100 * i+j∧Zfq kvs∧ZaI x ns∧
     ∀ p q,ps[p]?=some q→q≠nm∧q≠rw_∧q≠rp∧H q=none∧∃ ns:List Nat,H4 q=some (.lst (intsV ns))∧ZaI (ws.getD p []) ns)
    ⟨kvs,_,_,rfl,x4,hn4,hr4,Za,by omega,hok,⟨ZpO ..,fun n hn=>by rw [(List.mem_replicate.mp hn).2]; exact ZnH _⟩,rows4⟩ ?_ ?_
   ·rintro j σ H4 hj ⟨kvs,ns,mk,rfl,x5,hn5,hr5,hp5,hkl,hok,hrf,hrows⟩;rw [st_len];have em:(x.length:Int) - 1 - (j:Int)=((x.length - 1 - j:Nat):Int):=by omega
    rw [em];generalize hm:x.length - 1 - j=m;have lm:m < x.length:=by omega
    obtain ⟨c,hc⟩:∃ c,x[m]?=some c:=⟨_,Znp lm⟩;have hnl:=hrf.1;obtain ⟨r,hr'⟩:∃ r,ns[m+1]?=some r:=⟨_,Znp (by omega)⟩;refine ⟨_,rfl,nm,rfl,.inr ⟨_,.inl hn5⟩,?_⟩;refine ⟨_,rfl,_,rfl,_,_,rfl,rfl,rp,_,((m+1:Nat):Int),V.int (r:Int),rfl,by simp,SqL.of hp5,ZE (by rw [intsV,Znq,hr']; rfl),?_⟩;refine ⟨_,rfl,_,rfl,st x,_,c,rfl,rfl,hsz,ZE hc,by show 2≤sizeLine; decide,fun b hb=>?_⟩;have x6:=x5.newer (o:=HO.tup [V.int (r:Int),V.str ⟨#[c]⟩]) hb;have hn6:=Zk (u:=HO.tup [V.int (r:Int),V.str ⟨#[c]⟩]) hn5 hb;have hr6:=Zk (u:=HO.tup [V.int (r:Int),V.str ⟨#[c]⟩]) hr5 hb;have hp6:=Zk (u:=HO.tup [V.int (r:Int),V.str ⟨#[c]⟩]) hp5 hb;have set_:∀ n:Nat,(intsV ns).set m (.int (n:Int))=intsV (ns.set m n):=fun n=>by rw [intsV,intsV,List.map_set]
    refine ⟨_,rfl,nm,kvs,rfl,hn6,_,_,rfl,rfl,kvs,ZlF r c,b,hn6,rfl,Za,fun v hv=>?_,fun hv=>⟨ZC (by omega),?_⟩⟩
    ·obtain ⟨n,rfl,hn⟩:=hok _ _ hv;refine ⟨_,rfl,_,rfl,rp,_,_,m,rfl,rfl,hp6,ZhF (by rw [Zni]; omega),⟨kvs,ns.set m n,_,rfl,x6.over hrp0,upd_k hn6 npr,upd_k hr6 nrr,by rw [Za,set_],by omega,hok,hrf.set hn,fun p q e=>?_⟩⟩;obtain ⟨a1,a2,a3,a4,ns',a5,a6⟩:=hrows p q e;exact ⟨a1,a2,a3,a4,ns',upd_k (Zk a5 hb) a3,a6⟩
    ·have hp7:=upd_k (u:=HO.dT (YF kvs (ZlF r c) (.int ((kvs.length:Int)+1)))) hp6 npr.symm;have hr7:=upd_k (u:=HO.dT (YF kvs (ZlF r c) (.int ((kvs.length:Int)+1)))) hr6 nr.symm;have sv_:V.int ((kvs.length:Int)+1)=V.int ((kvs.length+1:Nat):Int):=by simp
     refine ⟨_,rfl,_,rfl,rp,_,_,m,rfl,rfl,hp7,ZhF (by rw [Zni]; omega),⟨YF kvs (ZlF r c) (.int ((kvs.length:Int)+1)),ns.set m (kvs.length+1),_,rfl,(x6.over hnm).over hrp0,upd_k Za npr,upd_k hr7 nrr,by rw [Za]; show some (HO.lst ((intsV ns).set m (V.int ((kvs.length:Int)+1))))=_; rw [sv_,set_],by rw [Zkq hv]; omega,hok.put (by omega),hrf.set (by omega),fun p q e=>?_⟩⟩;obtain ⟨a1,a2,a3,a4,ns',a5,a6⟩:=hrows p q e;exact ⟨a1,a2,a3,a4,ns',upd_k (upd_k (Zk a5 hb) a1) a3,a6⟩
   ·rintro σ H4 ⟨kvs,ns,mk,rfl,x5,hn5,hr5,hp5,hkl,hok,hrf,hrows⟩;refine ⟨_,rfl,.inl ⟨rfl,_,SqL.of hr5⟩,_,rfl,rw_,_,_,rfl,rfl,hr5,by rw [Zni,hzl]; exact ZC (by omega),?_⟩;refine ⟨kvs,ps++[rp],_,_,_,rfl,x5.over hrw0,upd_k hn5 nr,by rw [Za,Zn2]; rfl,by rw [Znl,hzl]; rfl,by omega,hok,fun p q e=>?_⟩;by_cases hp:p < ps.length
    ·rw [Zpm hp] at e;obtain ⟨a1,a2,a3,a4,ns',a5,a6⟩:=hrows p q e;exact ⟨a1,a2,a4,ns',upd_k a5 a2,a6⟩
    ·have hp2:p=ps.length:=by
      have:=(Znw.mp e).1;rw [Znl,ZnT] at this;omega
     subst hp2;rw [Zqd (Znn _),Nat.sub_self] at e;cases e;refine ⟨npr.symm,nrr.symm,hrp0,ns,upd_k hp5 nrr.symm,by rw [hzl,hxd]; exact hrf⟩
  ·rintro σ H2 ⟨kvs,ps,wd,row,mk,rfl,xH,hn2,hr2,hzl,hkl,hok,hrows⟩;rw [Zni] at hzl;have row_:∀ p,∃ ns:List Nat,p < ws.length→H2 (ps.getD p 0)=some (.lst (intsV ns))∧ZaI (ws.getD p []) ns:=fun p=>by
    by_cases hp:p < ws.length
    ·have e:ps[p]?=some (ps.getD p 0):=by simp [show p < ps.length by omega]
     obtain ⟨_,_,_,ns,h1,h2⟩:=hrows p _ e;exact ⟨ns,fun _=>⟨h1,h2⟩⟩
    ·exact ⟨[],fun z=>absurd z hp⟩
   obtain ⟨R,hR⟩:=Classical.skolem.mp row_;exact ⟨_,rfl,k rw_ R H2 hrw0 xH ⟨ps,hr2,hzl,hR⟩⟩
end
def Ch (H:Hp):V→List Nat→Prop
 | c,[]=>c=.non
 | c,p :: r=>∃ a c',c=.ref a∧H a=some (.tup [.int (p:Int),c'])∧Ch H c' r
theorem Ch.keep {H H':Hp}:∀ {r:List Nat}{c:V},Ch H c r→(∀ b xs,H b=some (.tup xs)→H' b=some (.tup xs))→Ch H' c r
 | [],_,h,_=>h
 | _ :: _,_,⟨a,c',e,h1,h2⟩,k=>⟨a,c',e,k a _ h1,h2.keep k⟩
theorem Ch.ext {H H':Hp}{r:List Nat}{c:V} (h:Ch H c r) (x:Ext H H'):Ch H' c r:=h.keep fun _ _ z=>x.tup z
theorem ZaT {H:Hp}{l:Addr}{xs ys:List V} (h:H l=some (.lst xs)):∀ b zs,H b=some (.tup zs)→upd H l (.lst ys) b=some (.tup zs):=fun b zs z=>upd_k z (Ye z h (by simp))
section
variable {P:Program}{w:World}{K:Znj}{mg:Str→Option Value}{base:Heap}
def Zbu (K:Znj):Sp:=fun vs H Q _=>∃ (c:V) (r:List Nat),vs=[c]∧Ch H c r∧r.length≤100000∧∀ l H',H l=none→Ext H H'→H' l=some (.lst (intsV r.reverse))→Q (.ref l) H'
theorem Zgb (D:Def K mg "unrolled" "unrolled" Pl.s_unrolled ["chain"]):Cal P w K mg base CX0 1 "unrolled" ["chain"] (Zbu K):=by
 have sc:Zn ["chain","places"] ["chain"] (Zf Pl.s_unrolled):=scO;refine D.cal fun f fd F=>F.ok sc (fun vs H Q E h=>?_) (fun cdv A outer s H vs Q E hr h=>?_)
 ·obtain ⟨_,_,rfl,_⟩:=h;rfl
 ·obtain ⟨c,r,rfl,hc,hrl,k⟩:=h;refine ⟨_,Zb (Zl (i:=1) sc.nd rfl (Or.inl rfl) (Yd pa_nil))
   (Zb (JQ PassesOwn.never (JR (ZhP (pv 0)))
    (Zb (Yg (Yx ZnG ZnR ZnS Z7 (pv 1) (pa_cons (pe_ix (r:=Zjc K) Zc8 (pv 0) Ze (fun _ _=>rfl)) pa_nil)))
    (pss_one (Zl (i:=0) sc.nd rfl (Or.inl rfl) (pe_ix (r:=Zjc K) Zc8 (pv 0) Ze (fun _ _=>rfl))))))
   (Zb (Yg (Zg7 ZnG PySem.F.slot_list_reverse PySem.F.type_list_reverse Zg0 (pv 1)))
   (pss_one (ps_ret (pv 1))))),?_⟩
  try dsimp only [ZH,Cx.nox,Cx.wish]
  refine ⟨by show 0≤sizeLine; exact ZnH _,fun l hl=>?_⟩;refine ZdO (fun σ H2=>∃ (c:V) (done left:List Nat),σ=[some c,some (.ref l)]∧Ext H H2∧H2 l=some (.lst (intsV done))∧Ch H2 c left∧r=done++left) (fun _ H2=>r.length - ZeT H2 l) ?_ ?_ ?_
  ·exact ⟨c,[],r,rfl,Ext.new hl,Za,hc.ext (Ext.new hl),rfl⟩
  ·rintro σ H2 ⟨c,done,left,rfl,x,hl2,hc2,rfl⟩;cases left with
   | nil=>
    cases (show c=.non from hc2);refine ⟨_,rfl,_,rfl,Zx (by decide) ?_⟩;refine ⟨_,rfl,.inl ⟨rfl,_,SqL.of hl2⟩,l,_,rfl,rfl,hl2,_,rfl,k l _ hl (x.over hl) ?_⟩;rw [Za,ZoG,intsV,intsV,List.map_reverse]
   | cons p left=>
    obtain ⟨b,c',rfl,hb,hc3⟩:=hc2;refine ⟨_,rfl,_,rfl,ZI (by simp) ?_⟩;have ne:b≠l:=Ye hb hl2 (by simp);have hdl:done.length < 100000:=by simp at hrl; omega
    refine ⟨_,rfl,.inl ⟨rfl,_,SqL.of hl2⟩,_,rfl,b,_,0,.int (p:Int),rfl,rfl,SqT.of hb,rfl,l,_,_,rfl,rfl,hl2,by rw [Zni]; exact ZC (by omega),?_⟩;have hb2:upd H2 l (.lst (intsV done++[.int (p:Int)])) b=some (.tup [.int (p:Int),c']):=upd_k hb ne;have x2:Ext H (upd H2 l (.lst (intsV done++[.int (p:Int)]))):=x.over hl;refine ⟨_,rfl,b,_,1,c',rfl,rfl,SqT.of hb2,rfl,⟨c',done++[p],left,rfl,x2,?_,hc3.keep (ZaT hl2),by simp⟩,?_⟩
    ·rw [Za,intsV,intsV,Zn2];rfl
    ·rw [Za3 hl2,Za3 (Za (H:=H2) (a:=l)),Znl,Znl,Zni];simp only [ZnZ,Zpa];omega
  ·rintro σ H' Q1 Q2 hQ ⟨v,e1,c,e2,q⟩;exact ⟨v,e1,c,e2,hQ _ _ q⟩
end
structure RM where
 p:Nat
 m:Nat
 A:List Nat
 B:List Nat
def RM.suf (ws:List W) (r:RM):W:=(ws.getD r.p []).drop r.m
structure RM.Ok (ws:List W) (r:RM):Prop where
 hp:r.p < ws.length
 hm:r.m≤(ws.getD r.p []).length
theorem RM.Ok.isSuf {ws:List W}{r:RM} (h:r.Ok ws):Suf ws (r.suf ws):=⟨r.p,r.m,h.hp,h.hm,rfl⟩
def Jw (C:Addr) (H:Hp) (o:Addr) (r:RM):Prop:=∃ dx va vb,H o=some (.ins C dx [("place",.int (r.p:Int)),("mark",.int (r.m:Int)),("ahead",va),("behind",vb)])∧Ch H va r.A∧Ch H vb r.B
theorem Jw.ext {C:Addr}{H H':Hp}{o:Addr}{r:RM} (h:Jw C H o r) (x:Ext H H'):Jw C H' o r:=let ⟨dx,va,vb,h1,h2,h3⟩:=h; ⟨dx,va,vb,x.ins h1,h2.ext x,h3.ext x⟩
theorem Jw.keep {C:Addr}{H H':Hp}{o:Addr}{r:RM} (h:Jw C H o r) (k1:∀ b C dx fs,H b=some (.ins C dx fs)→H' b=some (.ins C dx fs)) (k2:∀ b xs,H b=some (.tup xs)→H' b=some (.tup xs)):Jw C H' o r:=
 let ⟨dx,va,vb,h1,h2,h3⟩:=h; ⟨dx,va,vb,k1 _ _ _ _ h1,h2.keep k2,h3.keep k2⟩
structure Zhu (P:Program) (w:World) (K:Znj) (mg:Str→Option Value) (base:Heap) (C:Addr):Prop where
 there:mg "Rest"=some (.ref C)
 cls:Cls K C
 n1:ZG K C "place"
 n2:ZG K C "mark"
 n3:ZG K C "ahead"
 n4:ZG K C "behind"
section
variable {P:Program}{w:World}{K:Znj}{mg:Str→Option Value}{base:Heap}{C:Addr}
def Zfi (C:Addr):Sp:=fun vs H Q _=>∃ (o dx:Addr) (p m va vb:V),vs=[.ref o,p,m,va,vb]∧H o=some (.ins C dx [])∧Q .non (upd H o (.ins C dx [("place",p),("mark",m),("ahead",va),("behind",vb)]))
theorem Zf3 {f:Addr}{fd:FuncData} (F:Fun K "__init__" "Rest.__init__" Pl.c_Rest_init f fd) (cl:Cls K C) (n1:ZG K C "place") (n2:ZG K C "mark") (n3:ZG K C "ahead") (n4:ZG K C "behind"):
  Ym P w K mg base CX0 1 f fd ["self","place","mark","ahead","behind"] (Zfi C):=by
 have sc:Zn ["self","place","mark","ahead","behind"] ["self","place","mark","ahead","behind"] (Zf Pl.c_Rest_init):=scO;refine F.ok sc (fun vs H Q E h=>?_) (fun cdv A outer s H vs Q E hr h=>?_)
 ·obtain ⟨_,_,_,_,_,_,rfl,_⟩:=h;rfl
 ·obtain ⟨o,dx,p,m,va,vb,rfl,ho,k⟩:=h;refine ⟨_,Zb (Jk (pv 0) (pv 1) rfl) (Zb (Jk (pv 0) (pv 2) rfl) (Zb (Jk (pv 0) (pv 3) rfl) (pss_one (Jk (pv 0) (pv 4) rfl)))),?_⟩;try dsimp only [ZH,Cx.nox,Cx.wish]
  refine ⟨_,rfl,_,rfl,o,C,dx,[],rfl,ho,cl,n1,by decide,_,rfl,_,rfl,o,C,dx,_,rfl,Za,cl,n2,(by show 1 < 1000; decide),?_⟩;rw [Jp];refine ⟨_,rfl,_,rfl,o,C,dx,_,rfl,Za,cl,n3,(by show 2 < 1000; decide),?_⟩;rw [Jp];refine ⟨_,rfl,_,rfl,o,C,dx,_,rfl,Za,cl,n4,(by show 3 < 1000; decide),?_⟩;rw [Jp];exact k
end
def YV (C:Addr) (H:Hp) (D:Addr) (l:List (Addr × RM)):Prop:=H D=some (.lst (l.map fun x=>V.ref x.1))∧∀ x∈l,Jw C H x.1 x.2
theorem YV.ext {C D:Addr}{H H':Hp}{l:List (Addr × RM)} (h:YV C H D l) (x:Ext H H'):YV C H' D l:=⟨x.lst h.1,fun y hy=>(h.2 y hy).ext x⟩
theorem Zhy (t:W) (m n:Nat):cut t m n++t.drop (m+n)=t.drop m:=by
 rw [cut,←Zrg,Zoo]
abbrev num (R:Nat→List Nat) (r:RM):Nat:=(R r.p).getD r.m 0
def ZeC (P:Program) (w:World) (K:Znj) (mg:Str→Option Value) (base:Heap) (C:Addr):Prop:=mg "Rest"=some (.ref C)∧∃ f fd,Mk K C f∧Ym P w K mg base CX0 1 f fd ["self","place","mark","ahead","behind"] (Zfi C)∧Jc K fd ["self","place","mark","ahead","behind"] []
theorem Ze8 {X:Cx}{C:Addr}{e:Expr}{es:List Expr}{t:TA}{p pos:Pos} (O:ZeC X.prog X.w X.K X.mg X.base C) (hr:ZR 2 X.A) (ha:PA X (e :: es) t) (hg:Gl X "Rest":=by rfl)
  (he:starEach (e :: es) X.env=(false,eval e X.env) :: starEach es X.env:=by rfl) (hpl:(backTo pos (starEach es X.env)).any (·.1)=false:=by rfl):PE X (.Call (.Name "Rest" p) (e :: es) [] pos) (Zh7 C (Zfi C) [] E0 t):=by
 obtain ⟨hm,f,fd,M,F,b⟩:=O;exact Ze7 M F hr hg hm b .nil Zm ha (by decide) he hpl
theorem Y2 {C x dx:Addr}{H1:Hp}{p m va vb:V} (hx:H1 x=none) (hdx:H1 dx=none) (ne:dx≠x):Ext H1 (upd (upd (upd H1 dx (.own x)) x (.ins C dx [])) x (.ins C dx [("place",p),("mark",m),("ahead",va),("behind",vb)])):=by
 rw [Jp];exact (Ext.new hdx).newer (by rw [Zp ne.symm]; exact hx)
def Kb (g:Addr) (H H':Hp):Prop:=∀ b o,b≠g→H b=some o→H' b=some o
section
variable {g D C x dx:Addr}{H H1 H2 H4 H5:Hp}{o:HO}{l:List (Addr × RM)}{p m:Nat}{A B:List Nat}{va vb:V}
theorem Kb.refl:Kb g H H:=fun _ _ _ z=>z
theorem Kb.trans (a:Kb g H H1) (b:Kb g H1 H2):Kb g H H2:=fun c o hc z=>b c o hc (a c o hc z)
theorem Kb.newer (a:Kb g H H1) (h:H1 D=none):Kb g H (upd H1 D o):=fun c o hc z=>Zk (a c o hc z) h
theorem Kb.over (a:Kb g H H1) (h:H D=none):Kb g H (upd H1 D o):=fun c o hc z=>upd_k (a c o hc z) (ne_of_none z h)
theorem ZbL {p m va vb:V} (hx:H1 x=none) (hdx:H1 dx=none) (ne:dx≠x):Kb g H1 (upd (upd (upd H1 dx (.own x)) x (.ins C dx [])) x (.ins C dx [("place",p),("mark",m),("ahead",va),("behind",vb)])):=by
 rw [Jp];exact (Kb.refl.newer hdx).newer (by rw [Zp ne.symm]; exact hx)
theorem Zbm (F:YV C H4 D l) (x45:Ext H4 H5) (hx:H5 x=none) (hdx:H5 dx=none) (ne:dx≠x) (ca:Ch H5 va A) (cb:Ch H5 vb B):
  YV C (upd (upd (upd (upd H5 dx (.own x)) x (.ins C dx [])) x (.ins C dx [("place",.int (p:Int)),("mark",.int (m:Int)),("ahead",va),("behind",vb)])) D (.lst ((l.map fun y=>V.ref y.1)++[.ref x]))) D (l++[(x,⟨p,m,A,B⟩)]):=by
 have xm:Ext H5 _:=Y2 (C:=C) (p:=.int (p:Int)) (m:=.int (m:Int)) (va:=va) (vb:=vb) hx hdx ne;have hD:=xm.lst (x45.lst F.1);have k1:∀ b C' dx' fs,upd (upd (upd H5 dx (.own x)) x (.ins C dx [])) x (.ins C dx [("place",.int (p:Int)),("mark",.int (m:Int)),("ahead",va),("behind",vb)]) b=some (.ins C' dx' fs)→upd (upd (upd (upd H5 dx (.own x)) x (.ins C dx [])) x (.ins C dx [("place",.int (p:Int)),("mark",.int (m:Int)),("ahead",va),("behind",vb)])) D (.lst ((l.map fun y=>V.ref y.1)++[.ref x])) b=some (.ins C' dx' fs):=fun b C' dx' fs z=>upd_k z (Ye z hD (by simp));refine ⟨by rw [Za,Zn2]; rfl,fun y hy=>?_⟩;rcases Zns.mp hy with z | z
 ·exact ((F.2 y z).ext (x45.trans xm)).keep k1 (ZaT hD)
 ·rw [Znt.mp z];refine ⟨dx,va,vb,k1 _ _ _ _ Za,?_,?_⟩
  ·exact (ca.ext xm).keep (ZaT hD)
  ·exact (cb.ext xm).keep (ZaT hD)
end
section
variable {P:Program}{w:World}{K:Znj}{mg:Str→Option Value}{base:Heap}{C:Addr}
def Zgn (C:Addr):Sp:=fun vs H Q _=>∃ (a g:Addr) (ws:List W) (d:Nat→Addr) (f:W→Addr) (i:Nat),vs=[.ref a,.ref g,.int (i:Int)]∧ZW H a ws∧GR H g ws d f∧i < ws.length∧
 ∀ D l H',H D=none→Ext H H'→Kb g H H'→YV C H' D l→(∀ x∈l,x.2.Ok ws∧x.2.A.length≤1∧x.2.B.length≤1)→l.length≤10000→Q (.ref D) H'
theorem ZfE {ws:List W}{t:W}{m n:Nat} (hm:m≤t.length) (hn:n∈Yk ws t m):∃ j rest,Yb ws (cut t m n)=j :: rest∧m+n≤t.length:=by
 obtain ⟨h1,h2,h3⟩:=(Yv ws t m n hm).mp hn;obtain ⟨j,hj⟩:=ZpP.mp h1;have hm':j∈Yb ws (cut t m n):=(mem_placesOf ws _ j).mpr hj;cases e:Yb ws (cut t m n) with
 | nil=>rw [e] at hm'; cases hm'
 | cons a rest=>exact ⟨a,rest,rfl,by omega⟩
theorem Zcv (D:Def K mg "first_rests" "first_rests" Pl.s_first_rests ["code","groups","place"]) (CS:Cal P w K mg base CX0 1 "standing" ["groups","text","mark"] (JS K)) (O:ZeC P w K mg base C):Cal P w K mg base CX0 3 "first_rests" ["code","groups","place"] (Zgn C):=by
 have sc:Zn ["code","groups","place","found","mark","places"] ["code","groups","place"] (Zf Pl.s_first_rests):=scO;refine D.cal fun f fd F=>F.ok sc (fun vs H Q E h=>?_) (fun cdv A outer s H vs Q E hr h=>?_)
 ·obtain ⟨_,_,_,_,_,_,rfl,_⟩:=h;rfl
 ·obtain ⟨a,g,ws,d,f,i,rfl,hC,G,hi,k⟩:=h;have hr1:ZR 1 _:=hr.mono (by decide);refine ⟨_,Zb (Zl (i:=3) sc.nd rfl (Or.inl rfl) (Yd pa_nil))
   (Zb (Z9 PassesOwn.never rfl (ZF (Zc CS hr1 (pa_cons (pv 1) (pa_cons (pe_ix (r:=YG K) ZB (pv 0) (pv 2) (fun _ _=>rfl)) (pa_cons Ze pa_nil))) Zm))
    (Za5 (K:=K) (n:=2) rfl rfl (Yu (Zr (i:=4) sc.nd rfl (Or.inl rfl)) (Yu (Zr (i:=5) sc.nd rfl (Or.inl rfl)) Zav)))
    (pss_one (ZD (Zz Zcl (pe_ix (r:=YG K) ZB (pv 5) Ze (fun _ _=>rfl)) (pv 2) (Zu _))
     (pss_one (Yg (Yx ZnG ZnR ZnS Z7 (pv 3) (pa_cons (Ze8 O hr (pa_cons (pv 2) (pa_cons (pv 4) (pa_cons (Jj (pa_cons (pv 2) (pa_cons Zdv pa_nil))) (pa_cons (Jj (pa_cons (pe_ix (r:=YG K) ZB (pv 5) Ze (fun _ _=>rfl)) (pa_cons Zdv pa_nil))) pa_nil))))) pa_nil)))) pss_nil)))
   (pss_one (ps_ret (pv 3)))),?_⟩
  try dsimp only [ZH,Cx.nox,Cx.wish]
  refine ⟨by show 0≤sizeLine; exact ZnH _,fun fo hfo=>?_⟩;have x1:Ext H (upd H fo (.lst [])):=Ext.new hfo;have hfg:fo≠g:=fun z=>by
   rcases G.gd with q | ⟨_,q⟩ <;> rw [←z,hfo] at q <;> cases q
  have hxl:(ws.getD i []).length≤10000:=hC.short _ (by rw [Znv,Znp hi]; simp);refine ⟨_,rfl,_,rfl,_,rfl,a,_,(i:Int),sv (ws.getD i []),rfl,rfl,SqL.of (hC.ext x1).at_,ZE (by rw [Znq]; simp [hi]),?_⟩;refine ⟨g,ws,d,f,ws.getD i [],0,rfl,x1.gr G,hC.few,by omega,ZnH _,fun D H3 ys hD x3 kb hys hpr=>⟨D,rfl,⟨_,SqL.of hys⟩,?_⟩⟩;have hfo3:H3 fo=some (.lst []):=kb fo _ hfg Za;have hyl:ys.length≤10000:=by
   rw [←hpr.length];have:=Zbv ws (ws.getD i []) 0;have:=hC.few;omega
  have hDfo:D≠fo:=(ne_of_none Za hD).symm;have x13:=x1.trans x3;have kb1:Kb g H H3:=(Kb.refl.newer hfo).trans kb;refine Yl (K:=K) (a:=D) (xs:=ys) (fun j σ H4=>(∃ mk pl:Option V,σ=[some (.ref a),some (.ref g),some (.int (i:Int)),some (.ref fo),mk,pl])∧Ext H H4∧Kb g H H4∧Kb fo H3 H4∧
   ∃ l,YV C H4 fo l∧(∀ x∈l,x.2.Ok ws∧x.2.A.length≤1∧x.2.B.length≤1)∧l.length≤j)
   ⟨⟨_,_,rfl⟩,x13,kb1,fun b o _ z=>z,[],⟨hfo3,fun x hx=>nomatch hx⟩,fun x hx=>(nomatch hx),Znn _⟩ (fun j σ H4 _ h=>SqL.of (h.2.2.2.1 D _ hDfo hys)) ?_ ?_
  ·rintro j y σ H4 hy ⟨⟨mk,pl,rfl⟩,x4,kb4,k34,l,hl,hok,hll⟩;have hj:j < ys.length:=(Znw.mp hy).1;obtain ⟨n,hn,t,rfl,ht⟩:=JO hpr hy;have hnm:=ZnD hn;obtain ⟨q,rest,e,hle⟩:=ZfE (ZnH _) hnm;have hcw:cut (ws.getD i []) 0 n∈ws:=((Yv ws _ 0 n (ZnH _)).mp hnm).1;have hpl:=kb4 _ _ (fun z=>by rcases G.gd with q' | ⟨_,q'⟩ <;> rw [←z,G.lst _ hcw] at q' <;> cases q') (G.lst _ hcw);rw [e] at hpl;have ht4:=k34 t _ (Ye ht hfo3 (by simp)) ht;refine ⟨t,_,rfl,SqT.of ht4,rfl,_,_,rfl,_,_,rfl,rfl,?_⟩;refine ⟨_,rfl,_,_,0,.int (q:Int),rfl,rfl,SqL.of hpl,ZE (j:=0) rfl,_,rfl,rfl,_,rfl,?_⟩;by_cases hqi:q=i
   ·refine Zx (by simp [hqi]) ⟨⟨_,_,rfl⟩,x4,kb4,k34,l,hl,hok,by omega⟩
   ·refine ZI (by simp; omega) ?_;refine ⟨_,rfl,.inl ⟨rfl,_,SqL.of hl.1⟩,_,rfl,_,rfl,_,rfl,by show 2≤sizeLine; decide,fun t1 ht1=>?_⟩;have xa:Ext H4 (upd H4 t1 (.tup [.int (i:Int),.non])):=Ext.new ht1;refine ⟨_,rfl,_,_,0,.int (q:Int),rfl,rfl,SqL.of (xa.lst hpl),ZE (j:=0) rfl,by show 2≤sizeLine; decide,fun t2 ht2=>?_⟩;have xb:Ext H4 (upd (upd H4 t1 (.tup [.int (i:Int),.non])) t2 (.tup [.int (q:Int),.non])):=xa.newer ht2;have h1:upd (upd H4 t1 (.tup [.int (i:Int),.non])) t2 (.tup [.int (q:Int),.non]) t1=some (.tup [.int (i:Int),.non]):=Zk Za ht2;intro x dx hx hdx ne;refine ⟨x,dx,_,_,_,_,rfl,Za,rfl,?_⟩;have F:=Zbm (p:=i) (m:=n) (A:=[i]) (B:=[q]) hl xb hx hdx ne ⟨t1,.non,rfl,h1,rfl⟩ ⟨t2,.non,rfl,Za,rfl⟩;have hD7:=(Y2 (C:=C) (p:=.int (i:Int)) (m:=.int (n:Int)) (va:=.ref t1) (vb:=.ref t2) hx hdx ne).lst (xb.lst hl.1);rw [Int.natCast_zero,ZpL];refine ⟨fo,_,_,rfl,rfl,hD7,by rw [Zni]; exact ZC (by omega),⟨_,_,rfl⟩,?_,?_,?_,l++[(x,⟨i,n,[i],[q]⟩)],F,?_,?_⟩
    ·exact (x4.trans (xb.trans (Y2 hx hdx ne))).over hfo
    ·exact (((kb4.newer ht1).newer ht2).trans (ZbL hx hdx ne)).over hfo
    ·intro b o hb z;exact upd_k ((((Kb.refl (g:=fo)).newer ht1 |>.newer ht2).trans (ZbL hx hdx ne)) b o hb (k34 b o hb z)) hb
    ·intro y hy;rcases Zns.mp hy with z | z
     ·exact hok y z
     ·rw [Znt.mp z];exact ⟨⟨hi,by show n≤(ws.getD i []).length; omega⟩,Znn _,Znn _⟩
    ·rw [Znl];simp only [ZnZ,Zpa];omega
  ·rintro σ H4 ⟨⟨mk,pl,rfl⟩,x4,kb4,k34,l,hl,hok,hll⟩;exact ⟨_,rfl,k fo l _ hfo x4 kb4 hl hok (by omega)⟩
def ZhY (K:Znj):Sp:=fun vs H Q _=>∃ (a:Addr) (us:List W) (t:W),vs=[.ref a,sv t]∧SqL K H a (us.map sv)∧us.length≤10000∧∀ n,n≤us.length→Q (.int (n:Int)) H
theorem Zdp (D:Def K mg "count_below" "count_below" Pl.s_count_below ["values","value"]) (B:Yo mg):Cal P w K mg base CX0 1 "count_below" ["values","value"] (ZhY K):=by
 have sc:Zn ["values","value","low","high","middle"] ["values","value"] (Zf Pl.s_count_below):=scO;refine D.cal fun f fd F=>F.ok sc (fun vs H Q E h=>?_) (fun cdv A outer s H vs Q E hr h=>?_)
 ·obtain ⟨_,_,_,rfl,_⟩:=h;rfl
 ·obtain ⟨a,us,t,rfl,hq,hl,k⟩:=h;refine ⟨_,Zb (Zl (i:=2) sc.nd rfl (Or.inl rfl) Ze)
   (Zb (Zl (i:=3) sc.nd rfl (Or.inl rfl) (Zg Zq (by rfl) B.len Zno (pa_cons (pv 0) pa_nil)))
   (Zb (JQ PassesOwn.never (Zz Zck (pv 2) (pv 3) (Zu _))
    (Zb (Zl (i:=4) sc.nd rfl (Or.inl rfl) (Zo ZX (Zo Z2 (pv 2) (pv 3)) Ze))
    (pss_one (ZD (Zz Zi6 (pe_ix (r:=YG K) ZB (pv 0) (pv 4) (fun _ _=>rfl)) (pv 1) (Zu _))
     (pss_one (Zl (i:=2) sc.nd rfl (Or.inl rfl) (Zo Z2 (pv 4) Ze)))
     (pss_one (Zl (i:=3) sc.nd rfl (Or.inl rfl) (pv 4)))))))
   (pss_one (ps_ret (pv 2))))),?_⟩
  try dsimp only [ZH,Cx.nox,Cx.wish]
  refine ⟨_,rfl,a,_,rfl,.inl hq,?_⟩;rw [Zni];refine ZdO (fun σ H2=>∃ (lo hi:Nat) (mi:Option V),σ=[some (.ref a),some (sv t),some (.int (lo:Int)),some (.int (hi:Int)),mi]∧H2=H∧lo≤hi∧hi≤us.length)
   (fun σ _=>match σ with | [_,_,some (.int lo),some (.int hi),_]=>(hi - lo).toNat | _=>0) ⟨0,us.length,none,rfl,rfl,ZnH _,Znn _⟩ ?_ ?_
  ·rintro σ H2 ⟨lo,hi,mi,rfl,rfl,h1,h2⟩;refine ⟨_,rfl,_,rfl,_,_,rfl,rfl,_,rfl,?_⟩;by_cases hlt:lo < hi
   ·refine ZI (by simpa using hlt) ?_;have em:((lo:Int)+(hi:Int)) / 2=(((lo+hi) / 2:Nat):Int):=by omega
    have hmid:(lo+hi) / 2 < us.length:=by omega
    refine ⟨_,rfl,_,rfl,_,_,rfl,rfl,_,_,rfl,rfl,⟨by decide,by decide⟩,?_⟩;have e4:(some (some (V.int (((lo:Int)+(hi:Int)) / 2))):Option (Option V))=some (some (.int (((lo+hi) / 2:Nat):Int))):=by rw [em]
    refine ⟨_,rfl,_,e4,a,_,_,sv (us.getD ((lo+hi) / 2) []),rfl,rfl,hq,ZE (by rw [Znq]; simp [hmid]),_,rfl,_,_,rfl,rfl,_,rfl,?_⟩;by_cases hs:(st (us.getD ((lo+hi) / 2) [])).cps.toList < (st t).cps.toList
    ·refine ZI (by rw [decide_eq_true_iff]; exact hs) ?_;refine ⟨_,e4,_,_,rfl,rfl,⟨(lo+hi) / 2+1,hi,_,rfl,rfl,by omega,h2⟩,?_⟩;show ((hi:Int) - _).toNat < ((hi:Int) - (lo:Int)).toNat;omega
    ·refine Zx (by rw [decide_eq_true_iff]; exact hs) ?_;refine ⟨_,e4,⟨lo,(lo+hi) / 2,_,rfl,rfl,by omega,by omega⟩,?_⟩;show ((((lo+hi) / 2:Nat):Int) - (lo:Int)).toNat < ((hi:Int) - (lo:Int)).toNat;omega
   ·refine Zx (by simpa using hlt) ⟨_,rfl,k lo (by omega)⟩
  ·rintro σ H' Q1 Q2 hQ ⟨v,e1,v2,e2,i,j,e3,e4,b,e5,q⟩;exact ⟨v,e1,v2,e2,i,j,e3,e4,b,e5,hQ _ _ q⟩
def ZhX (K:Znj):Sp:=fun vs H Q _=>∃ (a b:Addr) (ws:List W) (ms:List Nat) (t:W),vs=[.ref a,.ref b,sv t]∧SqL K H a ((ms.map fun i=>ws.getD i []).map sv)∧SqL K H b (intsV ms)∧(∀ i∈ms,i < ws.length)∧ms.length≤10000∧
 ∀ D ps,H D=none→ps.length≤ms.length→(∀ j∈ps,j < ws.length∧t <+: ws.getD j [])→Q (.ref D) (upd H D (.lst (intsV ps)))
theorem Zcx (D:Def K mg "places_begun" "places_begun" Pl.s_places_begun ["words","order","tail"]) (B:Yo mg) (CB:Cal P w K mg base CX0 1 "count_below" ["values","value"] (ZhY K)):Cal P w K mg base CX0 2 "places_begun" ["words","order","tail"] (ZhX K):=by
 have sc:Zn ["words","order","tail","turn","found"] ["words","order","tail"] (Zf Pl.s_places_begun):=scO;refine D.cal fun f fd F=>F.ok sc (fun vs H Q E h=>?_) (fun cdv A outer s H vs Q E hr h=>?_)
 ·obtain ⟨_,_,_,_,_,rfl,_⟩:=h;rfl
 ·obtain ⟨a,b,ws,ms,t,rfl,ha,hb,ho,hl,k⟩:=h;refine ⟨_,Zb (Zl (i:=3) sc.nd rfl (Or.inl rfl) (Zc CB hr (pa_cons (pv 0) (pa_cons (pv 2) pa_nil)) Zm))
   (Zb (Zl (i:=4) sc.nd rfl (Or.inl rfl) (Yd pa_nil))
   (Zb (JQ PassesOwn.never (PW.pt (Zb4 (Zz Zck (pv 3) (Zg Zq (by rfl) B.len Zno (pa_cons (pv 0) pa_nil)) (Zu _)) (ZbP (ZK (Yx Zol Zpc Zpd mt_starts (pe_ix (r:=YG K) ZB (pv 0) (pv 3) (fun _ _=>rfl)) (pa_cons (pv 2) pa_nil))))))
    (Zb (Yg (Yx ZnG ZnR ZnS Z7 (pv 4) (pa_cons (pe_ix (r:=YG K) ZB (pv 1) (pv 3) (fun _ _=>rfl)) pa_nil)))
    (pss_one (Zl (i:=3) sc.nd rfl (Or.inl rfl) (Zo Z2 (pv 3) Ze)))))
   (pss_one (ps_ret (pv 4))))),?_⟩
  try dsimp only [ZH,Cx.nox,Cx.wish]
  refine ⟨_,rfl,_,rfl,a,_,t,rfl,ha,by rw [Zni]; exact hl,fun c hcl=>?_⟩;refine ⟨by show 0≤sizeLine; exact ZnH _,fun fo hfo=>?_⟩;rw [Zni] at hcl;refine ⟨fun m σ H2=>∃ ps:List Nat,m=ms.length - (c+ps.length)∧c+ps.length≤ms.length∧σ=[some (.ref a),some (.ref b),some (sv t),some (.int ((c+ps.length:Nat):Int)),some (.ref fo)]∧H2=upd H fo (.lst (intsV ps))∧∀ j∈ps,j < ws.length∧t <+: ws.getD j [],
   ⟨_,[],rfl,hcl,rfl,rfl,fun j hj=>nomatch hj⟩,?_⟩
  rintro m σ H2 ⟨ps,rfl,hn,rfl,rfl,hall⟩;generalize en:ps.length=n at hn ⊢;have x2:Ext H (upd H fo (.lst (intsV ps))):=Ext.new hfo;have ha2:=x2.sqL ha;have hb2:=x2.sqL hb;refine ⟨_,rfl,_,rfl,a,_,rfl,.inl ha2,_,_,rfl,rfl,_,rfl,?_⟩;rw [Zni,Zni];by_cases hlt:c+n < ms.length
  ·refine ZI (by rw [decide_eq_true_iff]; omega) ?_;refine ⟨_,rfl,_,rfl,a,_,_,sv (ws.getD (ms.getD (c+n) 0) []),rfl,rfl,ha2,ZE (by rw [Znq,Znq]; simp [hlt]),rfl,_,rfl,_,_,rfl,rfl,_,rfl,?_⟩;by_cases hp:t.isPrefixOf (ws.getD (ms.getD (c+n) 0) [])=true
   ·rw [hp];have hm:ms.getD (c+n) 0∈ms:=by rw [Znv,Znp hlt]; exact ZoD hlt
    refine Yi ⟨fun σ H3=>σ=[some (.ref a),some (.ref b),some (sv t),some (.int ((c+(n+1):Nat):Int)),some (.ref fo)]∧H3=upd H fo (.lst (intsV (ps++[ms.getD (c+n) 0]))),?_,?_⟩
    ·rintro σ H3 ⟨rfl,rfl⟩;have el:(ps++[ms.getD (c+n) 0]).length=n+1:=by rw [Znl,en]; rfl
     refine ⟨_,(by omega:ms.length - (c+(n+1)) < ms.length - (c+n)),ps++[ms.getD (c+n) 0],by rw [el],by omega,by rw [el],rfl,fun j hj=>?_⟩;rcases Zns.mp hj with z | z
     ·exact hall j z
     ·rw [Znt.mp z];exact ⟨ho _ hm,Zph.mp hp⟩
    ·refine ⟨_,rfl,.inl ⟨rfl,_,SqL.of Za⟩,_,rfl,_,rfl,b,_,_,.int ((ms.getD (c+n) 0:Nat):Int),rfl,rfl,hb2,ZE (by rw [Znq]; simp [hlt]),fo,_,_,rfl,rfl,Za,by rw [Zni]; exact ZC (by omega),?_⟩;refine ⟨_,rfl,_,_,rfl,rfl,rfl,?_⟩;rw [Jp,intsV,intsV,Zn2];rfl
   ·rw [ZpV _ |>.mp hp];exact Z8 ⟨_,rfl,k fo _ hfo (by omega) hall⟩
  ·exact Zx (by rw [decide_eq_true_iff]; omega) (Z8 ⟨_,rfl,k fo _ hfo (by omega) hall⟩)
end
theorem JI (t:W) (m:Nat) (h:m≤t.length):JU t (some (m:Int)) none=t.drop m:=by
 unfold JU;rw [HT.sIx_nat,ZoH h];exact Zok (by rw [ZnV]; exact Znn _)
section
variable {P:Program}{w:World}{K:Znj}{mg:Str→Option Value}{base:Heap}{C:Addr}
def Zfr (K:Znj) (H:Hp) (a b:Addr) (ws:List W) (ms:List Nat):Prop:=SqL K H a ((ms.map fun i=>ws.getD i []).map sv)∧SqL K H b (intsV ms)∧(∀ i∈ms,i < ws.length)∧ms.length≤10000
theorem Zfr.ext {H H':Hp}{a b:Addr}{ws:List W}{ms:List Nat} (h:Zfr K H a b ws ms) (x:Ext H H'):Zfr K H' a b ws ms:=⟨x.sqL h.1,x.sqL h.2.1,h.2.2⟩
def Zgk (K:Znj) (C:Addr):Sp:=fun vs H Q _=>∃ (a g wa oa o:Addr) (ws:List W) (d:Nat→Addr) (f:W→Addr) (ms:List Nat) (r:RM),vs=[.ref a,.ref g,.ref wa,.ref oa,.ref o]∧ZW H a ws∧GR H g ws d f∧Zfr K H wa oa ws ms∧Jw C H o r∧r.Ok ws∧
 ∀ D l H',H D=none→Ext H H'→Kb g H H'→YV C H' D l→(∀ x∈l,x.2.Ok ws∧x.2.A.length≤max r.A.length r.B.length+1∧x.2.B.length≤max r.A.length r.B.length+1)→l.length≤20000→Q (.ref D) H'
theorem Zcy (D:Def K mg "rests_behind" "rests_behind" Pl.s_rests_behind ["code","groups","words","order","rest"]) (B:Yo mg) (CS:Cal P w K mg base CX0 1 "standing" ["groups","text","mark"] (JS K))
  (CB:Cal P w K mg base CX0 2 "places_begun" ["words","order","tail"] (ZhX K)) (O:ZeC P w K mg base C) (RC:Zhu P w K mg base C):Cal P w K mg base CX0 3 "rests_behind" ["code","groups","words","order","rest"] (Zgk K C):=by
 have sc:Zn ["code","groups","words","order","rest","word","found","mark","places","tail","place"] ["code","groups","words","order","rest"] (Zf Pl.s_rests_behind):=scO;refine D.cal fun f fd F=>F.ok sc (fun vs H Q E h=>?_) (fun cdv A outer s H vs Q E hr h=>?_)
 ·obtain ⟨_,_,_,_,_,_,_,_,_,_,rfl,_⟩:=h;rfl
 ·obtain ⟨a,g,wa,oa,o,ws,d,f,ms,r,rfl,hC,G,hO,hR,hok,k⟩:=h;have hr1:ZR 1 _:=hr.mono (by decide);refine ⟨_,Zb (Zl (i:=5) sc.nd rfl (Or.inl rfl) (pe_ix (r:=YG K) ZB (pv 0) (Zw (pv 4) rfl) (fun _ _=>rfl)))
   (Zb (Zl (i:=6) sc.nd rfl (Or.inl rfl) (Yd pa_nil))
   (Zb (Z9 PassesOwn.never rfl (ZF (Zc CS hr1 (pa_cons (pv 1) (pa_cons (pv 5) (pa_cons (Zw (pv 4) rfl) pa_nil))) Zm))
    (Za5 (K:=K) (n:=2) rfl rfl (Yu (Zr (i:=7) sc.nd rfl (Or.inl rfl)) (Yu (Zr (i:=8) sc.nd rfl (Or.inl rfl)) Zav)))
    (pss_one (Yg (Yx ZnG ZnR ZnS Z7 (pv 6) (pa_cons (Ze8 O hr (pa_cons (Zw (pv 4) rfl) (pa_cons (pv 7) (pa_cons (Zw (pv 4) rfl) (pa_cons (Jj (pa_cons (pe_ix (r:=YG K) ZB (pv 8) Ze (fun _ _=>rfl)) (pa_cons (Zw (pv 4) rfl) pa_nil))) pa_nil))))) pa_nil)))))
   (Zb (Zl (i:=9) sc.nd rfl (Or.inl rfl) (ZM (r:=Zdx) Jy (pv 5) (ZN (Zw (pv 4) rfl)) ZY))
   (Zb (Z9 PassesOwn.never rfl (ZF (Zc CB hr (pa_cons (pv 2) (pa_cons (pv 3) (pa_cons (pv 9) pa_nil))) Zm)) (Zr (i:=10) sc.nd rfl (Or.inl rfl))
    (pss_one (Yg (Yx ZnG ZnR ZnS Z7 (pv 6) (pa_cons (Ze8 O hr (pa_cons (pv 10) (pa_cons (Zg Zs (by rfl) B.len Zno (pa_cons (pv 9) pa_nil)) (pa_cons (Jj (pa_cons (pv 10) (pa_cons (Zw (pv 4) rfl) pa_nil))) (pa_cons (Zw (pv 4) rfl) pa_nil))))) pa_nil)))))
   (pss_one (ps_ret (pv 6))))))),?_⟩
  try dsimp only [ZH,Cx.nox,Cx.wish]
  obtain ⟨dx,va,vb,hR,cA,cB⟩:=hR;have hxl:(ws.getD r.p []).length≤10000:=hC.short _ (by rw [Znv,Znp hok.hp]; simp);refine ⟨_,rfl,_,rfl,o,C,dx,_,.int (r.p:Int),rfl,hR,RC.cls,RC.n1,rfl,a,_,(r.p:Int),sv (ws.getD r.p []),rfl,rfl,SqL.of hC.at_,ZE (by rw [Znq]; simp [hok.hp]),?_⟩;refine ⟨by show 0≤sizeLine; exact ZnH _,fun fo hfo=>?_⟩;have x1:Ext H (upd H fo (.lst [])):=Ext.new hfo;have hfg:fo≠g:=fun z=>by
   rcases G.gd with q | ⟨_,q⟩ <;> rw [←z,hfo] at q <;> cases q
  refine ⟨_,rfl,_,rfl,_,rfl,o,C,dx,_,.int (r.m:Int),rfl,x1.ins hR,RC.cls,RC.n2,rfl,?_⟩;refine ⟨g,ws,d,f,ws.getD r.p [],r.m,rfl,x1.gr G,hC.few,by omega,hok.hm,fun D H3 ys hD x3 kb hys hpr=>⟨D,rfl,⟨_,SqL.of hys⟩,?_⟩⟩;have hfo3:H3 fo=some (.lst []):=kb fo _ hfg Za;have hyl:ys.length≤10000:=by
   rw [←hpr.length];have:=Zbv ws (ws.getD r.p []) r.m;have:=hC.few;omega
  have hDfo:D≠fo:=(ne_of_none Za hD).symm;have x13:=x1.trans x3;have kb1:Kb g H H3:=(Kb.refl.newer hfo).trans kb;refine Yl (K:=K) (a:=D) (xs:=ys) (fun j σ H4=>(∃ mk pl:Option V,σ=[some (.ref a),some (.ref g),some (.ref wa),some (.ref oa),some (.ref o),some (sv (ws.getD r.p [])),some (.ref fo),mk,pl,none,none])∧Ext H H4∧Kb g H H4∧Kb fo H3 H4∧
   ∃ l,YV C H4 fo l∧(∀ x∈l,x.2.Ok ws∧x.2.A.length≤max r.A.length r.B.length+1∧x.2.B.length≤max r.A.length r.B.length+1)∧l.length=j)
   ⟨⟨_,_,rfl⟩,x13,kb1,Kb.refl,[],⟨hfo3,fun x hx=>nomatch hx⟩,fun x hx=>(nomatch hx),rfl⟩ (fun j σ H4 _ h=>SqL.of (h.2.2.2.1 D _ hDfo hys)) ?_ ?_
  ·rintro j y σ H4 hy ⟨⟨mk,pl,rfl⟩,x4,kb4,k34,l,hl,hlo,hll⟩;have hj:j < ys.length:=(Znw.mp hy).1;obtain ⟨n,hn,t,rfl,ht⟩:=JO hpr hy;have hnm:=ZnD hn;obtain ⟨q,rest,e,hle⟩:=ZfE hok.hm hnm;have hcw:cut (ws.getD r.p []) r.m n∈ws:=((Yv ws _ r.m n hok.hm).mp hnm).1;have hpl:=kb4 _ _ (fun z=>by rcases G.gd with q' | ⟨_,q'⟩ <;> rw [←z,G.lst _ hcw] at q' <;> cases q') (G.lst _ hcw);rw [e] at hpl;have ht4:=k34 t _ (Ye ht hfo3 (by simp)) ht;have hR4:=x4.ins hR;refine ⟨t,_,rfl,SqT.of ht4,rfl,_,_,rfl,_,_,rfl,rfl,?_⟩;refine ⟨_,rfl,.inl ⟨rfl,_,SqL.of hl.1⟩,_,rfl,o,C,dx,_,.int (r.p:Int),rfl,hR4,RC.cls,RC.n1,rfl,_,rfl,_,rfl,o,C,dx,_,va,rfl,hR4,RC.cls,RC.n3,rfl,?_⟩;refine ⟨_,rfl,_,_,0,.int (q:Int),rfl,rfl,SqL.of hpl,ZE (j:=0) rfl,_,rfl,o,C,dx,_,vb,rfl,hR4,RC.cls,RC.n4,rfl,by show 2≤sizeLine; decide,fun t1 ht1=>?_⟩;have xa:Ext H4 (upd H4 t1 (.tup [.int (q:Int),vb])):=Ext.new ht1;intro x dx' hx hdx ne;refine ⟨x,dx',_,_,_,_,rfl,Za,rfl,?_⟩;have F:=Zbm (p:=r.p) (m:=r.m+n) (A:=r.A) (B:=q :: r.B) hl xa hx hdx ne ((cA.ext x4).ext xa) ⟨t1,vb,rfl,Za,(cB.ext x4).ext xa⟩;have hD7:=(Y2 (C:=C) (p:=.int (r.p:Int)) (m:=.int ((r.m+n:Nat):Int)) (va:=va) (vb:=.ref t1) hx hdx ne).lst (xa.lst hl.1);rw [←Int.natCast_add];refine ⟨fo,_,_,rfl,rfl,hD7,by rw [Zni]; exact ZC (by omega),⟨_,_,rfl⟩,?_,?_,?_,l++[(x,⟨r.p,r.m+n,r.A,q :: r.B⟩)],F,?_,?_⟩
   ·exact (x4.trans (xa.trans (Y2 hx hdx ne))).over hfo
   ·exact ((kb4.newer ht1).trans (ZbL hx hdx ne)).over hfo
   ·intro b o hb z;exact upd_k (((Kb.refl (g:=fo)).newer ht1 |>.trans (ZbL hx hdx ne)) b o hb (k34 b o hb z)) hb
   ·intro y hy;rcases Zns.mp hy with z | z
    ·exact hlo y z
    ·rw [Znt.mp z];refine ⟨⟨hok.hp,hle⟩,by show r.A.length≤_; omega,by show r.B.length+1≤_; omega⟩
   ·rw [Znl,hll];rfl
  ·rintro σ H4 ⟨⟨mk,pl,rfl⟩,x4,kb4,k34,l,hl,hlo,hll⟩;have hR4:=x4.ins hR;refine ⟨_,rfl,_,rfl,o,C,dx,_,.int (r.m:Int),rfl,hR4,RC.cls,RC.n2,rfl,_,rfl,ws.getD r.p [],rfl,Zd (by omega),?_⟩;rw [JI _ _ hok.hm];have hO4:=hO.ext x4;have hsl:(r.suf ws).length≤10000:=by rw [RM.suf,ZnV]; omega
   refine ⟨_,rfl,_,rfl,_,rfl,wa,oa,ws,ms,r.suf ws,rfl,hO4.1,hO4.2.1,hO4.2.2.1,hO4.2.2.2,fun D2 ps hD2 hpl hps=>⟨D2,rfl,⟨_,SqL.of Za⟩,?_⟩⟩;have hfD2:D2≠fo:=(ne_of_none hl.1 hD2).symm;have x5:Ext H4 (upd H4 D2 (.lst (intsV ps))):=Ext.new hD2;refine Yl (K:=K) (a:=D2) (xs:=intsV ps) (fun j σ H6=>(∃ pp:Option V,σ=[some (.ref a),some (.ref g),some (.ref wa),some (.ref oa),some (.ref o),some (sv (ws.getD r.p [])),some (.ref fo),mk,pl,some (sv (r.suf ws)),pp])∧Ext H H6∧Kb g H H6∧H6 D2=some (.lst (intsV ps))∧
    ∃ l2,YV C H6 fo (l++l2)∧(∀ x∈l2,x.2.Ok ws∧x.2.A.length≤max r.A.length r.B.length+1∧x.2.B.length≤max r.A.length r.B.length+1)∧l2.length=j)
    ⟨⟨_,rfl⟩,x4.trans x5,kb4.newer hD2,Za,[],by rw [ZoG]; exact hl.ext x5,fun x hx=>(nomatch hx),rfl⟩ (fun j σ H6 _ h=>SqL.of h.2.2.2.1) ?_ ?_
   ·rintro j y σ H6 hy ⟨⟨pp,rfl⟩,x6,kb6,hd6,l2,hl2,hlo2,hll2⟩;rw [intsV,Znq] at hy;obtain ⟨p,hp,rfl⟩:=Option.map_eq_some_iff.mp hy;have hj:j < ps.length:=(Znw.mp hp).1;obtain ⟨hpw,hpre⟩:=hps p (ZnD hp);have hR6:=x6.ins hR;have hfew:=hO4.2.2.2;refine ⟨_,rfl,.inl ⟨rfl,_,SqL.of hl2.1⟩,_,rfl,_,rfl,st (r.suf ws),rfl,by rw [st_len]; exact Zd (by omega),?_⟩;rw [st_len];refine ⟨_,rfl,_,rfl,o,C,dx,_,vb,rfl,hR6,RC.cls,RC.n4,rfl,by show 2≤sizeLine; decide,fun t1 ht1=>?_⟩;have xa:Ext H6 (upd H6 t1 (.tup [.int (p:Int),vb])):=Ext.new ht1;refine ⟨_,rfl,o,C,dx,_,va,rfl,xa.ins hR6,RC.cls,RC.n3,rfl,?_⟩;intro x dx' hx hdx ne;refine ⟨x,dx',_,_,_,_,rfl,Za,rfl,?_⟩;have F:=Zbm (p:=p) (m:=(r.suf ws).length) (A:=p :: r.B) (B:=r.A) hl2 xa hx hdx ne ⟨t1,vb,rfl,Za,(cB.ext x6).ext xa⟩ ((cA.ext x6).ext xa);have hD7:=(Y2 (C:=C) (p:=.int (p:Int)) (m:=.int (((r.suf ws).length:Nat):Int)) (va:=.ref t1) (vb:=va) hx hdx ne).lst (xa.lst hl2.1);refine ⟨fo,_,_,rfl,rfl,hD7,by rw [Zni,Znl]; exact ZC (by omega),⟨_,rfl⟩,?_,?_,?_,l2++[(x,⟨p,(r.suf ws).length,p :: r.B,r.A⟩)],?_,?_,?_⟩
    ·exact (x6.trans (xa.trans (Y2 hx hdx ne))).over hfo
    ·exact ((kb6.newer ht1).trans (ZbL hx hdx ne)).over hfo
    ·exact upd_k ((Y2 hx hdx ne).lst (xa.lst hd6)) hfD2
    ·rw [←ZnO];exact F
    ·intro y hy;rcases Zns.mp hy with z | z
     ·exact hlo2 y z
     ·rw [Znt.mp z];refine ⟨⟨hpw,hpre.length_le⟩,by show r.B.length+1≤_; omega,by show r.A.length≤_; omega⟩
    ·rw [Znl,hll2];rfl
   ·rintro σ H6 ⟨⟨pp,rfl⟩,x6,kb6,hd6,l2,hl2,hlo2,hll2⟩;have hfew:=hO4.2.2.2;have il:(intsV ps).length=ps.length:=Zni ..;refine ⟨_,rfl,k fo (l++l2) _ hfo x6 kb6 hl2 (fun x hx=>?_) (by rw [Znl]; omega)⟩;rcases Zns.mp hx with z | z
    ·exact hlo x z
    ·exact hlo2 x z
end
theorem ZeB {α:Type}{κ:α→Key}{v:α→V}{k:Key}{u:V}:∀ {l:List α},Yn (l.map fun a=>(κ a,v a)) k=some u→∃ a∈l,κ a=k∧v a=u
 | [],h=>by simp [Yn] at h
 | b :: l,h=>by
  rw [ZnN] at h;by_cases e:κ b=k
  ·rw [Yr (p:=(κ b,v b)) e] at h;exact ⟨b,ZnF,e,Option.some.inj h⟩
  ·rw [Yq (p:=(κ b,v b)) e] at h;obtain ⟨a,ha,h1⟩:=ZeB h;exact ⟨a,ZnC _ ha,h1⟩
theorem Zgu {α:Type}{κ:α→Key}{v:α→V}:∀ {l:List α}{a:α},a∈l→(Yn (l.map fun a=>(κ a,v a)) (κ a)).isSome=true
 | b :: l,a,h=>by
  rw [ZnN];by_cases e:κ b=κ a
  ·rw [Yr (p:=(κ b,v b)) e]; rfl
  ·rw [Yq (p:=(κ b,v b)) e];rcases Znz.mp h with z | z
   ·exact absurd (by rw [z]) e
   ·exact Zgu z
section
variable {P:Program}{w:World}{K:Znj}{mg:Str→Option Value}{base:Heap}{C:Addr}
abbrev knV (R:Nat→List Nat) (kl:List (Addr × RM)):List (Key × V):=kl.map fun x=>((.inl (num R x.2:Int):Key),V.ref x.1)
abbrev JX (kl:List (Addr × RM)):List V:=kl.map fun x=>V.ref x.1
def Zh3 (C:Addr):Sp:=fun vs H Q _=>∃ (kn nu fr:Addr) (ws:List W) (R:Nat→List Nat) (kl l:List (Addr × RM)),vs=[.ref kn,.ref nu,.ref fr]∧ZcO H nu ws R∧H kn=some (.dK (knV R kl))∧YV C H fr l∧(∀ x∈l,x.2.Ok ws)∧(kl.map fun x=>num R x.2).Nodup∧kl.length+l.length≤100000∧
 ∀ D nw H',H D=none→H' D=some (.lst (JX nw))→H' kn=some (.dK (knV R (kl++nw)))→Kb kn H H'→(∀ x∈nw,x∈l)→((kl++nw).map fun x=>num R x.2).Nodup→Q (.ref D) H'
theorem Ze2 (D:Def K mg "take_new" "take_new" Pl.s_take_new ["known","numbers","rests"]) (RC:Zhu P w K mg base C):Cal P w K mg base CX0 1 "take_new" ["known","numbers","rests"] (Zh3 C):=by
 have sc:Zn ["known","numbers","rests","fresh","rest","number"] ["known","numbers","rests"] (Zf Pl.s_take_new):=scO;refine D.cal fun f fd F=>F.ok sc (fun vs H Q E h=>?_) (fun cdv A outer s H vs Q E hr h=>?_)
 ·obtain ⟨_,_,_,_,_,_,_,rfl,_⟩:=h;rfl
 ·obtain ⟨kn,nu,fr,ws,R,kl,l,rfl,⟨ps,hnu,hpl,hrow⟩,hkn,hF,hlok,hnd,hsz,k⟩:=h;have hu:=Zbf hr;refine ⟨_,Zb (Zl (i:=3) sc.nd rfl (Or.inl rfl) (Yd pa_nil))
   (Zb (Z9 PassesOwn.never rfl (ZF (pv 2)) (Zr (i:=4) sc.nd rfl (Or.inl rfl))
    (Zb (Zl (i:=5) sc.nd rfl (Or.inl rfl) (pe_ix (r:=YG K) ZB (pe_ix (r:=YG K) ZB (pv 1) (Zw (pv 4) rfl) (fun _ _=>rfl)) (Zw (pv 4) rfl) (fun _ _=>rfl)))
    (pss_one (ZD (JR (Ji hu (pv 5) (pv 0)))
     (Zb (Zfa hu (pv 0) (pv 5) (pv 4) rfl)
     (pss_one (Yg (Yx ZnG ZnR ZnS Z7 (pv 3) (pa_cons (pv 4) pa_nil))))) pss_nil))))
   (pss_one (ps_ret (pv 3)))),?_⟩
  try dsimp only [ZH,Cx.nox,Cx.wish]
  refine ⟨by show 0≤sizeLine; exact ZnH _,fun fo hfo=>?_⟩;have x1:Ext H (upd H fo (.lst [])):=Ext.new hfo;have knfo:kn≠fo:=ne_of_none hkn hfo;have frfo:fr≠fo:=ne_of_none hF.1 hfo;refine ⟨_,rfl,fr,rfl,⟨_,SqL.of (x1.lst hF.1)⟩,?_⟩;refine Yl (K:=K) (a:=fr) (xs:=l.map fun x=>V.ref x.1) (fun j σ H4=>(∃ o1 o2:Option V,σ=[some (.ref kn),some (.ref nu),some (.ref fr),some (.ref fo),o1,o2])∧Kb kn H H4∧∃ nw,H4 fo=some (.lst (JX nw))∧H4 kn=some (.dK (knV R (kl++nw)))∧nw.length≤j∧(∀ x∈nw,x∈l)∧((kl++nw).map fun x=>num R x.2).Nodup)
   ⟨⟨_,_,rfl⟩,Kb.refl.newer hfo,[],Za,by rw [ZoG]; exact Zk hkn hfo,Znn _,fun x hx=>(nomatch hx),by rw [ZoG]; exact hnd⟩ (fun j σ H4 _ h=>SqL.of (h.2.1 fr _ (Ye hF.1 hkn (by simp)) hF.1)) ?_ ?_
  ·rintro j y σ H4 hy ⟨⟨o1,o2,rfl⟩,kb,nw,hfo4,hkn4,hnl,hin,hnd4⟩;rw [Znq] at hy;obtain ⟨⟨x,r⟩,hx,rfl⟩:=Option.map_eq_some_iff.mp hy;have hj:j < l.length:=(Znw.mp hx).1;have hxm:=ZnD hx;have rok:r.Ok ws:=hlok _ hxm;obtain ⟨dx,va,vb,hR,cA,cB⟩:=hF.2 _ hxm;have hR4:=kb _ _ (Ye hR hkn (by simp)) hR;have hnu4:=kb _ _ (Ye hnu hkn (by simp)) hnu;obtain ⟨hro,hrk⟩:=hrow r.p rok.hp;have hrow4:=kb _ _ (Ye hro hkn (by simp)) hro;have hmm:r.m < (R r.p).length:=by rw [hrk.1]; exact ZpJ rok.hm
   refine ⟨_,rfl,_,rfl,x,C,dx,_,.int (r.p:Int),rfl,hR4,RC.cls,RC.n1,rfl,nu,_,(r.p:Int),.ref (ps.getD r.p 0),rfl,rfl,SqL.of hnu4,ZE (by rw [Znq]; simp [show r.p < ps.length by rw [hpl]; exact rok.hp]),?_⟩;refine ⟨_,rfl,x,C,dx,_,.int (r.m:Int),rfl,hR4,RC.cls,RC.n2,rfl,_,_,(r.m:Int),.int ((num R r:Nat):Int),rfl,rfl,SqL.of hrow4,ZE (by rw [Znq]; simp [num,hmm]),?_⟩;refine ⟨_,rfl,_,rfl,kn,_,rfl,.inl ⟨_,(.inl (num R r:Int):Key),.inl hkn4,rfl,rfl⟩,_,rfl,?_⟩;cases ev:Yn (knV R (kl++nw)) (.inl (num R r:Int)) with
   | some u=>exact Zx (by simp) ⟨⟨_,_,rfl⟩,kb,nw,hfo4,hkn4,by omega,hin,hnd4⟩
   | none=>
    refine ZI (by simp) ?_;have hlt:(kl++nw).length < 1000000:=by rw [Znl]; omega
    refine ⟨_,rfl,_,rfl,_,rfl,kn,_,rfl,.inl ⟨_,(.inl (num R r:Int):Key),hkn4,rfl,by rw [Zni]; exact ZC (by omega),rfl⟩,?_⟩;rw [Zaj _ ev];have hfo5:∀ o,upd H4 kn o fo=some (.lst (JX nw)):=fun o=>upd_k hfo4 knfo.symm;refine ⟨_,rfl,.inl ⟨rfl,_,SqL.of (hfo5 _)⟩,_,rfl,fo,_,_,rfl,rfl,hfo5 _,by rw [Zni]; exact ZC (by omega),⟨_,_,rfl⟩,?_,nw++[(x,r)],?_,?_,?_,?_,?_⟩
    ·intro b o hb z;exact upd_k (upd_k (kb b o hb z) hb) (ne_of_none z hfo)
    ·rw [Za,JX,JX,Zn2];rfl
    ·rw [Zp knfo,Za,←ZnO];simp only [knV,Zn2];rfl
    ·rw [Znl];simp only [ZnZ,Zpa];omega
    ·intro z hz;rcases Zns.mp hz with z' | z'
     ·exact hin z z'
     ·rw [Znt.mp z']; exact hxm
    ·rw [←ZnO,Zn2,ZoZ];refine ⟨hnd4,by simp,fun u hu' v hv e=>?_⟩;obtain ⟨y,hy,rfl⟩:=Znm.mp hu';simp only [ZnN,Zqg,Znt] at hv;subst hv;have:=Zgu (κ:=fun x:Addr × RM=>(.inl (num R x.2:Int):Key)) (v:=fun x=>V.ref x.1) hy;simp only [e,ev] at this;cases this
  ·rintro σ H4 ⟨⟨o1,o2,rfl⟩,kb,nw,hfo4,hkn4,hnl,hin,hnd4⟩;exact ⟨_,rfl,k fo nw _ hfo hfo4 hkn4 kb hin hnd4⟩
end
end L2
namespace Tw
structure Zap (c:Zbi) (ts:List W):Prop where
 ne:[] ∉ ts
 ww:∀ i j,i < c.length→j < c.length→i≠j→∀ r,c.getD j []=c.getD i []++r→r∈ts
 tw:∀ t∈ts,∀ i,i < c.length→∀ r,c.getD i []=t++r→r∈ts
 wt:∀ t∈ts,∀ i,i < c.length→∀ r,t=c.getD i []++r→r∈ts
theorem Zdi {α:Type} [DecidableEq α]:∀ {l m:List α},l.Nodup→(∀ x∈l,x∈m)→l.length≤m.length
 | [],_,_,_=>ZnH _
 | x :: l,m,h,hs=>by
  have hx:x∈m:=hs x ZnF;obtain ⟨h1,h2⟩:=ZoA.mp h;have:=Zdi (l:=l) (m:=m.erase x) h2 fun y hy=>by
   have hne:y≠x:=fun e=>h1 (e ▸ hy);exact (List.mem_erase_of_ne hne).mpr (hs y (ZnC _ hy))
  rw [List.length_erase_of_mem hx] at this;have:0 < m.length:=List.length_pos_of_mem hx;simp only [ZnZ];omega
theorem Jo {c:Zbi}{L:Nat} (hL:∀ w∈c,w.length≤L):∀ (r:List Nat),(Yy c r).length≤r.length * L
 | []=>by simp [Yy]
 | i :: r=>by
  have h:=Jo hL r;have hi:(c.getD i []).length≤L:=by
   by_cases hi:i < c.length
   ·have:c.getD i []=c[i]:=by simp [hi]
    rw [this]; exact hL _ (ZoD hi)
   ·have:c.getD i []=[]:=by simp [Nat.le_of_not_lt hi]
    rw [this]; exact ZnH _
  rw [Zgs,Znl,ZnZ,Nat.succ_mul];omega
theorem nodup_map_of {α β:Type}{f:α→β}:∀ {l:List α},l.Nodup→(∀ a∈l,∀ b∈l,f a=f b→a=b)→(l.map f).Nodup
 | [],_,_=>by simp
 | a :: l,h,hi=>by
  obtain ⟨h1,h2⟩:=ZoA.mp h;rw [ZnN,ZoA];refine ⟨fun hm=>?_,nodup_map_of h2 fun x hx y hy e=>hi x (ZnC _ hx) y (ZnC _ hy) e⟩;obtain ⟨b,hb,e⟩:=Znm.mp hm;have:=hi b (ZnC _ hb) a ZnF e;exact h1 (this ▸ hb)
end Tw
namespace L2
open PySem PySem.Spec PyProof.Rows Tw
seal PSs PS PE PT PW PA PG PGs PI PC
theorem Ext.kb {H H1 H2:Hp}{k:Addr} (x:Ext H H1) (y:Kb k H1 H2) (h:H k=none):Ext H H2:=fun b o e=>by
 rcases x b o e with z | ⟨he,ob,z⟩
 ·exact .inl (y b _ (ne_of_none e h) z)
 ·exact .inr ⟨he,ob,y b _ (ne_of_none e h) z⟩
theorem XP.rdK {P a:Addr}{H H1:Hp}{kvs:List (Key × V)} (x:XP P H H1) (h:Rd H a (.dK kvs)):Rd H1 a (.dK kvs):=by
 rcases h with h | ⟨ob,h⟩
 ·rcases x.ext a _ (x.ne h (fun _ z=>nomatch z)) h with h1 | ⟨_,ob,h1⟩
  ·exact .inl h1
  ·exact .inr ⟨ob,h1⟩
 ·exact .inr ⟨ob,x.keep h (fun _ e=>nomatch e) fun _ e=>nomatch e⟩
theorem XP.gr {P g:Addr}{H H1:Hp}{ws:List W}{d:Nat→Addr}{f:W→Addr} (x:XP P H H1) (G:GR H g ws d f):GR H1 g ws d f:=⟨x.rdK G.gd,fun n hn=>x.rdK (G.inn n hn),fun y hy=>x.lst (G.lst y hy)⟩
theorem ZeQ {ws:List W}{R:Nat→List Nat}{kl:List (Addr × RM)} (hR:∀ p,p < ws.length→ZaI (ws.getD p []) (R p)) (nd:(kl.map fun x=>num R x.2).Nodup) (ok:∀ x∈kl,x.2.Ok ws):kl.length≤6464:=by
 have h1:=Zdi (m:=ZnB 6401) nd fun n hn=>by
  obtain ⟨x,hx,rfl⟩:=Znm.mp hn;have q:=hR _ (ok x hx).hp;have hl:x.2.m < (R x.2.p).length:=by rw [q.1]; exact ZpJ (ok x hx).hm
  refine Zoq.mpr (ZpJ (q.2 _ ?_));rw [num,Znv,Znp hl];exact ZoD hl
 rw [Zni,Zod] at h1;omega
theorem ZkH {ws:List W}{t x s:W}{m:Nat} (hx:x∈ws) (hm:m≤t.length) (e:t.drop m=x++s):x.length∈Yk ws t m∧cut t m x.length=x∧t.drop (m+x.length)=s:=by
 have hc:cut t m x.length=x:=by unfold cut; rw [e,List.take_left]
 have hl:x.length≤t.length - m:=by
  have:=congrArg Zoe e;rw [ZnV,Znl] at this;omega
 refine ⟨(Yv ws t m _ hm).mpr ⟨by rw [hc]; exact hx,hl,by rw [hc]⟩,hc,?_⟩;rw [←Zrg,e,Zqj]
section
variable {P:Program}{w:World}{K:Znj}{mg:Str→Option Value}{base:Heap}{C T:Addr}
structure ZgA (C:Addr) (ws:List W) (R:Nat→List Nat) (kn wt:Addr) (H:Hp) (kl:List (Addr × RM)) (c:Nat):Prop where
 kn:H kn=some (.dK (knV R kl))
 wt:H wt=some (.lst (JX kl))
 at_:∀ x∈kl,Jw C H x.1 x.2
 ok:∀ x∈kl,x.2.Ok ws
 le:∀ x∈kl,x.2.A.length≤c∧x.2.B.length≤c
 nd:(kl.map fun x=>num R x.2).Nodup
theorem ZgA.step {ws:List W}{R:Nat→List Nat}{kn wt g D8:Addr}{H7 H8 H9:Hp}{kl l nw:List (Addr × RM)}{c c':Nat} (S:ZgA C ws R kn wt H7 kl c) (hc:c≤c') (x8:Ext H7 H8) (k8:Kb g H7 H8) (gk:kn≠g) (gw:wt≠g) (F:YV C H8 D8 l)
  (lok:∀ x∈l,x.2.Ok ws∧x.2.A.length≤c'∧x.2.B.length≤c') (h1:H9 kn=some (.dK (knV R (kl++nw)))) (kb:Kb kn H8 H9) (hin:∀ x∈nw,x∈l) (hnd:((kl++nw).map fun x=>num R x.2).Nodup):
  H9 wt=some (.lst (JX kl))∧ZgA C ws R kn wt (upd H9 wt (.lst (JX kl++JX nw))) (kl++nw) c':=by
 have kw:kn≠wt:=Ye S.kn S.wt (by simp);have hk8:=k8 kn _ gk S.kn;have hw8:=k8 wt _ gw S.wt;have hw9:=kb wt _ kw.symm hw8;have keep:∀ {x:Addr}{r:RM},Jw C H8 x r→Jw C (upd H9 wt (.lst (JX kl++JX nw))) x r:=fun h=>
  (h.keep (fun b _ _ _ z=>kb b _ (Ye z hk8 (by simp)) z) fun b _ z=>kb b _ (Ye z hk8 (by simp)) z).keep (fun b _ _ _ z=>upd_k z (Ye z hw9 (by simp))) (ZaT hw9)
 refine ⟨hw9,upd_k h1 kw,by rw [Za,JX,JX,JX,Zn2],fun x hx=>?_,fun x hx=>?_,fun x hx=>?_,hnd⟩
 ·rcases Zns.mp hx with z | z
  ·exact keep ((S.at_ x z).ext x8)
  ·exact keep (F.2 x (hin x z))
 ·rcases Zns.mp hx with z | z
  ·exact S.ok x z
  ·exact (lok x (hin x z)).1
 ·rcases Zns.mp hx with z | z
  ·have:=S.le x z;exact ⟨by omega,by omega⟩
  ·exact (lok x (hin x z)).2
def ZkB (K:Znj) (T C:Addr):Sp:=fun vs H Q _=>∃ (a:Addr) (ws:List W),vs=[.ref a]∧ZW H a ws∧ws.length < 64∧(∀ x∈ws,x.length≤100)∧PkL T H∧
 ∀ kn R kl H',XP T H H'→H kn=none→H' kn=some (.dK (knV R kl))→(∀ x∈kl,Jw C H' x.1 x.2)→(∀ x∈kl,x.2.Ok ws)→(∀ x∈kl,x.2.A.length≤10000∧x.2.B.length≤10000)→kl.length≤6464→Q (.ref kn) H'
theorem ZdU (D:Def K mg "all_rests" "all_rests" Pl.s_all_rests ["code"]) (B:Yo mg) (hE:∃ t,mg "EMPTY"=some (.int 0 t)) (CG:Cal P w K mg base CX0 1 "grouped" ["words"] (Zak K)) (CI:Cal P w K mg base CX0 1 "in_order" ["values"] (Zes K T))
  (CW:Cal P w K mg base CX0 1 "words_at" ["code","places"] (Za8 K)) (CN:Cal P w K mg base CX0 1 "rest_numbers" ["code"] Zev) (CF:Cal P w K mg base CX0 3 "first_rests" ["code","groups","place"] (Zgn C))
  (CT:Cal P w K mg base CX0 1 "take_new" ["known","numbers","rests"] (Zh3 C)) (CB:Cal P w K mg base CX0 3 "rests_behind" ["code","groups","words","order","rest"] (Zgk K C)):Cal P w K mg base CX0 4 "all_rests" ["code"] (ZkB K T C):=by
 have sc:Zn ["code","groups","order","words","numbers","known","waiting","place","turn","rests"] ["code"] (Zf Pl.s_all_rests):=scO;obtain ⟨tE,hE⟩:=hE;refine D.cal fun f fd F=>F.ok sc (fun vs H Q E h=>?_) (fun cdv A outer s H vs Q E hr h=>?_)
 ·obtain ⟨_,_,rfl,_⟩:=h;rfl
 ·obtain ⟨a,ws,rfl,hC,h64,hsh,pk,k⟩:=h;have hu:=Zbf hr;have hr1:ZR 1 _:=hr.mono (by decide);refine ⟨_,Zb (Zl (i:=1) sc.nd rfl (Or.inl rfl) (Zc CG hr1 (pa_cons (pv 0) pa_nil) Zm))
   (Zb (Zl (i:=2) sc.nd rfl (Or.inl rfl) (Zc CI hr1 (pa_cons (pv 0) pa_nil) Zm))
   (Zb (Zl (i:=3) sc.nd rfl (Or.inl rfl) (Zc CW hr1 (pa_cons (pv 0) (pa_cons (pv 2) pa_nil)) Zm))
   (Zb (Zl (i:=4) sc.nd rfl (Or.inl rfl) (Zc CN hr1 (pa_cons (pv 0) pa_nil) Zm))
   (Zb (Zl (i:=5) sc.nd rfl (Or.inl rfl) Zdu)
   (Zb (Zl (i:=6) sc.nd rfl (Or.inl rfl) (Yd pa_nil))
   (Zb (Z9 PassesOwn.never rfl (Y3 (by rfl) B.range (pa_cons (Zg Zq (by rfl) B.len Zno (pa_cons (pv 0) pa_nil)) pa_nil)) (Zr (i:=7) sc.nd rfl (Or.inl rfl))
    (pss_one (Yg (Yx ZnG Zqu Zqw Zeh (pv 6) (pa_cons (Zc CT hr1 (pa_cons (pv 5) (pa_cons (pv 4) (pa_cons (Zc CF hr (pa_cons (pv 0) (pa_cons (pv 1) (pa_cons (pv 7) pa_nil))) Zm) pa_nil))) Zm) pa_nil)))))
   (Zb (Zl (i:=8) sc.nd rfl (Or.inl rfl) Ze)
   (Zb (JQ PassesOwn.never (PW.pt (Zb4 (Zz Zck (pv 8) (Zg Zq (by rfl) B.len Zno (pa_cons (pv 6) pa_nil)) (Zu _)) (ZbP (JR (Ji hu (Y8 (v:=.int 0) (by rfl) hE ⟨tE,rfl⟩) (pv 5))))))
    (Zb (Zl (i:=9) sc.nd rfl (Or.inl rfl) (Zc CB hr (pa_cons (pv 0) (pa_cons (pv 1) (pa_cons (pv 3) (pa_cons (pv 2) (pa_cons (pe_ix (r:=YG K) ZB (pv 6) (pv 8) (fun _ _=>rfl)) pa_nil))))) Zm))
    (Zb (Yg (Yx ZnG Zqu Zqw Zeh (pv 6) (pa_cons (Zc CT hr1 (pa_cons (pv 5) (pa_cons (pv 4) (pa_cons (pv 9) pa_nil))) Zm) pa_nil)))
    (pss_one (Zl (i:=8) sc.nd rfl (Or.inl rfl) (Zo Z2 (pv 8) Ze))))))
   (pss_one (ps_ret (pv 5))))))))))),?_⟩
  try dsimp only [ZH,Cx.nox,Cx.wish]
  refine ⟨_,rfl,a,ws,rfl,hC.code,fun g d f H1 hg x1 G=>?_⟩;have hC1:=hC.ext x1;refine ⟨_,rfl,a,ws.map sv,Zhs ws,rfl,SqL.of hC1.at_,by rw [Zni]; exact h64,Zew h64,PkL.ext pk x1,fun D ms H2 x2 hD hD2 ho=>?_⟩;have x12:XP T H H2:=(XP.of pk x1).trans x2;have len:ms.length=ws.length:=by rw [ho.1.length_eq,Zod]
  have lt:∀ i∈ms,i < ws.length:=fun i hi=>Zoq.mp (ho.1.mem_iff.mp hi);have G2:=x2.gr G.rd;have hC2:=x12.codeL hC;refine ⟨_,rfl,_,rfl,a,D,ws,ms,rfl,hC2.code,⟨SqL.of hD2,by omega⟩,lt,fun D3 H3 hD3 x3 hD4=>?_⟩;refine ⟨_,rfl,a,ws,rfl,hC2.ext x3,h64,hsh,fun D4 R H4 hD4' x4 hz4=>?_⟩;have hR:∀ p,p < ws.length→ZaI (ws.getD p []) (R p):=fun p hp=>let ⟨_,_,_,h⟩:=hz4; (h p hp).2;have x24:=x3.trans x4;have x14:XP T H H4:=x12.then x24;have hC4:=hC2.ext x24;have G4:=x24.gr G2;have hO4:Zfr K H4 D3 D ws ms:=⟨SqL.of (x4.lst hD4),SqL.of (x24.lst hD2),lt,by have:=hC.few; omega⟩;intro kn hkn;have x5:Ext H4 (upd H4 kn (.dK [])):=Ext.new hkn;refine ⟨by show 0≤sizeLine; exact ZnH _,fun wt hwt=>?_⟩;have x6:=x5.newer (o:=HO.lst []) hwt;have hkn6:upd (upd H4 kn (.dK [])) wt (.lst []) kn=some (.dK []):=Zk Za hwt;have hwt0:H4 wt=none:=x5.free hwt;have gk:kn≠g:=fun z=>by rcases G4.gd with q | ⟨_,q⟩ <;> rw [←z,hkn] at q <;> cases q
  have gw:wt≠g:=fun z=>by rcases G4.gd with q | ⟨_,q⟩ <;> rw [←z,hwt0] at q <;> cases q
  have S0:ZgA C ws R kn wt (upd (upd H4 kn (.dK [])) wt (.lst [])) [] 1:=⟨hkn6,Za,fun x hx=>(nomatch hx),fun x hx=>(nomatch hx),fun x hx=>(nomatch hx),by simp⟩;refine ⟨_,rfl,a,_,rfl,.inl (SqL.of (hC4.ext x6).at_),_,rfl,by omega,by rw [Zni]; have:=hC.few; omega,?_⟩;have en:(((ws.map sv).length:Nat):Int).toNat=ws.length:=by rw [Zni]; omega
  rw [en];refine Zae (fun i σ H7=>(∃ pl:Option V,σ=[some (.ref a),some (.ref g),some (.ref D),some (.ref D3),some (.ref D4),some (.ref kn),some (.ref wt),pl,none,none])∧Ext H4 H7∧∃ kl,ZgA C ws R kn wt H7 kl 1) ⟨⟨_,rfl⟩,x6,[],S0⟩ ?_ ?_
  ·rintro i σ H7 hi ⟨⟨pl,rfl⟩,x7,kl,S⟩;rw [ZpL];have kll:=ZeQ hR S.nd S.ok;refine ⟨_,rfl,.inl ⟨rfl,_,SqL.of S.wt⟩,_,rfl,_,rfl,_,rfl,_,rfl,_,rfl,a,g,ws,d,f,i,rfl,hC4.ext x7,x7.gr G4,hi,fun D8 l H8 hD8 x8 kb8 hF lok hll=>?_⟩;refine ⟨kn,D4,D8,ws,R,kl,l,rfl,(hz4.ext x7).ext x8,kb8 kn _ gk S.kn,hF,fun x hx=>(lok x hx).1,S.nd,by omega,fun D9 nw H9 hD9 h9 hk9 kb9 hin hnd=>?_⟩;obtain ⟨hw9,S9⟩:=S.step (Znn 1) x8 kb8 gk gw hF lok hk9 kb9 hin hnd;have kl9:=ZeQ hR S9.nd S9.ok;have x9:Ext H4 H9:=(x7.trans x8).kb kb9 hkn;refine ⟨wt,D9,_,_,rfl,rfl,hw9,h9,by rw [Znl] at kl9; rw [Zni,Zni]; exact Zd (by omega),⟨_,rfl⟩,x9.over hwt0,kl++nw,S9⟩
  ·rintro σ H7 ⟨⟨pl,rfl⟩,x7,kl,S⟩;refine ⟨fun m σ H'=>∃ (t:Nat) (kl:List (Addr × RM)) (rs:Option V),m=10000 - t∧σ=[some (.ref a),some (.ref g),some (.ref D),some (.ref D3),some (.ref D4),some (.ref kn),some (.ref wt),pl,some (.int (t:Int)),rs]∧Ext H4 H'∧ZgA C ws R kn wt H' kl (t+1)∧t≤kl.length,⟨_,0,kl,none,rfl,rfl,x7,S,ZnH _⟩,?_⟩;rintro m σ H' ⟨t,kl,rs,rfl,rfl,x',S,htl⟩;have kll:=ZeQ hR S.nd S.ok;refine ⟨_,rfl,_,rfl,wt,_,rfl,.inl (SqL.of S.wt),_,_,rfl,rfl,_,rfl,?_⟩;rw [Zni];by_cases hlt:t < kl.length
   ·refine ZI (by rw [decide_eq_true_iff]; omega) ?_;refine ⟨_,rfl,kn,_,rfl,.inl ⟨_,(.inl 0:Key),.inl S.kn,rfl,rfl⟩,_,rfl,?_⟩;have sle:∀ x∈kl,x.2.A.length≤10000∧x.2.B.length≤10000:=fun x hx=>by
     have:=S.le x hx;exact ⟨by omega,by omega⟩
    cases ev:Yn (knV R kl) (.inl 0) with
    | some u=>
     exact Zx (by simp) ⟨_,rfl,k kn R kl _ (x14.then x') (x14.free hkn) S.kn S.at_ S.ok sle kll⟩
    | none=>
     refine ZI (by simp) ⟨fun σ H'=>∃ (kl:List (Addr × RM)) (rs:Option V),σ=[some (.ref a),some (.ref g),some (.ref D),some (.ref D3),some (.ref D4),some (.ref kn),some (.ref wt),pl,some (.int ((t+1:Nat):Int)),rs]∧Ext H4 H'∧ZgA C ws R kn wt H' kl (t+1+1)∧t+1≤kl.length,?_,?_⟩
     ·rintro σ H'' ⟨kl',rs',rfl,q1,q2,q3⟩;exact ⟨10000 - (t+1),by omega,t+1,kl',rs',rfl,rfl,q1,q2,q3⟩
     ·obtain ⟨⟨o,r⟩,ho'⟩:∃ x,kl[t]?=some x:=⟨_,Znp hlt⟩;have hom:=ZnD ho';have rl:=S.le _ hom;refine ⟨_,rfl,_,rfl,_,rfl,_,rfl,_,rfl,_,rfl,wt,_,(t:Int),.ref o,rfl,rfl,SqL.of S.wt,ZE (by rw [Znq,ho']; rfl),?_⟩;refine ⟨a,g,D3,D,o,ws,d,f,ms,r,rfl,hC4.ext x',x'.gr G4,hO4.ext x',S.at_ _ hom,S.ok _ hom,fun D8 l H8 hD8 x8 kb8 hF lok hll=>?_⟩;have lok':∀ x∈l,x.2.Ok ws∧x.2.A.length≤t+1+1∧x.2.B.length≤t+1+1:=fun x hx=>by
       have h1:=lok x hx;have h2:r.A.length≤t+1:=rl.1;have h3:r.B.length≤t+1:=rl.2;exact ⟨h1.1,by omega,by omega⟩
      refine ⟨_,rfl,.inl ⟨rfl,_,SqL.of (kb8 wt _ gw S.wt)⟩,_,rfl,_,rfl,_,rfl,?_⟩;refine ⟨kn,D4,D8,ws,R,kl,l,rfl,(hz4.ext x').ext x8,kb8 kn _ gk S.kn,hF,fun x hx=>(lok x hx).1,S.nd,by omega,fun D9 nw H9 hD9 h9 hk9 kb9 hin hnd=>?_⟩;obtain ⟨hw9,S9⟩:=S.step (Zpb _) x8 kb8 gk gw hF lok' hk9 kb9 hin hnd;have kl9:=ZeQ hR S9.nd S9.ok;have x9:Ext H4 H9:=(x'.trans x8).kb kb9 hkn;refine ⟨wt,D9,_,_,rfl,rfl,hw9,h9,by rw [Znl] at kl9; rw [Zni,Zni]; exact Zd (by omega),?_⟩;refine ⟨_,rfl,_,_,rfl,rfl,kl++nw,_,rfl,x9.over hwt0,S9,by rw [Znl]; omega⟩
   ·refine Zx (by rw [decide_eq_true_iff]; omega) (Z8 ⟨_,rfl,k kn R kl _ (x14.then x') (x14.free hkn) S.kn S.at_ S.ok (fun x hx=>?_) kll⟩);have:=S.le x hx;exact ⟨by omega,by omega⟩
end
end L2
namespace L2
open PySem PySem.Spec PyProof.Rows Tw
section
variable {X:Cx}{kvs:List (Key × V)}{a:Addr}{o:Obj}{σ:St}
def Itv (a:Addr) (o:Obj) (kvs:List (Key × V)):It:=
 ⟨fun i H=>i < kvs.length∧H a=some (.frz o (.dK kvs)),fun i H x H'=>H'=H∧∃ p,kvs[i]?=some p∧x=p.2,fun i H=>kvs.length≤i∧H a=some (.frz o (.dK kvs))⟩
theorem Zjp {P:Program}{w:World}{K:Znj}{tg:Expr}{es:Array DictEntry}{ep:Nat} (a it:Addr) (ho:o.data=.dict es ep):
  ZeD P w K tg (Itv a o kvs) [it] it (fun i h=>h.IsValIter it a i kvs.length ep) where
 mem:=by simp
 obj:=fun i h st b hb=>by
  cases Znt.mp hb;obtain ⟨ob,e,c,d⟩:=st;exact ⟨ob,e,fun v z=>by rw [d] at z; cases z⟩
 keep:=fun i h h' st k=>st.at fun o e=>k it (by simp) o e
 item:=by
  intro X hP hw hK hc i pins s σ H E I hf st hg;subst hP hw hK;obtain ⟨hi,hH⟩:=hg;obtain ⟨eo,hz,hs,vs,kv,od⟩:=I.hok a _ hH;have hl:kvs.length=vs.length:=Paired.length kv;obtain ⟨ob,es',ep',e',ex,d',r⟩:=id od;rw [eo] at e'; cases e';rw [ho] at d'; cases d';have at':s.heap.DictAt (Zy X.prog X.w) a vs ep:=⟨o,es,eo,ex,ho,r⟩;obtain ⟨p,hp⟩:∃ p,kvs[i]?=some p:=⟨kvs[i],by simp [hi]⟩;obtain ⟨u,hu,ru⟩:=KV.get kv hp;obtain ⟨f0,f1,f2,f3,f4,f5⟩:=hf it (by simp);refine wpAny_pyNext_values_item (hl ▸ st) at' hu fun h' st' sb=>?_;have I1:Inv X pins σ H { s with heap:=h' }:=I.turned (t':=s.toks) (fun b o hb e=>(sb.2 b hb).trans e) f0 f1 f3 f4 f5;obtain ⟨ob,e,c,d⟩:=id st';exact ⟨u,rfl,ZfJ (s:={ s with heap:=h' }) e c d (by decide) ⟨p.2,H,I1,ru,⟨rfl,p,hp,rfl⟩,hl ▸ st',fun b hb=>(hf b hb).1⟩⟩
 done:=by
  intro X hP hw hK hc i pins s σ H E I hf st hg;subst hP hw hK;obtain ⟨hi,hH⟩:=hg;obtain ⟨eo,hz,hs,vs,kv,od⟩:=I.hok a _ hH;have hl:kvs.length=vs.length:=Paired.length kv;obtain ⟨ob,es',ep',e',ex,d',r⟩:=id od;rw [eo] at e'; cases e';rw [ho] at d'; cases d';have at':s.heap.DictAt (Zy X.prog X.w) a vs ep:=⟨o,es,eo,ex,ho,r⟩;obtain ⟨f0,f1,f2,f3,f4,f5⟩:=hf it (by simp);exact wpAny_pyNext_values_end (I.ok.hd hc) (hl ▸ st) at' (by simp; omega) fun h' eb=>⟨rfl,I.turned (t':=s.toks) (fun b o hb e=>eb b o hb e) f0 f1 f3 f4 f5⟩
 self:=fun _ _ _ _ _ st h=>wpAny_pyIter_valiter st h
def Zm1 (td:TE):TI:=fun σ H R=>td σ H fun x H1=>∃ a kvs,x=.ref a∧H1 a=some (.dK kvs)∧∀ o H2,Ext H1 H2→H2 a=some (.frz o (.dK kvs))→R (Itv a o kvs) H2
theorem ZlA {l tg:Expr}{td:TE}{apos cpos:Pos} (hl:PE X l td) (hbase:attributeBase l "values" X.env (eval l X.env)=eval l X.env:=by rfl) (hline:(apos.endLine == cpos.line)=true:=by rfl):PI X tg (.Call (.Attribute l "values" apos) [] [] cpos) (Zm1 td):=by
 intro pins s σ H R I h;refine wpAny_Call_method0_late hbase hline (thn (hl pins s σ H _ I h) fun v s1 qz=>?_);obtain ⟨x,H1,I1,r1,a,kvs,ex,hH,q⟩:=qz;subst ex;cases r1;obtain ⟨_,hd,vs,kv,od⟩:=I1.hok a _ hH;have hll:kvs.length=vs.length:=Paired.length kv;obtain ⟨o,es,ep,eo,hc,hdat,r⟩:=id od;have x2:Ext H1 (upd H1 a (.frz o (.dK kvs))):=fun b u z=>by
  by_cases hb:b=a
  ·subst hb;rw [hH] at z;cases z;exact .inr ⟨⟨_,rfl⟩,o,Za⟩
  ·exact .inl (by rw [Zp hb]; exact z)
 have I2:=I1.shut hH eo;refine ⟨"dict",_,Zo2,Zqt,PySem.F.type_dict_values,od.typeIs,fun b z=>?_,Calls.callWith_builtin rfl (Zrm ?_)⟩
 ·cases z;exact ⟨o,eo,hc.2.1⟩
 ·refine call_meetsIn Zqt od.typeIs PySem.F.entry_dict_values (PySem.F.args_dict_values_1 _) (meets_dict_values (Zy X.prog X.w) a hd) ⟨⟨vs,od⟩,?_⟩;have at1:(s1.heap.push { cls:=.type "dict_values",data:=.fields #[.ref a] }).DictAt (Zy X.prog X.w) a vs ep:=⟨o,es,Znk _ eo,hc,hdat,r⟩;refine wpAny_pyIter_values (s:={ s1 with heap:=s1.heap.push { cls:=.type "dict_values",data:=.fields #[.ref a] } }) (d:=a) ⟨_,Znu _ rfl,rfl,rfl⟩ at1 ?_;have le:s1.heap.objs.size≤(s1.heap.push { cls:=.type "dict_values",data:=.fields #[.ref a] }).objs.size:=by rw [ZoV]; exact Zpb _
  refine ⟨_,[(s1.heap.push { cls:=.type "dict_values",data:=.fields #[.ref a] }).objs.size],_,_,upd H1 a (.frz o (.dK kvs)),rfl,I2.kept (t':=s1.toks) fun b o e=>Znk _ (Znk _ e),Zjp (kvs:=kvs) (es:=es) (ep:=ep) a _ hdat,?_,fun b hb=>?_,q o _ x2 Za⟩
  ·rw [hll];exact ⟨_,Znu _ rfl,rfl,rfl⟩
  cases Znt.mp hb;exact I2.fpOk le (I2.hok.fresh le)
theorem ZgE {tt:TT}{te:TE}{H1:Hp}{Q:VK}{j0:Option Nat}{jr:List (Option Nat)}{α:Type}{l:List α}{κ:α→Key}{ν:α→V} (hS:H1 a=some (.frz o (.dK (l.map fun x=>(κ x,ν x))))) (hn:l.length≤sizeLine) (d0:α)
  (f:α→V) (htt:∀ x H',x∈l→Ext H1 H'→Zht tt (some (ν x) :: Y4 jr σ) H' true)
  (hte:∀ x H',x∈l→Ext H1 H'→Zd1 te (some (ν x) :: Y4 jr σ) H' (fun v _=>v=f x))
  (hQ:∀ D H',H1 D=none→Ext H1 H'→H' D=some (.lst (l.map f))→Q (.ref D) H'):
  J9 (Itv a o (l.map fun x=>(κ x,ν x))) (j0 :: jr) (JK 0) tt te σ H1 Q:=by
 have kp:∀ {H'},Ext H1 H'→H' a=some (.frz o (.dK (l.map fun x=>(κ x,ν x)))):=fun x=>x.keep hS fun _ z=>nomatch z;have len:(l.map fun x=>(κ x,ν x)).length=l.length:=Zni ..;have get:∀ i,i < l.length→∃ x,l[i]?=some x∧x∈l∧l.getD i d0=x:=fun i hi=>⟨l[i],Znp hi,ZoD hi,by rw [Znv,Znp hi]; rfl⟩;refine Zbj (n:=l.length) (f:=fun i=>ν (l.getD i d0)) hn (fun i H' x hi=>⟨by rw [len]; exact hi,kp x⟩) (fun i H' v H2 x hi hy=>?_) (fun H' x=>⟨by rw [len]; exact Znn _,kp x⟩) (fun _=>true) (fun i v _=>v=f (l.getD i d0))
  (fun _ _ _ _ _ h=>h) (fun i H' x hi=>?_) (fun i H' x hi _=>?_) (fun D H' ys h1 h2 h3 h4=>hQ D H' h1 h2 ?_)
 ·obtain ⟨h1,q,e,hv⟩:=hy;obtain ⟨y,e1,_,e2⟩:=get i hi;rw [Znq,e1] at e;cases e;exact ⟨by rw [hv,e2],h1⟩
 ·obtain ⟨y,e1,hy,e2⟩:=get i hi;rw [e2];exact htt y H' hy x
 ·obtain ⟨y,e1,hy,e2⟩:=get i hi;rw [e2];exact hte y H' hy x
 ·have ef:(ZnB l.length).filter (fun _=>true)=ZnB l.length:=Zpt.mpr fun _ _=>rfl;rw [ef] at h4;have:∀ {is:List Nat}{ys:List V},Paired (fun i y=>y=f (l.getD i d0)) is ys→ys=is.map fun i=>f (l.getD i d0):=by
   intro is ys h;induction h with
   | nil=>rfl
   | cons r _ ih=>rw [r,ih]; rfl
  rw [h3,this h4];congr 2;apply ZpW
  ·simp
  ·intro i h1 h2;simp at h1;simp [h1]
end
end L2
namespace L2
open PySem PySem.Spec PyProof.Rows Tw
seal PSs PS PE PT PW PA PG PGs PI PC
theorem ZfZ (K:Znj):Zoc K (.type "str") (.type "list")=some false:=by kernel_rfl
section
variable {P:Program}{w:World}{K:Znj}{mg:Str→Option Value}{base:Heap}
def Jl:Sp:=fun vs H Q _=>∃ (a:Addr) (xs:List V),vs=[.ref a]∧H a=some (.lst xs)∧xs.length≤100000∧(∀ v∈xs,(∃ i,v=.int i)∨∃ z,v=.str z)∧∀ l H',H l=none→Ext H H'→H' l=some (.lst xs)→Q (.ref l) H'
theorem Zg1 (D:Def K mg "copied" "copied" Pl.s_copied ["value"]) (B:Yo mg):Cal P w K mg base CX0 1 "copied" ["value"] Jl:=by
 have sc:Zn ["value","told","waiting","members","place"] ["value"] (Zf Pl.s_copied):=scO;refine D.cal fun f fd F=>F.ok sc (fun vs H Q E h=>?_) (fun cdv A outer s H vs Q E hr h=>?_)
 ·obtain ⟨_,_,rfl,_⟩:=h;rfl
 ·obtain ⟨a,xs,rfl,ha,hrl,hpl,k⟩:=h;refine ⟨_,Zb (ZD (Z6 (ZK (Yz B (pv 0)))) (pss_one (ps_ret (pv 0))) pss_nil)
   (Zb (Zl (i:=1) sc.nd rfl (Or.inl rfl) (Yc Z4 (by rfl) B.list boot_list (pa_cons (pv 0) pa_nil)))
   (Zb (Zl (i:=2) sc.nd rfl (Or.inl rfl) (Yd (pa_cons (pv 1) pa_nil)))
   (Zb (JQ PassesOwn.never (Zgg (pv 2) (fun _=>rfl))
    (Zb (Zl (i:=3) sc.nd rfl (Or.inl rfl) (Zg7 ZnG Zq7 Zq8 Zj1 (pv 2)))
    (pss_one (Z9 PassesOwn.never rfl (Y3 (by rfl) B.range (pa_cons (Zg Zq (by rfl) B.len Zno (pa_cons (pv 3) pa_nil)) pa_nil)) (Zr (i:=4) sc.nd rfl (Or.inl rfl))
     (pss_one (ZD (ZK (Yz B (pe_ix (r:=YG K) ZB (pv 3) (pv 4) (fun _ _=>rfl)))) Zem pss_nil))))))
   (pss_one (ps_ret (pv 1)))))),?_⟩
  try dsimp only [ZH,Cx.nox,Cx.wish]
  refine ⟨_,rfl,_,_,_,_,rfl,trivial,.lst ha,Zgx K,_,rfl,Zx (by decide) ?_⟩;refine ⟨_,rfl,a,_,rfl,.inl (SqL.of ha),fun l hl=>?_⟩;have x1:Ext H (upd H l (.lst (xs))):=Ext.new hl;refine ⟨_,rfl,by show 1≤sizeLine; decide,fun q hq=>?_⟩;have nql:l≠q:=ne_of_none Za hq;dsimp only [JK,ZdZ];refine ZdO (fun σ H2=>∃ (ws:List V) (mb pl:Option V),σ=[some (.ref a),some (.ref l),some (.ref q),mb,pl]∧Ext H H2∧H2 l=some (.lst (xs))∧H2 q=some (.lst ws)∧(ws=[.ref l]∨ws=[])) (fun _ H2=>ZeT H2 q) ?_ ?_ ?_
  ·exact ⟨[.ref l],none,none,rfl,x1.newer hq,Zk Za hq,Za,.inl rfl⟩
  ·rintro σ H2 ⟨ws,mb,pl,rfl,x2,hl2,hq2,rfl | rfl⟩
   ·refine ⟨_,rfl,true,.inl ⟨_,SqL.of hq2,rfl⟩,Yi ?_⟩;refine ⟨_,rfl,.inl ⟨rfl,_,SqL.of hq2⟩,q,_,.ref l,rfl,rfl,hq2,rfl,?_⟩;have hl3:upd H2 q (.lst ([V.ref l].dropLast)) l=some (.lst (xs)):=upd_k hl2 nql;have x3:Ext H (upd H2 q (.lst ([V.ref l].dropLast))):=x2.over (x1.free hq);refine ⟨_,rfl,l,_,rfl,.inl (SqL.of hl3),_,rfl,by omega,by omega,?_⟩;have en:((xs.length:Nat):Int).toNat=xs.length:=by omega
    rw [en];refine Zae (fun i σ H4=>(∃ pl:Option V,σ=[some (.ref a),some (.ref l),some (.ref q),some (.ref l),pl])∧H4=upd H2 q (.lst ([V.ref l].dropLast))) ⟨⟨_,rfl⟩,rfl⟩ ?_ ?_
    ·rintro i σ H4 hi ⟨⟨pl,rfl⟩,rfl⟩;have hm:xs[i]?=some xs[i]:=Znp hi;rcases hpl _ (ZoD hi) with ⟨z,e⟩ | ⟨z,e⟩
     ·refine ⟨_,rfl,_,rfl,l,_,_,.int z,rfl,rfl,SqL.of hl3,?_,_,_,_,_,rfl,trivial,.int _,ZhK K,_,rfl,Z8 ⟨⟨_,rfl⟩,rfl⟩⟩;rw [ZpL];exact ZE (by rw [hm,e])
     ·refine ⟨_,rfl,_,rfl,l,_,_,.str z,rfl,rfl,SqL.of hl3,?_,_,_,_,_,rfl,trivial,.str _,ZfZ K,_,rfl,Z8 ⟨⟨_,rfl⟩,rfl⟩⟩;rw [ZpL];exact ZE (by rw [hm,e])
    ·rintro σ H4 ⟨⟨pl,rfl⟩,rfl⟩;refine ⟨⟨[],_,_,rfl,x3,hl3,Za,.inr rfl⟩,?_⟩;rw [Za3 hq2,Za3 (Za (H:=H2) (a:=q))];simp
   ·refine ⟨_,rfl,false,.inl ⟨_,SqL.of hq2,rfl⟩,Z8 ?_⟩;exact ⟨_,rfl,k l H2 hl x2 hl2⟩
  ·rintro σ H' Q1 Q2 hQ ⟨v,e1,b,e2,q⟩;exact ⟨v,e1,b,e2,hQ _ _ q⟩
end
theorem Zbx (r:List W):∀ v∈r.map sv,(∃ i,v=.int i)∨∃ z,v=V.str z:=fun v hv=>by
 obtain ⟨i,_,rfl⟩:=Znm.mp hv;exact .inr ⟨_,rfl⟩
section
variable {P:Program}{w:World}{K:Znj}{mg:Str→Option Value}{base:Heap}
def Zfh (C:Addr):Sp:=fun vs H Q _=>∃ (o p q dx:Addr) (r1 r2:List Nat),vs=[.ref o,.ref p,.ref q]∧H o=some (.ins C dx [])∧H p=some (.lst (intsV r1))∧H q=some (.lst (intsV r2))∧r1.length≤100000∧r2.length≤100000∧
 ∀ l1 l2 H1,H l1=none→H l2=none→l1≠l2→Ext (upd H o (.ins C dx [("one",.ref l1)])) H1→H1 l1=some (.lst (intsV r1))→H1 l2=some (.lst (intsV r2))→Q .non (upd H1 o (.ins C dx [("one",.ref l1),("other",.ref l2)]))
theorem Ext.upd {H H1:Hp}{o:Addr}{u v v':HO} (x:Ext H H1) (h:H o=some u) (nk:∀ kvs,u≠.dK kvs):Ext (upd H o v) (L2.upd H1 o v):=fun b z e=>by
 by_cases hb:b=o
 ·subst hb;rw [Za] at e;exact .inl (by rw [Za]; exact e)
 ·rw [Zp hb] at e;rw [Zp hb];exact x b z e
def Zfj (C:Addr):Sp:=fun vs H Q _=>∃ (o p dx:Addr) (ts:List W),vs=[.ref o,.ref p]∧H o=some (.ins C dx [])∧H p=some (.lst (ts.map sv))∧ts.length≤100000∧
 ∀ l H1,H l=none→Ext H H1→H1 l=some (.lst (ts.map sv))→Q .non (upd H1 o (.ins C dx [("tails",.ref l)]))
end
theorem ZcJ {x:W} (h:YN az (sv x)=true):∀ z∈x,z∈az:=fun z hz=>by
 have h2:=(ZnA _ _ ▸ h:_∧_).2;exact ZpM.mp (Zn1.mp h2 z (show z∈x.toArray.toList from hz))
theorem ZmG {H:Hp}{a:Addr}{ws:List W} (hC:ZW H a ws) {s:W} (h:Suf ws s):∀ z∈s,z∈az:=by
 obtain ⟨p,m,hp,_,rfl⟩:=h;intro z hz;have hx:ws.getD p []∈ws:=by rw [Znv,Znp hp]; exact ZoD hp
 exact ZcJ (hC.ok _ hx) z (ZoK hz)
section
variable {P:Program}{w:World}{K:Znj}{mg:Str→Option Value}{base:Heap}{C T cC cT cCode:Addr}{shC shT:Sp}
def Zh2 (T cC cT:Addr):Sp:=fun vs H Q _=>∃ (a:Addr) (ws:List W),vs=[.ref a]∧ZW H a ws∧ws.length < 64∧(∀ x∈ws,x.length≤100)∧PkL T H∧
 (∀ o dx p q (r1 r2:List Nat) H',XP T H H'→H o=none→H p=none→H q=none→p≠q→H' o=some (.ins cC dx [("one",.ref p),("other",.ref q)])→H' p=some (.lst (intsV r1))→H' q=some (.lst (intsV r2))→r1.length≤10000→r2.length≤10000→Q (.ref o) H')∧
 ∀ o dx p (ts:List W) H',XP T H H'→H o=none→H p=none→H' o=some (.ins cT dx [("tails",.ref p)])→H' p=some (.lst (ts.map sv))→ts.length≤6464→(∀ t∈ts,Suf ws t)→Q (.ref o) H'
theorem Zj8 (D:Def K mg "once" "once" Pl.s_once ["code"]) (hE:∃ t,mg "EMPTY"=some (.int 0 t)) (CC:Cal P w K mg base (CX1 P w) 4 "check_code" ["value"] (ZaR K cCode)) (CA:Cal P w K mg base CX0 4 "all_rests" ["code"] (ZkB K T C)) (CU:Cal P w K mg base CX0 1 "unrolled" ["chain"] (Zbu K)) (RC:Zhu P w K mg base C)
  (OC:Kls P w K mg base "Clash" cC ["one","other"] (Zfh cC) ["code"] shC) (OT:Kls P w K mg base "Tails" cT ["tails"] (Zfj cT) ["code"] shT):Cal P w K mg base CX0 5 "once" ["code"] (Zh2 T cC cT):=by
 have sc:Zn ["code","rests"] ["code"] (Zf Pl.s_once):=scO;obtain ⟨tE,hE⟩:=hE;refine D.cal fun f fd F=>F.ok sc (fun vs H Q E h=>?_) (fun cdv A outer s H vs Q E hr h=>?_)
 ·obtain ⟨_,_,rfl,_⟩:=h;rfl
 ·obtain ⟨a,ws,rfl,hC,h64,hsh,pk,kC,kT⟩:=h;have hu:=Zbf hr;have hr1:ZR 1 _:=hr.mono (by decide);have hr3:ZR 3 _:=hr.mono (by decide);have nd:(["rest","code"]:List Str).Nodup:=by decide +kernel
  refine ⟨_,Zb (Yg (Zc CC hr (pa_cons (pv 0) pa_nil) ZlU))
   (Zb (Zl (i:=1) sc.nd rfl (Or.inl rfl) (Zc CA hr (pa_cons (pv 0) pa_nil) Zm))
   (Zb (ZD (JR (Ze4 hu (Y8 (v:=.int 0) (by rfl) hE ⟨tE,rfl⟩) (pv 1)))
    (pss_one (ps_ret (JP OC hr3 (pa_cons (Zc CU hr1 (pa_cons (Zw (Za4 hu (pv 1) (Y8 (v:=.int 0) (by rfl) hE ⟨tE,rfl⟩) (fun _ _=>rfl)) rfl) pa_nil) Zm) (pa_cons (Zc CU hr1 (pa_cons (Zw (Za4 hu (pv 1) (Y8 (v:=.int 0) (by rfl) hE ⟨tE,rfl⟩) (fun _ _=>rfl)) rfl) pa_nil) Zm) pa_nil))))) pss_nil)
   (pss_one (ps_ret (JP OT hr3 (pa_cons
    (Z5 (N':=["rest","code"]) (js:=[none,some 0]) (.of (by kernel_rfl)) rfl (ZlA (pv 1)) fun C fp s₀ H₀=>⟨Zr (i:=0) nd rfl (Or.inl rfl),ZZ,ZM (r:=Zdx) Jy (pe_ix (r:=YG K) ZB (pv 1) (Zgd (K:=K) rfl (pv 0) rfl) (fun _ _=>rfl)) (ZN (Zgd (K:=K) rfl (pv 0) rfl)) ZY⟩) pa_nil)))))),?_⟩
  try dsimp only [ZH,Cx.nox,Cx.wish]
  refine ⟨_,rfl,.ref a,rfl,hC.arg,hC.sz,fun b H1 x1 hA=>⟨fun _=>?_,fun hb=>absurd (hC.all hA) (by rw [hb]; decide)⟩⟩;refine ⟨_,rfl,a,ws,rfl,hC.ext x1,h64,hsh,PkL.ext pk x1,fun kn R kl H2 x2 hkn hkn2 hRA hok hle hkl=>?_⟩;have x12:XP T H H2:=(XP.of pk x1).trans x2;refine ⟨_,rfl,kn,_,rfl,.inl ⟨_,(.inl 0:Key),.inl hkn2,rfl,rfl⟩,_,rfl,?_⟩;cases ev:Yn (knV R kl) (.inl 0) with
  | some u=>
   obtain ⟨⟨o,r⟩,hy,e1,rfl⟩:=ZeB ev;obtain ⟨dx,va,vb,hR,cA,cB⟩:=hRA _ hy;have hl:=hle _ hy;have hlA:r.A.length≤10000:=hl.1;have hlB:r.B.length≤10000:=hl.2;refine ZI (by simp) ?_;refine ⟨_,rfl,kn,.ref o,rfl,.inl ⟨_,(.inl 0:Key),.inl hkn2,rfl,ev.symm⟩,o,C,dx,_,vb,rfl,hR,RC.cls,RC.n4,rfl,vb,r.B,rfl,cB,by omega,fun l1 H3 hl1 x3 hv1=>?_⟩;refine ⟨_,rfl,kn,.ref o,rfl,.inl ⟨_,(.inl 0:Key),x3.rdK (.inl hkn2),rfl,ev.symm⟩,o,C,dx,_,va,rfl,x3.ins hR,RC.cls,RC.n3,rfl,va,r.A,rfl,cA.ext x3,by omega,fun l2 H4 hl2 x4 hv2=>?_⟩;intro x dx' hx hdx ne;have hx':upd H4 dx' (.own x) x=none:=by rw [Zp ne.symm]; exact hx
   have x5:Ext H4 (upd (upd H4 dx' (.own x)) x (.ins cC dx' [])):=(Ext.new hdx).newer hx';have x34:=x3.trans x4;have x15:XP T H (upd (upd H4 dx' (.own x)) x (.ins cC dx' [])):=x12.then (x34.trans x5);refine ⟨x,l1,l2,dx',r.B.reverse,r.A.reverse,rfl,Za,x5.lst (x4.lst hv1),x5.lst hv2,by rw [Zoa]; omega,by rw [Zoa]; omega,fun p q H6 hp hq hpq x6 hp6 hq6=>⟨rfl,?_⟩⟩;have fx:H x=none:=x12.free (x34.free hx);have x16:XP T H (upd (upd (upd H4 dx' (.own x)) x (.ins cC dx' [])) x (.ins cC dx' [("one",.ref p)])):=x15.over fx Za (fun _ z=>nomatch z) fun _ z=>nomatch z;have hp':p≠x:=(ne_of_none Za hp).symm;have hq':q≠x:=(ne_of_none Za hq).symm;refine kC x dx' p q _ _ _ ?_ fx (x15.free hp) (x15.free hq) hpq Za (upd_k hp6 hp') (upd_k hq6 hq') (by rw [Zoa]; omega) (by rw [Zoa]; omega);exact (x16.then x6).over fx (x6.ins Za) (fun _ z=>nomatch z) fun _ z=>nomatch z
  | none=>
   refine Zx (by simp) ?_;refine ⟨_,rfl,kn,_,rfl,hkn2,fun o H3 x3 hkn3=>?_⟩;have hC2:=x12.codeL hC;refine ZgE (l:=kl) (κ:=fun x:Addr × RM=>(.inl (num R x.2:Int):Key)) (ν:=fun x=>V.ref x.1) hkn3 (Zd (by omega)) (0,⟨0,0,[],[]⟩) (fun x=>sv (x.2.suf ws)) (fun x H' _ _ Q' k'=>k' H' (Ext.refl _)) (fun x H' hx x4 Q' k'=>?_) (fun D H4 hD x4 hD4=>?_)
   ·obtain ⟨dx,va,vb,hR,cA,cB⟩:=hRA _ hx;have xo:=hok _ hx;have hR':=x4.ins (x3.ins hR);have hxl:(ws.getD x.2.p []).length≤100:=hsh _ (by rw [Znv,Znp xo.hp]; exact ZoD xo.hp);refine ⟨_,rfl,_,rfl,x.1,C,dx,_,.int (x.2.p:Int),rfl,hR',RC.cls,RC.n1,rfl,a,_,(x.2.p:Int),sv (ws.getD x.2.p []),rfl,rfl,SqL.of ((hC2.ext x3).ext x4).at_,ZE (by rw [Znq]; simp [xo.hp]),?_⟩;refine ⟨_,rfl,x.1,C,dx,_,.int (x.2.m:Int),rfl,hR',RC.cls,RC.n2,rfl,_,rfl,ws.getD x.2.p [],rfl,Zd (by omega),?_⟩;rw [JI _ _ xo.hm];exact k' _ _ (Ext.refl _) rfl
   ·intro x dx hx hdx ne;have hx':upd H4 dx (.own x) x=none:=by rw [Zp ne.symm]; exact hx
    have x5:Ext H4 (upd (upd H4 dx (.own x)) x (.ins cT dx [])):=(Ext.new hdx).newer hx';have x34:=x3.trans x4;have hD5:upd (upd H4 dx (.own x)) x (.ins cT dx []) D=some (.lst ((kl.map fun x=>x.2.suf ws).map sv)):=by
     rw [Znr];exact x5.lst hD4
    refine ⟨x,D,dx,kl.map fun x=>x.2.suf ws,rfl,Za,hD5,by rw [Zni]; omega,fun l H6 hl x6 hl6=>⟨rfl,?_⟩⟩;have fx:H x=none:=x12.free (x34.free hx);have x15:XP T H (upd (upd H4 dx (.own x)) x (.ins cT dx [])):=x12.then (x34.trans x5);refine kT x dx l _ _ ?_ fx (x15.free hl) Za (upd_k hl6 (ne_of_none Za hl).symm) (by rw [Zni]; exact hkl) (fun t ht=>?_)
    ·exact (x15.then x6).over fx (x6.ins Za) (fun _ z=>nomatch z) fun _ z=>nomatch z
    ·obtain ⟨y,hy,rfl⟩:=Znm.mp ht;exact (hok y hy).isSuf
end
section
variable {P:Program}{w:World}{K:Znj}{mg:Str→Option Value}{base:Heap}
theorem Zaf (r:List Nat):intsV r=(r.map fun (i:Nat)=>(i:Int)).map V.int:=by rw [Znr]; rfl
end
end L2
namespace L2
open PySem PySem.Spec PyProof.Rows Tw
instance keyMem (k:Key) (ks:List Key):Decidable (k∈ks):=decidable_of_iff ((ks.any fun j=>decide (j=k))=true) (by
 rw [Zox];exact ⟨fun ⟨j,hj,e⟩=>by rw [←of_decide_eq_true e]; exact hj,fun h=>⟨k,h,decide_eq_true rfl⟩⟩)
def ZaN (ks:List Key):List (Key × V):=Jg [] (ks.map fun k=>(k,V.bl true))
theorem Zjb (kvs:List (Key × V)) (k:Key) (v:V):(YF kvs k v).map (·.1)=if k∈kvs.map (·.1) then kvs.map (·.1) else kvs.map (·.1)++[k]:=by
 unfold YF;have e:(kvs.any fun kv=>decide (kv.1=k))=true↔k∈kvs.map (·.1):=by
  rw [Zox,Znm];constructor
  ·rintro ⟨p,hp,hk⟩; exact ⟨p,hp,by simpa using hk⟩
  ·rintro ⟨p,hp,hk⟩; exact ⟨p,hp,by simpa using hk⟩
 by_cases h:k∈kvs.map (·.1)
 ·rw [if_pos (e.mpr h),if_pos h,Znr];apply ZnP;intro p _;simp only [Function.comp_apply];split <;> rfl
 ·rw [if_neg (fun z=>h (e.mp z)),if_neg h,Zn2];rfl
def YS (ks:List Key) (k:Key):List Key:=if k∈ks then ks else ks++[k]
def JJ (ks:List Key):List Key:=ks.foldl YS []
theorem Zdd:∀ (more kvs:List (Key × V)),(Jg kvs more).map (·.1)=(more.map (·.1)).foldl YS (kvs.map (·.1))
 | [],_=>rfl
 | p :: more,kvs=>by
  show (Jg (YF kvs p.1 p.2) more).map (·.1)=_;rw [Zdd more,Zjb];rfl
theorem Zcj (ks:List Key):(ZaN ks).map (·.1)=JJ ks:=by
 unfold ZaN JJ;rw [Zdd,Znr];congr 1;exact Zpv ks
theorem Zid {ks:List Key}{k:Key} (h:ks.Nodup):(YS ks k).Nodup:=by
 unfold YS;split
 ·exact h
 ·rename_i hk;rw [ZoZ];exact ⟨h,by simp,fun a ha b hb=>by rw [Znt.mp hb]; intro e; exact hk (e ▸ ha)⟩
theorem ZgW {ks:List Key}{k j:Key}:j∈YS ks k↔j∈ks∨j=k:=by
 unfold YS;split
 ·rename_i hk;exact ⟨.inl,fun h=>h.elim id fun e=>e ▸ hk⟩
 ·simp
theorem Zeg:∀ (ks acc:List Key) (j:Key),j∈ks.foldl YS acc↔j∈acc∨j∈ks
 | [],acc,j=>by simp
 | k :: ks,acc,j=>by
  rw [Zov,Zeg ks,ZgW,Znz];constructor
  ·rintro ((h | h) | h)
   ·exact .inl h
   ·exact .inr (.inl h)
   ·exact .inr (.inr h)
  ·rintro (h | h | h)
   ·exact .inl (.inl h)
   ·exact .inl (.inr h)
   ·exact .inr h
theorem ZeU (ks:List Key) (j:Key):j∈JJ ks↔j∈ks:=by unfold JJ; rw [Zeg]; simp
theorem ZgC (ks:List Key) (k:Key):(YS ks k).length≤ks.length+1:=by unfold YS; split <;> simp
theorem Zec:∀ (ks acc:List Key),(ks.foldl YS acc).length≤acc.length+ks.length
 | [],_=>Znn _
 | k :: ks,acc=>by
  have h1:=Zec ks (YS acc k);have h2:=ZgC acc k;rw [Zov,ZnZ];omega
theorem ZeJ (ks:List Key):(JJ ks).length=ks.length↔ks.Nodup:=by
 have key:∀ (ks acc:List Key),acc.Nodup→((ks.foldl YS acc).length=acc.length+ks.length↔ks.Nodup∧∀ k∈ks,k ∉ acc):=by
  intro ks;induction ks with
  | nil=>intro acc _; simp
  | cons k ks ih=>
   intro acc hacc;rw [Zov,ZnZ,ZoA];by_cases h:k∈acc
   ·have e:YS acc k=acc:=by unfold YS; rw [if_pos h]
    rw [e];have:=Zec ks acc;constructor
    ·intro z; omega
    ·rintro ⟨_,z⟩; exact absurd h (z k ZnF)
   ·have e:YS acc k=acc++[k]:=by unfold YS; rw [if_neg h]
    have hn:(acc++[k]).Nodup:=by rw [←e]; exact Zid hacc
    rw [e,show acc.length+(ks.length+1)=(acc++[k]).length+ks.length by simp; omega,ih _ hn];constructor
    ·rintro ⟨h1,h2⟩;refine ⟨⟨fun z=>h2 k z (by simp),h1⟩,fun j hj=>?_⟩;rcases Znz.mp hj with rfl | hj
     ·exact h
     ·exact fun z=>h2 j hj (by simp [z])
    ·rintro ⟨⟨h1,h2⟩,h3⟩;refine ⟨h2,fun j hj z=>?_⟩;rcases Zns.mp z with z | z
     ·exact h3 j (ZnC _ hj) z
     ·rw [Znt.mp z] at hj; exact h1 hj
 have:=key ks [] Zqk;simpa [JJ] using this
theorem ZkS {kvs:List (Key × V)}{k:Key}:(Yn kvs k).isSome=decide (k∈kvs.map (·.1)):=by
 rw [←JT,ZnW,Zox,decide_eq_true_iff,Znm];constructor
 ·rintro ⟨p,hp,hk⟩; exact ⟨p,hp,by simpa using hk⟩
 ·rintro ⟨p,hp,hk⟩; exact ⟨p,hp,by simpa using hk⟩
theorem ZiS (ks:List Key) (k:Key):(Yn (ZaN ks) k).isSome=decide (k∈ks):=by
 rw [ZkS,Zcj];rw [decide_eq_decide];exact ZeU ks k
theorem ZiT (ks:List Key):(ZaN ks).length=(JJ ks).length:=by rw [←Zcj,Zni]
section
variable {P:Program}{w:World}{K:Znj}{mg:Str→Option Value}{base:Heap}
def Zfl (K:Znj):Sp:=fun vs H Q _=>∃ (a:Addr) (ks:List Key),vs=[.ref a]∧SqL K H a (ks.map kV)∧ks.length≤1000000∧
 ∀ D H',H D=none→Ext H H'→H' D=some (.dK (ZaN ks))→Q (.ref D) H'
theorem Zj7 (D:Def K mg "noted" "noted" Pl.s_noted ["values"]) (B:Yo mg):Cal P w K mg base CX0 1 "noted" ["values"] (Zfl K):=by
 have sc:Zn ["values"] ["values"] (Zf Pl.s_noted):=scO;refine D.cal fun f fd F=>F.ok sc (fun vs H Q E h=>?_) (fun cdv A outer s H vs Q E hr h=>?_)
 ·obtain ⟨_,_,rfl,_⟩:=h;rfl
 ·obtain ⟨a,ks,rfl,hq,hz,k⟩:=h;have nd:(["value"]:List Str).Nodup:=by decide +kernel
  refine ⟨_,pss_one (ps_ret (Yc (Zcs rfl) (by rfl) B.dict boot_dict (pa_cons
   (Z5 (N':=["value"]) (js:=[none]) (.of (by kernel_rfl)) rfl (ZF (pv 0)) fun C fp s₀ H₀=>⟨Zr (i:=0) nd rfl (Or.inl rfl),ZZ,Jj (pa_cons (pv 0) (pa_cons pe_bl pa_nil))⟩) pa_nil))),?_⟩
  try dsimp only [ZH,Cx.nox,Cx.wish]
  refine ⟨_,rfl,a,rfl,⟨_,hq⟩,?_⟩;refine ZcP hq (by rw [Zni]; exact Zd hz) (fun _=>true) (fun x v H=>∃ t,v=.ref t∧H t=some (.tup [x,.bl true])) ?_ (fun x H' _ _ Q' k'=>k' H' (Ext.refl _)) ?_ ?_
  ·rintro x v H' H2 hk ⟨t,rfl,ht⟩;exact ⟨t,rfl,hk t _ ht (fun _=>by simp) fun _=>by simp⟩
  ·intro x H' hx x1 _ Q' k';exact ⟨_,rfl,by show 2≤sizeLine; decide,fun p hp=>k' _ _ (Ext.new hp) ⟨p,rfl,Za⟩⟩
  ·intro D H' ys h1 x1 hD hp;have ef:(ks.map kV).filter (fun _=>true)=ks.map kV:=Zpt.mpr fun _ _=>rfl;rw [ef] at hp;have:∀ {ks:List Key}{ys:List V},Paired (fun x y=>∃ t,y=.ref t∧H' t=some (.tup [x,.bl true])) (ks.map kV) ys→∃ ts:List Addr,ys=ts.map V.ref∧Paired (fun t (kv:Key × V)=>SqT K H' t [kV kv.1,kv.2]) ts (ks.map fun k=>(k,V.bl true)):=by
    intro ks;induction ks with
    | nil=>intro ys h; cases h; exact ⟨[],rfl,.nil⟩
    | cons k ks ih=>
     intro ys h;cases h with
     | cons r1 r2=>
      obtain ⟨ts,rfl,ht⟩:=ih r2;obtain ⟨t,rfl,e⟩:=r1;exact ⟨t :: ts,rfl,.cons (SqT.of e) ht⟩
   obtain ⟨ts,rfl,ht⟩:=this hp;refine ⟨D,ts,_,rfl,SqL.of hD,ht,fun d hd=>?_⟩;exact k d _ (x1.free hd) (x1.newer hd) Za
end
end L2
namespace L2
open PySem PySem.Spec PyProof.Rows Tw
seal PSs PS PE PT PW PA PG PGs PI PC
theorem Zhe (l:List Nat) (f:Nat→V):(ZnB l.length).map (fun i=>f (l.getD i 0))=l.map f:=by
 refine List.ext_getElem? fun i=>?_;by_cases h:i < l.length <;> simp [h]
section
variable {P:Program}{w:World}{K:Znj}{mg:Str→Option Value}{base:Heap}
def Zfk (K:Znj):Sp:=fun vs H Q _=>∃ (g:Addr) (ws:List W) (d:Nat→Addr) (f:W→Addr) (t:W) (m:Nat),vs=[.ref g,sv t,.int (m:Int)]∧GR H g ws d f∧ws.length≤10000∧t.length≤1000000∧m≤t.length∧
 ∀ D H',H D=none→Ext H H'→H' D=some (.lst (intsV ((Yk ws t m).map fun n=>m+n)))→Q (.ref D) H'
theorem Zcw (D:Def K mg "marks_behind" "marks_behind" Pl.s_marks_behind ["groups","text","mark"]) (C1:Cal P w K mg base CX0 1 "standing" ["groups","text","mark"] (JS K)):
  Cal P w K mg base CX0 2 "marks_behind" ["groups","text","mark"] (Zfk K):=by
 have sc:Zn ["groups","text","mark"] ["groups","text","mark"] (Zf Pl.s_marks_behind):=scO;refine D.cal fun f fd F=>F.ok sc (fun vs H Q E h=>?_) (fun cdv A outer s H vs Q E hr h=>?_)
 ·obtain ⟨_,_,_,_,_,_,rfl,_⟩:=h;rfl
 ·obtain ⟨g,ws,d,f,t,m,rfl,G,hwl,htl,hmt,k⟩:=h;have nd:(["behind","places"]:List Str).Nodup:=by decide +kernel
  refine ⟨_,pss_one (ps_ret (Z5 (N':=["behind","places"]) (js:=[none,none]) (.of (by kernel_rfl)) rfl (ZF (Zc C1 hr (pa_cons (pv 0) (pa_cons (pv 1) (pa_cons (pv 2) pa_nil))) Zm)) fun C fp s₀ H₀=>
    ⟨Za5 (K:=K) (n:=2) rfl rfl (Yu (Zr (i:=0) nd rfl (Or.inl rfl)) (Yu (Zr (i:=1) nd rfl (Or.inl rfl)) Zav)),ZZ,pv 0⟩)),?_⟩
  try dsimp only [ZH,Cx.nox,Cx.wish]
  refine ⟨_,rfl,_,rfl,_,rfl,g,ws,d,f,t,m,rfl,G,hwl,htl,hmt,fun D H3 ys hD x3 kb hys hpr=>⟨D,rfl,⟨_,SqL.of hys⟩,?_⟩⟩;have hlen:=hpr.length;have hsl:=Zbv ws t m;refine Zfu (SqL.of hys) (by rw [←hlen]; exact Zd (by omega)) (fun i=>.int ((m:Int)+(((Yk ws t m).getD i 0:Nat):Int))) (fun i=>.ref (f (cut t m ((Yk ws t m).getD i 0))))
   (fun i=>.int ((m:Int)+(((Yk ws t m).getD i 0:Nat):Int))) (fun i v e=>?_) (fun i H' R hi2 kp hR=>⟨_,rfl,hR⟩) (fun E hE=>k E _ (x3.free hE) (x3.newer hE) ?_)
  ·obtain ⟨n,e1,t',rfl,e2⟩:=JO hpr e;have:(Yk ws t m).getD i 0=n:=by simp [e1]
   rw [this];exact ⟨t',rfl,e2⟩
  ·rw [Za,←hlen];rw [Zhe (Yk ws t m) fun n=>.int ((m:Int)+(n:Int)),intsV,Znr];rfl
abbrev tk (us:List W):List Key:=us.map fun x=>(.inr (st x):Key)
theorem ZgY {us:List W}{x:W}:(.inr (st x):Key)∈tk us↔x∈us:=by
 constructor
 ·intro h;obtain ⟨y,hy,e⟩:=Znm.mp h;rw [←ZaV (a:=y) (b:=x) e];exact hy
 ·intro h;exact Znm.mpr ⟨x,h,rfl⟩
def Zh9 (hs ts us:List W):Prop:=∀ x∈ts,∀ y∈hs,∀ r,x=y++r→r∈us
def Zh0 (K:Znj):Sp:=fun vs H Q _=>∃ (h t d:Addr) (hs ts us:List W),vs=[.ref h,.ref t,.ref d]∧Zan K H h hs∧Zan K H t ts∧Rd H d (.dK (ZaN (tk us)))∧∀ b H',Ext H H'→(b=true↔Zh9 hs ts us)→Q (.bl b) H'
theorem ZfR {hs us:List W}{x:W}:(∀ n∈Yk hs x 0,x.drop n∈us)↔∀ y∈hs,∀ r,x=y++r→r∈us:=by
 constructor
 ·intro h y hy r e;obtain ⟨a1,_,a3⟩:=ZkH (m:=0) hy (ZnH _) (show x.drop 0=_ from e);have:=h _ a1;rw [ZoN] at a3;rw [a3] at this;exact this
 ·intro h n hn;obtain ⟨h1,h2,h3⟩:=(Yv hs x 0 n (ZnH _)).mp hn;refine h _ h1 _ ?_;have:=Zhy x 0 n;rw [ZoN,ZoW] at this;exact this.symm
theorem Zdq (D:Def K mg "rests_known" "rests_known" Pl.s_rests_known ["heads","texts","known"]) (CG:Cal P w K mg base CX0 1 "grouped" ["words"] (Zak K)) (CM:Cal P w K mg base CX0 2 "marks_behind" ["groups","text","mark"] (Zfk K)):
  Cal P w K mg base CX0 3 "rests_known" ["heads","texts","known"] (Zh0 K):=by
 have sc:Zn ["heads","texts","known","groups","text","mark"] ["heads","texts","known"] (Zf Pl.s_rests_known):=scO;refine D.cal fun f fd F=>F.ok sc (fun vs H Q E h=>?_) (fun cdv A outer s H vs Q E hr h=>?_)
 ·obtain ⟨_,_,_,_,_,_,rfl,_⟩:=h;rfl
 ·obtain ⟨ha,ta,d,hs,ts,us,rfl,hH,hT,hd,k⟩:=h;have hu:=Zbf hr;have hr1:ZR 1 _:=hr.mono (by decide);refine ⟨_,Zb (Zl (i:=3) sc.nd rfl (Or.inl rfl) (Zc CG hr1 (pa_cons (pv 0) pa_nil) Zm))
   (Zb (Z9 PassesOwn.never rfl (ZF (pv 1)) (Zr (i:=4) sc.nd rfl (Or.inl rfl))
    (pss_one (Z9 PassesOwn.never rfl (ZF (Zc CM hr (pa_cons (pv 3) (pa_cons (pv 4) (pa_cons Ze pa_nil))) Zm)) (Zr (i:=5) sc.nd rfl (Or.inl rfl))
     (pss_one (ZD (JR (Ji hu (ZM (r:=Zdx) Jy (pv 4) (ZN (pv 5)) ZY) (pv 2))) (pss_one (ps_ret pe_bl)) pss_nil)))))
   (pss_one (ps_ret pe_bl))),?_⟩
  try dsimp only [ZH,Cx.nox,Cx.wish]
  refine ⟨_,rfl,ha,hs,rfl,hH,fun g dd ff H1 hg x1 G=>?_⟩;refine ⟨_,rfl,ta,rfl,⟨_,(x1.code hT).1⟩,?_⟩;refine Yl (K:=K) (a:=ta) (xs:=ts.map sv) (fun i σ H3=>(∃ o1 o2:Option V,σ=[some (.ref ha),some (.ref ta),some (.ref d),some (.ref g),o1,o2])∧Ext H1 H3∧∀ x∈ts.take i,∀ y∈hs,∀ r,x=y++r→r∈us) ⟨⟨_,_,rfl⟩,Ext.refl _,fun x hx=>by simp at hx⟩ (fun i σ H3 _ h=>(h.2.1.code (x1.code hT)).1) ?_ ?_
  ·rintro i v σ H3 hv ⟨⟨o1,o2,rfl⟩,x3,hok⟩;rw [Znq] at hv;obtain ⟨x,hx,rfl⟩:=Option.map_eq_some_iff.mp hv;have hxm:=ZnD hx;have hxl:=hT.2.2 x hxm;refine ⟨_,rfl,_,rfl,g,hs,dd,ff,x,0,rfl,x3.gr G.rd,hH.2.1,by omega,ZnH _,fun D H4 hD x4 hD4=>⟨D,rfl,⟨_,SqL.of hD4⟩,?_⟩⟩;have x14:=x1.trans (x3.trans x4);have hd4:=x14.rdK hd;refine Yl (K:=K) (a:=D) (xs:=intsV ((Yk hs x 0).map fun n=>0+n)) (fun j σ H5=>(∃ o2:Option V,σ=[some (.ref ha),some (.ref ta),some (.ref d),some (.ref g),some (sv x),o2])∧H5=H4∧∀ n∈(Yk hs x 0).take j,x.drop n∈us) ⟨⟨_,rfl⟩,rfl,fun n hn=>by simp at hn⟩ (fun j σ H5 _ h=>by rw [h.2.1]; exact SqL.of hD4) ?_ ?_
   ·rintro j v σ H5 hv ⟨⟨o2,rfl⟩,rfl,hin⟩;rw [intsV,Znr,Znq] at hv;obtain ⟨n,hn,rfl⟩:=Option.map_eq_some_iff.mp hv;have hle:n≤x.length:=by
     have:=((Yv hs x 0 n (ZnH _)).mp (ZnD hn)).2.1;omega
    simp only [Function.comp,ZoN];refine ⟨_,rfl,_,rfl,_,rfl,x,rfl,Zd (by omega),?_⟩;rw [JI _ _ hle];refine ⟨_,rfl,d,_,rfl,.inl ⟨_,(.inr (st (x.drop n)):Key),hd4,rfl,rfl⟩,_,rfl,?_⟩;rw [ZiS];by_cases q:x.drop n∈us
    ·refine Zx (by simp only [ZgY,q,decide_true,Bool.not_true]; decide) ⟨⟨_,rfl⟩,rfl,fun m hm=>?_⟩;rw [YQ hn] at hm;rcases Zns.mp hm with z | z
     ·exact hin m z
     ·rw [Znt.mp z]; exact q
    ·refine ZI (by simp only [ZgY,q,decide_false,Bool.not_false]) ?_;refine k false _ x14 ⟨fun e=>(nomatch e),fun e=>absurd (ZfR.mpr (e x hxm) n (ZnD hn)) q⟩
   ·rintro σ H5 ⟨⟨o2,rfl⟩,rfl,hin⟩;refine ⟨⟨_,_,rfl⟩,x3.trans x4,fun y hy=>?_⟩;rw [YQ hx] at hy;rcases Zns.mp hy with z | z
    ·exact hok y z
    ·rw [Znt.mp z];rw [intsV,Zni,Zni,Zor] at hin;exact ZfR.mp hin
  ·rintro σ H3 ⟨⟨o1,o2,rfl⟩,x3,hok⟩;rw [Zni,Zor] at hok;exact k true _ (x1.trans x3) ⟨fun _=>hok,fun _=>rfl⟩
end
theorem ZbH {ws:List W}{x:W} (h:x∈ws):∃ i,i < ws.length∧ws.getD i []=x:=by
 obtain ⟨i,hi,e⟩:=ZoX.mp h;exact ⟨i,hi,by rw [Znv,Znp hi]; exact e⟩
theorem mem_getD {ws:List W}{i:Nat} (h:i < ws.length):ws.getD i []∈ws:=by
 rw [Znv,Znp h];exact ZoD h
theorem ZkP {ws:List W}:(tk ws).Nodup↔ws.Nodup:=by
 constructor
 ·intro h;induction ws with
  | nil=>exact Zqk
  | cons x ws ih=>
   rw [tk,ZnN,ZoA] at h;exact ZoA.mpr ⟨fun z=>h.1 (ZgY.mpr z),ih h.2⟩
 ·intro h;exact nodup_map_of h fun a _ b _ e=>ZaV e
theorem Za9 {ws ts:List W} (hne:[] ∉ ts):Zap ws ts↔ws.Nodup∧Zh9 ws ws (ts++[[]])∧Zh9 ws ts ts∧Zh9 ts ws ts:=by
 constructor
 ·intro h;refine ⟨?_,fun x hx y hy r e=>?_,fun x hx y hy r e=>?_,fun x hx y hy r e=>?_⟩
  ·refine ZoF.mpr fun i j hi hj hij e=>?_;have:=h.ww i j hi hj (by omega) [] (by rw [Znv,Znv,Znp hi,Znp hj,ZoG]; exact e.symm);exact hne this
  ·obtain ⟨j,hj,rfl⟩:=ZbH hx;obtain ⟨i,hi,rfl⟩:=ZbH hy;by_cases q:i=j
   ·subst q;have:r=[]:=by
     have:=congrArg Zoe e;rw [Znl] at this;exact ZnU (by omega)
    rw [this];exact Zn5 _ (Znt.mpr rfl)
   ·exact ZoC _ (h.ww i j hi hj q r e)
  ·obtain ⟨i,hi,rfl⟩:=ZbH hy;exact h.wt x hx i hi r e
  ·obtain ⟨i,hi,rfl⟩:=ZbH hx;exact h.tw y hy i hi r e
 ·rintro ⟨h1,h2,h3,h4⟩;refine ⟨hne,fun i j hi hj hij r e=>?_,fun t ht i hi r e=>h4 _ (mem_getD hi) t ht r e,fun t ht i hi r e=>h3 t ht _ (mem_getD hi) r e⟩;rcases Zns.mp (h2 _ (mem_getD hj) _ (mem_getD hi) r e) with z | z
  ·exact z
  ·exfalso;rw [Znt.mp z,ZoG,Znv,Znv,Znp hi,Znp hj] at e;have pw:=ZoF.mp h1;rcases Zq4 i j with q | q
   ·exact pw i j hi hj q e.symm
   ·exact pw j i hj hi (by omega) e
section
variable {P:Program}{w:World}{K:Znj}{mg:Str→Option Value}{base:Heap}
structure Zbd (H:Hp) (p:Addr) (ts:List W):Prop where
 at_:H p=some (.lst (ts.map sv))
 few:ts.length≤9000
 short:∀ x∈ts,x.length≤9000
theorem Zbd.ext {H H':Hp}{p:Addr}{ts:List W} (h:Zbd H p ts) (x:Ext H H'):Zbd H' p ts:=⟨x.lst h.at_,h.few,h.short⟩
theorem Zbd.code {H:Hp}{p:Addr}{ts:List W} (h:Zbd H p ts):Zan K H p ts:=⟨SqL.of h.at_,by have:=h.few; omega,fun x hx=>by have:=h.short x hx; omega⟩
def Zdz:Sp:=fun vs H Q _=>∃ (p:Addr) (ts:List W),vs=[.ref p]∧Zbd H p ts∧∀ H',Ext H H'→Q (.bl (decide ([] ∉ ts))) H'
theorem ZeX (D:Def K mg "are_tails" "are_tails" Pl.s_are_tails ["values"]) (B:Yo mg):Cal P w K mg base CX0 1 "are_tails" ["values"] Zdz:=by
 have sc:Zn ["values"] ["values"] (Zf Pl.s_are_tails):=scO;refine D.cal fun f fd F=>F.ok sc (fun vs H Q E h=>?_) (fun cdv A outer s H vs Q E hr h=>?_)
 ·obtain ⟨_,_,rfl,_⟩:=h;rfl
 ·obtain ⟨p,ts,rfl,hp,k⟩:=h;have nd:(["value"]:List Str).Nodup:=by decide +kernel
  refine ⟨_,pss_one (ps_ret (ZO (Yz B (pv 0)) (Z3 (Zg (YL rfl) (by rfl) B.all Boot.«all» (pa_cons
   (Z5 (N':=["value"]) (js:=[none]) (.of (by kernel_rfl)) rfl (ZF (pv 0)) fun C fp s₀ H₀=>⟨Zr (i:=0) nd rfl (Or.inl rfl),ZZ,
    ZO (Zg (r:=Zhc K) (Zbk rfl) (by rfl) B.isi boot_isinstance (pa_cons (pv 0) (pa_cons (ZbN (v:=.ty "str") (by rfl) B.str boot_str rfl) pa_nil))) (Z3 (ZV Zcl (pv 0) ZQ (Zu _)))⟩) pa_nil))))),?_⟩
  try dsimp only [ZH,Cx.nox,Cx.wish]
  refine ⟨_,rfl,_,_,_,_,rfl,trivial,.lst hp.at_,Zgx K,_,rfl,Yi ?_⟩;have hq:SqL K H p (ts.map sv):=SqL.of hp.at_;refine ⟨_,rfl,p,rfl,⟨_,hq⟩,?_⟩;refine ZS hq (by rw [Zni]; exact Zd (by have:=hp.few; omega)) (fun y=>.bl (!decide (y=V.str (st [])))) (fun y H' hy x1 Q' k'=>?_) (fun D H' _ x1 hD=>?_)
  ·obtain ⟨x,hx,rfl⟩:=Znm.mp hy;obtain ⟨t,ty,e⟩:=ZcD (K:=K) (H:=H') (v:=sv x) ⟨_,.str _⟩;refine ⟨_,rfl,_,_,t,_,rfl,trivial,ty,e,_,rfl,Yi ?_⟩;exact ⟨_,rfl,rfl,k' _ H' (Ext.refl _) rfl⟩
  ·refine ⟨D,(ts.map sv).map fun y=>!decide (y=V.str (st [])),rfl,SqL.of (by rw [hD,Znr,Znr,Znr]; rfl),?_⟩;have e:((ts.map sv).map fun y=>!decide (y=V.str (st []))).all id=decide ([] ∉ ts):=by
    rw [ZnW,Zn1,decide_eq_true_iff];constructor
    ·intro h z;have:=h _ (Znm.mpr ⟨_,Znm.mpr ⟨_,z,rfl⟩,rfl⟩);simp at this
    ·intro h b hb;obtain ⟨y,hy,rfl⟩:=Znm.mp hb;obtain ⟨x,hx,rfl⟩:=Znm.mp hy;simp only [id,Zn3,decide_eq_false_iff_not];intro z;exact h (by rw [←st_inj (V.str.inj z)]; exact hx)
   rw [e];exact k H' x1
def Zeq (K:Znj):Sp:=fun vs H Q _=>∃ (c p:Addr) (ws ts:List W),vs=[.ref c,.ref p]∧ZW H c ws∧Zbd H p ts∧[] ∉ ts∧∀ b H',Ext H H'→(b=true↔Zap ws ts)→Q (.bl b) H'
theorem Zcz (D:Def K mg "tails_closed" "tails_closed" Pl.s_tails_closed ["code","tails"]) (B:Yo mg) (CN:Cal P w K mg base CX0 1 "noted" ["values"] (Zfl K)) (CK:Cal P w K mg base CX0 3 "rests_known" ["heads","texts","known"] (Zh0 K)):
  Cal P w K mg base CX0 4 "tails_closed" ["code","tails"] (Zeq K):=by
 have sc:Zn ["code","tails","words","known"] ["code","tails"] (Zf Pl.s_tails_closed):=scO;refine D.cal fun f fd F=>F.ok sc (fun vs H Q E h=>?_) (fun cdv A outer s H vs Q E hr h=>?_)
 ·obtain ⟨_,_,_,_,rfl,_⟩:=h;rfl
 ·obtain ⟨c,p,ws,ts,rfl,hC,hp,hne,k⟩:=h;have hr1:ZR 1 _:=hr.mono (by decide);refine ⟨_,Zb (Zl (i:=2) sc.nd rfl (Or.inl rfl) (Zc CN hr1 (pa_cons (pv 0) pa_nil) Zm))
   (Zb (ZD (Zz Zcl (Zg Zij (by rfl) B.len Zno (pa_cons (pv 2) pa_nil)) (Zg Zq (by rfl) B.len Zno (pa_cons (pv 0) pa_nil)) (Zu _)) (pss_one (ps_ret pe_bl)) pss_nil)
   (Zb (Zl (i:=3) sc.nd rfl (Or.inl rfl) (Zc CN hr1 (pa_cons (pv 1) pa_nil) Zm))
   (Zb (ZD (Z6 (ZK (Zc CK hr (pa_cons (pv 0) (pa_cons (pv 0) (pa_cons (Zc CN hr1 (pa_cons (Zo ZaO (pv 1) (Yd (pa_cons ZQ pa_nil))) pa_nil) Zm) pa_nil))) Zm))) (pss_one (ps_ret pe_bl)) pss_nil)
   (pss_one (ps_ret (ZO (Zc CK hr (pa_cons (pv 0) (pa_cons (pv 1) (pa_cons (pv 3) pa_nil))) Zm) (Z3 (Zc CK hr (pa_cons (pv 1) (pa_cons (pv 0) (pa_cons (pv 3) pa_nil))) Zm)))))))),?_⟩
  try dsimp only [ZH,Cx.nox,Cx.wish]
  have kt:∀ us:List W,(tk us).map kV=us.map sv:=fun us=>by rw [tk,Znr]; rfl
  have hfew:=hC.few;have tfew:=hp.few;refine ⟨_,rfl,c,tk ws,rfl,by rw [kt]; exact SqL.of hC.at_,by rw [Zni]; omega,fun d1 H1 hd1 x1 e1=>?_⟩;have hC1:=hC.ext x1;refine ⟨_,rfl,d1,_,rfl,e1,_,rfl,c,_,rfl,.inl (SqL.of hC1.at_),rfl,_,rfl,?_⟩;have no:∀ {H':Hp},Ext H H'→¬ Zap ws ts→Q (.bl false) H':=fun {H'} x z=>k false H' x ⟨fun e=>(nomatch e),fun e=>absurd e z⟩;have el:(ZaN (tk ws)).length=(ws.map sv).length↔ws.Nodup:=by
   rw [ZiT,Zni,←ZkP,←ZeJ,tk,Zni]
  by_cases hnd:ws.Nodup
  ·refine Zx (by rw [el.mpr hnd]; simp) ?_;refine ⟨_,rfl,p,tk ts,rfl,by rw [kt]; exact SqL.of (x1.lst hp.at_),by rw [Zni]; omega,fun d2 H2 hd2 x2 e2=>?_⟩;have x12:=x1.trans x2;refine ⟨_,rfl,_,rfl,_,rfl,by show 1≤sizeLine; decide,fun l1 hl1=>?_⟩;have x3:Ext H2 (upd H2 l1 (.lst [V.str ""])):=Ext.new hl1;refine ⟨p,l1,_,_,rfl,rfl,x3.lst (x12.lst hp.at_),Za,by rw [Zni]; exact Zd (by show ts.length+1≤_; omega),fun l2 hl2=>?_⟩;have x4:=x3.newer (o:=HO.lst (ts.map sv++[V.str ""])) hl2;refine ⟨l2,tk (ts++[[]]),rfl,by rw [kt,Zn2]; exact SqL.of Za,by rw [Zni,Znl]; show ts.length+1≤_; omega,fun d3 H5 hd3 x5 e3=>?_⟩;have x25:=x4.trans x5;have x15:=x12.trans x25;refine ⟨c,c,d3,ws,ws,ts++[[]],rfl,(hC.ext x15).code,(hC.ext x15).code,.inl e3,fun b H6 x6 hb=>⟨_,rfl,?_⟩⟩;have x16:=x15.trans x6;by_cases h1:Zh9 ws ws (ts++[[]])
   ·rw [hb.mpr h1];refine Z8 ?_;refine ⟨_,rfl,_,rfl,_,rfl,c,p,d2,ws,ts,ts,rfl,(hC.ext x16).code,(hp.ext x16).code,(x25.trans x6).rdK (.inl e2),fun b2 H7 x7 hb2=>⟨_,rfl,?_⟩⟩;have x17:=x16.trans x7;by_cases h2:Zh9 ws ts ts
    ·rw [hb2.mpr h2];refine Yi ?_;refine ⟨_,rfl,_,rfl,_,rfl,p,c,d2,ts,ws,ts,rfl,(hp.ext x17).code,(hC.ext x17).code,((x25.trans x6).trans x7).rdK (.inl e2),fun b3 H8 x8 hb3=>?_⟩;refine k b3 H8 (x17.trans x8) ?_;rw [hb3,Za9 hne];exact ⟨fun z=>⟨hnd,h1,h2,z⟩,fun z=>z.2.2.2⟩
    ·have eb:b2=false:=by
      cases b2 with
      | false=>rfl
      | true=>exact absurd (hb2.mp rfl) h2
     rw [eb];exact Z8 (no x17 fun z=>h2 ((Za9 hne).mp z).2.2.1)
   ·have eb:b=false:=by
     cases b with
     | false=>rfl
     | true=>exact absurd (hb.mp rfl) h1
    rw [eb];exact Yi (no x16 fun z=>h1 ((Za9 hne).mp z).2.1)
  ·refine ZI ?_ (no x1 fun z=>hnd ((Za9 hne).mp z).1);rw [Zn3,decide_eq_false_iff_not];intro z;have:=V.int.inj z;exact hnd (el.mp (by omega))
def ZaS (C:Addr):Sp:=fun vs H Q _=>∃ (o a p dx:Addr) (ws ts:List W),vs=[.ref o,.ref a]∧H o=some (.ins C dx [("tails",.ref p)])∧ZW H a ws∧Zbd H p ts∧∀ b H',Ext H H'→(b=true↔Zap ws ts)→Q (.bl b) H'
theorem Zi1 {C f:Addr}{fd:FuncData} (F:Fun K "shows" "Tails.shows" Pl.c_Tails_shows f fd) (cl:Cls K C) (na:ZG K C "tails") (C1:Cal P w K mg base CX0 3 "is_code" ["value"] (Jv K))
  (C2:Cal P w K mg base CX0 1 "are_tails" ["values"] Zdz) (C3:Cal P w K mg base CX0 4 "tails_closed" ["code","tails"] (Zeq K)):Ym P w K mg base CX0 5 f fd ["self","code"] (ZaS C):=by
 have sc:Zn ["self","code"] ["self","code"] (Zf Pl.c_Tails_shows):=scO;refine F.ok sc (fun vs H Q E h=>?_) (fun cdv A outer s H vs Q E hr h=>?_)
 ·obtain ⟨_,_,_,_,_,_,rfl,_⟩:=h;rfl
 ·obtain ⟨o,a,p,dx,ws,ts,rfl,ho,hC,hp,k⟩:=h;have hr1:ZR 1 _:=hr.mono (by decide);have hr3:ZR 3 _:=hr.mono (by decide);refine ⟨_,pss_one (ps_ret (ZO (Zc C1 hr3 (pa_cons (pv 1) pa_nil) Zm) (ZO (Zc C2 hr1 (pa_cons (Zw (pv 0) rfl) pa_nil) Zm) (Z3 (Zc C3 hr (pa_cons (pv 1) (pa_cons (Zw (pv 0) rfl) pa_nil)) Zm))))),?_⟩;try dsimp only [ZH,Cx.nox,Cx.wish]
  refine ⟨_,rfl,.ref a,rfl,hC.arg,hC.sz,fun b H1 x1 hb=>⟨_,rfl,?_⟩⟩;rw [hC.all hb];refine Yi ?_;refine ⟨_,rfl,o,C,dx,_,.ref p,rfl,x1.ins ho,cl,na,rfl,p,ts,rfl,hp.ext x1,fun H2 x2=>⟨_,rfl,?_⟩⟩;have x12:=x1.trans x2;by_cases hne:[]∈ts
  ·refine Zx (by simpa using hne) (k false _ x12 ⟨fun e=>(nomatch e),fun e=>absurd hne e.ne⟩)
  ·refine ZI (by simpa using hne) ?_;refine ⟨_,rfl,_,rfl,o,C,dx,_,.ref p,rfl,x12.ins ho,cl,na,rfl,a,p,ws,ts,rfl,hC.ext x12,hp.ext x12,hne,fun b3 H3 x3 hb3=>k b3 H3 (x12.trans x3) hb3⟩
end
end L2
namespace L2
open PySem PySem.Spec PyProof.Rows Tw
theorem Zko (its:List Value):slicePick its.toArray none none (some (-1))=its.reverse.toArray:=by
 unfold slicePick;have e:sliceRange (sliceBounds none none (some (-1)) its.toArray.size).1 (sliceBounds none none (some (-1)) its.toArray.size).2.1 (sliceBounds none none (some (-1)) its.toArray.size).2.2=Builtin.Str.strSliceIndices none none (-1) its.length:=by
  rw [Zny];rfl
 rw [e,Zkt,Zeo,ZqS];have:(fun i:Nat=>its.toArray[i]?)=fun i:Nat=>its[i]?:=by funext i; simp
 rw [this,Zpl]
theorem ZhQ {X:Cx}{K:Znj}{e es:Expr}{te ts:TE}{p2 pos:Pos} (hK:X.K=K) (he:PE X e te) (hs:PE X es ts):PE X (.Subscript e (.Slice none none (some es) p2) pos)
  (fun σ H Q=>te σ H fun x H1=>ts σ H1 fun i H2=>∃ a xs,x=.ref a∧i=.int (-1)∧SqL K H2 a xs∧∀ l,H2 l=none→Q (.ref l) (upd H2 l (.lst xs.reverse))):=by
 subst hK;intro pins s σ H Q I h;refine Subscript_ (thn (he pins s σ H _ I h) fun v s1 qz=>?_);obtain ⟨x,H1,I1,r1,q1⟩:=qz;refine wpAny_Slice ?_;rw [evalPart_none];refine wpAny_pure ?_;rw [evalPart_some];refine wpAny_pure ?_;refine thn (hs pins s1 σ H1 _ I1 q1) fun u s2 qz=>?_;obtain ⟨y,H2,I2,r2,q2⟩:=qz;obtain ⟨a,xs,rfl,rfl,hq,q⟩:=q2;cases r1;obtain ⟨tu,rfl⟩:=r2;have I4:Inv X pins σ H2 { s2 with heap:=s2.heap.push { cls:=.type "slice",data:=.fields #[.none,.none,.int (-1) tu] } }:=I2.kept (t':=s2.toks) fun b ob q=>Znk _ q;obtain ⟨its,rv,pl,hz⟩:=I4.list hq;have len:=rv.length;refine tail_any (ops:=[.ref a,.ref s2.heap.objs.size]) pl.isList.typeIs slot_list_getitem.lookup ?_ (by with_unfolding_all rfl);refine wpAny_getItem_list_slice (lo:=none) (hi:=none) (st:=some (-1)) pl.isList ⟨_,Znu _ rfl,rfl,rfl⟩ .none .none (.int _ _) (by simp) ?_ (by rw [Zny]; omega);rw [Zko];refine ⟨.ref _,_,I4.laid (o:=.lst xs.reverse) (fun b ob q=>Znk _ q) (Znn _) ⟨by rw [Zoa]; exact hz,its.reverse,0,rv.reverse,Znu _ rfl⟩,rfl,q _ (I4.hok.fresh (Znn _))⟩
theorem ZbW {n:Nat}{te:TE}{σ:St}{H1:Hp}{Q:VK}{j0:Option Nat}{jr:List (Option Nat)} (hn:n≤sizeLine) (f:Nat→V)
  (hte:∀ i H',i < n→Ext H1 H'→Zd1 te (some (.int (i:Int)) :: Y4 jr σ) H' (fun v _=>v=f i))
  (hQ:∀ D H',H1 D=none→Ext H1 H'→H' D=some (.lst ((ZnB n).map f))→Q (.ref D) H'):J9 (Itr 0 n) (j0 :: jr) (JK 0) Zjk te σ H1 Q:=by
 refine Zbj (n:=n) (f:=fun i=>.int (i:Int)) hn (fun i H' _ hi=>hi) (fun i H' x H2 _ _ y=>⟨by rw [y.2,ZpL],y.1⟩) (fun H' _=>Znn _) (fun _=>true) (fun i v _=>v=f i) (fun _ _ _ _ _ h=>h) (fun _ H' _ _ Q h=>h H' (Ext.refl _)) (fun i H' x hi _=>hte i H' hi x) fun D H' ys h1 h2 h3 h4=>hQ D H' h1 h2 ?_;rw [Zpt.mpr (fun _ _=>rfl)] at h4;have:∀ {as:List Nat}{ys:List V},Paired (fun i y=>y=f i) as ys→ys=as.map f:=by
  intro as ys h;induction h with
  | nil=>rfl
  | cons r _ ih=>rw [r,ih]; rfl
 rw [h3,this h4]
end L2
namespace L2
open PySem PySem.Spec PyProof.Rows Tw
seal PSs PS PE PT PW PA PG PGs PI PC
theorem ZeO (x:W) (ts:List W):inV (sv x) (ts.map sv)=decide (x∈ts):=by
 rw [ZnW,inV,Zox,decide_eq_true_iff];constructor
 ·rintro ⟨v,hv,q⟩;obtain ⟨y,hy,rfl⟩:=Znm.mp hv;have:st y=st x:=by simpa [eqV] using q
  rw [←st_inj this];exact hy
 ·intro h;exact ⟨sv x,Znm.mpr ⟨x,h,rfl⟩,by simp [eqV]⟩
theorem Zb9 (ts:List W):(ts.map sv).all Zbe=true:=by
 rw [Zn1];intro v hv;obtain ⟨y,_,rfl⟩:=Znm.mp hv;rfl
theorem Zax {x t:W}:cut t 0 x.length=x↔t=x++t.drop x.length:=by
 constructor
 ·intro h;have:=Zhy t 0 x.length;rw [h,ZoN,ZoW] at this;exact this.symm
 ·intro h;unfold cut;rw [ZoW];conv=>lhs; rw [h]
  exact List.take_left
theorem Zex {x t:W} (h:cut t 0 x.length=x):x.length≤t.length:=by
 have:=congrArg Zoe (Zax.mp h);rw [Znl] at this;omega
def Lv (ts:List W) (x t:W):Prop:=∀ r,t=x++r→r∈ts
theorem Zb1 {ts:List W}{x t:W}:(decide (cut t 0 x.length=x) && !decide (t.drop x.length∈ts))=true↔¬ Lv ts x t:=by
 rw [ZnA,decide_eq_true_iff,Zn3,decide_eq_false_iff_not];constructor
 ·rintro ⟨h1,h2⟩ z;exact h2 (z _ (Zax.mp h1))
 ·intro h;refine Classical.byContradiction fun no=>h fun r e=>?_;have h1:cut t 0 x.length=x:=Zax.mpr (by rw [e,Zqj]);refine Classical.byContradiction fun hr=>no ⟨h1,?_⟩;rw [e,Zqj];exact hr
theorem Zbq {ws:List W}{i:Nat}{x:W}:x∈ws.take i++ws.drop (i+1)↔∃ j,j < ws.length∧j≠i∧ws.getD j []=x:=by
 constructor
 ·intro h;rcases Zns.mp h with z | z
  ·obtain ⟨j,hj,e⟩:=ZoX.mp z;rw [ZnM] at hj;refine ⟨j,by omega,by omega,?_⟩;rw [Znv,Znp (show j < ws.length by omega),←e,Zqq];rfl
  ·obtain ⟨j,hj,e⟩:=ZoX.mp z;rw [ZnV] at hj;refine ⟨i+1+j,by omega,by omega,?_⟩;rw [Znv,Znp (show i+1+j < ws.length by omega),←e,List.getElem_drop];rfl
 ·rintro ⟨j,hj,hne,rfl⟩;rw [Znv,Znp hj];rcases Zq4 j i with z | z
  ·exact ZoC _ (ZoX.mpr ⟨j,by rw [ZnM]; omega,by rw [Zqq]; rfl⟩)
  ·refine Zn5 _ (ZoX.mpr ⟨j - (i+1),by rw [ZnV]; omega,?_⟩);rw [List.getElem_drop];congr 1;omega
structure Zjt (ws ts:List W) (i:Nat):Prop where
 ww:∀ x∈ws.take i++ws.drop (i+1),Lv ts (ws.getD i []) x
 tt:∀ t∈ts,Lv ts t (ws.getD i [])∧Lv ts (ws.getD i []) t
theorem Zb3 {ws ts:List W}:Zap ws ts↔[] ∉ ts∧∀ i,i < ws.length→Zjt ws ts i:=by
 constructor
 ·intro h;refine ⟨h.ne,fun i hi=>⟨fun x hx r e=>?_,fun t ht=>⟨fun r e=>h.tw t ht i hi r e,fun r e=>h.wt t ht i hi r e⟩⟩⟩;obtain ⟨j,hj,hne,rfl⟩:=Zbq.mp hx;exact h.ww i j hi hj (Ne.symm hne) r e
 ·rintro ⟨h1,h2⟩;refine ⟨h1,fun i j hi hj hij r e=>(h2 i hi).ww _ (Zbq.mpr ⟨j,hj,Ne.symm hij,rfl⟩) r e,fun t ht i hi r e=>((h2 i hi).tt t ht).1 r e,fun t ht i hi r e=>((h2 i hi).tt t ht).2 r e⟩
theorem Zip (ws:List W) {i:Nat} (h:i≤ws.length):cutV (ws.map sv) none (some (i:Int))=(ws.take i).map sv:=by
 unfold cutV;rw [HT.sIx_nat,Zni,ZoH h];simp [HT.sIx,ZqB]
theorem Ziq (ws:List W) {i:Nat} (h:i≤ws.length):cutV (ws.map sv) (some (i:Int)) none=(ws.drop i).map sv:=by
 unfold cutV;rw [HT.sIx_nat,Zni,ZoH h];rw [Zok,List.map_drop];rw [ZnV,Zni];exact Znn _
theorem Zjv {K:Znj}{rl:List V→Hp→VK→Prop}{σ:St}{H:Hp}{R:Bool→Hp→Prop}{E:XK}{u v w:Nat}{x y:W}{p:Addr}{ts:List W} (hrl:∀ (z:Str) (H:Hp) (Q:VK),z.length≤sizeLine→Q (.int (z.length:Nat)) H→rl [.str z] H Q)
  (hy:σ[u]?=some (some (sv y))) (hx:σ[v]?=some (some (sv x))) (hp:σ[w]?=some (some (.ref p))) (hxl:x.length≤10000) (hyl:y.length≤10000) (hq:SqL K H p (ts.map sv)) (k:R (decide (cut x 0 y.length=y) && !decide (x.drop y.length∈ts)) H):
  tAnd (tB (ZkK Zal [] E (Je (Zbc u) (Je (Zbc v) (Je (tC (.int 0)) Zbw))))) (Zl4 (tOp (rIn K true) (tSl Zdx (Zbc v) (Zl3 (tCB rl (Je (Zbc u) Zbw))) Zh8) (Zbc w))) σ H R:=by
 refine ⟨_,hy,_,hx,y,x,0,rfl,hyl,by omega,ZnH _,_,rfl,?_⟩;by_cases hs:cut x 0 y.length=y
 ·refine ZI (by simpa using hs) ?_;refine ⟨_,hx,_,hy,hrl _ _ _ (by rw [st_len]; exact Zd (by omega)) ⟨_,rfl,x,rfl,Zd (by omega),?_⟩⟩;rw [st_len,JI _ _ (Zex hs)];refine ⟨_,hp,p,_,rfl,.inl hq,rfl,Zb9 ts,_,rfl,?_⟩;rw [if_pos rfl,ZeO];rw [decide_eq_true hs,Zo0] at k;exact k
 ·refine Zx (by simpa using hs) ?_;rw [decide_eq_false hs,ZoU] at k;exact k
section
variable {P:Program}{w:World}{K:Znj}{mg:Str→Option Value}{base:Heap}
def ZdF:Sp:=fun vs H Q _=>∃ (a p:Addr) (ws ts:List W),vs=[.ref a,.ref p]∧ZW H a ws∧Zbd H p ts∧∀ b H',Ext H H'→(b=true↔Zap ws ts)→Q (.bl b) H'
theorem Ze0 (D:Def K mg "_law_tails" "_law_tails" Pl.s_law_tails ["_law_code_here","_law_tails_here"]) (B:Yo mg) (CS:Cal P w K mg base CX0 1 "_law_stands" ["_law_word","_law_text_here","_law_at"] Zal):Cal P w K mg base CX0 2 "_law_tails" ["_law_code_here","_law_tails_here"] ZdF:=by
 have sc:Zn ["_law_code_here","_law_tails_here","_law_place","_law_word","_law_others","_law_tail"] ["_law_code_here","_law_tails_here"] (Zf Pl.s_law_tails):=scO;refine D.cal fun f fd F=>F.ok sc (fun vs H Q E h=>?_) (fun cdv A outer s H vs Q E hr h=>?_)
 ·obtain ⟨_,_,_,_,rfl,_⟩:=h;rfl
 ·obtain ⟨a,p,ws,ts,rfl,hC,hp,k⟩:=h;have nd:(["_law_other","_law_word","_law_tails_here"]:List Str).Nodup:=by decide +kernel
  refine ⟨_,Zb (ZD (Zz (ZhM (K:=K) rfl) ZQ (pv 1) rfl) (pss_one (ps_ret pe_bl)) pss_nil)
   (Zb (Z9 PassesOwn.never rfl (ZhS (by rfl) B.enumerate (pa_cons (pv 0) pa_nil)) (Za5 (K:=K) (n:=2) rfl rfl (Yu (Zr (i:=2) sc.nd rfl (Or.inl rfl)) (Yu (Zr (i:=3) sc.nd rfl (Or.inr rfl)) Zav)))
    (Zb (Zl (i:=4) sc.nd rfl (Or.inl rfl) (Zo ZaO (ZM YI (pv 0) ZY (ZN (pv 2))) (ZM YI (pv 0) (ZN (Zo Z2 (pv 2) Ze)) ZY)))
    (Zb (ZD (ZK (Zg (Zcc rfl) (by rfl) B.any Boot.«any» (pa_cons
      (Z5 (N':=["_law_other","_law_word","_law_tails_here"]) (js:=[none,some 3,some 1]) (.of (by kernel_rfl)) rfl (ZF (pv 4)) fun C fp s₀ H₀=>⟨Zr (i:=0) nd rfl (Or.inl rfl),ZZ,
       ZO (Zc CS hr (pa_cons (pv 1) (pa_cons (pv 0) (pa_cons Ze pa_nil))) Zm)
        (Z3 (ZV (JN (K:=K) rfl) (ZM (r:=Zdx) Jy (pv 0) (ZN (Zg Zs (by rfl) B.len Zno (pa_cons (pv 1) pa_nil))) ZY) (pv 2) rfl))⟩) pa_nil))) (pss_one (ps_ret pe_bl)) pss_nil)
    (pss_one (Z9 PassesOwn.never rfl (ZF (pv 1)) (Zr (i:=5) sc.nd rfl (Or.inl rfl))
     (Zb (ZD (PW.pt (Zb4 (ZK (Zc CS hr (pa_cons (pv 5) (pa_cons (pv 3) (pa_cons Ze pa_nil))) Zm)) (ZbP (Zz (JN (K:=K) rfl) (ZM (r:=Zdx) Jy (pv 3) (ZN (Zg Zs (by rfl) B.len Zno (pa_cons (pv 5) pa_nil))) ZY) (pv 1) rfl)))) (pss_one (ps_ret pe_bl)) pss_nil)
     (pss_one (ZD (PW.pt (Zb4 (ZK (Zc CS hr (pa_cons (pv 3) (pa_cons (pv 5) (pa_cons Ze pa_nil))) Zm)) (ZbP (Zz (JN (K:=K) rfl) (ZM (r:=Zdx) Jy (pv 5) (ZN (Zg Zs (by rfl) B.len Zno (pa_cons (pv 3) pa_nil))) ZY) (pv 1) rfl)))) (pss_one (ps_ret pe_bl)) pss_nil))))))))
   (pss_one (ps_ret pe_bl))),?_⟩
  try dsimp only [ZH,Cx.nox,Cx.wish]
  have no:∀ {H':Hp},Ext H H'→¬ Zap ws ts→Q (.bl false) H':=fun {H'} x z=>k false H' x ⟨fun e=>(nomatch e),fun e=>absurd e z⟩;refine ⟨_,rfl,p,_,rfl,.inl (SqL.of hp.at_),rfl,Zb9 ts,_,rfl,?_⟩;have e0:(if false=true then !inV (.str "") (ts.map sv) else inV (.str "") (ts.map sv))=decide ([]∈ts):=by
   rw [if_neg ZnE];exact ZeO [] ts
  rw [e0];by_cases hne:[]∈ts
  ·refine ZI (by simpa using hne) (no (Ext.refl _) fun z=>z.ne hne)
  ·refine Zx (by simpa using hne) ?_;have hfew:=hC.few;have tfew:=hp.few;refine ⟨_,rfl,a,rfl,⟨_,SqL.of hC.at_⟩,ZfI (K:=K) (a:=a) (xs:=ws.map sv) (fun i σ H2=>(∃ o1 o2 o3 o4:Option V,σ=[some (.ref a),some (.ref p),o1,o2,o3,o4])∧Ext H H2∧∀ i',i' < i→Zjt ws ts i') ⟨⟨_,_,_,_,rfl⟩,Ext.refl _,fun i' hi'=>absurd hi' (Zp7 _)⟩ ?_ ?_ ?_⟩
   ·rintro i σ H2 hi ⟨_,x2,_⟩;exact SqL.of (hC.ext x2).at_
   ·rintro i y t σ H2 hy ⟨⟨o1,o2,o3,o4,rfl⟩,x2,hok⟩ ht;rw [Znq] at hy;obtain ⟨x,hx,rfl⟩:=Option.map_eq_some_iff.mp hy;have hlt:i < ws.length:=(Znw.mp hx).1;have hxi:ws.getD i []=x:=by rw [Znv,hx]; rfl
    have hxl:=hC.short x (ZnD hx);refine ⟨t,_,rfl,SqT.of Za,rfl,_,_,rfl,_,_,rfl,rfl,?_⟩;have x3:=x2.newer (o:=.tup [.int i,sv x]) ht;generalize upd H2 t (.tup [.int i,sv x])=H3 at x3;have hC3:=hC.ext x3;have hp3:=hp.ext x3;refine ⟨_,rfl,_,rfl,(i:Int),rfl,a,_,rfl,SqL.of hC3.at_,fun q1 hq1=>?_⟩;rw [Zip ws (by omega)];have x4:Ext H3 (upd H3 q1 (.lst ((ws.take i).map sv))):=Ext.new hq1;refine ⟨_,rfl,_,rfl,_,_,rfl,rfl,((i:Int)+1),rfl,a,_,rfl,SqL.of (hC3.ext x4).at_,fun q2 hq2=>?_⟩;rw [show ((i:Int)+1)=((i+1:Nat):Int) from rfl,Ziq ws (by omega)];have x5:=x4.newer (o:=.lst ((ws.drop (i+1)).map sv)) hq2;refine ⟨q1,q2,_,_,rfl,rfl,Zk Za hq2,Za,by rw [Zni,Zni,ZnM,ZnV]; exact Zd (by omega),fun q3 hq3=>?_⟩;rw [←Zn2];have x6:=x5.newer (o:=.lst ((ws.take i++ws.drop (i+1)).map sv)) hq3;generalize eo:ws.take i++ws.drop (i+1)=os at x6;have hos:∀ y∈os,y.length≤10000:=fun y hy=>by
     rw [←eo] at hy;obtain ⟨j,hj,_,rfl⟩:=Zbq.mp hy;exact hC.short _ (mem_getD hj)
    have x36:=x3.trans x6;refine ⟨_,rfl,q3,rfl,⟨_,SqL.of Za⟩,?_⟩;have nin:∀ z:W,(if true=true then !inV (sv z) (ts.map sv) else inV (sv z) (ts.map sv))=!decide (z∈ts):=fun z=>by
     rw [if_pos rfl,ZeO]
    have slen:∀ z:W,z.length≤10000→(st z).length≤sizeLine:=fun z hz=>by rw [st_len]; exact Zd (by omega)
    have il:∀ z:W,(((st z).length:Nat):Int)=((z.length:Nat):Int):=fun z=>by rw [st_len]
    refine ZS (K:=K) (SqL.of Za) (by rw [Zni,←eo,Znl,ZnM,ZnV]; exact Zd (by omega)) (fun y=>match y with | .str z=>.bl (decide (cut z.cps.toList 0 x.length=x) && !decide (z.cps.toList.drop x.length∈ts)) | _=>.non) (fun y H' hy x7 Q' k'=>?_) (fun D7 H7 hD7 x7 hD8=>?_)
    ·obtain ⟨o,ho,rfl⟩:=Znm.mp hy;have hol:=hos o ho;refine ⟨_,rfl,_,rfl,x,o,0,rfl,hxl,by omega,ZnH _,_,rfl,?_⟩;by_cases hs:cut o 0 x.length=x
     ·refine ZI (by simpa using hs) ?_;refine ⟨_,rfl,_,rfl,st x,rfl,slen x hxl,_,rfl,o,rfl,Zd (by omega),?_⟩;rw [il,JI _ _ (Zex hs)];refine ⟨_,rfl,p,_,rfl,.inl (SqL.of (hp3.ext (x6.trans x7)).at_),rfl,Zb9 ts,?_⟩;rw [nin];refine k' _ H' (Ext.refl _) ?_;show V.bl _=V.bl (decide (cut o 0 x.length=x) && !decide (o.drop x.length∈ts));rw [decide_eq_true hs,Zo0]
     ·refine Zx (by simpa using hs) (k' _ H' (Ext.refl _) ?_);show V.bl _=V.bl (decide (cut o 0 x.length=x) && !decide (o.drop x.length∈ts));rw [decide_eq_false hs,ZoU]
    ·refine ⟨D7,os.map fun o=>decide (cut o 0 x.length=x) && !decide (o.drop x.length∈ts),rfl,SqL.of (by rw [hD8,Znr,Znr]; rfl),_,rfl,?_⟩;have x37:=x36.trans x7;have hC7:=hC.ext x37;have hp7:=hp.ext x37;by_cases hw:∀ o∈os,Lv ts x o
     ·refine Zx ?_ ?_
      ·rw [Zox];rintro ⟨b,hb,hb2⟩;obtain ⟨o,ho,rfl⟩:=Znm.mp hb;exact Zb1.mp hb2 (hw o ho)
      ·refine ⟨_,rfl,p,rfl,⟨_,SqL.of hp7.at_⟩,?_⟩;refine Yl (K:=K) (a:=p) (xs:=ts.map sv) (fun j σ H8=>(∃ o4:Option V,σ=[some (.ref a),some (.ref p),some (.int (i:Int)),some (sv x),some (.ref q3),o4])∧H8=H7∧∀ y∈ts.take j,Lv ts y x∧Lv ts x y) ⟨⟨_,rfl⟩,rfl,fun y hy=>by simp at hy⟩ (fun j σ H8 _ h=>by rw [h.2.1]; exact SqL.of hp7.at_) ?_ ?_
       ·rintro j v σ H8 hv ⟨⟨o4,rfl⟩,rfl,hin⟩;rw [Znq] at hv;obtain ⟨y,hy,rfl⟩:=Option.map_eq_some_iff.mp hv;have hym:=ZnD hy;have hyl:=hp.short y hym;have nope:¬ (Lv ts y x∧Lv ts x y)→Q (.bl false) H8:=fun z=>no x37 fun q=>z (by
         have:=(Zb3.mp q).2 i hlt;have:=this.tt y hym;rw [hxi] at this;exact this)
        refine Zjv (K:=K) (x:=x) (y:=y) (p:=p) (ts:=ts) (fun z H Q h1 h2=>⟨z,rfl,h1,h2⟩) rfl rfl rfl hxl (by omega) (SqL.of hp7.at_) ?_;by_cases h1:Lv ts y x
        ·rw [show (decide (cut x 0 y.length=y) && !decide (x.drop y.length∈ts))=false from Zqm.mpr fun z=>Zb1.mp z h1];refine Z8 ?_;refine Zjv (K:=K) (x:=y) (y:=x) (p:=p) (ts:=ts) (fun z H Q h1 h2=>⟨z,rfl,h1,h2⟩) rfl rfl rfl (by omega) hxl (SqL.of hp7.at_) ?_;by_cases h2:Lv ts x y
         ·rw [show (decide (cut y 0 x.length=x) && !decide (y.drop x.length∈ts))=false from Zqm.mpr fun z=>Zb1.mp z h2];refine Z8 ⟨⟨_,rfl⟩,rfl,fun z hz=>?_⟩;rw [YQ hy] at hz;rcases Zns.mp hz with q | q
          ·exact hin z q
          ·rw [Znt.mp q]; exact ⟨h1,h2⟩
         ·rw [Zb1.mpr h2];exact Yi (nope fun z=>h2 z.2)
        ·rw [Zb1.mpr h1];exact Yi (nope fun z=>h1 z.1)
       ·rintro σ H8 ⟨⟨o4,rfl⟩,rfl,hin⟩;rw [Zni,Zor] at hin;refine ⟨⟨_,_,_,_,rfl⟩,x37,fun i' hi'=>?_⟩;rcases Zq4 i' i with z | z
        ·exact hok i' z
        ·cases (show i'=i by omega);exact ⟨by rw [eo,hxi]; exact hw,by rw [hxi]; exact hin⟩
     ·refine ZI ?_ (no x37 fun z=>hw fun o ho=>?_)
      ·rw [Zox];refine Classical.byContradiction fun q=>hw fun o ho=>?_;refine Classical.byContradiction fun q2=>q ⟨_,Znm.mpr ⟨o,ho,rfl⟩,Zb1.mpr q2⟩
      ·have:=(Zb3.mp z).2 i hlt;have:=this.ww o (by rw [eo]; exact ho);rw [hxi] at this;exact this
   ·rintro σ H2 ⟨_,x2,hok⟩;rw [Zni] at hok;exact k true _ x2 ⟨fun _=>Zb3.mpr ⟨hne,hok⟩,fun _=>rfl⟩
end
abbrev zV (is:List Int):List V:=is.map V.int
def ZL (H:Hp) (p:Addr) (is:List Int):Prop:=H p=some (.lst (zV is))∧is.length≤100000
theorem ZL.ext {H H':Hp}{p:Addr}{is:List Int} (h:ZL H p is) (x:Ext H H'):ZL H' p is:=⟨x.lst h.1,h.2⟩
theorem ZL.arg {K:Znj}{H:Hp}{p:Addr}{is:List Int} (h:ZL H p is):JG K H (.ref p):=by
 refine ⟨⟨_,.lst h.1⟩,fun b xs e hr=>?_⟩;cases e;have:xs=zV is:=Rd.inj hr (.inl h.1);subst this;refine ⟨by rw [Zni]; exact Zd (by have:=h.2; omega),fun y hy H' _=>?_⟩;obtain ⟨i,_,rfl⟩:=Znm.mp hy;exact ⟨_,.int i⟩
def InZ (n:Nat) (is:List Int):Prop:=∀ i∈is,0≤i∧i < (n:Int)
instance (n:Nat) (is:List Int):Decidable (InZ n is):=by unfold InZ; infer_instance
abbrev YO (is:List Int):List Nat:=is.map ZoY
theorem InZ.nats {n:Nat}{is:List Int} (h:InZ n is):zV is=intsV (YO is):=by
 rw [intsV,Znr];refine ZnP fun i hi=>?_;have:=(h i hi).1;show V.int i=V.int ((i.toNat:Nat):Int);rw [Zpr this]
theorem InZ.lt {n:Nat}{is:List Int} (h:InZ n is):∀ i∈YO is,i < n:=fun i hi=>by
 obtain ⟨j,hj,rfl⟩:=Znm.mp hi;have:=h j hj;omega
theorem InZ.intsL {n:Nat}{is:List Int}{H:Hp}{p:Addr} (h:InZ n is) (z:ZL H p is):JF H p (YO is):=⟨by rw [←h.nats]; exact z.1,by rw [Zni]; exact z.2⟩
theorem Za6 {n:Nat}{is:List Int}:(zV is).all (ZU (n:Int))=decide (InZ n is):=by
 rw [ZnW,Zn1,decide_eq_true_iff];constructor
 ·intro h i hi;have:=h (.int i) (Znm.mpr ⟨i,hi,rfl⟩);simpa [ZU] using this
 ·intro h v hv;obtain ⟨i,hi,rfl⟩:=Znm.mp hv;have:=h i hi;simpa [ZU] using this
theorem ZcF (r:List Nat):intsV r=zV (r.map fun (i:Nat)=>(i:Int)):=by rw [zV,Znr]; rfl
def Pln (xs:List V):Prop:=∀ v∈xs,(∃ i,v=.int i)∨∃ z,v=.str z
theorem Pln.ints (is:List Int):Pln (zV is):=fun v hv=>by
 obtain ⟨i,_,rfl⟩:=Znm.mp hv;exact .inl ⟨_,rfl⟩
theorem Pln.nats (r:List Nat):Pln (intsV r):=fun v hv=>by
 obtain ⟨i,_,rfl⟩:=Znm.mp hv;exact .inl ⟨_,rfl⟩
theorem ZbF (xs:List V) (n:Nat):cutV xs none (some (n:Int))=xs.take n:=by
 unfold cutV;rw [HT.sIx_nat];show (xs.drop 0).take (min n xs.length - 0)=xs.take n;rw [ZoW,Zq6,List.take_eq_take_iff];omega
theorem ZeH (xs:List V) (n:Nat):cutV xs (some (n:Int)) none=xs.drop n:=by
 unfold cutV;rw [HT.sIx_nat];show (xs.drop (min n xs.length)).take (xs.length - min n xs.length)=xs.drop n;rw [Zok (by rw [ZnV]; omega)];by_cases h:n≤xs.length
 ·rw [ZoH h]
 ·rw [ZqQ (by omega),Zo6 (Znn _),Zo6 (by omega)]
theorem Zjz {xs:List V}{lo hi:Option Int}{y:V} (h:y∈cutV xs lo hi):y∈xs:=ZoK (ZoL h)
theorem ZjA (xs:List V) (n:Nat):(cutV xs (some (n:Int)) (some ((n+1:Nat):Int))).length≤1:=by
 unfold cutV;rw [HT.sIx_nat,HT.sIx_nat,ZnM];omega
section
variable {P:Program}{w:World}{K:Znj}{mg:Str→Option Value}{base:Heap}
def Jd (C:Addr) (fld:Str):Sp:=fun vs H Q _=>∃ (o p dx:Addr) (xs:List V),vs=[.ref o,.ref p]∧H o=some (.ins C dx [])∧H p=some (.lst xs)∧xs.length≤100000∧Pln xs∧
 ∀ l H1,H l=none→Ext H H1→H1 l=some (.lst xs)→Q .non (upd H1 o (.ins C dx [(fld,.ref l)]))
variable {C f:Addr}{fd:FuncData}
theorem ZfL (F:Fun K "__init__" "Reading.__init__" Pl.c_Reading_init f fd) (cl:Cls K C) (na:ZG K C "places") (CC:Cal P w K mg base CX0 1 "copied" ["value"] Jl):Ym P w K mg base CX0 2 f fd ["self","places"] (Jd C "places"):=by
 have sc:Zn ["self","places"] ["self","places"] (Zf Pl.c_Reading_init):=scO;refine F.ok sc (fun vs H Q E h=>?_) (fun cdv A outer s H vs Q E hr h=>?_)
 ·obtain ⟨_,_,_,_,rfl,_⟩:=h;rfl
 ·obtain ⟨o,p,dx,xs,rfl,ho,hp,hl,hx,k⟩:=h;refine ⟨_,pss_one (Jk (pv 0) (Zc CC hr (pa_cons (pv 1) pa_nil) Zm) rfl),?_⟩;try dsimp only [ZH,Cx.nox,Cx.wish]
  refine ⟨_,rfl,p,_,rfl,hp,hl,hx,fun l1 H1 hl1 x1 hv1=>?_⟩;exact ⟨_,rfl,o,C,dx,[],rfl,x1.ins ho,cl,na,by decide,k l1 H1 hl1 x1 hv1⟩
theorem Ziz (F:Fun K "__init__" "Stuck.__init__" Pl.c_Stuck_init f fd) (cl:Cls K C) (na:ZG K C "marks") (CC:Cal P w K mg base CX0 1 "copied" ["value"] Jl):Ym P w K mg base CX0 2 f fd ["self","marks"] (Jd C "marks"):=by
 have sc:Zn ["self","marks"] ["self","marks"] (Zf Pl.c_Stuck_init):=scO;refine F.ok sc (fun vs H Q E h=>?_) (fun cdv A outer s H vs Q E hr h=>?_)
 ·obtain ⟨_,_,_,_,rfl,_⟩:=h;rfl
 ·obtain ⟨o,p,dx,xs,rfl,ho,hp,hl,hx,k⟩:=h;refine ⟨_,pss_one (Jk (pv 0) (Zc CC hr (pa_cons (pv 1) pa_nil) Zm) rfl),?_⟩;try dsimp only [ZH,Cx.nox,Cx.wish]
  refine ⟨_,rfl,p,_,rfl,hp,hl,hx,fun l1 H1 hl1 x1 hv1=>?_⟩;exact ⟨_,rfl,o,C,dx,[],rfl,x1.ins ho,cl,na,by decide,k l1 H1 hl1 x1 hv1⟩
theorem Zix (F:Fun K "__init__" "Apart.__init__" Pl.c_Apart_init f fd) (cl:Cls K C) (na:ZG K C "order") (CC:Cal P w K mg base CX0 1 "copied" ["value"] Jl):Ym P w K mg base CX0 2 f fd ["self","order"] (Jd C "order"):=by
 have sc:Zn ["self","order"] ["self","order"] (Zf Pl.c_Apart_init):=scO;refine F.ok sc (fun vs H Q E h=>?_) (fun cdv A outer s H vs Q E hr h=>?_)
 ·obtain ⟨_,_,_,_,rfl,_⟩:=h;rfl
 ·obtain ⟨o,p,dx,xs,rfl,ho,hp,hl,hx,k⟩:=h;refine ⟨_,pss_one (Jk (pv 0) (Zc CC hr (pa_cons (pv 1) pa_nil) Zm) rfl),?_⟩;try dsimp only [ZH,Cx.nox,Cx.wish]
  refine ⟨_,rfl,p,_,rfl,hp,hl,hx,fun l1 H1 hl1 x1 hv1=>?_⟩;exact ⟨_,rfl,o,C,dx,[],rfl,x1.ins ho,cl,na,by decide,k l1 H1 hl1 x1 hv1⟩
theorem ZiA (F:Fun K "__init__" "Tails.__init__" Pl.c_Tails_init f fd) (cl:Cls K C) (na:ZG K C "tails") (CC:Cal P w K mg base CX0 1 "copied" ["value"] Jl):Ym P w K mg base CX0 2 f fd ["self","tails"] (Jd C "tails"):=by
 have sc:Zn ["self","tails"] ["self","tails"] (Zf Pl.c_Tails_init):=scO;refine F.ok sc (fun vs H Q E h=>?_) (fun cdv A outer s H vs Q E hr h=>?_)
 ·obtain ⟨_,_,_,_,rfl,_⟩:=h;rfl
 ·obtain ⟨o,p,dx,xs,rfl,ho,hp,hl,hx,k⟩:=h;refine ⟨_,pss_one (Jk (pv 0) (Zc CC hr (pa_cons (pv 1) pa_nil) Zm) rfl),?_⟩;try dsimp only [ZH,Cx.nox,Cx.wish]
  refine ⟨_,rfl,p,_,rfl,hp,hl,hx,fun l1 H1 hl1 x1 hv1=>?_⟩;exact ⟨_,rfl,o,C,dx,[],rfl,x1.ins ho,cl,na,by decide,k l1 H1 hl1 x1 hv1⟩
theorem ZiB (F:Fun K "__init__" "Words.__init__" Pl.c_Words_init f fd) (cl:Cls K C) (na:ZG K C "words") (CC:Cal P w K mg base CX0 1 "copied" ["value"] Jl):Ym P w K mg base CX0 2 f fd ["self","words"] (Jd C "words"):=by
 have sc:Zn ["self","words"] ["self","words"] (Zf Pl.c_Words_init):=scO;refine F.ok sc (fun vs H Q E h=>?_) (fun cdv A outer s H vs Q E hr h=>?_)
 ·obtain ⟨_,_,_,_,rfl,_⟩:=h;rfl
 ·obtain ⟨o,p,dx,xs,rfl,ho,hp,hl,hx,k⟩:=h;refine ⟨_,pss_one (Jk (pv 0) (Zc CC hr (pa_cons (pv 1) pa_nil) Zm) rfl),?_⟩;try dsimp only [ZH,Cx.nox,Cx.wish]
  refine ⟨_,rfl,p,_,rfl,hp,hl,hx,fun l1 H1 hl1 x1 hv1=>?_⟩;exact ⟨_,rfl,o,C,dx,[],rfl,x1.ins ho,cl,na,by decide,k l1 H1 hl1 x1 hv1⟩
def ZdC (C:Addr):Sp:=fun vs H Q _=>∃ (o p q dx:Addr) (xs ys:List V),vs=[.ref o,.ref p,.ref q]∧H o=some (.ins C dx [])∧H p=some (.lst xs)∧H q=some (.lst ys)∧xs.length≤100000∧ys.length≤100000∧Pln xs∧Pln ys∧
 ∀ l1 l2 H1,H l1=none→H l2=none→l1≠l2→Ext (upd H o (.ins C dx [("one",.ref l1)])) H1→H1 l1=some (.lst xs)→H1 l2=some (.lst ys)→Q .non (upd H1 o (.ins C dx [("one",.ref l1),("other",.ref l2)]))
theorem Ziy (F:Fun K "__init__" "Clash.__init__" Pl.c_Clash_init f fd) (cl:Cls K C) (na:ZG K C "one") (nb:ZG K C "other") (CC:Cal P w K mg base CX0 1 "copied" ["value"] Jl):Ym P w K mg base CX0 2 f fd ["self","one","other"] (ZdC C):=by
 have sc:Zn ["self","one","other"] ["self","one","other"] (Zf Pl.c_Clash_init):=scO;refine F.ok sc (fun vs H Q E h=>?_) (fun cdv A outer s H vs Q E hr h=>?_)
 ·obtain ⟨_,_,_,_,_,_,rfl,_⟩:=h;rfl
 ·obtain ⟨o,p,q,dx,xs,ys,rfl,ho,hp,hq,h1,h2,px,py,k⟩:=h;refine ⟨_,Zb (Jk (pv 0) (Zc CC hr (pa_cons (pv 1) pa_nil) Zm) rfl) (pss_one (Jk (pv 0) (Zc CC hr (pa_cons (pv 2) pa_nil) Zm) rfl)),?_⟩;try dsimp only [ZH,Cx.nox,Cx.wish]
  refine ⟨_,rfl,p,_,rfl,hp,h1,px,fun l1 H1 hl1 x1 hv1=>?_⟩;refine ⟨_,rfl,o,C,dx,[],rfl,x1.ins ho,cl,na,by decide,?_⟩;have x1u:Ext (upd H o (.ins C dx [("one",.ref l1)])) (upd H1 o (.ins C dx [("one",.ref l1)])):=x1.upd (v':=.lst []) ho (fun _ z=>nomatch z);have oq:q≠o:=Ye hq ho (by simp);have ol1:l1≠o:=(ne_of_none ho hl1).symm;refine ⟨_,rfl,q,ys,rfl,upd_k (x1.lst hq) oq,h2,py,fun l2 H2 hl2 x2 hv2=>?_⟩;refine ⟨_,rfl,o,C,dx,_,rfl,x2.ins Za,cl,nb,(by show 1 < 1000; decide),?_⟩;have hl2':l2≠o:=(ne_of_none Za hl2).symm;have f2:H l2=none:=x1.free (by rw [Zp hl2'] at hl2; exact hl2);exact k l1 l2 H2 hl1 f2 (ne_of_none (upd_k hv1 ol1) hl2) (x1u.trans x2) (x2.lst (upd_k hv1 ol1)) hv2
theorem ZgI (F:Ym P w K mg base CX0 2 f fd ["self","one","other"] (ZdC C)):Ym P w K mg base CX0 2 f fd ["self","one","other"] (Zfh C):=
 F.imp fun vs H Q E h=>by
 obtain ⟨o,p,q,dx,r1,r2,h0,h1,h2,h3,h4,h5,k⟩:=h;exact ⟨o,p,q,dx,_,_,h0,h1,h2,h3,by rw [Zni]; exact h4,by rw [Zni]; exact h5,Pln.nats _,Pln.nats _,k⟩
theorem ZgJ (F:Ym P w K mg base CX0 2 f fd ["self","tails"] (Jd C "tails")):Ym P w K mg base CX0 2 f fd ["self","tails"] (Zfj C):=
 F.imp fun vs H Q E h=>by
 obtain ⟨o,p,dx,ts,h0,h1,h2,h3,k⟩:=h;exact ⟨o,p,dx,_,h0,h1,h2,by rw [Zni]; exact h3,Zbx _,k⟩
theorem ZfK {fld:Str} (F:Ym P w K mg base CX0 2 f fd ["self",fld] (Jd C fld)):Ym P w K mg base CX0 2 f fd ["self",fld] (Zfg C fld):=
 F.imp fun vs H Q E h=>by
 obtain ⟨o,p,dx,r,h0,h1,h2,h3,k⟩:=h;exact ⟨o,p,dx,_,h0,h1,h2,by rw [Zni]; exact h3,Pln.nats _,k⟩
def Zb7:Sp:=fun vs H Q _=>∃ x y,vs=[.bl x,.bl y]∧Q (.bl (decide (x=y))) H
theorem ZkV (K:Znj):Zoc K (.type "bool") (.type "bool")=some true:=by kernel_rfl
theorem Zlp (D:Def K mg "_law_says" "_law_says" Pl.s_law_says ["_law_said","_law_due"]) (B:Yo mg):Cal P w K mg base CX0 1 "_law_says" ["_law_said","_law_due"] Zb7:=by
 have sc:Zn ["_law_said","_law_due"] ["_law_said","_law_due"] (Zf Pl.s_law_says):=scO;refine D.cal fun f fd F=>F.ok sc (fun vs H Q E h=>?_) (fun cdv A outer s H vs Q E hr h=>?_)
 ·obtain ⟨_,_,rfl,_⟩:=h;rfl
 ·obtain ⟨x,y,rfl,k⟩:=h;refine ⟨_,pss_one (ps_ret (ZO (Zcm B (pv 0)) (Z3 (ZV Jt (pv 0) (pv 1) (Zu _))))),?_⟩;try dsimp only [ZH,Cx.nox,Cx.wish]
  refine ⟨_,rfl,_,_,_,_,rfl,trivial,.bl x,ZkV K,_,rfl,Yi ⟨_,rfl,_,rfl,rfl,?_⟩⟩;have e:decide (V.bl x=V.bl y)=decide (x=y):=decide_eq_decide.mpr ⟨fun z=>V.bl.inj z,fun z=>by rw [z]⟩;rw [←e] at k;exact k
def ZdA (K:Znj):Sp:=fun vs H Q _=>∃ (a:Addr) (xs:List V) (c:Int) (m:V),vs=[.ref a,.int c,m]∧SqL K H a xs∧xs.length≤100000∧
 ∀ D ys H',H D=none→Ext H H'→H' D=some (.lst ys)→(∀ y∈ys,y∈xs∨y=m)→ys.length≤xs.length+1→(c % 3=0→ys.length≤xs.length)→Q (.ref D) H'
theorem Zll (D:Def K mg "_law_bent" "_law_bent" Pl.s_law_bent ["_law_some","_law_cell","_law_more"]) (B:Yo mg):Cal P w K mg base CX0 1 "_law_bent" ["_law_some","_law_cell","_law_more"] (ZdA K):=by
 have sc:Zn ["_law_some","_law_cell","_law_more","_law_kind","_law_at"] ["_law_some","_law_cell","_law_more"] (Zf Pl.s_law_bent):=scO;refine D.cal fun f fd F=>F.ok sc (fun vs H Q E h=>?_) (fun cdv A outer s H vs Q E hr h=>?_)
 ·obtain ⟨_,_,_,_,rfl,_⟩:=h;rfl
 ·obtain ⟨a,xs,c,m,rfl,hS,hx,k⟩:=h;refine ⟨_,Zb (Zl (i:=3) sc.nd rfl (Or.inl rfl) (Zo Yj (pv 1) Ze))
   (Zb (ZD (Zz Jt (pv 3) Ze (Zu _)) (pss_one (ps_ret (Yc Z4 (by rfl) B.list boot_list (pa_cons (pv 0) pa_nil)))) pss_nil)
   (Zb (Zl (i:=4) sc.nd rfl (Or.inl rfl) (Zo Yj (Zo ZX (pv 1) Ze) (Zo Z2 (Zg Zq (by rfl) B.len Zno (pa_cons (pv 0) pa_nil)) Ze)))
   (Zb (ZD (Zz Jt (pv 3) Ze (Zu _)) (pss_one (ps_ret (Zo ZaO (ZM YI (pv 0) ZY (ZN (pv 4))) (ZM YI (pv 0) (ZN (Zo Z2 (pv 4) Ze)) ZY)))) pss_nil)
   (Zb (ZD (Zz Jt (pv 3) Ze (Zu _)) (pss_one (ps_ret (Zo ZaO (Zo ZaO (ZM YI (pv 0) ZY (ZN (pv 4))) (ZM YI (pv 0) (ZN (pv 4)) (ZN (Zo Z2 (pv 4) Ze)))) (ZM YI (pv 0) (ZN (pv 4)) ZY)))) pss_nil)
   (Zb (ZD (Zz Jt (pv 3) Ze (Zu _)) (pss_one (ps_ret (ZhQ (K:=K) rfl (pv 0) (Zge ZdN Ze)))) pss_nil)
   (pss_one (ps_ret (Zo ZaO (Zo ZaO (ZM YI (pv 0) ZY (ZN (pv 4))) (Yd (pa_cons (pv 2) pa_nil))) (ZM YI (pv 0) (ZN (Zo Z2 (pv 4) (Zo Yj (pv 3) Ze))) ZY))))))))),?_⟩
  try dsimp only [ZH,Cx.nox,Cx.wish]
  obtain ⟨kd,ekd,lkd⟩:=Jm (i:=c) (k:=6) (by decide);refine ⟨_,rfl,_,_,rfl,rfl,by show (0:Int) < 6; decide,?_⟩;dsimp only;rw [ekd];refine ⟨_,rfl,rfl,_,rfl,?_⟩;by_cases k0:kd=0
  ·subst k0;refine ZI (by decide) ⟨_,rfl,a,_,rfl,.inl hS,fun l hl=>?_⟩;exact k l xs _ hl (Ext.new hl) Za (fun y hy=>.inl hy) (by omega) fun _=>Znn _
  refine Zx (by rw [decide_eq_true_iff]; intro z; have:=V.int.inj z; omega) ?_;obtain ⟨n,en,ln⟩:=Jm (i:=c / 6) (k:=((xs.length:Nat):Int)+1) (by omega);refine ⟨_,rfl,_,_,rfl,rfl,⟨by decide,by decide⟩,_,rfl,a,_,rfl,.inl hS,_,_,rfl,rfl,_,_,rfl,rfl,by omega,?_⟩;dsimp only;rw [en];refine ⟨_,rfl,rfl,_,rfl,?_⟩;have sl:∀ zs:List V,zs.length≤200003→zs.length≤sizeLine:=fun zs h=>Zd (by omega);by_cases k1:kd=1
  ·subst k1;refine ZI (by decide) ⟨_,rfl,_,rfl,_,rfl,a,_,rfl,hS,fun l1 h1=>?_⟩;rw [ZbF];have x1:=Ext.new (o:=HO.lst (xs.take n)) h1;have e1:upd H l1 (.lst (xs.take n)) l1=some (.lst (xs.take n)):=Za;generalize upd H l1 (.lst (xs.take n))=H1 at x1 e1;refine ⟨_,rfl,_,rfl,_,_,rfl,rfl,_,rfl,a,_,rfl,x1.sqL hS,fun l2 h2=>?_⟩;rw [show (n:Int)+1=((n+1:Nat):Int) by omega,ZeH];have x2:=x1.newer (o:=HO.lst (xs.drop (n+1))) h2;refine ⟨l1,l2,_,_,rfl,rfl,Zk e1 h2,Za,Zd (by rw [ZnM,ZnV]; omega),fun l3 h3=>?_⟩;refine k l3 _ _ (x2.free h3) (x2.newer h3) Za (fun y hy=>?_) (by rw [Znl,ZnM,ZnV]; omega) fun _=>by rw [Znl,ZnM,ZnV]; omega
   rcases Zns.mp hy with z | z
   ·exact .inl (ZoL z)
   ·exact .inl (ZoK z)
  refine Zx (by rw [decide_eq_true_iff]; intro z; have:=V.int.inj z; omega) ?_;refine ⟨_,rfl,rfl,_,rfl,?_⟩;by_cases k2:kd=2
  ·subst k2;refine ZI (by decide) ⟨_,rfl,_,rfl,_,rfl,a,_,rfl,hS,fun l1 h1=>?_⟩;rw [ZbF];have x1:=Ext.new (o:=HO.lst (xs.take n)) h1;have e1:upd H l1 (.lst (xs.take n)) l1=some (.lst (xs.take n)):=Za;generalize upd H l1 (.lst (xs.take n))=H1 at x1 e1;refine ⟨_,rfl,_,rfl,_,rfl,_,rfl,_,_,rfl,rfl,_,rfl,a,_,rfl,x1.sqL hS,fun l2 h2=>?_⟩;rw [show (n:Int)+1=((n+1:Nat):Int) by omega];have l2l:=ZjA xs n;have l2m:∀ y∈cutV xs (some (n:Int)) (some ((n+1:Nat):Int)),y∈xs:=fun y=>Zjz;generalize cutV xs (some (n:Int)) (some ((n+1:Nat):Int))=zs at l2l l2m;have x2:=x1.newer (o:=HO.lst zs) h2;have e2:=Zk (u:=HO.lst zs) e1 h2;have e2':upd H1 l2 (.lst zs) l2=some (.lst zs):=Za;generalize upd H1 l2 (.lst zs)=H2 at x2 e2 e2';refine ⟨l1,l2,_,_,rfl,rfl,e2,e2',Zd (by rw [ZnM]; omega),fun l3 h3=>?_⟩;have x3:=x2.newer (o:=HO.lst (xs.take n++zs)) h3;have e3:upd H2 l3 (.lst (xs.take n++zs)) l3=some (.lst (xs.take n++zs)):=Za;generalize upd H2 l3 (.lst (xs.take n++zs))=H3 at x3 e3;refine ⟨_,rfl,_,rfl,_,rfl,a,_,rfl,x3.sqL hS,fun l4 h4=>?_⟩;rw [ZeH];have x4:=x3.newer (o:=HO.lst (xs.drop n)) h4;refine ⟨l3,l4,_,_,rfl,rfl,Zk e3 h4,Za,Zd (by rw [Znl,ZnM,ZnV]; omega),fun l5 h5=>?_⟩;refine k l5 _ _ (x4.free h5) (x4.newer h5) Za (fun y hy=>?_) (by rw [Znl,Znl,ZnM,ZnV]; omega) fun _=>by exfalso; omega
   rcases Zns.mp hy with z | z
   ·rcases Zns.mp z with z | z
    ·exact .inl (ZoL z)
    ·exact .inl (l2m y z)
   ·exact .inl (ZoK z)
  refine Zx (by rw [decide_eq_true_iff]; intro z; have:=V.int.inj z; omega) ?_;refine ⟨_,rfl,rfl,_,rfl,?_⟩;by_cases k3:kd=3
  ·subst k3;refine ZI (by decide) ⟨_,rfl,1,rfl,a,_,rfl,rfl,hS,fun l hl=>?_⟩;exact k l xs.reverse _ hl (Ext.new hl) Za (fun y hy=>.inl (List.mem_reverse.mp hy)) (by rw [Zoa]; omega) fun _=>by rw [Zoa]; exact Znn _
  refine Zx (by rw [decide_eq_true_iff]; intro z; have:=V.int.inj z; omega) ?_;refine ⟨_,rfl,_,rfl,_,rfl,a,_,rfl,hS,fun l1 h1=>?_⟩;rw [ZbF];have x1:=Ext.new (o:=HO.lst (xs.take n)) h1;have e1:upd H l1 (.lst (xs.take n)) l1=some (.lst (xs.take n)):=Za;generalize upd H l1 (.lst (xs.take n))=H1 at x1 e1;refine ⟨_,rfl,by show 1≤sizeLine; decide,fun l2 h2=>?_⟩;have x2:=x1.newer (o:=HO.lst [m]) h2;have e2:=Zk (u:=HO.lst [m]) e1 h2;have e2':upd H1 l2 (.lst [m]) l2=some (.lst [m]):=Za;generalize upd H1 l2 (.lst [m])=H2 at x2 e2 e2';refine ⟨l1,l2,_,_,rfl,rfl,e2,e2',Zd (by rw [ZnM,ZnT]; omega),fun l3 h3=>?_⟩;have x3:=x2.newer (o:=HO.lst (xs.take n++[m])) h3;have e3:upd H2 l3 (.lst (xs.take n++[m])) l3=some (.lst (xs.take n++[m])):=Za;generalize upd H2 l3 (.lst (xs.take n++[m]))=H3 at x3 e3;obtain ⟨q,eq_,lq⟩:=Jm (i:=(kd:Int)) (k:=2) (by decide);refine ⟨_,rfl,_,rfl,_,rfl,_,_,rfl,rfl,by show (0:Int) < 2; decide,_,_,rfl,rfl,_,rfl,a,_,rfl,x3.sqL hS,fun l4 h4=>?_⟩;dsimp only;rw [eq_,show (n:Int)+(q:Int)=((n+q:Nat):Int) by omega,ZeH];have x4:=x3.newer (o:=HO.lst (xs.drop (n+q))) h4;refine ⟨l3,l4,_,_,rfl,rfl,Zk e3 h4,Za,Zd (by rw [Znl,ZnM,ZnV,ZnT]; omega),fun l5 h5=>?_⟩;refine k l5 _ _ (x4.free h5) (x4.newer h5) Za (fun y hy=>?_) (by rw [Znl,Znl,ZnM,ZnV,ZnT]; omega) fun _=>by exfalso; omega
  rcases Zns.mp hy with z | z
  ·rcases Zns.mp z with z | z
   ·exact .inl (ZoL z)
   ·exact .inr (Znt.mp z)
  ·exact .inl (ZoK z)
end
theorem ZfU {t:W}{lo hi:Option Int}{z:Nat} (h:z∈JU t lo hi):z∈t:=ZoK (ZoL h)
theorem sAB:Str.ofString "ab"=st [97,98]:=by decide +kernel
theorem sABZ:Str.ofString "abz"=st [97,98,122]:=by decide +kernel
theorem Zbl {n:Nat}:∀ {ls:List W},(∀ x∈ls,x.length≤n)→ls.flatten.length≤ls.length * n
 | [],_=>by simp
 | x :: ls,h=>by
  rw [Zos,Znl,ZnZ,Nat.add_mul];have h1:=h x ZnF;have h2:=Zbl (ls:=ls) fun y hy=>h y (ZnC _ hy);omega
section
variable {P:Program}{w:World}{K:Znj}{mg:Str→Option Value}{base:Heap}
def Zeu (K:Znj):Sp:=fun vs H Q _=>∃ (p a:Addr) (ws:List W) (ns:List Int),vs=[.ref p,.ref a]∧H p=some (.lst (ws.map sv))∧ws.length≤64∧(∀ x∈ws,ZbA az 65 x)∧SqL K H a (ns.map V.int)∧ns.length≤63∧
 ∀ (t:W) (H':Hp),Ext H H'→(∀ z∈t,z∈az)→t.length≤2000→Q (sv t) H'
theorem Zf8 (D:Def K mg "_law_text" "_law_text" Pl.s_law_text ["_law_code_here","_law_script"]) (B:Yo mg):Cal P w K mg base CX0 1 "_law_text" ["_law_code_here","_law_script"] (Zeu K):=by
 have sc:Zn ["_law_code_here","_law_script","_law_text_here","_law_at"] ["_law_code_here","_law_script"] (Zf Pl.s_law_text):=scO;refine D.cal fun f fd F=>F.ok sc (fun vs H Q E h=>?_) (fun cdv A outer s H vs Q E hr h=>?_)
 ·obtain ⟨_,_,_,_,rfl,_⟩:=h;rfl
 ·obtain ⟨p,a,ws,ns,rfl,hp,hwl,hg,hS,hlen,k⟩:=h;have hu:_ < cLine:=ZoJ (Zpo _ 64) hr.units;have nd:(["_law_cell","_law_code_here"]:List Str).Nodup:=by decide +kernel
  refine ⟨_,Zb (ZD (Zz (Zlr hu) (pv 0) (Yd pa_nil) (Zu _)) (pss_one (ps_ret (Zo ZhN ZQ (Zo Yj (Zg (Y7 rfl) (by rfl) B.sum Boot.«sum» (pa_cons (pv 1) pa_nil)) Ze)))) pss_nil)
   (Zb (Zl (i:=2) sc.nd rfl (Or.inl rfl) (Yx Zol ZpT ZpU ZeV ZQ (pa_cons
    (Z5 (N':=["_law_cell","_law_code_here"]) (js:=[none,some 0]) (.of (by kernel_rfl)) rfl (ZF (ZM YI (pv 1) ZY (ZN Ze))) fun C fp s₀ H₀=>⟨Zr (i:=0) nd rfl (Or.inl rfl),ZZ,
     pe_ix (r:=YG K) ZB (pv 1) (Zo Yj (Zo ZX (pv 0) Ze) (Zg (r:=Zkr K) (ZcR rfl) (by rfl) B.len Zno (pa_cons (pv 1) pa_nil))) (fun _ _=>rfl)⟩) pa_nil)))
   (Zb (ZD (Jz (Zz Zke (Zo Yj (Zo ZX (Zg (Y7 rfl) (by rfl) B.sum Boot.«sum» (pa_cons (pv 1) pa_nil)) Ze) Ze) Ze (Zu _)) (Y9 (Zz Jt (pv 2) ZQ (Zu _)))).pt (pss_one (ps_ret (pv 2))) pss_nil)
   (Zb (Zl (i:=3) sc.nd rfl (Or.inl rfl) (Zo Yj (Zo ZX (Zg (Y7 rfl) (by rfl) B.sum Boot.«sum» (pa_cons (pv 1) pa_nil)) Ze) (Zg Zs (by rfl) B.len Zno (pa_cons (pv 2) pa_nil))))
   (pss_one (ps_ret (Zo JM (Zo JM (ZM Jy (pv 2) ZY (ZN (pv 3))) (pe_ix (r:=Zhd) ZbY ZQ (Zo Yj (pe_ix (r:=YG K) ZB (pv 1) Ze (fun _ _=>rfl)) Ze) (fun _ _=>rfl)))
    (ZM Jy (pv 2) (ZN (Zo Z2 (pv 3) Ze)) ZY))))))),?_⟩
  try dsimp only [ZH,Cx.nox,Cx.wish]
  refine ⟨_,rfl,by show 0≤sizeLine; decide,fun q hq=>⟨p,q,ws.map sv,rfl,rfl,SqL.of (Zk hp hq),SqL.of Za,_,rfl,?_⟩⟩;have x1:=Ext.new (o:=HO.lst []) hq;by_cases e0:ws=[]
  ·subst e0;refine ZI (by rfl) ?_;have g0:0≤ns.sum % 3:=ZpB _ (by decide);have g1:ns.sum % 3 < 3:=ZpA _ (by decide);refine ⟨_,rfl,a,ns,rfl,x1.sqL hS,_,_,rfl,rfl,by show (0:Int) < 3; decide,[97,98],ns.sum % 3,by rw [sAB],rfl,g0,by omega,by show 2≤1000; decide,k _ _ x1 (fun z hz=>?_) ?_⟩
   ·obtain ⟨l,hl,hzl⟩:=ZqO.mp hz;rw [Zpw hl] at hzl;revert z;intro z _ h;simp only [Znz,ZnX,or_false] at h;rcases h with rfl | rfl <;> decide
   ·have:=Zbl (n:=2) (ls:=ZnL (ns.sum % 3).toNat [97,98]) fun x hx=>by rw [Zpw hx]; exact Znn _
    rw [ZpO] at this;omega
  ·refine Zx (by simp [e0]) ?_;have hwp:0 < ws.length:=Zo1.mpr e0;obtain ⟨ms,em,hml⟩:=Zea ns none (some 9);have em9:ms.length≤9:=by
    have:(cutV (ns.map V.int) none (some 9)).length≤9:=by
     unfold cutV;rw [ZnM];have h9:=HT.sIx_nat (ns.map V.int).length (ns.map V.int).length 9;have h0:HT.sIx (ns.map V.int).length 0 none=0:=rfl;rw [h0];have:HT.sIx (ns.map V.int).length (ns.map V.int).length (some 9)≤9:=by
      have e:HT.sIx (ns.map V.int).length (ns.map V.int).length (some ((9:Nat):Int))=min 9 (ns.map V.int).length:=HT.sIx_nat ..;have e':HT.sIx (ns.map V.int).length (ns.map V.int).length (some 9)=min 9 (ns.map V.int).length:=e;rw [e'];exact Zq5 _ _
     omega
    rw [em,Zni] at this;exact this
   refine ⟨rfl,_,rfl,9,rfl,a,_,rfl,x1.sqL hS,fun q2 hq2=>⟨q2,rfl,⟨_,SqL.of Za⟩,?_⟩⟩;have x2:=x1.newer (o:=HO.lst (cutV (ns.map V.int) none (some 9))) hq2;have hp2:=x2.lst hp;refine ZS (SqL.of Za) (by rw [em,Zni]; exact Zd (by omega)) (fun y=>match y with | .int z=>sv (ws.getD (z / 5 % (ws.length:Int)).toNat []) | _=>.non) (fun y H' hy y1 Q' k'=>?_) (fun D' H' hD' y1 hD=>?_)
   ·rw [em] at hy;obtain ⟨z,_,rfl⟩:=Znm.mp hy;obtain ⟨n,en,ln⟩:=Jm (i:=z / 5) (k:=(ws.length:Int)) (by omega);have hpH:=y1.lst hp2;refine ⟨_,rfl,_,rfl,_,_,rfl,rfl,⟨by decide,by decide⟩,_,rfl,p,_,rfl,.inl (SqL.of hpH),_,_,rfl,rfl,by rw [Zni]; omega,p,_,_,sv (ws.getD n []),rfl,rfl,SqL.of hpH,?_,k' _ H' (Ext.refl _) ?_⟩
    ·rw [Zni,en];exact ZE (by rw [Znq]; simp [show n < ws.length by omega])
    ·show sv (ws.getD n [])=sv (ws.getD (z / 5 % (ws.length:Int)).toNat []);rw [en];rfl
   ·have hgd:∀ x∈ms.map (fun z=>ws.getD (z / 5 % (ws.length:Int)).toNat []),ZbA az 65 x:=fun x hx=>by
     obtain ⟨z,_,rfl⟩:=Znm.mp hx;obtain ⟨n,en,ln⟩:=Jm (i:=z / 5) (k:=(ws.length:Int)) (by omega);rw [en];show ZbA az 65 (ws.getD n []);have hn:n < ws.length:=by omega
     exact hg _ (by simp [hn])
    have hlt:=Zbl (n:=65) fun x hx=>(hgd x hx).len;rw [Zni] at hlt;have hz:∀ z∈(ms.map (fun z=>ws.getD (z / 5 % (ws.length:Int)).toNat [])).flatten,z∈az:=fun z hz=>by
     obtain ⟨l,hl,hzl⟩:=ZqO.mp hz;exact (hgd l hl).az_ z hzl
    refine ⟨D',ms.map (fun z=>ws.getD (z / 5 % (ws.length:Int)).toNat []),by rw [sE],rfl,SqL.of (by rw [hD,em,Znr,Znr]; rfl),by rw [←Zp4]; omega,?_⟩;have hne:(ms.map (fun z=>ws.getD (z / 5 % (ws.length:Int)).toNat [])).flatten≠[]→ns≠[]:=fun h z=>by
     subst z;have:ms=[]:=ZnU (by simpa using hml);subst this;exact h rfl
    generalize (ms.map (fun z=>ws.getD (z / 5 % (ws.length:Int)).toNat [])).flatten=t at hlt hz hne ⊢;have x3:=x2.trans y1;have hSt:(st t).length≤sizeLine:=by rw [st_len]; exact Zd (by omega)
    refine ⟨_,rfl,a,ns,rfl,x3.sqL hS,_,_,rfl,rfl,⟨by decide,by decide⟩,_,_,rfl,rfl,by show (0:Int) < 3; decide,_,_,rfl,rfl,_,rfl,?_⟩;by_cases hpos:0 < ns.sum / 4 % 3
    ·exact ZI (by rw [decide_eq_true_iff]; exact hpos) (Yi ⟨_,rfl,k t H' x3 hz (by omega)⟩)
    ·refine Zx (by rw [decide_eq_true_iff]; exact hpos) ?_;refine ⟨_,rfl,rfl,_,rfl,?_⟩;by_cases et:t=[]
     ·subst et;exact ZI (by rw [sE]; decide) ⟨_,rfl,k [] H' x3 hz (by show 0≤2000; decide)⟩
     ·refine Zx (by rw [sE,decide_eq_true_iff]; intro z; exact et (st_inj (V.str.inj z))) ?_;have htp:0 < t.length:=Zo1.mpr et;obtain ⟨n0,nr,rfl⟩:∃ n0 nr,ns=n0 :: nr:=by
       cases ns with
       | nil=>exact absurd rfl (hne et)
       | cons n0 nr=>exact ⟨n0,nr,rfl⟩
      obtain ⟨ch,hch,hcm⟩:=Zdh (xs:=[97,98,122]) (i:=n0) (k:=3) (by decide) (by decide);have hca:ch∈az:=by
       simp only [Znz,ZnX,or_false] at hcm;rcases hcm with rfl | rfl | rfl <;> decide
      refine ⟨_,rfl,a,_,rfl,x3.sqL hS,_,_,rfl,rfl,⟨by decide,by decide⟩,_,rfl,st t,rfl,hSt,_,_,rfl,rfl,by rw [st_len]; omega,?_⟩;have l1:=JW t none (some ((n0 :: nr).sum / 12 % ((st t).length:Int)));have l2:=JW t (some (((n0 :: nr).sum / 12 % ((st t).length:Int))+1)) none;refine ⟨_,rfl,_,rfl,((n0 :: nr).sum / 12 % ((st t).length:Int)),rfl,t,rfl,Zd (by omega),_,rfl,a,_,0,V.int n0,rfl,rfl,x3.sqL hS,ZE (j:=0) rfl,_,_,rfl,rfl,by show (0:Int) < 3; decide,Str.ofString "abz",_,ch,rfl,rfl,by rw [sABZ,st_len]; decide,by rw [sABZ]; exact hch,_,_,rfl,rfl,?_,_,rfl,_,rfl,_,_,rfl,rfl,_,rfl,t,rfl,Zd (by omega),_,_,rfl,rfl,?_,?_⟩
      ·rw [st_len]; exact Zd (by show (JU t none (some ((n0 :: nr).sum / 12 % ((st t).length:Int)))).length+1≤1000000; omega)
      ·rw [ZhV,Zb8,st_len (JU t none (some ((n0 :: nr).sum / 12 % ((st t).length:Int)))++[ch]),st_len (JU t (some (((n0 :: nr).sum / 12 % ((st t).length:Int))+1)) none),Znl,ZnT]; exact Zd (by omega)
      ·rw [ZhV,Zb8,Zb8];refine k _ H' x3 (fun z hz'=>?_) ?_
       ·rcases Zns.mp hz' with h | h
        ·rcases Zns.mp h with h | h
         ·exact hz z (ZfU h)
         ·rw [Znt] at h; subst h; exact hca
        ·exact hz z (ZfU h)
       ·rw [Znl,Znl,ZnT]; omega
end
theorem ZlD {ks:List Nat}{m:Nat} (h:m∈ks):YF (ks.map fun (n:Nat)=>((.inl (n:Int):Key),V.bl true)) (.inl (m:Int)) (.bl true)=ks.map fun (n:Nat)=>((.inl (n:Int):Key),V.bl true):=by
 unfold YF;rw [if_pos (by rw [Zox]; exact ⟨_,Znm.mpr ⟨m,h,rfl⟩,by simp⟩),Znr];refine ZnP fun n _=>?_;simp only [Function.comp];split <;> rfl
section
variable {P:Program}{w:World}{K:Znj}{mg:Str→Option Value}{base:Heap}
theorem Zfb:∀ (r ks:List Nat),ks.Nodup→∃ ks':List Nat,Jg (ks.map fun (n:Nat)=>((.inl (n:Int):Key),V.bl true)) (r.map fun (n:Nat)=>((.inl (n:Int):Key),V.bl true))=ks'.map (fun (n:Nat)=>((.inl (n:Int):Key),V.bl true))∧ks'.Nodup∧∀ n,n∈ks'↔n∈ks∨n∈r
 | [],ks,h=>⟨ks,rfl,h,fun n=>by simp⟩
 | m :: r,ks,h=>by
  by_cases e:m∈ks
  ·obtain ⟨ks',h1,h2,h3⟩:=Zfb r ks h;refine ⟨ks',?_,h2,fun n=>?_⟩
   ·rw [←h1];show Jg (YF _ _ _) _=_;congr 1;exact ZlD e
   ·rw [h3];constructor
    ·rintro (z | z)
     ·exact .inl z
     ·exact .inr (ZnC _ z)
    ·rintro (z | z)
     ·exact .inl z
     ·rcases Znz.mp z with rfl | z
      ·exact .inl e
      ·exact .inr z
  ·obtain ⟨ks',h1,h2,h3⟩:=Zfb r (ks++[m]) (ZoZ.mpr ⟨h,by simp,fun x hx y hy z=>e (by simp at hy; rw [←hy,←z]; exact hx)⟩);refine ⟨ks',?_,h2,fun n=>?_⟩
   ·rw [←h1];show Jg (YF _ _ _) _=_;congr 1;rw [Zaj _ (JY (κ:=fun n:Nat=>(.inl (n:Int):Key)) fun a ha z=>e (YU (b:=m) z ▸ ha)),Zn2];rfl
   ·rw [h3,Zns,Znt,Znz];constructor
    ·rintro ((z | z) | z)
     ·exact .inl z
     ·exact .inr (.inl z)
     ·exact .inr (.inr z)
    ·rintro (z | z | z)
     ·exact .inl (.inl z)
     ·exact .inl (.inr z)
     ·exact .inr z
end
abbrev Zdj (ks:List Nat):List (Key × V):=ks.map fun (n:Nat)=>((.inl (n:Int):Key),V.bl true)
theorem ZeW {ks:List Nat}{j:Nat} (h:j∈ks):Yn (Zdj ks) (.inl (j:Int))=some (.bl true):=JZ (κ:=fun n:Nat=>(.inl (n:Int):Key)) (v:=fun _=>V.bl true) (fun a _ b _ e=>YU e) h
theorem Zdk {ks:List Nat}{j:Nat} (h:j ∉ ks):Yn (Zdj ks) (.inl (j:Int))=none:=JY (κ:=fun n:Nat=>(.inl (n:Int):Key)) fun a ha e=>h (YU (b:=j) e ▸ ha)
def ZaF (ws:List W) (t:W) (ks:List Nat):Prop:=∀ m∈ks,∀ n∈Yk ws t m,m+n∈ks
instance (ws:List W) (t:W) (ks:List Nat):Decidable (ZaF ws t ks):=by unfold ZaF; infer_instance
section
variable {P:Program}{w:World}{K:Znj}{mg:Str→Option Value}{base:Heap}
def Zgm (K:Znj):Sp:=fun vs H Q _=>∃ (a:Addr) (ws:List W) (t:W) (d:Addr) (ks:List Nat),vs=[.ref a,sv t,.ref d]∧ZW H a ws∧t.length≤100000∧H d=some (.dK (Zdj ks))∧(∀ m∈ks,m≤t.length)∧∀ H',Ext H H'→Q (.bl (decide (ZaF ws t ks))) H'
theorem ZiX (D:Def K mg "marks_closed" "marks_closed" Pl.s_marks_closed ["code","text","known"]) (CG:Cal P w K mg base CX0 1 "grouped" ["words"] (Zak K)) (CB:Cal P w K mg base CX0 2 "marks_behind" ["groups","text","mark"] (Zfk K)):
  Cal P w K mg base CX0 3 "marks_closed" ["code","text","known"] (Zgm K):=by
 have sc:Zn ["code","text","known","groups","mark","behind"] ["code","text","known"] (Zf Pl.s_marks_closed):=scO;refine D.cal fun f fd F=>F.ok sc (fun vs H Q E h=>?_) (fun cdv A outer s H vs Q E hr h=>?_)
 ·obtain ⟨_,_,_,_,_,rfl,_⟩:=h;rfl
 ·obtain ⟨a,ws,t,d,ks,rfl,hC,htl,hd,hks,k⟩:=h;have hu:=Zbf hr;refine ⟨_,Zb (Zl (i:=3) sc.nd rfl (Or.inl rfl) (Zc CG (hr.mono (by decide)) (pa_cons (pv 0) pa_nil) Zm))
   (Zb (Z9 PassesOwn.never rfl (ZhR (pv 2)) (Zr (i:=4) sc.nd rfl (Or.inl rfl))
    (pss_one (Z9 PassesOwn.never rfl (ZF (Zc CB hr (pa_cons (pv 3) (pa_cons (pv 1) (pa_cons (pv 4) pa_nil))) Zm)) (Zr (i:=5) sc.nd rfl (Or.inl rfl))
     (pss_one (ZD (JR (Ji hu (pv 5) (pv 2))) (pss_one (ps_ret pe_bl)) pss_nil)))))
   (pss_one (ps_ret pe_bl))),?_⟩
  try dsimp only [ZH,Cx.nox,Cx.wish]
  refine ⟨_,rfl,a,ws,rfl,hC.code,fun g dd ff H1 hg x1 G=>?_⟩;have hd1:Rd H1 d (.dK (Zdj ks)):=x1.rdK (.inl hd);refine ⟨_,rfl,d,_,rfl,hd1,fun o H2 x2 hd2 ne2=>?_⟩;refine ZfH (fun i σ H3=>(∃ mk bh:Option V,σ=[some (.ref a),some (sv t),some (.ref d),some (.ref g),mk,bh])∧Ext H1 H3∧H3 d=some (.frz o (.dK (Zdj ks)))∧∀ m∈ks.take i,∀ n∈Yk ws t m,m+n∈ks) ⟨⟨none,none,rfl⟩,x2,hd2,fun m hm=>by simp at hm⟩ (fun i σ H3 _ h=>h.2.2.1) ?_ ?_
  ·rintro i p σ H3 hp ⟨⟨mk,bh,rfl⟩,x3,hd3,hok⟩;obtain ⟨m,hm,rfl⟩:=kget (κ:=fun n:Nat=>(.inl (n:Int):Key)) (v:=fun _=>V.bl true) hp;have hmk:m∈ks:=ZnD hm;refine ⟨_,rfl,_,rfl,_,rfl,g,ws,dd,ff,t,m,rfl,x3.gr G.rd,hC.few,by omega,hks m hmk,fun D H4 hD x4 hD4=>⟨D,rfl,⟨_,SqL.of hD4⟩,?_⟩⟩;have hd4:H4 d=some (.frz o (.dK (Zdj ks))):=x4.keep hd3 (by simp);refine Yl (K:=K) (a:=D) (xs:=intsV ((Yk ws t m).map fun n=>m+n)) (fun j σ H5=>(∃ bh:Option V,σ=[some (.ref a),some (sv t),some (.ref d),some (.ref g),some (.int (m:Int)),bh])∧H5=H4∧∀ n∈(Yk ws t m).take j,m+n∈ks) ⟨⟨_,rfl⟩,rfl,fun n hn=>by simp at hn⟩ (fun j σ H5 _ h=>by rw [h.2.1]; exact SqL.of hD4) ?_ ?_
   ·rintro j v σ H5 hv ⟨⟨bh,rfl⟩,rfl,hin⟩;rw [intsV,Znr,Znq] at hv;obtain ⟨n,hn,rfl⟩:=Option.map_eq_some_iff.mp hv;refine ⟨_,rfl,_,rfl,d,_,rfl,.inl ⟨_,(.inl ((m+n:Nat):Int):Key),.inr ⟨o,hd4⟩,rfl,rfl⟩,_,rfl,?_⟩;by_cases q:m+n∈ks
    ·rw [ZeW q];refine Z8 ⟨⟨_,rfl⟩,rfl,fun y hy=>?_⟩;rw [YQ hn] at hy;rcases Zns.mp hy with z | z
     ·exact hin y z
     ·rw [Znt.mp z]; exact q
    ·rw [Zdk q];refine Yi ?_;have no:¬ ZaF ws t ks:=fun c=>q (c m hmk n (ZnD hn));have:=k _ ((x1.trans x3).trans x4);rw [decide_eq_false no] at this;exact this
   ·rintro σ H5 ⟨⟨bh,rfl⟩,rfl,hin⟩;refine ⟨⟨_,_,rfl⟩,x3.trans x4,hd4,fun y hy=>?_⟩;rw [YQ hm] at hy;rcases Zns.mp hy with z | z
    ·exact hok y z
    ·rw [Znt.mp z];intro n hn;exact hin n (by rw [intsV,Zni,Zni,Zor]; exact hn)
  ·rintro σ H3 ⟨⟨mk,bh,rfl⟩,x3,hd3,hok⟩;have yes:ZaF ws t ks:=fun m hm=>hok m (by rw [Zni,Zor]; exact hm);have:=k H3 (x1.trans x3);rw [decide_eq_true yes] at this;exact this
end
structure RdZ (ws:List W) (t:W) (is:List Int):Prop where
 h:InZ ws.length is
 tx:Yy ws (YO is)=t
structure ClZ (ws:List W) (is js:List Int):Prop where
 ne:is≠js
 h1:InZ ws.length is
 h2:InZ ws.length js
 tx:Yy ws (YO is)=Yy ws (YO js)
structure StZ (ws:List W) (t:W) (is:List Int):Prop where
 h:InZ (t.length+1) is
 z:(0:Int)∈is
 e:(t.length:Int) ∉ is
 c:ZaF ws t (YO is)
structure BgZ (ws:List W) (i j:Int):Prop where
 h1:0≤i∧i < (ws.length:Int)
 h2:0≤j∧j < (ws.length:Int)
 ne:i≠j
 pre:(ws.getD i.toNat []).isPrefixOf (ws.getD j.toNat [])=true
theorem ZbM {n m:Nat}{is:List Int} (h:InZ n is):m∈YO is↔(m:Int)∈is:=by
 constructor
 ·intro z;obtain ⟨i,hi,e⟩:=Znm.mp z;have:=(h i hi).1;rw [show (m:Int)=i by omega];exact hi
 ·intro z;exact Znm.mpr ⟨_,z,by simp⟩
theorem ZiH (r:List Nat):intsV r=(r.map fun (n:Nat)=>(.inl (n:Int):Key)).map kV:=by rw [Znr]; rfl
theorem ZfA {ws:List W}{t:W}{ks r:List Nat} (h:∀ n,n∈ks↔n∈r):ZaF ws t ks↔ZaF ws t r:=
 ⟨fun c m hm n hn=>(h _).mp (c m ((h m).mpr hm) n hn),fun c m hm n hn=>(h _).mpr (c m ((h m).mp hm) n hn)⟩
section
variable {P:Program}{w:World}{K:Znj}{mg:Str→Option Value}{base:Heap}{C f:Addr}{fd:FuncData}
def ZcH (C:Addr):Sp:=fun vs H Q _=>∃ (o a p dx:Addr) (ws:List W) (t:W) (is:List Int),vs=[.ref o,.ref a,sv t]∧H o=some (.ins C dx [("places",.ref p)])∧ZL H p is∧ZW H a ws∧
 (InZ ws.length is→(Yy ws (YO is)).length≤1000000)∧∀ b H',Ext H H'→(b=true↔RdZ ws t is)→Q (.bl b) H'
theorem Zkb (F:Fun K "shows" "Reading.shows" Pl.c_Reading_shows f fd) (B:Yo mg) (cl:Cls K C) (na:ZG K C "places") (C1:Cal P w K mg base CX0 3 "is_code" ["value"] (Jv K))
  (C2:Cal P w K mg base CX0 3 "are_places" ["values","count"] (Ju K)) (C3:Cal P w K mg base CX0 2 "joined" ["code","places"] (ZdD K)):Ym P w K mg base CX0 4 f fd ["self","code","text"] (ZcH C):=by
 have sc:Zn ["self","code","text"] ["self","code","text"] (Zf Pl.c_Reading_shows):=scO;refine F.ok sc (fun vs H Q E h=>?_) (fun cdv A outer s H vs Q E hr h=>?_)
 ·obtain ⟨_,_,_,_,_,_,_,rfl,_⟩:=h;rfl
 ·obtain ⟨o,a,p,dx,ws,t,is,rfl,ho,hP,hC,hlen,k⟩:=h;refine ⟨_,pss_one (ps_ret (ZO (Zc C1 hr (pa_cons (pv 1) pa_nil) Zm) (ZO (Zc C2 hr (pa_cons (Zw (pv 0) rfl) (pa_cons (Zg Zq (by rfl) B.len Zno (pa_cons (pv 1) pa_nil)) pa_nil)) Zm)
   (Z3 (ZV Jt (Zc C3 (hr.mono (by decide)) (pa_cons (pv 1) (pa_cons (Zw (pv 0) rfl) pa_nil)) Zm) (pv 2) (Zu _)))))),?_⟩
  try dsimp only [ZH,Cx.nox,Cx.wish]
  refine ⟨_,rfl,.ref a,rfl,hC.arg,hC.sz,fun b H1 x1 hb=>⟨_,rfl,?_⟩⟩;rw [hC.all hb];refine Yi ?_;have hC1:=hC.ext x1;have hP1:=hP.ext x1;refine ⟨_,rfl,o,C,dx,_,.ref p,rfl,x1.ins ho,cl,na,rfl,_,rfl,a,_,rfl,.inl (SqL.of hC1.at_),_,_,rfl,hP1.arg,fun b2 H2 x2 hb2=>⟨_,rfl,?_⟩⟩;have e2:b2=decide (InZ ws.length is):=by
   rw [Y0.eq (.inl hP1.1) hb2,Zni];exact Za6
  by_cases hin:InZ ws.length is
  ·rw [e2,decide_eq_true hin];refine Yi ?_;have hC2:=hC1.ext x2;have hP2:=hin.intsL (hP1.ext x2);refine ⟨_,rfl,_,rfl,o,C,dx,_,.ref p,rfl,x2.ins (x1.ins ho),cl,na,rfl,a,p,ws,YO is,rfl,hC2.code,hP2.places,hin.lt,?_⟩;refine ⟨hlen hin,fun H3 x3=>⟨_,rfl,rfl,k _ H3 ((x1.trans x2).trans x3) ?_⟩⟩;rw [decide_eq_true_iff];exact ⟨fun z=>⟨hin,st_inj (V.str.inj z)⟩,fun z=>by rw [z.tx]⟩
  ·rw [e2,decide_eq_false hin];exact Z8 (k false H2 (x1.trans x2) ⟨fun z=>(nomatch z),fun z=>absurd z.h hin⟩)
def ZcI (C:Addr):Sp:=fun vs H Q _=>∃ (o a p dx:Addr) (ws:List W) (t:W) (is:List Int),vs=[.ref o,.ref a,sv t]∧H o=some (.ins C dx [("marks",.ref p)])∧ZL H p is∧ZW H a ws∧t.length≤100000∧∀ b H',Ext H H'→(b=true↔StZ ws t is)→Q (.bl b) H'
theorem Zkc (F:Fun K "shows" "Stuck.shows" Pl.c_Stuck_shows f fd) (B:Yo mg) (cl:Cls K C) (na:ZG K C "marks") (C1:Cal P w K mg base CX0 3 "is_code" ["value"] (Jv K))
  (C2:Cal P w K mg base CX0 3 "are_places" ["values","count"] (Ju K)) (CN:Cal P w K mg base CX0 1 "noted" ["values"] (Zfl K)) (CL:Cal P w K mg base CX0 3 "marks_closed" ["code","text","known"] (Zgm K)):
  Ym P w K mg base CX0 4 f fd ["self","code","text"] (ZcI C):=by
 have sc:Zn ["self","code","text","known"] ["self","code","text"] (Zf Pl.c_Stuck_shows):=scO;refine F.ok sc (fun vs H Q E h=>?_) (fun cdv A outer s H vs Q E hr h=>?_)
 ·obtain ⟨_,_,_,_,_,_,_,rfl,_⟩:=h;rfl
 ·obtain ⟨o,a,p,dx,ws,t,is,rfl,ho,hP,hC,htl,k⟩:=h;have hu:=Zbf hr;refine ⟨_,Zb (ZD (PW.pt (Jz (Z6 (ZK (Zc C1 hr (pa_cons (pv 1) pa_nil) Zm))) (Y9 (Z6 (ZK (Zbr B (pv 2))))))) (pss_one (ps_ret pe_bl)) pss_nil)
   (Zb (ZD (Z6 (ZK (Zc C2 hr (pa_cons (Zw (pv 0) rfl) (pa_cons (Zo Z2 (Zg Zs (by rfl) B.len Zno (pa_cons (pv 2) pa_nil)) Ze) pa_nil)) Zm))) (pss_one (ps_ret pe_bl)) pss_nil)
   (Zb (Zl (i:=3) sc.nd rfl (Or.inl rfl) (Zc CN (hr.mono (by decide)) (pa_cons (Zw (pv 0) rfl) pa_nil) Zm))
   (pss_one (ps_ret (ZO (Zkh (Ze4 hu Ze (pv 3))) (ZO (Zkh (Ji hu (Zg Zs (by rfl) B.len Zno (pa_cons (pv 2) pa_nil)) (pv 3)))
    (Z3 (Zc CL hr (pa_cons (pv 1) (pa_cons (pv 2) (pa_cons (pv 3) pa_nil))) Zm)))))))),?_⟩
  try dsimp only [ZH,Cx.nox,Cx.wish]
  have hsz:(st t).length≤sizeLine:=by rw [st_len]; exact Zd (by omega)
  refine ⟨_,rfl,.ref a,rfl,hC.arg,hC.sz,fun b H1 x1 hb=>⟨_,rfl,?_⟩⟩;rw [hC.all hb];refine Z8 ?_;obtain ⟨ty,ty1,ty2⟩:=ZcD (K:=K) (H:=H1) (v:=sv t) ⟨_,.str _⟩;refine ⟨_,rfl,_,_,ty,_,rfl,trivial,ty1,ty2,_,rfl,Z8 ?_⟩;have hC1:=hC.ext x1;have hP1:=hP.ext x1;refine ⟨_,rfl,o,C,dx,_,.ref p,rfl,x1.ins ho,cl,na,rfl,_,rfl,st t,rfl,hsz,_,_,rfl,rfl,_,_,rfl,hP1.arg,fun b2 H2 x2 hb2=>⟨_,rfl,?_⟩⟩;have e2:b2=decide (InZ (t.length+1) is):=by
   rw [Y0.eq (.inl hP1.1) hb2,st_len];exact Za6
  have no:∀ {H':Hp},Ext H H'→¬ StZ ws t is→Q (.bl false) H':=fun {H'} x z=>k false H' x ⟨fun e=>(nomatch e),fun e=>absurd e z⟩;by_cases hin:InZ (t.length+1) is
  ·rw [e2,decide_eq_true hin];refine Z8 ?_;have hC2:=hC1.ext x2;have hP2:=hin.intsL (hP1.ext x2);obtain ⟨ks,e1,e2,e3⟩:=Zfb (YO is) [] .nil;have hks:∀ n,n∈ks↔(n:Int)∈is:=fun n=>by rw [e3,ZbM hin]; simp
   refine ⟨_,rfl,o,C,dx,_,.ref p,rfl,x2.ins (x1.ins ho),cl,na,rfl,p,(YO is).map fun (n:Nat)=>(.inl (n:Int):Key),rfl,SqL.of (by rw [hP2.1,ZiH]),by rw [Zni]; have:=hP2.2; omega,fun d H3 hd x3 hd3=>?_⟩;have x13:=(x1.trans x2).trans x3;have hd4:H3 d=some (.dK (Zdj ks)):=by
    rw [hd3];unfold ZaN;rw [Znr];exact congrArg (fun z=>some (HO.dK z)) e1
   refine ⟨_,rfl,d,_,rfl,.inl ⟨_,(.inl ((0:Nat):Int):Key),.inl hd4,rfl,rfl⟩,_,rfl,?_⟩;by_cases z0:(0:Int)∈is
   ·rw [ZeW ((hks 0).mpr z0)];refine Yi ?_;refine ⟨_,rfl,st t,rfl,hsz,_,rfl,d,_,rfl,.inl ⟨_,(.inl ((t.length:Nat):Int):Key),.inl hd4,by rw [st_len]; rfl,rfl⟩,_,rfl,?_⟩;by_cases z1:(t.length:Int)∈is
    ·rw [ZeW ((hks _).mpr z1)];exact Z8 (no x13 fun z=>z.e z1)
    ·rw [Zdk (fun z=>z1 ((hks _).mp z))];refine Yi ?_;refine ⟨_,rfl,_,rfl,_,rfl,a,ws,t,d,ks,rfl,hC2.ext x3,htl,hd4,fun m hm=>Nat.le_of_lt_succ (hin.lt m ((ZbM hin).mpr ((hks m).mp hm))),fun H4 x4=>k _ H4 (x13.trans x4) ?_⟩;rw [decide_eq_true_iff,ZfA (r:=YO is) fun n=>by rw [hks,ZbM hin]];exact ⟨fun z=>⟨hin,z0,z1,z⟩,fun z=>z.c⟩
   ·rw [Zdk (fun z=>z0 ((hks 0).mp z))];exact Z8 (no x13 fun z=>z0 z.z)
  ·rw [e2,decide_eq_false hin];exact Yi (no (x1.trans x2) fun z=>hin z.h)
def ZbS (C:Addr):Sp:=fun vs H Q _=>∃ (o a p q dx:Addr) (ws:List W) (is js:List Int),vs=[.ref o,.ref a]∧H o=some (.ins C dx [("one",.ref p),("other",.ref q)])∧ZL H p is∧ZL H q js∧is.length≤10001∧js.length≤10001∧ZW H a ws∧(∀ x∈ws,x.length≤90)∧
 ∀ b H',Ext H H'→(b=true↔ClZ ws is js)→Q (.bl b) H'
theorem Zka (F:Fun K "shows" "Clash.shows" Pl.c_Clash_shows f fd) (B:Yo mg) (cl:Cls K C) (na:ZG K C "one") (nb:ZG K C "other") (C1:Cal P w K mg base CX0 3 "is_code" ["value"] (Jv K))
  (C2:Cal P w K mg base CX0 3 "are_places" ["values","count"] (Ju K)) (C3:Cal P w K mg base CX0 2 "joined" ["code","places"] (ZdD K)):Ym P w K mg base CX0 5 f fd ["self","code"] (ZbS C):=by
 have sc:Zn ["self","code"] ["self","code"] (Zf Pl.c_Clash_shows):=scO;refine F.ok sc (fun vs H Q E h=>?_) (fun cdv A outer s H vs Q E hr h=>?_)
 ·obtain ⟨_,_,_,_,_,_,_,_,rfl,_⟩:=h;rfl
 ·obtain ⟨o,a,p,q,dx,ws,is,js,rfl,ho,hP,hQ',hl1,hl2,hC,hsh,k⟩:=h;have hr2:ZR 2 _:=hr.mono (by decide);have hr3:ZR 3 _:=hr.mono (by decide);have hu:_+64 < cLine:=hr.units;refine ⟨_,Zb (ZD (Z6 (ZK (Zc C1 hr3 (pa_cons (pv 1) pa_nil) Zm))) (pss_one (ps_ret pe_bl)) pss_nil)
   (Zb (ZD (PW.pt (Jz (Z6 (ZK (Zc C2 hr3 (pa_cons (Zw (pv 0) rfl) (pa_cons (Zg Zq (by rfl) B.len Zno (pa_cons (pv 1) pa_nil)) pa_nil)) Zm)))
     (Y9 (Z6 (ZK (Zc C2 hr3 (pa_cons (Zw (pv 0) rfl) (pa_cons (Zg Zq (by rfl) B.len Zno (pa_cons (pv 1) pa_nil)) pa_nil)) Zm)))))) (pss_one (ps_ret pe_bl)) pss_nil)
   (pss_one (ps_ret (ZO (ZV (JB hu) (Zw (pv 0) rfl) (Zw (pv 0) rfl) (Zu _))
    (Z3 (ZV Jt (Zc C3 hr2 (pa_cons (pv 1) (pa_cons (Zw (pv 0) rfl) pa_nil)) Zm) (Zc C3 hr2 (pa_cons (pv 1) (pa_cons (Zw (pv 0) rfl) pa_nil)) Zm) (Zu _))))))),?_⟩
  try dsimp only [ZH,Cx.nox,Cx.wish]
  refine ⟨_,rfl,.ref a,rfl,hC.arg,hC.sz,fun b H1 x1 hb=>⟨_,rfl,?_⟩⟩;rw [hC.all hb];refine Z8 ?_;have hC1:=hC.ext x1;have no:∀ {H':Hp},Ext H H'→¬ ClZ ws is js→Q (.bl false) H':=fun {H'} x z=>k false H' x ⟨fun e=>(nomatch e),fun e=>absurd e z⟩;refine ⟨_,rfl,o,C,dx,_,.ref p,rfl,x1.ins ho,cl,na,rfl,_,rfl,a,_,rfl,.inl (SqL.of hC1.at_),_,_,rfl,(hP.ext x1).arg,fun b2 H2 x2 hb2=>⟨_,rfl,?_⟩⟩;have e2:b2=decide (InZ ws.length is):=by
   rw [Y0.eq (.inl (hP.ext x1).1) hb2,Zni];exact Za6
  have x12:=x1.trans x2;by_cases hin:InZ ws.length is
  ·rw [e2,decide_eq_true hin];refine Z8 ?_;have hC2:=hC1.ext x2;refine ⟨_,rfl,o,C,dx,_,.ref q,rfl,x12.ins ho,cl,nb,rfl,_,rfl,a,_,rfl,.inl (SqL.of hC2.at_),_,_,rfl,(hQ'.ext x12).arg,fun b3 H3 x3 hb3=>⟨_,rfl,?_⟩⟩;have e3:b3=decide (InZ ws.length js):=by
    rw [Y0.eq (.inl (hQ'.ext x12).1) hb3,Zni];exact Za6
   have x13:=x12.trans x3;by_cases hin2:InZ ws.length js
   ·rw [e3,decide_eq_true hin2];refine Z8 ?_;have hC3:=hC2.ext x3;have hP3:=hP.ext x13;have hQ3:=hQ'.ext x13;have ho3:=x13.ins ho;refine ⟨_,rfl,o,C,dx,_,.ref p,rfl,ho3,cl,na,rfl,_,rfl,o,C,dx,_,.ref q,rfl,ho3,cl,nb,rfl,p,q,is,js,rfl,rfl,SqL.of hP3.1,SqL.of hQ3.1,_,rfl,?_⟩;have tl:∀ r:List Nat,r.length≤10001→(Yy ws r).length≤1000000:=fun r hr=>by
     have:=Jo hsh r;have:r.length * 90≤10001 * 90:=ZpZ _ hr;omega
    by_cases he:is=js
    ·refine Zx ?_ (no x13 fun z=>z.ne he);simp [he]
    ·refine ZI ?_ ?_
     ·simpa using he
     refine ⟨_,rfl,_,rfl,o,C,dx,_,.ref p,rfl,ho3,cl,na,rfl,a,p,ws,YO is,rfl,hC3.code,(hin.intsL hP3).places,hin.lt,tl _ (by rw [Zni]; exact hl1),fun H4 x4=>?_⟩;have ho4:=x4.ins ho3;refine ⟨_,rfl,_,rfl,o,C,dx,_,.ref q,rfl,ho4,cl,nb,rfl,a,q,ws,YO js,rfl,(hC3.ext x4).code,(hin2.intsL (hQ3.ext x4)).places,hin2.lt,tl _ (by rw [Zni]; exact hl2),fun H5 x5=>?_⟩;refine ⟨rfl,k _ H5 ((x13.trans x4).trans x5) ?_⟩;rw [decide_eq_true_iff];exact ⟨fun z=>⟨he,hin,hin2,st_inj (V.str.inj z)⟩,fun z=>by rw [z.tx]⟩
   ·rw [e3,decide_eq_false hin2];exact Yi (no x13 fun z=>hin2 z.h2)
  ·rw [e2,decide_eq_false hin];exact Yi (Yi (no x12 fun z=>hin z.h1))
def Zah (ws:List W) (is:List Int):V:=if InZ ws.length is then sv (Yy ws (YO is)) else .non
def Zhk:Sp:=fun vs H Q _=>∃ (a p:Addr) (ws:List W) (is:List Int),vs=[.ref a,.ref p]∧ZW H a ws∧ZL H p is∧(InZ ws.length is→(Yy ws (YO is)).length≤1000000)∧∀ H',Ext H H'→Q (Zah ws is) H'
theorem Zln (D:Def K mg "_law_made" "_law_made" Pl.s_law_made ["_law_code_here","_law_places"]) (B:Yo mg):Cal P w K mg base CX0 1 "_law_made" ["_law_code_here","_law_places"] Zhk:=by
 have sc:Zn ["_law_code_here","_law_places"] ["_law_code_here","_law_places"] (Zf Pl.s_law_made):=scO;refine D.cal fun f fd F=>F.ok sc (fun vs H Q E h=>?_) (fun cdv A outer s H vs Q E hr h=>?_)
 ·obtain ⟨_,_,_,_,rfl,_⟩:=h;rfl
 ·obtain ⟨a,p,ws,is,rfl,hC,hP,hlen,k⟩:=h;have ndP:(["_law_place","_law_code_here"]:List Str).Nodup:=by decide +kernel
  refine ⟨_,Zb (ZD (Z6 (ZK (Zg (YL rfl) (by rfl) B.all Boot.«all» (pa_cons
      (Z5 (N':=["_law_place","_law_code_here"]) (js:=[none,some 0]) (.of (by kernel_rfl)) rfl (ZF (pv 1)) fun C fp s₀ H₀=>⟨Zr (i:=0) ndP rfl (Or.inl rfl),ZZ,
       ZbO Zdt Zck Ze (pv 0) (Zg (r:=Zkr K) (ZcR rfl) (by rfl) B.len Zno (pa_cons (pv 1) pa_nil))⟩) pa_nil)))) (pss_one (ps_ret Zdv)) pss_nil)
    (pss_one (ps_ret (Yx Zol ZpT ZpU ZeV ZQ (pa_cons
      (Z5 (N':=["_law_place","_law_code_here"]) (js:=[none,some 0]) (.of (by kernel_rfl)) rfl (ZF (pv 1)) fun C fp s₀ H₀=>⟨Zr (i:=0) ndP rfl (Or.inl rfl),ZZ,pe_ix (r:=YG K) ZB (pv 1) (pv 0) (fun _ _=>rfl)⟩) pa_nil)))),?_⟩
  try dsimp only [ZH,Cx.nox,Cx.wish]
  have pl:(zV is).length≤sizeLine:=by rw [Zni]; exact Zd (by have:=hP.2; omega)
  refine ⟨_,rfl,p,rfl,⟨_,SqL.of hP.1⟩,ZS (SqL.of hP.1) pl (fun y=>.bl (ZU (ws.length:Int) y)) (fun y H' hy x1 Q' k'=>?_) (fun D H1 hD x1 hD1=>?_)⟩
  ·obtain ⟨i,hi,rfl⟩:=Znm.mp hy;refine ⟨_,rfl,_,_,rfl,rfl,_,rfl,?_⟩;by_cases h0:0≤i
   ·refine ZI (decide_eq_true h0) ?_;refine ⟨_,rfl,a,_,rfl,.inl (SqL.of (hC.ext x1).at_),_,_,rfl,rfl,?_⟩;rw [Zni];refine k' _ H' (Ext.refl _) ?_;show V.bl _=V.bl (decide (0≤i) && decide (i < (ws.length:Int)));rw [decide_eq_true h0,Zo0]
   ·refine Zx (by rw [decide_eq_true_iff]; exact h0) (k' _ H' (Ext.refl _) ?_);show V.bl _=V.bl (decide (0≤i) && decide (i < (ws.length:Int)));rw [decide_eq_false h0,ZoU]
  ·refine ⟨D,(zV is).map (ZU (ws.length:Int)),rfl,SqL.of (by rw [hD1]; simp [Function.comp_def]),_,rfl,?_⟩;have e2:((zV is).map (ZU (ws.length:Int))).all id=decide (InZ ws.length is):=by
    rw [Zqf];exact Za6
   rw [e2];by_cases hin:InZ ws.length is
   ·rw [decide_eq_true hin];refine Z8 ?_;have hP1:=hP.ext x1;refine ⟨rfl,_,rfl,p,rfl,⟨_,SqL.of hP1.1⟩,ZS (SqL.of hP1.1) pl (fun y=>match y with | .int i=>sv (ws.getD i.toNat []) | _=>.non) (fun y H' hy x2 Q' k'=>?_) (fun D2 H2 hD2 x2 hD3=>?_)⟩
    ·obtain ⟨i,hi,rfl⟩:=Znm.mp hy;obtain ⟨h0,h1⟩:=hin i hi;refine ⟨_,rfl,_,rfl,a,_,i,sv (ws.getD i.toNat []),rfl,rfl,SqL.of ((hC.ext x1).ext x2).at_,?_,k' _ H' (Ext.refl _) rfl⟩;have:=ZE (xs:=ws.map sv) (j:=i.toNat) (v:=sv (ws.getD i.toNat [])) (by rw [Znq]; simp [show i.toNat < ws.length by omega]);rw [Zpr h0] at this;exact this
    ·refine ⟨D2,(YO is).map fun i=>ws.getD i [],rfl,rfl,SqL.of (by rw [hD3,Znr,Znr,Znr]; rfl),?_,?_⟩
     ·have e:(((YO is).map fun i=>ws.getD i []).map Zoe).sum=(Yy ws (YO is)).length:=by rw [Yy,Zp4]
      rw [e];have:=hlen hin;omega
     ·have:=k H2 (x1.trans x2);rw [Zah,if_pos hin] at this;exact this
   ·rw [decide_eq_false hin];refine Yi ?_;have:=k H1 x1;rw [Zah,if_neg hin] at this;exact this
end
structure JV (H:Hp) (t:W) (kvs:List (Key × V)) (ks:List Nat):Prop where
 keys:kvs.map (·.1)=ks.map fun (n:Nat)=>(.inl (n:Int):Key)
 nd:ks.Nodup
 ch:∀ m∈ks,m≤t.length∧∃ v r,Yn kvs (.inl (m:Int))=some v∧Ch H v r∧r.length≤m
section
variable {H H':Hp}{ws:List W}{t:W}{kvs:List (Key × V)}{ks:List Nat}
theorem JV.out (R:JV H t kvs ks) {m:Nat} (h:m ∉ ks):Yn kvs (.inl (m:Int))=none:=by
 cases e:Yn kvs (.inl (m:Int)) with
 | none=>rfl
 | some v=>
  have:=ZlP e;rw [R.keys] at this;obtain ⟨n,hn,q⟩:=Znm.mp this;exact absurd (YU (a:=n) (b:=m) q ▸ hn) h
theorem JV.keep (R:JV H t kvs ks) (k:∀ b xs,H b=some (.tup xs)→H' b=some (.tup xs)):JV H' t kvs ks:=
 ⟨R.keys,R.nd,fun m hm=>let ⟨h1,v,r,h2,h3,h4⟩:=R.ch m hm; ⟨h1,v,r,h2,h3.keep k,h4⟩⟩
theorem JV.few (R:JV H t kvs ks):kvs.length≤t.length+1:=by
 have e:kvs.length=ks.length:=by have:=congrArg Zoe R.keys; simpa using this
 rw [e,←Zod (n:=t.length+1)];exact Zdi R.nd fun m hm=>Zoq.mpr (ZpJ (R.ch m hm).1)
theorem JV.more (R:JV H t kvs ks) (hf:Full ws) {m n i:Nat}{a:Addr}{v:V} (hm:m∈ks) (hn:n∈Yk ws t m) (new:m+n ∉ ks) (hv:Yn kvs (.inl (m:Int))=some v) (ha:H a=some (.tup [.int (i:Int),v])):
  JV H t (YF kvs (.inl ((m+n:Nat):Int)) (.ref a)) (ks++[m+n]):=by
 obtain ⟨hmt,v',r,hv',hc,hrl⟩:=R.ch m hm;rw [hv] at hv';cases hv';obtain ⟨n0,nt⟩:=Zhm hf hmt hn;have no:=R.out new;refine ⟨?_,?_,fun q hq=>?_⟩
 ·rw [Zaj _ no,Zn2,R.keys,Zn2];rfl
 ·refine ZoZ.mpr ⟨R.nd,by simp,fun x hx y hy e=>new ?_⟩;rw [←Znt.mp hy,←e];exact hx
 ·rw [Zgv];rcases Zns.mp hq with hq | hq
  ·obtain ⟨h1,u,s,h2,h3⟩:=R.ch q hq;refine ⟨h1,u,s,?_,h3⟩;rw [if_neg (fun z=>new (by have:=YU (a:=q) (b:=m+n) z; exact this ▸ hq))];exact h2
  ·have e:=Znt.mp hq;subst e;exact ⟨nt,.ref a,i :: r,by rw [if_pos rfl],⟨a,v,rfl,ha,hc⟩,by simp only [ZnZ]; omega⟩
end
section
variable {P:Program}{w:World}{K:Znj}{mg:Str→Option Value}{base:Heap}
def Zgl (K:Znj):Sp:=fun vs H Q _=>∃ (g:Addr) (ws:List W) (d:Nat→Addr) (f:W→Addr) (t:W),vs=[.ref g,sv t]∧GR H g ws d f∧Full ws∧ws.length≤10000∧t.length≤100000∧
 ∀ p kvs ks H',H p=none→Ext H H'→H' p=some (.dK kvs)→JV H' t kvs ks→Q (.ref p) H'
theorem ZiW (D:Def K mg "chains_to_marks" "chains_to_marks" Pl.s_chains_to_marks ["groups","text"]) (B:Yo mg) (C1:Cal P w K mg base CX0 1 "standing" ["groups","text","mark"] (JS K)):
  Cal P w K mg base CX0 2 "chains_to_marks" ["groups","text"] (Zgl K):=by
 have sc:Zn ["groups","text","chains","mark","behind","places"] ["groups","text"] (Zf Pl.s_chains_to_marks):=scO;refine D.cal fun f fd F=>F.ok sc (fun vs H Q E h=>?_) (fun cdv A outer s H vs Q E hr h=>?_)
 ·obtain ⟨_,_,_,_,_,rfl,_⟩:=h;rfl
 ·obtain ⟨g,ws,d,f,t,rfl,G,hfull,hwl,htl,k⟩:=h;have hu:=Zbf hr;refine ⟨_,Zb (Zl (i:=2) sc.nd rfl (Or.inl rfl) (Zlw (Zkp Ze Zdv ZlB) rfl rfl (by simp) (by decide)))
   (Zb (Z9 PassesOwn.never rfl (Y3 (by rfl) B.range (pa_cons (Zg Zs (by rfl) B.len Zno (pa_cons (pv 1) pa_nil)) pa_nil)) (Zr (i:=3) sc.nd rfl (Or.inl rfl))
    (pss_one (ZD (JR (Ze4 hu (pv 3) (pv 2)))
     (pss_one (Z9 PassesOwn.never rfl (ZF (Zc C1 hr (pa_cons (pv 0) (pa_cons (pv 1) (pa_cons (pv 3) pa_nil))) Zm))
      (Za5 (K:=K) (n:=2) rfl rfl (Yu (Zr (i:=4) sc.nd rfl (Or.inl rfl)) (Yu (Zr (i:=5) sc.nd rfl (Or.inl rfl)) Zav)))
      (pss_one (ZD (JR (Ji hu (pv 4) (pv 2)))
       (pss_one (Zfa hu (pv 2) (pv 4) (Jj (pa_cons (pe_ix (r:=YG K) ZB (pv 5) Ze (fun _ _=>rfl)) (pa_cons (Za4 hu (pv 2) (pv 3) (fun _ _=>rfl)) pa_nil))) rfl)) pss_nil)))) pss_nil)))
   (pss_one (ps_ret (pv 2)))),?_⟩
  try dsimp only [ZH,Cx.nox,Cx.wish]
  have hsz:(st t).length≤sizeLine:=by rw [st_len]; exact Zd (by omega)
  intro p hp;have hpg:p≠g:=by
   rintro rfl;rcases G.gd with z | ⟨_,z⟩ <;> rw [hp] at z <;> cases z
  refine ⟨Za,[((.inl 0:Key),.non)],rfl,by show 1≤15; decide,?_⟩;refine ⟨_,rfl,st t,rfl,hsz,_,rfl,by omega,by rw [st_len]; omega,?_⟩;have en:((st t).length:Int).toNat=t.length:=by rw [st_len]; omega
  rw [en];refine Zae (fun i σ H2=>∃ (kvs:List (Key × V)) (ks:List Nat) (mk bh pl:Option V),σ=[some (.ref g),some (sv t),some (.ref p),mk,bh,pl]∧Ext H H2∧H2 p=some (.dK kvs)∧JV H2 t kvs ks) ?_ ?_ ?_
  ·refine ⟨_,[0],none,none,none,rfl,(Ext.new hp).over hp,Za,⟨rfl,by simp,fun m hm=>?_⟩⟩;cases Znt.mp hm;exact ⟨ZnH _,.non,[],Yr rfl,rfl,ZnH _⟩
  ·rintro m σ H2 hm ⟨kvs,ks,mk,bh,pl,rfl,x2,hp2,R⟩;rw [ZpL];refine ⟨_,rfl,_,rfl,p,_,rfl,Zcr.k (k:=.inl (m:Int)) hp2,_,rfl,?_⟩;by_cases hin:m∈ks
   ·obtain ⟨hmt,v,r,hv,hch⟩:=R.ch m hin;rw [hv];refine Yi ?_;refine ⟨_,rfl,_,rfl,_,rfl,g,ws,d,f,t,m,rfl,x2.gr G,hwl,by omega,by omega,fun D H3 ys hD x3 kb hys hpr=>⟨D,rfl,⟨_,SqL.of hys⟩,?_⟩⟩;have hp3:=kb p _ hpg hp2;have hpD:D≠p:=(ne_of_none hp2 hD).symm;refine Yl (K:=K) (a:=D) (xs:=ys) (fun j σ H4=>∃ (kvs:List (Key × V)) (ks:List Nat) (bh pl:Option V),σ=[some (.ref g),some (sv t),some (.ref p),some (.int (m:Int)),bh,pl]∧Ext H H4∧(∀ b o,b≠p→H3 b=some o→H4 b=some o)∧H4 p=some (.dK kvs)∧
     JV H4 t kvs ks∧m∈ks)
     ⟨kvs,ks,_,_,rfl,x2.trans x3,fun _ _ _ z=>z,hp3,R.keep (fun b xs z=>x3.tup z),hin⟩
     (fun j σ H4 _ h=>let ⟨_,_,_,_,_,_,h3,_⟩:=h; SqL.of (h3 D _ hpD hys)) ?_ ?_
    ·rintro j y σ H4 hy ⟨kvs,ks,bh,pl,rfl,x4,k4,hp4,R4,hin4⟩;obtain ⟨n,hn,tt,rfl,ht⟩:=JO hpr hy;have hmem:n∈Yk ws t m:=ZnD hn;have hcw:cut t m n∈ws:=((Yv ws t m n hmt).mp hmem).1;have ht4:H4 tt=some (.tup [.int ((m:Int)+(n:Int)),.ref (f (cut t m n))]):=k4 tt _ (Ye ht hp3 (by simp)) ht;have hl4:H4 (f (cut t m n))=some (.lst (intsV (Yb ws (cut t m n)))):=x4.lst (G.lst _ hcw);refine ⟨tt,_,rfl,SqT.of ht4,rfl,_,_,rfl,_,_,rfl,rfl,?_⟩;refine ⟨_,rfl,_,rfl,p,_,rfl,.inl ⟨kvs,(.inl ((m+n:Nat):Int):Key),.inl hp4,by simp [kV],rfl⟩,_,rfl,?_⟩;by_cases q:m+n∈ks
     ·obtain ⟨_,u,_,hu',_⟩:=R4.ch _ q;rw [hu'];exact Z8 ⟨kvs,ks,_,_,rfl,x4,k4,hp4,R4,hin4⟩
     ·rw [R4.out q];refine Yi ?_;obtain ⟨i0,hi0⟩:=ZpP.mp hcw;have hne:i0∈Yb ws (cut t m n):=(mem_placesOf ws _ i0).mpr hi0;obtain ⟨i,rest,ei⟩:∃ i rest,Yb ws (cut t m n)=i :: rest:=by
       cases e:Yb ws (cut t m n) with
       | nil=>rw [e] at hne; cases hne
       | cons i rest=>exact ⟨i,rest,rfl⟩
      obtain ⟨_,v4,r4,hv4,_⟩:=R4.ch m hin4;rw [ei] at hl4;refine ⟨_,rfl,_,_,0,.int (i:Int),rfl,rfl,SqL.of hl4,ZE (j:=0) rfl,_,rfl,_,rfl,p,v4,rfl,.inl ⟨kvs,(.inl (m:Int):Key),.inl hp4,rfl,hv4.symm⟩,by show 2≤sizeLine; decide,fun a ha=>?_⟩;have hp5:=Zk (u:=.tup [.int (i:Int),v4]) hp4 ha;have few:=R4.few;refine ⟨_,rfl,_,rfl,p,_,rfl,.inl ⟨kvs,(.inl ((m+n:Nat):Int):Key),hp5,by simp [kV],ZoJ few (ZC (by omega)),rfl⟩,?_⟩;have hap:a≠p:=(ne_of_none hp4 ha).symm;have R5:JV (upd H4 a (.tup [.int (i:Int),v4])) t kvs ks:=R4.keep fun b xs z=>Zk z ha;have R6:=R5.more hfull hin4 hmem q hv4 Za;refine ⟨_,ks++[m+n],_,_,rfl,(x4.newer ha).over hp,fun b o nb z=>?_,Za,R6.keep (fun b xs z=>upd_k z (Ye z hp5 (by simp))),ZoC _ hin4⟩;rw [Zp nb];exact Zk (k4 b o nb z) ha
    ·rintro σ H4 ⟨kvs,ks,bh,pl,rfl,x4,k4,hp4,R4,hin4⟩;exact ⟨kvs,ks,_,_,_,rfl,x4,hp4,R4⟩
   ·rw [R.out hin];exact Z8 ⟨kvs,ks,_,_,_,rfl,x2,hp2,R⟩
  ·rintro σ H2 ⟨kvs,ks,mk,bh,pl,rfl,x2,hp2,R⟩;exact ⟨_,rfl,k p kvs ks H2 hp x2 hp2 R⟩
end
theorem ZdJ {ws:List W}{t:W}{r:List Nat}{m:Nat} (hm:m≤t.length):(∀ n∈Yk ws t m,m+n∈r)↔(ws.any fun x=>decide (cut t m x.length=x) && !decide (m+x.length∈r))=false:=by
 rw [Zqm,Ne,Zox];constructor
 ·rintro h ⟨x,hx,q⟩;rw [ZnA,decide_eq_true_iff,Zn3,decide_eq_false_iff_not] at q;refine q.2 (h x.length ((Yv ws t m _ hm).mpr ⟨by rw [q.1]; exact hx,?_,by rw [q.1]⟩));have:=congrArg Zoe q.1;rw [cut,ZnM,ZnV] at this;omega
 ·intro h n hn;obtain ⟨h1,h2,h3⟩:=(Yv ws t m n hm).mp hn;refine Classical.byContradiction fun no=>h ⟨cut t m n,h1,?_⟩;rw [h3,ZnA,decide_eq_true_iff,Zn3,decide_eq_false_iff_not];exact ⟨rfl,no⟩
structure Zjs (P:Program) (w:World) (K:Znj) (mg:Str→Option Value) (base:Heap) (x:Str) (C:Addr) (fld:Str) (sp:Sp):Prop where
 there:mg x=some (.ref C)
 cls:Cls K C
 na:ZG K C fld
 mak:∃ f fd,Mk K C f∧Ym P w K mg base CX0 2 f fd ["self",fld] (Zfg C fld)∧Jc K fd ["self",fld] []
 sh:∃ f fd,Zia K C "shows" f∧Ym P w K mg base CX0 4 f fd ["self","code","text"] sp∧Jc K fd ["self","code","text"] []
theorem Zcn {X:Cx}{x:Str}{C:Addr}{fld:Str}{sp:Sp}{e:Expr}{t:TA}{p pos:Pos} (O:Zjs X.prog X.w X.K X.mg X.base x C fld sp) (hr:ZR 3 X.A) (ha:PA X [e] t) (hg:Gl X x:=by rfl) (hdb:(x == ("__debug__":Str))=false:=by decide)
  (he:starEach [e] X.env=(false,eval e X.env) :: starEach [] X.env:=by rfl) (hpl:(backTo pos (starEach [] X.env)).any (·.1)=false:=by rfl):PE X (.Call (.Name x p) [e] [] pos) (Zh7 C (Zfg C fld) [] E0 t):=by
 obtain ⟨f,fd,M,F,b⟩:=O.mak;exact Ze7 M F hr hg O.there b .nil Zm ha hdb he hpl
theorem Zj3:∀ {ms:List Int}{ks:List Nat},ms.Perm (ks.map fun (n:Nat)=>(n:Int))→∃ r:List Nat,ms=r.map (fun (n:Nat)=>(n:Int))∧r.Perm ks:=by
 intro ms ks h;have nn:∀ x∈ms,0≤x:=fun x hx=>by
  obtain ⟨n,_,rfl⟩:=Znm.mp (h.mem_iff.mp hx);omega
 have e:ms=(ms.map ZoY).map fun (n:Nat)=>(n:Int):=by
  rw [Znr];conv=>lhs; rw [←Zpv ms]
  refine ZnP fun x hx=>?_;have:=nn x hx;simp only [id,Function.comp];omega
 refine ⟨ms.map ZoY,e,?_⟩;have:=h.map ZoY;rw [Znr] at this;refine this.trans (Zou.of_eq ?_);conv=>rhs; rw [←Zpv ks]
 refine ZnP fun x _=>?_;simp
section
variable {P:Program}{w:World}{K:Znj}{mg:Str→Option Value}{base:Heap}{cCode cText cR cS:Addr}{shR shS:Sp}
structure Ans (H H':Hp) (C:Addr) (fld:Str) (o p:Addr) (r:List Nat):Prop where
 ext:Ext H H'
 newO:H o=none
 newP:H p=none
 at_:∃ dx,H' o=some (.ins C dx [(fld,.ref p)])
 list:JF H' p r
def ZkE (K:Znj) (cR cS:Addr):Sp:=fun vs H Q _=>∃ (a:Addr) (ws:List W) (t:W),vs=[.ref a,sv t]∧ZW H a ws∧Za0 (sv t)=true∧t.length≤90000∧
 (∀ o p r H',Ans H H' cR "places" o p r→r.length≤t.length→Q (.ref o) H')∧(∀ o p r H',Ans H H' cS "marks" o p r→r.length≤t.length+1→Q (.ref o) H')
theorem Zlo (D:Def K mg "read" "read" Pl.s_read ["code","text"]) (B:Yo mg) (CA:Cal P w K mg base (CX1 P w) 5 "check_asked" ["code","text"] (ZbR K cCode cText)) (CG:Cal P w K mg base CX0 1 "grouped" ["words"] (Zak K))
  (CC:Cal P w K mg base CX0 2 "chains_to_marks" ["groups","text"] (Zgl K)) (CU:Cal P w K mg base CX0 1 "unrolled" ["chain"] (Zbu K)) (OR:Zjs P w K mg base "Reading" cR "places" shR) (OS:Zjs P w K mg base "Stuck" cS "marks" shS):
  Cal P w K mg base (CX1 P w) 6 "read" ["code","text"] (ZkE K cR cS):=by
 have sc:Zn ["code","text","chains"] ["code","text"] (Zf Pl.s_read):=scO;refine D.cal fun f fd F=>F.okX sc (fun vs H Q E h=>?_) (fun cdv A outer s H vs Q E hr h=>?_)
 ·obtain ⟨_,_,_,rfl,_⟩:=h;rfl
 ·obtain ⟨a,ws,t,rfl,hC,hT,htl,kR,kS⟩:=h;have hu:=Zbf hr;have hr1:ZR 1 _:=hr.mono (by decide);have hr3:ZR 3 _:=hr.mono (by decide);refine ⟨_,Zb (Yg (Zc CA hr (pa_cons (pv 0) (pa_cons (pv 1) pa_nil)) ZlV))
   (Zb (Zl (i:=2) sc.nd rfl (Or.inl rfl) (Zc CC (hr.mono (by decide)) (pa_cons (Zc CG hr1 (pa_cons (pv 0) pa_nil) Zm) (pa_cons (pv 1) pa_nil)) Zm))
   (Zb (ZD (JR (Ze4 hu (Zg Zs (by rfl) B.len Zno (pa_cons (pv 1) pa_nil)) (pv 2)))
    (pss_one (ps_ret (Zcn OR hr3 (pa_cons (Zc CU hr1 (pa_cons (Za4 hu (pv 2) (Zg Zs (by rfl) B.len Zno (pa_cons (pv 1) pa_nil)) (fun _ _=>rfl)) pa_nil) Zm) pa_nil)))) pss_nil)
   (pss_one (ps_ret (Zcn OS hr3 (pa_cons (Zg (ZbX rfl) (by rfl) B.sorted Boot.«sorted» (pa_cons (pv 2) pa_nil)) pa_nil)))))),?_⟩
  try dsimp only [ZH,Cx.nox,Cx.wish]
  have hsz:(st t).length≤sizeLine:=by rw [st_len]; exact Zd (by omega)
  refine ⟨_,rfl,_,rfl,.ref a,sv t,rfl,hC.arg,hC.sz,fun _ _=>⟨_,.str _⟩,ZlN (by omega),fun b H1 x1 hA=>⟨fun hb=>absurd (hC.all hA) (by rw [hb]; decide),fun _=>⟨fun _=>?_,fun z=>absurd hT (by rw [z]; decide)⟩⟩⟩;have hC1:=hC.ext x1;refine ⟨_,rfl,a,ws,rfl,hC1.code,fun g d f H2 hg x2 G=>?_⟩;refine ⟨_,rfl,g,ws,d,f,t,rfl,G.rd,hC.full,hC.few,by omega,fun p kvs ks H3 hp x3 hp3 R=>?_⟩;have x13:=(x1.trans x2).trans x3;have few:=R.few;refine ⟨_,rfl,st t,rfl,hsz,_,rfl,p,_,rfl,.inl ⟨kvs,(.inl ((t.length:Nat):Int):Key),.inl hp3,by rw [st_len]; rfl,rfl⟩,_,rfl,?_⟩;have made:∀ {C:Addr}{fld:Str}{H4:Hp}{l:Addr}{r:List Nat}{Q':VK},Ext H3 H4→H3 l=none→H4 l=some (.lst (intsV r))→r.length≤100000→(∀ o p H',Ans H H' C fld o p r→Q' (.ref o) H')→
    ∀ x dx,H4 x=none→H4 dx=none→dx≠x→Zfg C fld [.ref x,.ref l] (upd (upd H4 dx (.own x)) x (.ins C dx [])) (fun v H2=>v=.non∧Q' (.ref x) H2) E0:=by
   intro C fld H4 l r Q' x4 hl hl4 hrl kk x dx hx hdx ne;have hx':upd H4 dx (.own x) x=none:=by rw [Zp ne.symm]; exact hx
   have x5:Ext H4 (upd (upd H4 dx (.own x)) x (.ins C dx [])):=(Ext.new hdx).newer hx';refine ⟨x,l,dx,r,rfl,Za,x5.lst hl4,hrl,fun l' H6 hl' x6 hl6=>⟨rfl,kk x l' _ ?_⟩⟩;have x46:=(x13.trans x4).trans (x5.trans x6);have nlx:l'≠x:=fun z=>by rw [z,Za] at hl'; cases hl'
   exact ⟨x46.over ((x13.trans x4).free hx),(x13.trans x4).free hx,(x13.trans x4).free (x5.free hl'),⟨dx,Za⟩,upd_k hl6 nlx,hrl⟩
  by_cases hin:t.length∈ks
  ·obtain ⟨_,v,r,hv,hch,hrl⟩:=R.ch _ hin;rw [hv];refine Yi ?_;refine ⟨_,rfl,_,rfl,st t,rfl,hsz,p,v,rfl,.inl ⟨kvs,(.inl ((t.length:Nat):Int):Key),.inl hp3,by rw [st_len]; rfl,hv.symm⟩,v,r,rfl,hch,by omega,fun l H4 hl x4 hl4=>?_⟩;refine made x4 hl hl4 (by rw [Zoa]; omega) fun o p' H' an=>kR o p' _ H' an (by rw [Zoa]; exact hrl)
  ·rw [R.out hin];refine Z8 ?_;refine ⟨_,rfl,p,kvs,ks.map fun (n:Nat)=>(n:Int),rfl,.inl hp3,by rw [R.keys,Znr]; rfl,fun l ms hl hperm=>?_⟩;obtain ⟨r,rfl,hr'⟩:=Zj3 hperm;have hl4:upd H3 l (.lst ((r.map fun (n:Nat)=>(n:Int)).map V.int)) l=some (.lst (intsV r)):=by rw [Za,Znr]; rfl
   have rl:r.length=kvs.length:=by rw [hr'.length_eq]; have:=congrArg Zoe R.keys; simpa using this.symm
   refine made (Ext.new hl) hl hl4 (by omega) fun o p' H' an=>kS o p' _ H' an (by omega)
end
theorem ZeN (n:Int):∀ is:List Int,inV (.int n) (zV is)=decide (n∈is):=by
 intro is;rw [ZnW,inV,Zox,decide_eq_true_iff];constructor
 ·rintro ⟨v,hv,q⟩;obtain ⟨i,hi,rfl⟩:=Znm.mp hv;have:i=n:=by simpa [eqV] using q
  rw [←this];exact hi
 ·intro h;exact ⟨.int n,Znm.mpr ⟨n,h,rfl⟩,by simp [eqV]⟩
theorem Zfp (is:List Int):(zV is).all Zbe=true:=by
 rw [Zn1];intro v hv;obtain ⟨i,_,rfl⟩:=Znm.mp hv;rfl
theorem ZbV {ys:List V}{js:List Int}{m:Int} (h:∀ y∈ys,y∈zV js∨y=.int m):∃ is,ys=zV is:=by
 induction ys with
 | nil=>exact ⟨[],rfl⟩
 | cons y ys ih=>
  obtain ⟨is,rfl⟩:=ih fun z hz=>h z (ZnC _ hz);rcases h y ZnF with z | z
  ·obtain ⟨i,_,rfl⟩:=Znm.mp z;exact ⟨i :: is,rfl⟩
  ·exact ⟨m :: is,by rw [z]; rfl⟩
theorem ZhJ {ws:List W}{t:W}{is:List Int}:Zah ws is=sv t↔RdZ ws t is:=by
 unfold Zah;split
 ·next h=>exact ⟨fun z=>⟨h,st_inj (V.str.inj z)⟩,fun z=>by rw [z.tx]⟩
 ·next h=>exact ⟨fun z=>(nomatch z),fun z=>absurd z.h h⟩
theorem ZiL (ws:List W) (is:List Int) (t:W):ZmD (Zah ws is) (sv t)=true:=by
 unfold Zah;split <;> rfl
theorem YC {H:Hp}{x dx:Addr}{u:HO} (hx:H x=none) (hdx:H dx=none) (ne:dx≠x):Ext H (upd (upd H dx (.own x)) x u):=(Ext.new hdx).newer (by rw [Zp ne.symm]; exact hx)
theorem JD {C l x dx:Addr}{fld:Str}{H H6:Hp}{xs:List V}{u:HO} (hx:H x=none) (hdx:H dx=none) (ne:dx≠x) (hl:upd (upd H dx (.own x)) x u l=none) (x6:Ext (upd (upd H dx (.own x)) x u) H6) (hl6:H6 l=some (.lst xs)):
  Ext H (upd H6 x (.ins C dx [(fld,.ref l)]))∧H l=none∧upd H6 x (.ins C dx [(fld,.ref l)]) x=some (.ins C dx [(fld,.ref l)])∧upd H6 x (.ins C dx [(fld,.ref l)]) l=some (.lst xs):=
 ⟨((YC hx hdx ne).trans x6).over hx,(YC hx hdx ne).free hl,Za,upd_k hl6 fun z=>by rw [z,Za] at hl; cases hl⟩
theorem ZaX {P:St→Hp→Prop}{t u:TS}{D:Zab}{σ:St}{H:Hp} (use:∀ R:St→Hp→Prop,(∀ σ H,P σ H→R σ H)→t { D with nx:=R } σ H) (rest:∀ σ H,P σ H→u D σ H):ZdZ t u D σ H:=use _ rest
theorem hidn {t u:TS}{D:Zab}{σ:St}{H:Hp}{b c d} (h:∀ v,v=u→ZdZ t v D σ H):Zab.nx ⟨ZdZ t u D,b,c,d⟩ σ H:=h u rfl
theorem hidg {t u:TS}{D:Zab}{σ:St}{H:Hp}{i:Nat}{x:V} (h:∀ v,v=u→ZdZ t v D (σ.set i (some x)) H):JK i x σ H (ZdZ t u D):=h u rfl
theorem ZbD {P:St→Hp→Prop}{t u:TS}{D:Zab}{σ:St}{H:Hp}{b c d} (use:∀ R:St→Hp→Prop,(∀ σ H,P σ H→R σ H)→t { D with nx:=R } σ H) (rest:∀ σ H,P σ H→u D σ H):Zab.nx ⟨ZdZ t u D,b,c,d⟩ σ H:=use _ rest
theorem hid {t u:TS}{D:Zab}{σ:St}{H:Hp} (h:∀ v,v=u→ZdZ t v D σ H):ZdZ t u D σ H:=h u rfl
theorem gto {R:St→Hp→Prop}{σ:St}{H:Hp}{i:Nat}{v:V} (h:R (σ.set i (some v)) H):JK i v σ H R:=h
structure ZcK (H0 H:Hp) (fx:List (Addr × HO)) (ls:List Addr) (n:Nat):Prop where
 ext:Ext H0 H
 fix:∀ b o,(b,o)∈fx→H b=some o
 lst:∀ l∈ls,∃ ys,H l=some (.lst ys)∧ys.length≤n
theorem ZcK.put {H0 H:Hp}{fx:List (Addr × HO)}{ls:List Addr}{n:Nat}{l:Addr}{ys:List V}{v:V} (T:ZcK H0 H fx ls n) (hl:l∈ls) (h0:∀ l∈ls,H0 l=none) (hf:∀ b o,(b,o)∈fx→∀ l∈ls,b≠l) (h:H l=some (.lst ys)) (hn:ys.length≤n):
  ZcK H0 (upd H l (.lst (ys++[v]))) fx ls (n+1):=by
 refine ⟨T.ext.over (h0 l hl),fun b o hb=>upd_k (T.fix b o hb) (hf b o hb l hl),fun m hm=>?_⟩;by_cases e:m=l
 ·subst e;exact ⟨_,Za,by rw [Znl,ZnT]; omega⟩
 ·obtain ⟨zs,h1,h2⟩:=T.lst m hm;exact ⟨zs,upd_k h1 e,by omega⟩
theorem Ext.some {H H':Hp}{b:Addr}{o:HO} (x:Ext H H') (h:H b=some o):∃ u,H' b=some u:=by
 rcases x b o h with z | ⟨_,ob,z⟩
 ·exact ⟨_,z⟩
 ·exact ⟨_,z⟩
section
variable {P:Program}{w:World}{K:Znj}{mg:Str→Option Value}{base:Heap}{cR cS:Addr}
def ZeR (t:W) (is:List Int) (m:Nat):V→Bool
 | .str s=>decide (cut t m s.cps.toList.length=s.cps.toList) && !decide (((m+s.cps.toList.length:Nat):Int)∈is)
 | _=>false
def ZdE:Sp:=fun vs H Q _=>∃ (a p:Addr) (ws:List W) (t:W) (is:List Int),vs=[.ref a,sv t,.ref p]∧ZW H a ws∧t.length≤100000∧ZL H p is∧∀ b H',Ext H H'→(b=true↔StZ ws t is)→Q (.bl b) H'
theorem ZeZ (D:Def K mg "_law_stuck" "_law_stuck" Pl.s_law_stuck ["_law_code_here","_law_text_here","_law_marks"]) (B:Yo mg) (CS:Cal P w K mg base CX0 1 "_law_stands" ["_law_word","_law_text_here","_law_at"] Zal):
  Cal P w K mg base CX0 2 "_law_stuck" ["_law_code_here","_law_text_here","_law_marks"] ZdE:=by
 have sc:Zn ["_law_code_here","_law_text_here","_law_marks","_law_mark"] ["_law_code_here","_law_text_here","_law_marks"] (Zf Pl.s_law_stuck):=scO;refine D.cal fun f fd F=>F.ok sc (fun vs H Q E h=>?_) (fun cdv A outer s H vs Q E hr h=>?_)
 ·obtain ⟨_,_,_,_,_,rfl,_⟩:=h;rfl
 ·obtain ⟨a,p,ws,t,is,rfl,hC,htl,hP,k⟩:=h;have ndM:(["_law_mark","_law_text_here"]:List Str).Nodup:=by decide +kernel
  have ndW:(["_law_word","_law_text_here","_law_mark","_law_marks"]:List Str).Nodup:=by decide +kernel
  refine ⟨_,Zb (ZD (PW.pt (Jz (Zz (JN (K:=K) rfl) Ze (pv 2) rfl) (Jz (Zz (ZhM (K:=K) rfl) (Zg Zs (by rfl) B.len Zno (pa_cons (pv 1) pa_nil)) (pv 2) rfl)
     (Y9 (Z6 (ZK (Zg (YL rfl) (by rfl) B.all Boot.«all» (pa_cons
      (Z5 (N':=["_law_mark","_law_text_here"]) (js:=[none,some 1]) (.of (by kernel_rfl)) rfl (ZF (pv 2)) fun C fp s₀ H₀=>⟨Zr (i:=0) ndM rfl (Or.inl rfl),ZZ,
       ZbO Zdt Zdt Ze (pv 0) (Zg Zs (by rfl) B.len Zno (pa_cons (pv 1) pa_nil))⟩) pa_nil)))))))) (pss_one (ps_ret pe_bl)) pss_nil)
   (Zb (Z9 PassesOwn.never rfl (ZF (pv 2)) (Zr (i:=3) sc.nd rfl (Or.inr rfl))
    (pss_one (ZD (ZK (Zg (Zcc rfl) (by rfl) B.any Boot.«any» (pa_cons
      (Z5 (N':=["_law_word","_law_text_here","_law_mark","_law_marks"]) (js:=[none,some 1,some 3,some 2]) (.of (by kernel_rfl)) rfl (ZF (pv 0)) fun C fp s₀ H₀=>⟨Zr (i:=0) ndW rfl (Or.inl rfl),ZZ,
       ZO (Zc CS hr (pa_cons (pv 0) (pa_cons (pv 1) (pa_cons (pv 2) pa_nil))) Zm)
        (Z3 (ZV (JN (K:=K) rfl) (Zo Z2 (pv 2) (Zg Zs (by rfl) B.len Zno (pa_cons (pv 0) pa_nil))) (pv 3) rfl))⟩) pa_nil))) (pss_one (ps_ret pe_bl)) pss_nil)))
   (pss_one (ps_ret pe_bl))),?_⟩
  try dsimp only [ZH,Cx.nox,Cx.wish]
  have pl:(zV is).length≤sizeLine:=by rw [Zni]; exact Zd (by have:=hP.2; omega)
  have hsz:(st t).length≤sizeLine:=by rw [st_len]; exact Zd (by omega)
  refine ⟨_,rfl,p,_,rfl,.inl (SqL.of hP.1),rfl,Zfp is,_,rfl,?_⟩;rw [if_pos rfl,ZeN];have no:∀ {H':Hp},Ext H H'→¬ StZ ws t is→Q (.bl false) H':=fun {H'} x z=>k false H' x ⟨fun e=>(nomatch e),fun e=>absurd e z⟩;by_cases z0:(0:Int)∈is
  ·rw [decide_eq_true z0];refine Z8 ?_;refine ⟨_,rfl,st t,rfl,hsz,_,rfl,p,_,rfl,.inl (SqL.of hP.1),rfl,Zfp is,_,rfl,?_⟩;rw [if_neg (by decide),ZeN,st_len];by_cases z1:(t.length:Int)∈is
   ·rw [decide_eq_true z1];exact Yi (Yi (no (Ext.refl _) fun z=>z.e z1))
   ·rw [decide_eq_false z1];refine Z8 ?_;refine ⟨_,rfl,p,rfl,⟨_,SqL.of hP.1⟩,ZS (SqL.of hP.1) pl (fun y=>.bl (ZU ((t.length+1:Nat):Int) y)) (fun y H' hy x1 Q' k'=>?_) (fun D H1 hD x1 hD1=>?_)⟩
    ·obtain ⟨i,hi,rfl⟩:=Znm.mp hy;refine ⟨_,rfl,_,_,rfl,rfl,_,rfl,?_⟩;by_cases h0:0≤i
     ·refine ZI (decide_eq_true h0) ⟨_,rfl,st t,rfl,hsz,_,_,rfl,rfl,k' _ H' (Ext.refl _) ?_⟩;show V.bl _=V.bl (decide (0≤i) && decide (i < ((t.length+1:Nat):Int)));rw [decide_eq_true h0,Zo0,st_len];congr 1;rw [decide_eq_decide];omega
     ·refine Zx (by rw [decide_eq_true_iff]; exact h0) (k' _ H' (Ext.refl _) ?_);show V.bl _=V.bl (decide (0≤i) && decide (i < ((t.length+1:Nat):Int)));rw [decide_eq_false h0,ZoU]
    ·refine ⟨D,(zV is).map (ZU ((t.length+1:Nat):Int)),rfl,SqL.of (by rw [hD1]; simp [Function.comp_def]),_,rfl,?_⟩;have e2:((zV is).map (ZU ((t.length+1:Nat):Int))).all id=decide (InZ (t.length+1) is):=by
      rw [Zqf];exact Za6
     rw [e2];by_cases hin:InZ (t.length+1) is
     ·rw [decide_eq_true hin];refine Z8 ?_;have hP1:=hP.ext x1;refine ⟨_,rfl,p,rfl,⟨_,SqL.of hP1.1⟩,Yl (K:=K) (a:=p) (xs:=zV is) (fun j σ H2=>(∃ mk:Option V,σ=[some (.ref a),some (sv t),some (.ref p),mk])∧Ext H1 H2∧∀ m∈YO (is.take j),∀ n∈Yk ws t m,m+n∈YO is)
       ⟨⟨_,rfl⟩,Ext.refl _,fun m hm=>by simp at hm⟩ (fun j σ H2 _ h=>SqL.of (hP1.ext h.2.1).1) ?_ ?_⟩
      ·rintro j y σ H2 hy ⟨⟨mk,rfl⟩,x2,hok⟩;rw [zV,Znq] at hy;obtain ⟨i,hm,rfl⟩:=Option.map_eq_some_iff.mp hy;have hir:i∈is:=ZnD hm;obtain ⟨h0,h1⟩:=hin i hir;obtain ⟨m,rfl⟩:∃ m:Nat,i=(m:Int):=⟨i.toNat,by omega⟩;have hmt:m≤t.length:=by omega
       have hC2:=(hC.ext x1).ext x2;refine ⟨_,rfl,a,rfl,⟨_,SqL.of hC2.at_⟩,ZS (SqL.of hC2.at_) (by rw [Zni]; exact Zd (by have:=hC.few; omega)) (fun y=>.bl (ZeR t is m y)) (fun y H' hy x3 Q' k'=>?_) (fun D3 H3 hD3 x3 hD4=>?_)⟩
       ·obtain ⟨x,hx,rfl⟩:=Znm.mp hy;have hxl:=hC.short x hx;refine ⟨_,rfl,_,rfl,_,rfl,x,t,m,rfl,hxl,htl,hmt,_,rfl,?_⟩;by_cases q:cut t m x.length=x
        ·rw [decide_eq_true q];refine Yi ?_;refine ⟨_,rfl,_,rfl,st x,rfl,by rw [st_len]; exact Zd (by omega),_,_,rfl,rfl,_,rfl,p,_,rfl,.inl (SqL.of ((hP1.ext x2).ext x3).1),rfl,Zfp is,k' _ H' (Ext.refl _) ?_⟩;show V.bl (if true=true then !inV (.int ((m:Int)+((st x).length:Int))) (zV is) else inV (.int ((m:Int)+((st x).length:Int))) (zV is))=V.bl (decide (cut t m x.length=x) && !decide (((m+x.length:Nat):Int)∈is));rw [if_pos rfl,ZeN,st_len,decide_eq_true q,Zo0,show (m:Int)+(x.length:Int)=((m+x.length:Nat):Int) by omega]
        ·rw [decide_eq_false q];refine Z8 (k' _ H' (Ext.refl _) ?_);show V.bl false=V.bl (decide (cut t m x.length=x) && !decide (((m+x.length:Nat):Int)∈is));rw [decide_eq_false q,ZoU]
       ·refine ⟨D3,(ws.map sv).map (ZeR t is m),rfl,SqL.of (by rw [hD4]; simp [Function.comp_def]),_,rfl,?_⟩;have e4:((ws.map sv).map (ZeR t is m)).any id=ws.any fun x=>decide (cut t m x.length=x) && !decide (m+x.length∈YO is):=by
         rw [Znr,List.any_map];congr 1;funext x;show (decide (cut t m x.length=x) && !decide (((m+x.length:Nat):Int)∈is))=_;rw [show decide (((m+x.length:Nat):Int)∈is)=decide (m+x.length∈YO is) from decide_eq_decide.mpr (ZbM hin).symm]
        rw [e4];have hmr:m∈YO is:=(ZbM hin).mpr hir;by_cases q:∀ n∈Yk ws t m,m+n∈YO is
        ·rw [(ZdJ hmt).mp q];refine Z8 ⟨⟨_,rfl⟩,x2.trans x3,fun m' hm'=>?_⟩;rw [YQ hm,YO,Zn2] at hm';rcases Zns.mp hm' with z | z
         ·exact hok m' z
         ·have:m'=m:=by simpa using z
          rw [this]; exact q
        ·rw [eq_true_of_ne_false (fun z=>q ((ZdJ hmt).mpr z))];exact Yi (no ((x1.trans x2).trans x3) fun z=>q (z.c m hmr))
      ·rintro σ H2 ⟨⟨mk,rfl⟩,x2,hok⟩;refine k true H2 (x1.trans x2) ⟨fun _=>⟨hin,z0,z1,fun m hm=>hok m (by rw [Zni,Zor]; exact hm)⟩,fun _=>rfl⟩
     ·rw [decide_eq_false hin];exact Yi (no x1 fun z=>hin z.h)
  ·rw [decide_eq_false z0];exact Yi (Yi (no (Ext.refl _) fun z=>z0 z.z))
def Zh4 (K:Znj):Sp:=fun vs H Q _=>∃ (a:Addr) (ws:List W) (t:W) (c:Int),vs=[.ref a,sv t,.int c]∧ZW H a ws∧ws.length≤63∧(∀ x∈ws,x.length≤90)∧Za0 (sv t)=true∧t.length≤2000∧∀ H',Ext H H'→Q (.bl true) H'
theorem Zdr (D:Def K mg "_law_texts_right" "_law_texts_right" Pl.s_law_texts_right ["_law_code_here","_law_text_here","_law_cell"]) (B:Yo mg) (CR:Cal P w K mg base (CX1 P w) 6 "read" ["code","text"] (ZkE K cR cS))
  (CB:Cal P w K mg base CX0 1 "_law_bent" ["_law_some","_law_cell","_law_more"] (ZdA K)) (CY:Cal P w K mg base CX0 1 "_law_says" ["_law_said","_law_due"] Zb7) (CM:Cal P w K mg base CX0 1 "_law_made" ["_law_code_here","_law_places"] Zhk)
  (CT:Cal P w K mg base CX0 2 "_law_stuck" ["_law_code_here","_law_text_here","_law_marks"] ZdE) (OR:Kls P w K mg base "Reading" cR ["places"] (Jd cR "places") ["code","text"] (ZcH cR)) (OS:Kls P w K mg base "Stuck" cS ["marks"] (Jd cS "marks") ["code","text"] (ZcI cS))
  (nR:ZG K cR "places") (nS:ZG K cS "marks") (IR:ZcL K cR) (IS:ZcL K cS) (kR:Zoc K (.ref cR) (.ref cR)=some true) (kS:Zoc K (.ref cS) (.ref cR)=some false):
  Cal P w K mg base CX0 7 "_law_texts_right" ["_law_code_here","_law_text_here","_law_cell"] (Zh4 K):=by
 have sc:Zn ["_law_code_here","_law_text_here","_law_cell","_law_answer","_law_places","_law_marks","_law_handed","_law_reading","_law_stuck_here","_law_some"] ["_law_code_here","_law_text_here","_law_cell"] (Zf Pl.s_law_texts_right):=scO;obtain ⟨fR,fdR,mR,FR,bR⟩:=OR.sh;obtain ⟨fS,fdS,mS,FS,bS⟩:=OS.sh;refine D.cal fun f fd F=>F.ok sc (fun vs H Q E h=>?_) (fun cdv A outer s H vs Q E hr h=>?_)
 ·obtain ⟨_,_,_,_,rfl,_⟩:=h;rfl
 ·obtain ⟨a,ws,t,c,rfl,hC,hwl,h90,hT,htl,k⟩:=h;have hr1:ZR 1 _:=hr.mono (by decide);have hr2:ZR 2 _:=hr.mono (by decide);have hr3:ZR 3 _:=hr.mono (by decide);have hr5:ZR 5 _:=hr.mono (by decide);have hu64:_+64 < cLine:=hr.units;have nd1:(["_law_mark"]:List Str).Nodup:=by decide +kernel
  refine ⟨_,Zb (Zl (i:=3) sc.nd rfl (Or.inl rfl) (Zc CR hr (pa_cons (pv 0) (pa_cons (pv 1) pa_nil)) ZlU))
   (Zb (Zl (i:=4) sc.nd rfl (Or.inl rfl) (Yd (pa_cons (Zo Yj (Zo ZX (pv 2) Ze) (Zo Z2 (Zg Zq (by rfl) B.len Zno (pa_cons (pv 0) pa_nil)) Ze)) pa_nil)))
   (Zb (ZlC (N':=["_law_mark"]) (js:=[none]) (i:=5) (.of (by kernel_rfl)) rfl (Y3 (by rfl) B.range (pa_cons (Zg Zs (by rfl) B.len Zno (pa_cons (pv 1) pa_nil)) pa_nil)) (fun C fp s₀ H₀=>⟨Zr (i:=0) nd1 rfl (Or.inl rfl),ZZ,pv 0⟩) sc.nd rfl (Or.inl rfl))
   (Zb (ZD (ZK (Zg (r:=Zhc K) (Zbk rfl) (by rfl) B.isi boot_isinstance (pa_cons (pv 3) (pa_cons (Y8 (v:=.ref cR) (by rfl) OR.there rfl) pa_nil))))
    (pss_one (Zl (i:=4) sc.nd rfl (Or.inl rfl) (Zc CB hr1 (pa_cons (Zw (pv 3) rfl) (pa_cons (Zo ZX (pv 2) Ze) (pa_cons (Zo Jh (Zo Yj (Zo ZX (pv 2) Ze) (Zo Z2 (Zg Zq (by rfl) B.len Zno (pa_cons (pv 0) pa_nil)) Ze)) Ze) pa_nil))) Zm)))
    (pss_one (Zl (i:=5) sc.nd rfl (Or.inl rfl) (Zc CB hr1 (pa_cons (Zw (pv 3) rfl) (pa_cons (Zo ZX (pv 2) Ze) (pa_cons (Zo Jh (Zo Yj (Zo ZX (pv 2) Ze) (Zo Z2 (Zg Zs (by rfl) B.len Zno (pa_cons (pv 1) pa_nil)) Ze)) Ze) pa_nil))) Zm))))
   (Zb (Zl (i:=6) sc.nd rfl (Or.inl rfl) (Yd (pa_cons (Yc Z4 (by rfl) B.list boot_list (pa_cons (pv 4) pa_nil)) (pa_cons (Yc Z4 (by rfl) B.list boot_list (pa_cons (pv 5) pa_nil)) pa_nil))))
   (Zb (Zl (i:=7) sc.nd rfl (Or.inl rfl) (JP OR hr3 (pa_cons (pe_ix (r:=YG K) ZB (pv 6) Ze (fun _ _=>rfl)) pa_nil)))
   (Zb (Zl (i:=8) sc.nd rfl (Or.inl rfl) (JP OS hr3 (pa_cons (pe_ix (r:=YG K) ZB (pv 6) Ze (fun _ _=>rfl)) pa_nil)))
   (Zb (Z9 PassesOwn.never rfl (ZF (pv 6)) (Zr (i:=9) sc.nd rfl (Or.inl rfl))
    (pss_one (Yg (Yx ZnG ZnR ZnS Z7 (pv 9) (pa_cons Ze pa_nil)))))
   (Zb (ZD (PW.pt (Jz (Zz (JB hu64) (Zw (pv 7) rfl) (pv 4) (Zu _)) (Y9 (Zz (JB hu64) (Zw (pv 8) rfl) (pv 5) (Zu _))))) (pss_one (ps_ret pe_bl)) pss_nil)
   (Zb (ZD (Z6 (ZK (Zc CY hr1 (pa_cons (Jn (pv 7) OR.cls mR FR hr5 bR .nil Zm (pa_cons (pv 0) (pa_cons (pv 1) pa_nil))) (pa_cons (ZV Jt (Zc CM hr1 (pa_cons (pv 0) (pa_cons (pv 4) pa_nil)) Zm) (pv 1) (Zu _)) pa_nil)) Zm))) (pss_one (ps_ret pe_bl)) pss_nil)
   (pss_one (ps_ret (Zc CY hr1 (pa_cons (Jn (pv 8) OS.cls mS FS hr5 bS .nil Zm (pa_cons (pv 0) (pa_cons (pv 1) pa_nil))) (pa_cons (Zc CT hr2 (pa_cons (pv 0) (pa_cons (pv 1) (pa_cons (pv 5) pa_nil))) Zm) pa_nil)) Zm)))))))))))),?_⟩
  try dsimp only [ZH,Cx.nox,Cx.wish]
  have hsz:(st t).length≤sizeLine:=by rw [st_len]; exact Zd (by omega)
  have tlen:(((st t).length:Nat):Int).toNat=t.length:=by rw [st_len]; omega
  apply ZaX (P:=fun σ H1=>∃ o,σ=[some (.ref a),some (sv t),some (.int c),some (.ref o),none,none,none,none,none,none]∧Ext H H1∧((∃ p dx r,H1 o=some (.ins cR dx [("places",.ref p)])∧JF H1 p r∧r.length≤t.length)∨∃ p dx r,H1 o=some (.ins cS dx [("marks",.ref p)])∧JF H1 p r∧r.length≤t.length+1))
  case use=>
   intro R rest;exact ⟨_,rfl,_,rfl,a,ws,t,rfl,hC,hT,by omega,fun o p r H1 an hrl=>let ⟨dx,e⟩:=an.at_; gto (rest _ H1 ⟨o,rfl,an.ext,.inl ⟨p,dx,r,e,an.list,hrl⟩⟩),fun o p r H1 an hrl=>let ⟨dx,e⟩:=an.at_; gto (rest _ H1 ⟨o,rfl,an.ext,.inr ⟨p,dx,r,e,an.list,hrl⟩⟩)⟩
  case rest=>
   rintro σ H1 ⟨o,rfl,x1,hA⟩;have hC1:=hC.ext x1;refine hid fun uz ez=>?_;refine ⟨_,rfl,_,_,rfl,rfl,⟨by decide,by decide⟩,_,rfl,a,_,rfl,.inl (SqL.of hC1.at_),_,_,rfl,rfl,_,_,rfl,rfl,by omega,by show 1≤sizeLine; decide,fun p0 hp0=>?_⟩;dsimp only;generalize c / 3 % (((ws.map sv).length:Nat)+1:Int)=c3;have x2:=Ext.new (o:=HO.lst [V.int c3]) hp0;have e2:upd H1 p0 (.lst [V.int c3]) p0=some (.lst (zV [c3])):=Za;generalize upd H1 p0 (.lst [V.int c3])=H2 at x2 e2;subst ez;refine hidg fun uz ez=>?_;refine ⟨_,rfl,st t,rfl,hsz,_,rfl,by omega,by omega,?_⟩;rw [tlen];refine ZbW (Zd (by omega)) (fun i=>.int (i:Int)) (fun i H' hi x Q' k'=>⟨_,rfl,k' _ H' (Ext.refl _) rfl⟩) fun mk0 H3 hmk x3 e3=>?_;have x13:=x2.trans x3;have hC3:=hC1.ext x13;have z3:H3 mk0=some (.lst (zV ((ZnB t.length).map fun (i:Nat)=>(i:Int)))):=by rw [e3,zV,Znr]; rfl
   subst ez;apply ZbD (P:=fun σ H4=>∃ pl mk is js,σ=[some (.ref a),some (sv t),some (.int c),some (.ref o),some (.ref pl),some (.ref mk),none,none,none,none]∧Ext H3 H4∧ZL H4 pl is∧is.length≤2001∧ZL H4 mk js)
   case use=>
    intro R rest;rcases id hA with ⟨p,dx,r,ho,hp,hrl⟩ | ⟨p,dx,r,ho,hp,hrl⟩
    ·have ho3:=x13.ins ho;have hp3:=hp.ext x13;refine ⟨_,rfl,_,_,_,_,rfl,trivial,IR.ty ho3,kR,_,rfl,Yi ⟨_,rfl,o,cR,dx,_,.ref p,rfl,ho3,OR.cls,nR,rfl,_,rfl,_,_,rfl,rfl,⟨by decide,by decide⟩,_,rfl,_,_,rfl,rfl,⟨by decide,by decide⟩,_,rfl,a,_,rfl,.inl (SqL.of hC3.at_),_,_,rfl,rfl,_,_,rfl,rfl,by omega,_,_,rfl,rfl,p,_,_,_,rfl,SqL.of hp3.1,by rw [Zni]; exact hp3.2,fun D ys H4 hD x4 hD4 hm hl _=>?_⟩⟩;rw [ZcF] at hm;obtain ⟨is,rfl⟩:=ZbV hm;rw [Zni,Zni] at hl;exact gto (rest _ H4 ⟨D,mk0,is,_,rfl,x4,⟨hD4,by omega⟩,by omega,x4.lst z3,by rw [Zni,Zod]; omega⟩)
    ·have ho3:=x13.ins ho;have hp3:=hp.ext x13;refine ⟨_,rfl,_,_,_,_,rfl,trivial,IS.ty ho3,kS,_,rfl,Z8 ⟨_,rfl,o,cS,dx,_,.ref p,rfl,ho3,OS.cls,nS,rfl,_,rfl,_,_,rfl,rfl,⟨by decide,by decide⟩,_,rfl,_,_,rfl,rfl,⟨by decide,by decide⟩,_,rfl,st t,rfl,hsz,_,_,rfl,rfl,_,_,rfl,rfl,by omega,_,_,rfl,rfl,p,_,_,_,rfl,SqL.of hp3.1,by rw [Zni]; exact hp3.2,fun D ys H4 hD x4 hD4 hm hl _=>?_⟩⟩;rw [ZcF] at hm;obtain ⟨is,rfl⟩:=ZbV hm;rw [Zni,Zni] at hl;exact gto (rest _ H4 ⟨p0,D,[c3],is,rfl,x4,⟨x4.lst (x3.lst e2),by simp⟩,by simp,hD4,by omega⟩)
   case rest=>
    rintro σ H4 ⟨pl,mk,is,js,rfl,x4,hpl,hisl,hmk4⟩;have x14:=x1.trans (x13.trans x4);refine hid fun uz ez=>?_;refine ⟨_,rfl,pl,_,rfl,.inl (SqL.of hpl.1),fun l1 h1=>⟨_,rfl,mk,_,rfl,.inl (SqL.of ((Ext.new h1).lst hmk4.1)),fun l2 h2=>⟨by show 2≤sizeLine; decide,fun l3 h3=>?_⟩⟩⟩;have y1:=Ext.new (o:=HO.lst (zV is)) h1;have y2:=y1.newer (o:=HO.lst (zV js)) h2;have x5:=y2.newer (o:=HO.lst [.ref l1,.ref l2]) h3;have f2:H4 l2=none:=y1.free h2;have e51:=Zk (u:=HO.lst [.ref l1,.ref l2]) (Zk (u:=HO.lst (zV js)) (Za (H:=H4) (o:=HO.lst (zV is))) h2) h3;have e52:=Zk (u:=HO.lst [.ref l1,.ref l2]) (Za (H:=upd H4 l1 (.lst (zV is))) (o:=HO.lst (zV js))) h3;have e53:upd (upd (upd H4 l1 (.lst (zV is))) l2 (.lst (zV js))) l3 (.lst [.ref l1,.ref l2]) l3=some (.lst [.ref l1,.ref l2]):=Za;have n31:l1≠l3:=ne_of_none (Zk (u:=HO.lst (zV js)) (Za (H:=H4) (o:=HO.lst (zV is))) h2) h3;have n32:l2≠l3:=ne_of_none (Za (H:=upd H4 l1 (.lst (zV is))) (o:=HO.lst (zV js))) h3;generalize upd (upd (upd H4 l1 (.lst (zV is))) l2 (.lst (zV js))) l3 (.lst [.ref l1,.ref l2])=H5 at x5 e51 e52 e53;subst ez;refine hidn fun uz ez=>?_;refine ⟨_,rfl,l3,_,0,.ref l1,rfl,rfl,SqL.of e53,ZE (j:=0) rfl,fun o1 dx1 no1 ndx1 ne1=>⟨o1,l1,dx1,zV is,rfl,Za,(YC no1 ndx1 ne1).lst e51,by rw [Zni]; exact hpl.2,Pln.ints _,fun p1 G6 np1' y6 hp6'=>⟨rfl,?_⟩⟩⟩;obtain ⟨x6,np1,ho6,hp6⟩:=JD (C:=cR) (fld:="places") no1 ndx1 ne1 np1' y6 hp6';generalize upd G6 o1 (.ins cR dx1 [("places",.ref p1)])=H6 at x6 ho6 hp6;subst ez;refine hidn fun uz ez=>?_;refine ⟨_,rfl,l3,_,1,.ref l2,rfl,rfl,SqL.of (x6.lst e53),ZE (j:=1) rfl,fun o2 dx2 no2 ndx2 ne2=>⟨o2,l2,dx2,zV js,rfl,Za,(YC no2 ndx2 ne2).lst (x6.lst e52),by rw [Zni]; exact hmk4.2,Pln.ints _,fun p2 G7 np2' y7 hp7'=>⟨rfl,?_⟩⟩⟩;obtain ⟨x7,np2,ho7,hp7⟩:=JD (C:=cS) (fld:="marks") no2 ndx2 ne2 np2' y7 hp7';generalize upd G7 o2 (.ins cS dx2 [("marks",.ref p2)])=H7 at x7 ho7 hp7;subst ez;refine hidn fun uz ez=>?_;have x67:=x6.trans x7;have T0:ZcK H4 H7 [(o1,.ins cR dx1 [("places",.ref p1)]),(p1,.lst (zV is)),(o2,.ins cS dx2 [("marks",.ref p2)]),(p2,.lst (zV js)),(l3,.lst [.ref l1,.ref l2])] [l1,l2] 100000:=by
     refine ⟨x5.trans x67,fun b o h=>?_,fun l h=>?_⟩
     ·simp only [Znz,ZnX,or_false,Prod.mk.injEq] at h;rcases h with ⟨rfl,rfl⟩ | ⟨rfl,rfl⟩ | ⟨rfl,rfl⟩ | ⟨rfl,rfl⟩ | ⟨rfl,rfl⟩
      ·exact x7.ins ho6
      ·exact x7.lst hp6
      ·exact ho7
      ·exact hp7
      ·exact x67.lst e53
     ·simp only [Znz,ZnX,or_false] at h;rcases h with rfl | rfl
      ·exact ⟨_,x67.lst e51,by rw [Zni]; exact hpl.2⟩
      ·exact ⟨_,x67.lst e52,by rw [Zni]; exact hmk4.2⟩
    have hnew:∀ l∈[l1,l2],H4 l=none:=fun l h=>by
     simp only [Znz,ZnX,or_false] at h;rcases h with rfl | rfl
     ·exact h1
     ·exact f2
    have hapart:∀ b o,(b,o)∈[(o1,HO.ins cR dx1 [("places",.ref p1)]),(p1,.lst (zV is)),(o2,.ins cS dx2 [("marks",.ref p2)]),(p2,.lst (zV js)),(l3,.lst [.ref l1,.ref l2])]→∀ l∈[l1,l2],b≠l:=fun b o h l hl=>by
     have s5:∃ u,H5 l=some u∧l≠l3:=by
      simp only [Znz,ZnX,or_false] at hl;rcases hl with rfl | rfl
      ·exact ⟨_,e51,n31⟩
      ·exact ⟨_,e52,n32⟩
     obtain ⟨u,hu5,nl3⟩:=s5;obtain ⟨u6,hu6⟩:=x6.some hu5;simp only [Znz,ZnX,or_false,Prod.mk.injEq] at h;rcases h with ⟨rfl,rfl⟩ | ⟨rfl,rfl⟩ | ⟨rfl,rfl⟩ | ⟨rfl,rfl⟩ | ⟨rfl,rfl⟩
     ·exact (ne_of_none hu5 no1).symm
     ·exact (ne_of_none hu5 np1).symm
     ·exact (ne_of_none hu6 no2).symm
     ·exact (ne_of_none hu6 np2).symm
     ·exact nl3.symm
    refine ⟨_,rfl,l3,rfl,⟨_,SqL.of (x67.lst e53)⟩,Yl (K:=K) (a:=l3) (xs:=[.ref l1,.ref l2]) (fun j σ H8=>(∃ so:Option V,σ=[some (.ref a),some (sv t),some (.int c),some (.ref o),some (.ref pl),some (.ref mk),some (.ref l3),some (.ref o1),some (.ref o2),so])∧ZcK H4 H8 [(o1,.ins cR dx1 [("places",.ref p1)]),(p1,.lst (zV is)),(o2,.ins cS dx2 [("marks",.ref p2)]),(p2,.lst (zV js)),(l3,.lst [.ref l1,.ref l2])] [l1,l2] (100000+j)) ⟨⟨_,rfl⟩,T0⟩ (fun j σ H8 _ h=>SqL.of (h.2.fix _ _ (by simp))) ?_ ?_⟩
    ·rintro j y σ H8 hy ⟨⟨so,rfl⟩,T8⟩;obtain ⟨l,hl,rfl⟩:∃ l∈[l1,l2],y=.ref l:=by
      have:=ZnD hy;simp only [Znz,ZnX,or_false] at this;rcases this with rfl | rfl
      ·exact ⟨l1,by simp,rfl⟩
      ·exact ⟨l2,by simp,rfl⟩
     have hj:j < 2:=(Znw.mp hy).1;obtain ⟨ys,hys,hyl⟩:=T8.lst l hl;refine ⟨_,rfl,.inl ⟨rfl,_,SqL.of hys⟩,l,_,_,rfl,rfl,hys,ZC (by omega),⟨_,rfl⟩,?_⟩;exact T8.put hl hnew hapart hys hyl
    ·rintro σ H8 ⟨⟨so,rfl⟩,T8⟩;have hC8:=(hC.ext x14).ext T8.ext;have ho1:=T8.fix o1 _ (.head _);have hp1:=T8.fix p1 _ (.tail _ (.head _));have ho2:=T8.fix o2 _ (.tail _ (.tail _ (.head _)));have hp2:=T8.fix p2 _ (.tail _ (.tail _ (.tail _ (.head _))));have hpl8:=hpl.ext T8.ext;have hmk8:=hmk4.ext T8.ext;subst ez;refine hidn fun uz ez=>?_;refine ⟨_,rfl,o1,cR,dx1,_,.ref p1,rfl,ho1,OR.cls,nR,rfl,_,rfl,p1,pl,is,is,rfl,rfl,SqL.of hp1,SqL.of hpl8.1,_,rfl,Zx (by simp) ⟨_,rfl,o2,cS,dx2,_,.ref p2,rfl,ho2,OS.cls,nS,rfl,_,rfl,p2,mk,js,js,rfl,rfl,SqL.of hp2,SqL.of hmk8.1,_,rfl,Zx (by simp) ?_⟩⟩;subst ez;refine hidn fun uz ez=>?_;have hlen:InZ ws.length is→(Yy ws (YO is)).length≤1000000:=fun _=>by
      have h1:=Jo h90 (YO is);have h2:(YO is).length * 90≤2001 * 90:=ZpZ _ (by rw [Zni]; exact hisl);omega
     refine ⟨_,rfl,o1,dx1,_,rfl,ho1,rfl,_,rfl,_,rfl,o1,a,p1,dx1,ws,t,is,rfl,ho1,⟨hp1,hpl.2⟩,hC8,hlen,fun b H9 x9 hb=>?_⟩;refine ⟨_,rfl,_,rfl,a,pl,ws,is,rfl,hC8.ext x9,hpl8.ext x9,hlen,fun H10 x10=>⟨_,rfl,ZiL ws is t,b,_,rfl,_,rfl,?_⟩⟩;have eb:b=decide (Zah ws is=sv t):=by rw [ZnW,hb,decide_eq_true_iff,ZhJ]
     subst eb;refine Zx (by simp) ?_;have x810:=x9.trans x10;subst ez;refine ⟨_,rfl,o2,dx2,_,rfl,x810.ins ho2,rfl,_,rfl,_,rfl,o2,a,p2,dx2,ws,t,js,rfl,x810.ins ho2,⟨x810.lst hp2,hmk4.2⟩,hC8.ext x810,by omega,fun b2 H11 x11 hb2=>?_⟩;refine ⟨_,rfl,_,rfl,_,rfl,a,mk,ws,t,js,rfl,(hC8.ext x810).ext x11,by omega,(hmk8.ext x810).ext x11,fun b3 H12 x12 hb3=>⟨b2,b3,rfl,?_⟩⟩;have e23:b2=b3:=by rw [ZnW,hb2,hb3]
     rw [decide_eq_true e23];exact k H12 ((x14.trans T8.ext).trans ((x810.trans x11).trans x12))
end
def Txs (ts:List W):Prop:=∀ t∈ts,(∀ z∈t,z∈az)∧t.length≤100
theorem Zih {ys:List V}{us:List W}{m:W} (hu:Txs us) (hm:(∀ z∈m,z∈az)∧m.length≤100) (h:∀ y∈ys,y∈us.map sv∨y=sv m):∃ ts,ys=ts.map sv∧Txs ts:=by
 induction ys with
 | nil=>exact ⟨[],rfl,fun t ht=>nomatch ht⟩
 | cons y ys ih=>
  obtain ⟨ts,rfl,ht⟩:=ih fun z hz=>h z (ZnC _ hz);rcases h y ZnF with z | z
  ·obtain ⟨u,hu',rfl⟩:=Znm.mp z;refine ⟨u :: ts,rfl,fun t h=>?_⟩;rcases Znz.mp h with rfl | h
   ·exact hu _ hu'
   ·exact ht t h
  ·refine ⟨m :: ts,by rw [z]; rfl,fun t h=>?_⟩;rcases Znz.mp h with rfl | h
   ·exact hm
   ·exact ht t h
theorem Zhg:Str.ofString "a"=st [97]∧Str.ofString "ab"=st [97,98]∧Str.ofString "c"=st [99]∧Str.ofString "bb"=st [98,98]∧Str.ofString "zz"=st [122,122]:=by decide +kernel
theorem Zcd {C x dx a b:Addr}{H H6:Hp}{xs ys:List V} (hx:H x=none) (hdx:H dx=none) (ne:dx≠x) (ha:upd (upd H dx (.own x)) x (.ins C dx []) a=none) (hb:upd (upd H dx (.own x)) x (.ins C dx []) b=none)
  (x6:Ext (upd (upd (upd H dx (.own x)) x (.ins C dx [])) x (.ins C dx [("one",.ref a)])) H6) (ha6:H6 a=some (.lst xs)) (hb6:H6 b=some (.lst ys)):
  Ext H (upd H6 x (.ins C dx [("one",.ref a),("other",.ref b)]))∧H a=none∧H b=none∧upd H6 x (.ins C dx [("one",.ref a),("other",.ref b)]) x=some (.ins C dx [("one",.ref a),("other",.ref b)])∧upd H6 x (.ins C dx [("one",.ref a),("other",.ref b)]) a=some (.lst xs)∧upd H6 x (.ins C dx [("one",.ref a),("other",.ref b)]) b=some (.lst ys):=by
 rw [Jp] at x6;have nax:a≠x:=fun z=>by rw [z,Za] at ha; cases ha
 have nbx:b≠x:=fun z=>by rw [z,Za] at hb; cases hb
 exact ⟨((YC hx hdx ne).trans x6).over hx,(YC hx hdx ne).free ha,(YC hx hdx ne).free hb,Za,upd_k ha6 nax,upd_k hb6 nbx⟩
section
variable {P:Program}{w:World}{K:Znj}{mg:Str→Option Value}{base:Heap}{T cC cT:Addr}
def ZhZ (T:Addr):Sp:=fun vs H Q _=>∃ (a:Addr) (ws:List W) (c:Int),vs=[.ref a,.int c]∧ZW H a ws∧ws.length≤63∧(∀ x∈ws,x.length≤90)∧PkL T H∧∀ H',XP T H H'→Q (.bl true) H'
theorem Zdo (D:Def K mg "_law_codes_right" "_law_codes_right" Pl.s_law_codes_right ["_law_code_here","_law_cell"]) (B:Yo mg) (CO:Cal P w K mg base CX0 5 "once" ["code"] (Zh2 T cC cT))
  (CB:Cal P w K mg base CX0 1 "_law_bent" ["_law_some","_law_cell","_law_more"] (ZdA K)) (CY:Cal P w K mg base CX0 1 "_law_says" ["_law_said","_law_due"] Zb7) (CM:Cal P w K mg base CX0 1 "_law_made" ["_law_code_here","_law_places"] Zhk)
  (CTl:Cal P w K mg base CX0 2 "_law_tails" ["_law_code_here","_law_tails_here"] ZdF) (OC:Kls P w K mg base "Clash" cC ["one","other"] (ZdC cC) ["code"] (ZbS cC)) (OT:Kls P w K mg base "Tails" cT ["tails"] (Jd cT "tails") ["code"] (ZaS cT))
  (n1:ZG K cC "one") (n2:ZG K cC "other") (n3:ZG K cT "tails") (IC:ZcL K cC) (IT:ZcL K cT) (kC:Zoc K (.ref cC) (.ref cC)=some true) (kT:Zoc K (.ref cT) (.ref cC)=some false):
  Cal P w K mg base CX0 6 "_law_codes_right" ["_law_code_here","_law_cell"] (ZhZ T):=by
 have sc:Zn ["_law_code_here","_law_cell","_law_answer","_law_one","_law_other","_law_tails_here","_law_handed","_law_answers","_law_some","_law_due"] ["_law_code_here","_law_cell"] (Zf Pl.s_law_codes_right):=scO;obtain ⟨fC,fdC,mC,FC,bC⟩:=OC.sh;obtain ⟨fT,fdT,mT,FT,bT⟩:=OT.sh;refine D.cal fun f fd F=>F.ok sc (fun vs H Q E h=>?_) (fun cdv A outer s H vs Q E hr h=>?_)
 ·obtain ⟨_,_,_,rfl,_⟩:=h;rfl
 ·obtain ⟨a,ws,c,rfl,hC,hwl,h90,pk,k⟩:=h;have hr1:ZR 1 _:=hr.mono (by decide);have hr2:ZR 2 _:=hr.mono (by decide);have hr3:ZR 3 _:=hr.mono (by decide);have hu64:_+64 < cLine:=hr.units;refine ⟨_,Zb (Zl (i:=2) sc.nd rfl (Or.inl rfl) (Zc CO hr (pa_cons (pv 0) pa_nil) Zm))
   (Zb (Zl (i:=3) sc.nd rfl (Or.inl rfl) (Yd (pa_cons (Zo Yj (Zo ZX (pv 1) Ze) (Zo Z2 (Zg Zq (by rfl) B.len Zno (pa_cons (pv 0) pa_nil)) Ze)) (pa_cons (Zo Yj (Zo ZX (pv 1) Ze) (Zo Z2 (Zg Zq (by rfl) B.len Zno (pa_cons (pv 0) pa_nil)) Ze)) pa_nil))))
   (Zb (Zl (i:=4) sc.nd rfl (Or.inl rfl) (ZhQ (K:=K) rfl (pv 3) (Zge ZdN Ze)))
   (Zb (Zl (i:=5) sc.nd rfl (Or.inl rfl) (ZM YI (Yd (pa_cons ZQ (pa_cons ZQ (pa_cons ZQ pa_nil)))) ZY (ZN (Zo Yj (pv 1) Ze))))
   (Zb (ZD (ZK (Zg (r:=Zhc K) (Zbk rfl) (by rfl) B.isi boot_isinstance (pa_cons (pv 2) (pa_cons (Y8 (v:=.ref cC) (by rfl) OC.there rfl) pa_nil))))
    (Zb (Zl (i:=3) sc.nd rfl (Or.inl rfl) (Zc CB hr1 (pa_cons (Zw (pv 2) rfl) (pa_cons (Zo ZX (pv 1) Ze) (pa_cons (Zo Jh (Zo Yj (Zo ZX (pv 1) Ze) (Zo Z2 (Zg Zq (by rfl) B.len Zno (pa_cons (pv 0) pa_nil)) Ze)) Ze) pa_nil))) Zm))
    (pss_one (Zl (i:=4) sc.nd rfl (Or.inl rfl) (Yc Z4 (by rfl) B.list boot_list (pa_cons (Zw (pv 2) rfl) pa_nil)))))
    (pss_one (Zl (i:=5) sc.nd rfl (Or.inl rfl) (Zc CB hr1 (pa_cons (Zw (pv 2) rfl) (pa_cons (Zo ZX (pv 1) Ze) (pa_cons (pe_ix (r:=Zjc K) Zc8 (Jj (pa_cons ZQ (pa_cons ZQ (pa_cons ZQ (pa_cons ZQ pa_nil))))) (Zo Yj (Zo ZX (pv 1) Ze) Ze) (fun _ _=>rfl)) pa_nil))) Zm))))
   (Zb (Zl (i:=6) sc.nd rfl (Or.inl rfl) (Yd (pa_cons (Yc Z4 (by rfl) B.list boot_list (pa_cons (pv 3) pa_nil)) (pa_cons (Yc Z4 (by rfl) B.list boot_list (pa_cons (pv 4) pa_nil)) (pa_cons (Yc Z4 (by rfl) B.list boot_list (pa_cons (pv 5) pa_nil)) pa_nil)))))
   (Zb (Zl (i:=7) sc.nd rfl (Or.inl rfl) (Yd (pa_cons (JP OC hr3 (pa_cons (pe_ix (r:=YG K) ZB (pv 6) Ze (fun _ _=>rfl)) (pa_cons (pe_ix (r:=YG K) ZB (pv 6) Ze (fun _ _=>rfl)) pa_nil))) (pa_cons (JP OT hr3 (pa_cons (pe_ix (r:=YG K) ZB (pv 6) Ze (fun _ _=>rfl)) pa_nil)) pa_nil))))
   (Zb (Z9 PassesOwn.never rfl (ZF (pv 6)) (Zr (i:=8) sc.nd rfl (Or.inl rfl))
    (pss_one (Yg (Yx ZnG ZnR ZnS Z7 (pv 8) (pa_cons ZQ pa_nil)))))
   (Zb (ZD (PW.pt (Jz (Zz (JB hu64) (Zw (pe_ix (r:=YG K) ZB (pv 7) Ze (fun _ _=>rfl)) rfl) (pv 3) (Zu _)) (Jz (Zz (JB hu64) (Zw (pe_ix (r:=YG K) ZB (pv 7) Ze (fun _ _=>rfl)) rfl) (pv 4) (Zu _))
     (Y9 (Zz (ZhO (K:=K) rfl hu64) (Zw (pe_ix (r:=YG K) ZB (pv 7) Ze (fun _ _=>rfl)) rfl) (pv 5) (Zu _)))))) (pss_one (ps_ret pe_bl)) pss_nil)
   (Zb (Zl (i:=9) sc.nd rfl (Or.inl rfl) (ZO (ZV (JB hu64) (pv 3) (pv 4) (Zu _)) (ZO (ZV Zlt (Zc CM hr1 (pa_cons (pv 0) (pa_cons (pv 3) pa_nil)) Zm) Zdv (Zu _))
     (Z3 (ZV Jt (Zc CM hr1 (pa_cons (pv 0) (pa_cons (pv 3) pa_nil)) Zm) (Zc CM hr1 (pa_cons (pv 0) (pa_cons (pv 4) pa_nil)) Zm) (Zu _))))))
   (Zb (ZD (Z6 (ZK (Zc CY hr1 (pa_cons (Jn (pe_ix (r:=YG K) ZB (pv 7) Ze (fun _ _=>rfl)) OC.cls mC FC hr bC .nil Zm (pa_cons (pv 0) pa_nil)) (pa_cons (pv 9) pa_nil)) Zm))) (pss_one (ps_ret pe_bl)) pss_nil)
   (pss_one (ps_ret (Zc CY hr1 (pa_cons (Jn (pe_ix (r:=YG K) ZB (pv 7) Ze (fun _ _=>rfl)) OT.cls mT FT hr bT .nil Zm (pa_cons (pv 0) pa_nil)) (pa_cons (Zc CTl hr2 (pa_cons (pv 0) (pa_cons (pv 5) pa_nil)) Zm) pa_nil)) Zm))))))))))))),?_⟩
  try dsimp only [ZH,Cx.nox,Cx.wish]
  apply ZaX (P:=fun σ H1=>∃ o,σ=[some (.ref a),some (.int c),some (.ref o),none,none,none,none,none,none,none]∧XP T H H1∧((∃ dx p q r1 r2,H1 o=some (.ins cC dx [("one",.ref p),("other",.ref q)])∧JF H1 p r1∧JF H1 q r2∧r1.length≤10000∧r2.length≤10000)∨∃ dx p ts,H1 o=some (.ins cT dx [("tails",.ref p)])∧H1 p=some (.lst (ts.map sv))∧ts.length≤6464∧Txs ts))
  case use=>
   intro R rest;refine ⟨_,rfl,a,ws,rfl,hC,by omega,fun x hx=>by have:=h90 x hx; omega,pk,fun o dx p q r1 r2 H1 x1 _ _ _ _ ho hp hq l1 l2=>gto (rest _ H1 ⟨o,rfl,x1,.inl ⟨dx,p,q,r1,r2,ho,⟨hp,by omega⟩,⟨hq,by omega⟩,l1,l2⟩⟩),fun o dx p ts H1 x1 _ _ ho hp hl hsuf=>gto (rest _ H1 ⟨o,rfl,x1,.inr ⟨dx,p,ts,ho,hp,hl,fun t ht=>⟨ZmG hC (hsuf t ht),?_⟩⟩⟩)⟩;obtain ⟨p',m',hp',_,rfl⟩:=hsuf t ht;rw [ZnV];have:=h90 _ (mem_getD hp');omega
  case rest=>
   rintro σ H1 ⟨o,rfl,x1,hA⟩;have hC1:=x1.codeL hC;refine hid fun uz ez=>?_;refine ⟨_,rfl,_,_,rfl,rfl,⟨by decide,by decide⟩,_,rfl,a,_,rfl,.inl (SqL.of hC1.at_),_,_,rfl,rfl,_,_,rfl,rfl,by omega,_,rfl,_,_,rfl,rfl,⟨by decide,by decide⟩,_,rfl,a,_,rfl,.inl (SqL.of hC1.at_),_,_,rfl,rfl,_,_,rfl,rfl,by omega,by show 2≤sizeLine; decide,fun p0 hp0=>?_⟩;dsimp only;generalize c / 3 % (((ws.map sv).length:Nat)+1:Int)=c3;generalize c / 7 % (((ws.map sv).length:Nat)+1:Int)=c7;have x2:=Ext.new (o:=HO.lst [V.int c3,V.int c7]) hp0;have e2:upd H1 p0 (.lst [V.int c3,V.int c7]) p0=some (.lst (zV [c3,c7])):=Za;generalize upd H1 p0 (.lst [V.int c3,V.int c7])=H2 at x2 e2;subst ez;refine hidg fun uz ez=>?_;refine ⟨_,rfl,1,rfl,p0,_,rfl,rfl,SqL.of e2,fun q0 hq0=>?_⟩;have x3:=x2.newer (o:=HO.lst (zV [c3,c7]).reverse) hq0;have e3p:=Zk (u:=HO.lst (zV [c3,c7]).reverse) e2 hq0;have e3q:upd H2 q0 (.lst (zV [c3,c7]).reverse) q0=some (.lst (zV [c7,c3])):=Za;generalize upd H2 q0 (.lst (zV [c3,c7]).reverse)=H3 at x3 e3p e3q;subst ez;refine hidn fun uz ez=>?_;obtain ⟨n4,en4,ln4⟩:=Jm (i:=c) (k:=4) (by decide);refine ⟨by show 3≤sizeLine; decide,fun s0 hs0=>⟨_,rfl,_,_,rfl,rfl,by show (0:Int) < 4; decide,_,rfl,s0,_,rfl,SqL.of Za,fun t0 ht0=>?_⟩⟩;have tabc:[V.str "a",V.str "ab",V.str "c"]=([[97],[97,98],[99]]:List W).map sv:=by
    rw [Zhg.1,Zhg.2.1,Zhg.2.2.1]; rfl
   rw [tabc,en4,ZbF,←ZqB];have txs0:Txs (([[97],[97,98],[99]]:List W).take n4):=fun t ht=>by
    have:=ZoL ht;simp only [Znz,ZnX,or_false] at this;rcases this with rfl | rfl | rfl <;> decide
   have lts0:(([[97],[97,98],[99]]:List W).take n4).length≤3:=by rw [ZnM]; exact Nat.min_le_right _ _
   generalize ([[97],[97,98],[99]]:List W).take n4=ts0 at txs0 lts0;have y4:=Ext.new (o:=HO.lst (([[97],[97,98],[99]]:List W).map sv)) hs0;have x4:=(x3.trans y4).newer (o:=HO.lst (ts0.map sv)) ht0;have e4p:=Zk (u:=HO.lst (ts0.map sv)) (y4.lst e3p) ht0;have e4q:=Zk (u:=HO.lst (ts0.map sv)) (y4.lst e3q) ht0;have e4t:upd (upd H3 s0 (.lst (([[97],[97,98],[99]]:List W).map sv))) t0 (.lst (ts0.map sv)) t0=some (.lst (ts0.map sv)):=Za;generalize upd (upd H3 s0 (.lst (([[97],[97,98],[99]]:List W).map sv))) t0 (.lst (ts0.map sv))=H4 at x4 e4p e4q e4t;have hC4:=hC1.ext x4;subst ez;apply ZbD (P:=fun σ H5=>∃ on ot tl is js ts,σ=[some (.ref a),some (.int c),some (.ref o),some (.ref on),some (.ref ot),some (.ref tl),none,none,none,none]∧Ext H4 H5∧ZL H5 on is∧is.length≤10001∧ZL H5 ot js∧js.length≤10001∧H5 tl=some (.lst (ts.map sv))∧ts.length≤7000∧Txs ts)
   case use=>
    intro R rest;rcases id hA with ⟨dx,p,q,r1,r2,ho,hp,hq,l1,l2⟩ | ⟨dx,p,ts,ho,hp,hl,htx⟩
    ·have ho4:=x4.ins ho;have hp4:=hp.ext x4;have hq4:=hq.ext x4;refine ⟨_,rfl,_,_,_,_,rfl,trivial,IC.ty ho4,kC,_,rfl,Yi ⟨_,rfl,o,cC,dx,_,.ref p,rfl,ho4,OC.cls,n1,rfl,_,rfl,_,_,rfl,rfl,⟨by decide,by decide⟩,_,rfl,_,_,rfl,rfl,⟨by decide,by decide⟩,_,rfl,a,_,rfl,.inl (SqL.of hC4.at_),_,_,rfl,rfl,_,_,rfl,rfl,by omega,_,_,rfl,rfl,p,_,_,_,rfl,SqL.of hp4.1,by rw [Zni]; omega,fun D ys H5 hD x5 hD5 hm hl _=>?_⟩⟩;rw [ZcF] at hm;obtain ⟨is,rfl⟩:=ZbV hm;rw [Zni,Zni] at hl;have hq5:=hq4.ext x5;refine ⟨_,rfl,o,cC,dx,_,.ref q,rfl,x5.ins ho4,OC.cls,n2,rfl,q,_,rfl,.inl (SqL.of hq5.1),fun l hl'=>?_⟩;rw [ZcF];exact gto (rest _ _ ⟨D,l,t0,is,_,ts0,rfl,x5.newer hl',⟨Zk hD5 hl',by omega⟩,by omega,⟨Za,by rw [Zni]; omega⟩,by rw [Zni]; omega,Zk (x5.lst e4t) hl',by omega,txs0⟩)
    ·have ho4:=x4.ins ho;have hp4:=x4.lst hp;obtain ⟨v,hv,hvm⟩:=Zdh (xs:=[V.str "",V.str "a",V.str "bb",V.str "zz"]) (i:=c / 11) (k:=4) (by decide) (by decide);obtain ⟨m,rfl,hm⟩:∃ m:W,v=sv m∧(∀ z∈m,z∈az)∧m.length≤100:=by
      rw [sE,Zhg.1,Zhg.2.2.2.1,Zhg.2.2.2.2] at hvm;simp only [Znz,ZnX,or_false] at hvm;rcases hvm with rfl | rfl | rfl | rfl
      ·exact ⟨[],rfl,by decide⟩
      ·exact ⟨[97],rfl,by decide⟩
      ·exact ⟨[98,98],rfl,by decide⟩
      ·exact ⟨[122,122],rfl,by decide⟩
     refine ⟨_,rfl,_,_,_,_,rfl,trivial,IT.ty ho4,kT,_,rfl,Z8 ⟨_,rfl,o,cT,dx,_,.ref p,rfl,ho4,OT.cls,n3,rfl,_,rfl,_,_,rfl,rfl,⟨by decide,by decide⟩,by show 4≤sizeLine; decide,fun u0 hu0=>⟨_,rfl,_,_,rfl,rfl,⟨by decide,by decide⟩,_,_,rfl,rfl,by show (0:Int) < 4; decide,u0,_,_,_,rfl,rfl,SqT.of Za,hv,p,_,_,_,rfl,SqL.of (Zk hp4 hu0),by rw [Zni]; omega,fun D ys H5 hD x5 hD5 hm5 hl5 _=>?_⟩⟩⟩;obtain ⟨us,rfl,hus⟩:=Zih htx hm hm5;rw [Zni,Zni] at hl5;have x45:=(Ext.new (o:=HO.tup [V.str "",V.str "a",V.str "bb",V.str "zz"]) hu0).trans x5;exact gto (rest _ H5 ⟨p0,q0,D,[c3,c7],[c7,c3],us,rfl,x45,⟨x45.lst e4p,by simp⟩,by simp,⟨x45.lst e4q,by simp⟩,by simp,hD5,by omega,hus⟩)
   case rest=>
    rintro σ H5 ⟨on,ot,tl,is,js,ts,rfl,x5,hon,hil,hot,hjl,htl5,htsl,htx⟩;have x15:XP T H H5:=x1.then (x4.trans x5);refine hid fun uz ez=>?_;refine ⟨_,rfl,on,_,rfl,.inl (SqL.of hon.1),fun l1 h1=>?_⟩;have y1:=Ext.new (o:=HO.lst (zV is)) h1;have e11:upd H5 l1 (.lst (zV is)) l1=some (.lst (zV is)):=Za;generalize upd H5 l1 (.lst (zV is))=G1 at y1 e11;refine ⟨_,rfl,ot,_,rfl,.inl (SqL.of (y1.lst hot.1)),fun l2 h2=>?_⟩;have y2:=y1.newer (o:=HO.lst (zV js)) h2;have f2:H5 l2=none:=y1.free h2;have e21:=Zk (u:=HO.lst (zV js)) e11 h2;have e22:upd G1 l2 (.lst (zV js)) l2=some (.lst (zV js)):=Za;generalize upd G1 l2 (.lst (zV js))=G2 at y2 e21 e22;refine ⟨_,rfl,tl,_,rfl,.inl (SqL.of (y2.lst htl5)),fun l3 h3=>?_⟩;have y3:=y2.newer (o:=HO.lst (ts.map sv)) h3;have f3:H5 l3=none:=y2.free h3;have e31:=Zk (u:=HO.lst (ts.map sv)) e21 h3;have e32:=Zk (u:=HO.lst (ts.map sv)) e22 h3;have e33:upd G2 l3 (.lst (ts.map sv)) l3=some (.lst (ts.map sv)):=Za;generalize upd G2 l3 (.lst (ts.map sv))=G3 at y3 e31 e32 e33;refine ⟨by show 3≤sizeLine; decide,fun l4 h4=>?_⟩;have y4:=y3.newer (o:=HO.lst [.ref l1,.ref l2,.ref l3]) h4;have n41:l1≠l4:=ne_of_none e31 h4;have n42:l2≠l4:=ne_of_none e32 h4;have n43:l3≠l4:=ne_of_none e33 h4;have e41:=Zk (u:=HO.lst [.ref l1,.ref l2,.ref l3]) e31 h4;have e42:=Zk (u:=HO.lst [.ref l1,.ref l2,.ref l3]) e32 h4;have e43:=Zk (u:=HO.lst [.ref l1,.ref l2,.ref l3]) e33 h4;have e44:upd G3 l4 (.lst [.ref l1,.ref l2,.ref l3]) l4=some (.lst [.ref l1,.ref l2,.ref l3]):=Za;generalize upd G3 l4 (.lst [.ref l1,.ref l2,.ref l3])=G4 at y4 e41 e42 e43 e44;subst ez;refine hidn fun uz ez=>?_;refine ⟨_,rfl,l4,_,0,.ref l1,rfl,rfl,SqL.of e44,ZE (j:=0) rfl,_,rfl,l4,_,1,.ref l2,rfl,rfl,SqL.of e44,ZE (j:=1) rfl,fun o1 dx1 no1 ndx1 ne1=>⟨o1,l1,l2,dx1,zV is,zV js,rfl,Za,(YC no1 ndx1 ne1).lst e41,(YC no1 ndx1 ne1).lst e42,by rw [Zni]; exact hon.2,by rw [Zni]; exact hot.2,Pln.ints _,Pln.ints _,fun p1 q1 G6 np1' nq1' _ y6 hp6' hq6'=>⟨rfl,?_⟩⟩⟩;obtain ⟨x6,np1,nq1,ho6,hp6,hq6⟩:=Zcd no1 ndx1 ne1 np1' nq1' y6 hp6' hq6';generalize upd G6 o1 (.ins cC dx1 [("one",.ref p1),("other",.ref q1)])=H6 at x6 ho6 hp6 hq6;refine ⟨_,rfl,l4,_,2,.ref l3,rfl,rfl,SqL.of (x6.lst e44),ZE (j:=2) rfl,fun o2 dx2 no2 ndx2 ne2=>⟨o2,l3,dx2,ts.map sv,rfl,Za,(YC no2 ndx2 ne2).lst (x6.lst e43),by rw [Zni]; omega,Zbx _,fun p2 G7 np2' y7 hp7'=>⟨rfl,?_⟩⟩⟩;obtain ⟨x7,np2,ho7,hp7⟩:=JD (C:=cT) (fld:="tails") no2 ndx2 ne2 np2' y7 hp7';generalize upd G7 o2 (.ins cT dx2 [("tails",.ref p2)])=H7 at x7 ho7 hp7;refine ⟨by show 2≤sizeLine; decide,fun l5 h5=>?_⟩;have x67:=x6.trans x7;have x8:=x67.newer (o:=HO.lst [.ref o1,.ref o2]) h5;have x78:=Ext.new (o:=HO.lst [.ref o1,.ref o2]) h5;have e8:upd H7 l5 (.lst [.ref o1,.ref o2]) l5=some (.lst [.ref o1,.ref o2]):=Za;generalize upd H7 l5 (.lst [.ref o1,.ref o2])=H8 at x8 x78 e8;have T0:ZcK H5 H8 [(o1,.ins cC dx1 [("one",.ref p1),("other",.ref q1)]),(p1,.lst (zV is)),(q1,.lst (zV js)),(o2,.ins cT dx2 [("tails",.ref p2)]),(p2,.lst (ts.map sv)),(l4,.lst [.ref l1,.ref l2,.ref l3]),(l5,.lst [.ref o1,.ref o2])] [l1,l2,l3] 100000:=by
     refine ⟨y4.trans x8,fun b o h=>?_,fun l h=>?_⟩
     ·simp only [Znz,ZnX,or_false,Prod.mk.injEq] at h;rcases h with ⟨rfl,rfl⟩ | ⟨rfl,rfl⟩ | ⟨rfl,rfl⟩ | ⟨rfl,rfl⟩ | ⟨rfl,rfl⟩ | ⟨rfl,rfl⟩ | ⟨rfl,rfl⟩
      ·exact x78.ins (x7.ins ho6)
      ·exact x78.lst (x7.lst hp6)
      ·exact x78.lst (x7.lst hq6)
      ·exact x78.ins ho7
      ·exact x78.lst hp7
      ·exact x8.lst e44
      ·exact e8
     ·simp only [Znz,ZnX,or_false] at h;rcases h with rfl | rfl | rfl
      ·exact ⟨_,x8.lst e41,by rw [Zni]; exact hon.2⟩
      ·exact ⟨_,x8.lst e42,by rw [Zni]; exact hot.2⟩
      ·exact ⟨_,x8.lst e43,by rw [Zni]; omega⟩
    have hnew:∀ l∈[l1,l2,l3],H5 l=none:=fun l h=>by
     simp only [Znz,ZnX,or_false] at h;rcases h with rfl | rfl | rfl
     ·exact h1
     ·exact f2
     ·exact f3
    have hapart:∀ b o,(b,o)∈[(o1,HO.ins cC dx1 [("one",.ref p1),("other",.ref q1)]),(p1,.lst (zV is)),(q1,.lst (zV js)),(o2,.ins cT dx2 [("tails",.ref p2)]),(p2,.lst (ts.map sv)),(l4,.lst [.ref l1,.ref l2,.ref l3]),(l5,.lst [.ref o1,.ref o2])]→∀ l∈[l1,l2,l3],b≠l:=fun b o h l hl=>by
     have s5:∃ u,G4 l=some u∧l≠l4:=by
      simp only [Znz,ZnX,or_false] at hl;rcases hl with rfl | rfl | rfl
      ·exact ⟨_,e41,n41⟩
      ·exact ⟨_,e42,n42⟩
      ·exact ⟨_,e43,n43⟩
     obtain ⟨u,hu5,nl4⟩:=s5;obtain ⟨u6,hu6⟩:=x6.some hu5;obtain ⟨u7,hu7⟩:=x7.some hu6;simp only [Znz,ZnX,or_false,Prod.mk.injEq] at h;rcases h with ⟨rfl,rfl⟩ | ⟨rfl,rfl⟩ | ⟨rfl,rfl⟩ | ⟨rfl,rfl⟩ | ⟨rfl,rfl⟩ | ⟨rfl,rfl⟩ | ⟨rfl,rfl⟩
     ·exact (ne_of_none hu5 no1).symm
     ·exact (ne_of_none hu5 np1).symm
     ·exact (ne_of_none hu5 nq1).symm
     ·exact (ne_of_none hu6 no2).symm
     ·exact (ne_of_none hu6 np2).symm
     ·exact nl4.symm
     ·exact (ne_of_none hu7 h5).symm
    subst ez;refine hidn fun uz ez=>?_;refine ⟨_,rfl,l4,rfl,⟨_,SqL.of (x8.lst e44)⟩,Yl (K:=K) (a:=l4) (xs:=[.ref l1,.ref l2,.ref l3]) (fun j σ H9=>(∃ so:Option V,σ=[some (.ref a),some (.int c),some (.ref o),some (.ref on),some (.ref ot),some (.ref tl),some (.ref l4),some (.ref l5),so,none])∧ZcK H5 H9 [(o1,.ins cC dx1 [("one",.ref p1),("other",.ref q1)]),(p1,.lst (zV is)),(q1,.lst (zV js)),(o2,.ins cT dx2 [("tails",.ref p2)]),(p2,.lst (ts.map sv)),(l4,.lst [.ref l1,.ref l2,.ref l3]),(l5,.lst [.ref o1,.ref o2])] [l1,l2,l3] (100000+j)) ⟨⟨_,rfl⟩,T0⟩ (fun j σ H9 _ h=>SqL.of (h.2.fix _ _ (by simp))) ?_ ?_⟩
    ·rintro j y σ H9 hy ⟨⟨so,rfl⟩,T9⟩;obtain ⟨l,hl,rfl⟩:∃ l∈[l1,l2,l3],y=.ref l:=by
      have:=ZnD hy;simp only [Znz,ZnX,or_false] at this;rcases this with rfl | rfl | rfl
      ·exact ⟨l1,by simp,rfl⟩
      ·exact ⟨l2,by simp,rfl⟩
      ·exact ⟨l3,by simp,rfl⟩
     have hj:j < 3:=(Znw.mp hy).1;obtain ⟨ys,hys,hyl⟩:=T9.lst l hl;exact ⟨_,rfl,.inl ⟨rfl,_,SqL.of hys⟩,l,_,_,rfl,rfl,hys,ZC (by omega),⟨_,rfl⟩,T9.put hl hnew hapart hys hyl⟩
    ·rintro σ H9 ⟨⟨so,rfl⟩,T9⟩;have x19:XP T H H9:=x15.then T9.ext;have hC9:=x19.codeL hC;have ho1:=T9.fix o1 _ (.head _);have hp1:=T9.fix p1 _ (.tail _ (.head _));have hq1:=T9.fix q1 _ (.tail _ (.tail _ (.head _)));have ho2:=T9.fix o2 _ (.tail _ (.tail _ (.tail _ (.head _))));have hp2:=T9.fix p2 _ (.tail _ (.tail _ (.tail _ (.tail _ (.head _)))));have hl5:=T9.fix l5 _ (.tail _ (.tail _ (.tail _ (.tail _ (.tail _ (.tail _ (.head _)))))));have hon9:=hon.ext T9.ext;have hot9:=hot.ext T9.ext;have htl9:=T9.ext.lst htl5;have haz:∀ x∈ts,∀ z∈x,z∈az:=fun x hx=>(htx x hx).1;subst ez;refine hidn fun uz ez=>?_;refine ⟨_,rfl,l5,_,0,.ref o1,rfl,rfl,SqL.of hl5,ZE (j:=0) rfl,o1,cC,dx1,_,.ref p1,rfl,ho1,OC.cls,n1,rfl,_,rfl,p1,on,is,is,rfl,rfl,SqL.of hp1,SqL.of hon9.1,_,rfl,Zx (by simp) ?_⟩;refine ⟨_,rfl,l5,_,0,.ref o1,rfl,rfl,SqL.of hl5,ZE (j:=0) rfl,o1,cC,dx1,_,.ref q1,rfl,ho1,OC.cls,n2,rfl,_,rfl,q1,ot,js,js,rfl,rfl,SqL.of hq1,SqL.of hot9.1,_,rfl,Zx (by simp) ?_⟩;refine ⟨_,rfl,l5,_,1,.ref o2,rfl,rfl,SqL.of hl5,ZE (j:=1) rfl,o2,cT,dx2,_,.ref p2,rfl,ho2,OT.cls,n3,rfl,_,rfl,p2,tl,ts,rfl,rfl,SqL.of hp2,SqL.of htl9,haz,_,rfl,Z8 ?_⟩;subst ez;have tlen:∀ r:List Int,r.length≤10001→InZ ws.length r→(Yy ws (YO r)).length≤1000000:=fun r hr _=>by
      have h1:=Jo h90 (YO r);have h2:(YO r).length * 90≤10001 * 90:=ZpZ _ (by rw [Zni]; exact hr);omega
     apply ZbD (P:=fun σ H10=>∃ b,σ=[some (.ref a),some (.int c),some (.ref o),some (.ref on),some (.ref ot),some (.ref tl),some (.ref l4),some (.ref l5),so,some (.bl b)]∧Ext H9 H10∧(b=true↔ClZ ws is js))
     case use=>
      intro R rest;refine ⟨_,rfl,_,rfl,on,ot,is,js,rfl,rfl,SqL.of hon9.1,SqL.of hot9.1,_,rfl,?_⟩;by_cases he:is=js
      ·refine Zx (by simp [he]) (gto (rest _ H9 ⟨false,rfl,Ext.refl _,fun z=>(nomatch z),fun z=>absurd he z.ne⟩))
      ·refine ZI (by simpa using he) ⟨_,rfl,_,rfl,a,on,ws,is,rfl,hC9,hon9,tlen is hil,fun H10 x10=>⟨rfl,_,rfl,?_⟩⟩;by_cases hin:InZ ws.length is
       ·have em:Zah ws is=sv (Yy ws (YO is)):=by rw [Zah,if_pos hin]
        refine ZI (by rw [em]; rfl) ⟨_,rfl,_,rfl,a,on,ws,is,rfl,hC9.ext x10,hon9.ext x10,tlen is hil,fun H11 x11=>⟨_,rfl,_,rfl,a,ot,ws,js,rfl,(hC9.ext x10).ext x11,(hot9.ext x10).ext x11,tlen js hjl,fun H12 x12=>⟨?_,gto (rest _ H12 ⟨_,rfl,(x10.trans x11).trans x12,?_⟩)⟩⟩⟩
        ·rw [em];unfold Zah;split <;> rfl
        ·rw [decide_eq_true_iff,em,eq_comm,ZhJ];exact ⟨fun z=>⟨he,hin,z.h,z.tx.symm⟩,fun z=>⟨z.h2,z.tx.symm⟩⟩
       ·have em:Zah ws is=.non:=by rw [Zah,if_neg hin]
        exact Zx (by rw [em]; decide) (gto (rest _ H10 ⟨false,rfl,x10,fun z=>(nomatch z),fun z=>absurd z.h1 hin⟩))
     case rest=>
      rintro σ H10 ⟨b,rfl,x10,hb⟩;have ho10:=x10.ins ho1;refine hid fun uz ez=>?_;refine ⟨_,rfl,l5,_,0,.ref o1,rfl,rfl,SqL.of (x10.lst hl5),ZE (j:=0) rfl,o1,dx1,_,rfl,ho10,rfl,_,rfl,o1,a,p1,q1,dx1,ws,is,js,rfl,ho10,⟨x10.lst hp1,hon.2⟩,⟨x10.lst hq1,hot.2⟩,hil,hjl,hC9.ext x10,h90,fun b1 H11 x11 hb1=>⟨_,rfl,b1,b,rfl,_,rfl,?_⟩⟩;have e1:b1=b:=by rw [ZnW,hb1,hb]
      subst e1;refine Zx (by simp) ?_;have x911:=x10.trans x11;subst ez;have ho11:=x911.ins ho2;have tx:∀ {H' p'},H' p'=some (.lst (ts.map sv))→Zbd H' p' ts:=fun h=>⟨h,by omega,fun x hx=>by have:=(htx x hx).2; omega⟩;refine ⟨_,rfl,l5,_,1,.ref o2,rfl,rfl,SqL.of (x911.lst hl5),ZE (j:=1) rfl,o2,dx2,_,rfl,ho11,rfl,_,rfl,o2,a,p2,dx2,ws,ts,rfl,ho11,hC9.ext x911,tx (x911.lst hp2),fun b2 H12 x12 hb2=>?_⟩;refine ⟨_,rfl,_,rfl,a,tl,ws,ts,rfl,(hC9.ext x911).ext x12,tx (x12.lst (x911.lst htl9)),fun b3 H13 x13 hb3=>⟨b2,b3,rfl,?_⟩⟩;have e23:b2=b3:=by rw [ZnW,hb2,hb3]
      rw [decide_eq_true e23];exact k H13 (x19.then ((x911.trans x12).trans x13))
end
def Zmz (K:Znj):V→List V→Hp→VK→Prop:=fun x xs H Q=>∃ (l:Addr) (ns:List Int) (k:Int),x=.ref l∧xs=[.int k]∧SqL K H l (ns.map V.int)∧Q (.int (ns.count k:Nat)) H
theorem Zj0 {X:Cx}{K:Znj} (h:X.K=K):MtR X "list.count" (Zmz K):=by
 subst h;intro pins s σ H x xs v us Q I rx rs h;obtain ⟨l,ns,k,rfl,rfl,hq,q⟩:=h;cases rx;obtain ⟨u,rfl,t,rfl⟩:=YJ rs;obtain ⟨its,r,pl,_⟩:=I.list hq;exact count_list_ints pl.isList (Yp r) ⟨.int _,H,I.tok _,⟨_,rfl⟩,q⟩
theorem Zej:∀ (ns:List Int) (b:Option Int),(∀ n∈ns,∃ m,ns.foldl J8 b=some m∧n≤m)∧(∀ m0,b=some m0→∃ m,ns.foldl J8 b=some m∧m0≤m)∧∀ m,ns.foldl J8 b=some m→m∈ns∨b=some m
 | [],b=>⟨fun n hn=>by simp at hn,fun m0 e=>⟨m0,e,Int.le_refl _⟩,fun m e=>.inr e⟩
 | n :: ns,b=>by
  obtain ⟨h1,h2,h3⟩:=Zej ns (J8 b n);have big:∃ m1,J8 b n=some m1∧n≤m1∧(∀ m0,b=some m0→m0≤m1)∧(m1=n∨b=some m1):=by
   cases b with
   | none=>exact ⟨n,rfl,Int.le_refl _,fun _ e=>(nomatch e),.inl rfl⟩
   | some m0=>
    unfold J8;by_cases z:m0 < n
    ·exact ⟨n,by simp [z],Int.le_refl _,fun m e=>by cases e; omega,.inl rfl⟩
    ·exact ⟨m0,by simp [z],by omega,fun m e=>by cases e; omega,.inr rfl⟩
  obtain ⟨m1,e1,hn,hb,hw⟩:=big;refine ⟨fun k hk=>?_,fun m0 e=>?_,fun m e=>?_⟩
  ·rcases Znz.mp hk with z | z
   ·obtain ⟨m,e,l⟩:=h2 m1 e1;exact ⟨m,e,by omega⟩
   ·exact h1 k z
  ·obtain ⟨m,e',l⟩:=h2 m1 e1;have:=hb m0 e;exact ⟨m,e',by omega⟩
  ·rcases h3 m e with z | z
   ·exact .inl (ZnC _ z)
   ·rw [e1] at z;cases z;rcases hw with q | q
    ·exact .inl (by rw [q]; exact ZnF)
    ·exact .inr q
theorem Zlj (ls:List Nat):∃ L:Nat,mxV (ls.map fun (n:Nat)=>(n:Int)) (.int 0)=.int (L:Int)∧(∀ n∈ls,n≤L)∧(L=0∨L∈ls):=by
 obtain ⟨h1,_,h3⟩:=Zej (ls.map fun (n:Nat)=>(n:Int)) none;unfold mxV;cases e:ZdT (ls.map fun (n:Nat)=>(n:Int)) with
 | none=>
  refine ⟨0,rfl,fun n hn=>?_,.inl rfl⟩;obtain ⟨m,e',_⟩:=h1 n (Znm.mpr ⟨n,hn,rfl⟩);unfold ZdT at e;rw [e] at e';cases e'
 | some m=>
  unfold ZdT at e;rcases h3 m e with z | z
  ·obtain ⟨L,hL,rfl⟩:=Znm.mp z;refine ⟨L,rfl,fun n hn=>?_,.inr hL⟩;obtain ⟨m',e',l⟩:=h1 n (Znm.mpr ⟨n,hn,rfl⟩);rw [e] at e';cases e';omega
  ·cases z
theorem Zin (ls:List Nat) (n:Nat):(ls.map fun (k:Nat)=>(k:Int)).count (n:Int)=ls.count n:=by
 induction ls with
 | nil=>rfl
 | cons a ls ih=>
  rw [ZnN,Zq0,Zq0,ih];congr 1;by_cases h:a=n
  ·subst h; simp
  ·rw [if_neg (by simp; omega),if_neg (by simp; omega)]
def ZbJ:V→Bool
 | .int i=>decide (1≤i) && decide (i≤26)
 | _=>false
def Zc6:V→Bool
 | .int i=>decide (1≤i)
 | _=>false
section
variable {P:Program}{w:World}{K:Znj}{mg:Str→Option Value}{base:Heap}{cLengths:Addr}
def Zb5 (K:Znj):Sp:=fun vs H Q _=>∃ v,vs=[v]∧ZcM K H v∧Q (.bl (ZbJ v)) H
theorem Zf4 (D:Def K mg "is_count" "is_count" Pl.s_is_count ["letters"]) (B:Yo mg) (L:∃ t,mg "LETTERS"=some (.str "abcdefghijklmnopqrstuvwxyz" t)) (C1:Cal P w K mg base CX0 1 "is_whole" ["value"] (Za7 K)):Cal P w K mg base CX0 2 "is_count" ["letters"] (Zb5 K):=by
 have sc:Zn ["letters"] ["letters"] (Zf Pl.s_is_count):=scO;obtain ⟨tk,hL⟩:=L;refine D.cal fun f fd F=>F.ok sc (fun vs H Q E h=>?_) (fun cdv A outer s H vs Q E hr h=>?_)
 ·obtain ⟨_,rfl,_⟩:=h;rfl
 ·obtain ⟨v,rfl,hd,k⟩:=h;refine ⟨_,pss_one (ps_ret (ZO (Zc C1 hr (pa_cons (pv 0) pa_nil) Zm) (Z3 (ZbO Zdt Zdt Ze (pv 0) (Zg Zs (by rfl) B.len Zno (pa_cons (Y8 (v:=sv az) (by rfl) hL ⟨tk,by rw [Zhx]⟩) pa_nil)))))),?_⟩;try dsimp only [ZH,Cx.nox,Cx.wish]
  refine ⟨_,rfl,v,rfl,hd,_,rfl,?_⟩;cases v with
  | int i=>
   refine Yi ?_;refine ⟨_,rfl,_,_,rfl,rfl,_,rfl,?_⟩;have e:ZbJ (.int i)=(decide (1≤i) && decide (i≤26)):=rfl;by_cases h0:(1:Int)≤i
   ·refine ZI (by simpa using h0) ?_;refine ⟨st az,rfl,by rw [st_len]; decide,_,_,rfl,rfl,?_⟩;rw [e,decide_eq_true h0,Zo0] at k;exact k
   ·refine Zx (by simpa using h0) ?_;rw [e,decide_eq_false h0,ZoU] at k;first | exact k | (rw [decide_eq_false h0]; exact k)
  | _=>exact Zx (fun z=>ZqK z) k
def Zaw (K:Znj):Sp:=fun vs H Q _=>∃ v,vs=[v]∧JG K H v∧∀ b H',Ext H H'→Y0 H v Zc6 b→Q (.bl b) H'
theorem Zdm (D:Def K mg "are_lengths" "are_lengths" Pl.s_are_lengths ["values"]) (B:Yo mg) (C1:Cal P w K mg base CX0 1 "is_whole" ["value"] (Za7 K)):Cal P w K mg base CX0 2 "are_lengths" ["values"] (Zaw K):=by
 have sc:Zn ["values"] ["values"] (Zf Pl.s_are_lengths):=scO;refine D.cal fun f fd F=>F.ok sc (fun vs H Q E h=>?_) (fun cdv A outer s H vs Q E hr h=>?_)
 ·obtain ⟨_,rfl,_⟩:=h;rfl
 ·obtain ⟨v,rfl,⟨hd,hl⟩,k⟩:=h;have nd:(["value"]:List Str).Nodup:=by decide +kernel
  refine ⟨_,pss_one (ps_ret (ZO (Yz B (pv 0)) (Z3 (Zg (YL rfl) (by rfl) B.all Boot.«all» (pa_cons
   (Z5 (N':=["value"]) (js:=[none]) (.of (by kernel_rfl)) rfl (ZF (pv 0)) fun C fp s₀ H₀=>⟨Zr (i:=0) nd rfl (Or.inl rfl),ZZ,
    ZO (Zc C1 hr (pa_cons (pv 0) pa_nil) Zm) (Z3 (ZV ZlT (pv 0) Ze (Zu _)))⟩) pa_nil))))),?_⟩
  try dsimp only [ZH,Cx.nox,Cx.wish]
  obtain ⟨t,b,ty,e,hb⟩:=Zc7 hd;refine ⟨_,rfl,_,_,t,_,rfl,trivial,ty,e,_,rfl,?_⟩;cases b with
  | false=>
   refine Z8 (k false H (Ext.refl _) ⟨fun a xs e h=>?_,fun _=>rfl⟩);exact absurd (hb.mpr ⟨a,xs,e,h⟩) (by decide)
  | true=>
   refine Yi ?_;obtain ⟨a,xs,rfl,hr2⟩:=hb.mp rfl;have hq:SqL K H a xs:=.inl hr2;refine ⟨_,rfl,a,rfl,⟨xs,hq⟩,?_⟩;obtain ⟨hl1,hl2⟩:=hl a xs rfl hr2;refine ZS hq hl1 (fun y=>.bl (Zc6 y)) (fun y H' hy x1 Q' k'=>?_) (fun D H' _ x1 hD=>?_)
   ·refine ⟨_,rfl,y,rfl,hl2 y hy H' x1,_,rfl,?_⟩;cases y with
    | int i=>
     refine Yi ?_;exact ⟨_,rfl,_,_,rfl,rfl,k' _ H' (Ext.refl _) rfl⟩
    | _=>exact Zx (fun z=>ZqK z) (k' _ H' (Ext.refl _) rfl)
   ·refine ⟨D,xs.map Zc6,rfl,SqL.of (by rw [hD,Znr]; rfl),?_⟩;have:=k (xs.all Zc6) H' x1 (Y0.of hr2);rw [Zqf];exact this
theorem Zi7 {X:Cx}{K:Znj} (hK:X.K=K) {e d:Expr}{te:TA}{td:TE}{p pos kpos:Pos} (hc:X.calm=true) (hm:X.mg "max"=none) (he:PA X [e] te) (hd:PE X d td) (hg:Gl X "max":=by rfl)
  (hb:backTo pos (starEach [e] X.env)=(false,eval e X.env) :: backTo pos (starEach [] X.env):=by rfl) (hpl:(backTo pos (starEach [e] X.env)).any (·.1)=false:=by rfl):PE X (.Call (.Name "max" p) [e] [⟨some "default",d,kpos⟩] pos) (Zl1 K te td):=by
 subst hK;exact Zly hc hm he hd hg hb hpl
structure ZaH (H:Hp) (p:Addr) (ls:List Nat):Prop where
 at_:H p=some (.lst (intsV ls))
 few:ls.length≤63
 pos:∀ l∈ls,1≤l
 short:∀ l∈ls,l≤101
theorem ZaH.ext {H H':Hp}{p:Addr}{ls:List Nat} (h:ZaH H p ls) (x:Ext H H'):ZaH H' p ls:=⟨x.lst h.at_,h.few,h.pos,h.short⟩
theorem ZaH.arg {H:Hp}{p:Addr}{ls:List Nat} (h:ZaH H p ls):JG K H (.ref p):=JF.arg ⟨h.at_,by have:=h.few; omega⟩
theorem ZaH.all {H:Hp}{p:Addr}{ls:List Nat} (h:ZaH H p ls) {b:Bool} (q:Y0 H (.ref p) Zc6 b):b=true:=by
 rw [q.eq (.inl h.at_),Zn1];intro v hv;obtain ⟨l,hl,rfl⟩:=Znm.mp hv;have:=h.pos l hl;show decide ((1:Int)≤(l:Int))=true;rw [decide_eq_true_iff];omega
end
def Dg (q:Nat) (w:W):Prop:=∀ c∈w,97≤c∧c < 97+q
def Zai (q:Nat) (ls:List Nat):Nat:=(ls.map fun l=>q ^ (101 - l)).sum
theorem Zdb (q:Nat) (a b:List Nat):Zai q (a++b)=Zai q a+Zai q b:=by unfold Zai; rw [Zn2,List.sum_append]
theorem ZiN {q:Nat}{a b:List Nat} (h:a.Perm b):Zai q a=Zai q b:=(h.map _).sum_nat
theorem ZfS (q l:Nat):Zai q [l]=q ^ (101 - l):=by simp [Zai]
end L2
namespace L2
open PySem PySem.Spec PyProof.Rows Tw
section
variable {X:Cx}{pins:List (Addr × Obj)}{σ:St}{H H':Hp}{s:Shared}{h':Heap}
theorem Inv.turnedL {ch:List Addr}{tk:Nat} (I:Inv X pins σ H s) (k:∀ b o,b ∉ ch→s.heap.get? b=some o→h'.get? b=some o) (hf:∀ b∈ch,ZaG X pins H b):Inv X pins σ H { s with heap:=h',toks:=tk }:=by
 have nt:∀ b u,H b=some u→b ∉ ch:=fun b u e hb=>by rw [(hf b hb).1] at e; cases e
 refine I.step (g':=s.gens) (d':=s.drawn) (ch:=ch) (fun b hb=>?_) (fun b o _ _ hc q _=>k b o hc q) (fun b o _ _ hc q _=>⟨o.slots,k b o hc q⟩) (fun b o _ q n=>n) (fun b o hc q=>⟨o,k b o hc q⟩) (fun b ys q=>q) (fun b o u q=>q)
  (fun b ps q=>⟨#[],by rw [q]; simp⟩) (fun m hm=>?_) (fun b u q=>?_) I.bare
 ·obtain ⟨_,f1,_,f3,f4,f5⟩:=hf b hb;exact ⟨f3,f1,f4,f5⟩
 ·obtain ⟨o,es,ep,ho,r⟩:=hm;exact ⟨o,es,ep,k _ o (fun hb=>(hf _ hb).2.1 rfl) ho,r⟩
 ·refine (I.hok b u q).stay (fun c v hc z=>k c v ?_ z) (fun c z=>z) fun c ys z=>z;rcases hc with rfl | hc
  ·exact nt c u q
  ·exact nt c _ hc
theorem Inv.turnedT {ch:List Addr}{t:Addr}{xs:List V}{tk:Nat} (I:Inv X pins σ H s) (k:∀ b o,b ∉ ch→s.heap.get? b=some o→h'.get? b=some o) (hf:∀ b∈ch,ZaG X pins H b) (ht:s.heap.objs.size≤t)
  (new:Yh X.prog X.w (upd H t (.tup xs)) h' t (.tup xs)):Inv X pins σ (upd H t (.tup xs)) { s with heap:=h',toks:=tk }:=by
 have nt:∀ b u,H b=some u→b ∉ ch:=fun b u e hb=>by rw [(hf b hb).1] at e; cases e
 have hn:H t=none:=I.hok.fresh ht;refine I.step (g':=s.gens) (d':=s.drawn) (ch:=ch) (fun b hb=>?_) (fun b o _ _ hc q _=>k b o hc q) (fun b o _ _ hc q _=>⟨o.slots,k b o hc q⟩) (fun b o _ q n=>?_) (fun b o hc q=>⟨o,k b o hc q⟩) (fun b ys q=>Zk q hn) (fun b o u q=>Zk q hn)
  (fun b ps q=>⟨#[],by rw [Zk q hn]; simp⟩) (fun m hm=>?_) (fun b u q=>?_) I.bare
 ·obtain ⟨_,f1,_,f3,f4,f5⟩:=hf b hb;exact ⟨f3,f1,f4,f5⟩
 ·rw [Zp (ZnK (ZnQ (Znx q) ht))];exact n
 ·obtain ⟨o,es,ep,ho,r⟩:=hm;exact ⟨o,es,ep,k _ o (fun hb=>(hf _ hb).2.1 rfl) ho,r⟩
 ·by_cases hb:b=t
  ·subst hb;rw [Za] at q;cases q;exact new
  ·rw [Zp hb] at q;refine (I.hok b u q).stay (fun c v hc z=>k c v ?_ z) (fun c z=>Zk z hn) fun c ys z=>Zk z hn;rcases hc with rfl | hc
   ·exact nt c u q
   ·exact nt c _ hc
end
def Itz (K:Znj) (a b:Addr):It:=
 ⟨fun i H=>∃ xs ys x y,SqL K H a xs∧SqL K H b ys∧xs[i]?=some x∧ys[i]?=some y,
  fun i H v H'=>∃ t,v=.ref t∧H t=none∧∀ xs ys,SqL K H a xs→SqL K H b ys→∃ x y,xs[i]?=some x∧ys[i]?=some y∧H'=upd H t (.tup [x,y]),
  fun i H=>∃ xs ys,SqL K H a xs∧SqL K H b ys∧(xs.length≤i∨ys.length≤i)⟩
theorem ZkQ {P:Program}{w:World}{K:Znj}{elts:List Expr}{x1}{pos:Pos} (a b z TI TO i1 i2:Addr) (D:ZipApart z TI TO i1 i2 a b):
  ZeD P w K (.Tuple elts x1 pos) (Itz K a b) [z,TI,TO,i1,i2] z (fun i h=>IsZip h z TI TO .none∧IsPair h TI (.ref i1) (.ref i2)∧(∃ x y,IsPair h TO x y)∧h.IsListIter i1 a i∧h.IsListIter i2 b i) where
 mem:=by simp
 obj:=fun i h st c hc=>by
  obtain ⟨h1,h2,⟨x,y,h3⟩,⟨o4,h4,_,d4⟩,⟨o5,h5,_,d5⟩⟩:=st;simp only [Znz,ZnX,or_false] at hc;rcases hc with rfl | rfl | rfl | rfl | rfl
  ·exact ⟨_,h1,fun v e=>by cases (show Data.fields _=Data.cell v from e)⟩
  ·exact ⟨_,h2,fun v e=>by cases (show Data.seq _ _=Data.cell v from e)⟩
  ·exact ⟨_,h3,fun v e=>by cases (show Data.seq _ _=Data.cell v from e)⟩
  ·exact ⟨o4,h4,fun v e=>by rw [d4] at e; cases e⟩
  ·exact ⟨o5,h5,fun v e=>by rw [d5] at e; cases e⟩
 keep:=fun i h h' st k=>by
  obtain ⟨h1,h2,⟨x,y,h3⟩,h4,h5⟩:=st;exact ⟨k z (by simp) _ h1,k TI (by simp) _ h2,⟨x,y,k TO (by simp) _ h3⟩,h4.at fun o q=>k i1 (by simp) o q,h5.at fun o q=>k i2 (by simp) o q⟩
 item:=by
  intro X hP hw hK hc i pins s σ H E I hf st hg;subst hP hw hK;obtain ⟨xs,ys,x,y,hq,hq',hx,hy⟩:=hg;obtain ⟨hz,hTI,⟨u0,v0,hTO⟩,h1,h2⟩:=st;obtain ⟨its,rv,p,_⟩:=I.list hq;obtain ⟨its',rv',p',_⟩:=I.list hq';obtain ⟨u,hu,ru⟩:=rv.get hx;obtain ⟨v,hv,rv2⟩:=rv'.get hy;refine wpAny_pyNext_zip_item D hz hTI hTO h1 h2 p.isList p'.isList (x:=u) (y:=v) (by simpa using hu) (by simpa using hv) fun h' a1 a2 a3 a4 a5 a6 hk=>?_;have lt:∀ {c o},s.heap.get? c=some o→c < s.heap.objs.size:=fun e=>Znx e;have hfr:H s.heap.objs.size=none:=I.hok.fresh (Znn _);have fin:∀ b∈[z,TI,TO,i1,i2],b < s.heap.objs.size:=by
   intro c hc;simp only [Znz,ZnX,or_false] at hc;rcases hc with rfl | rfl | rfl | rfl | rfl
   ·exact lt hz
   ·exact lt hTI
   ·exact lt hTO
   ·obtain ⟨o,q,_⟩:=h1; exact lt q
   ·obtain ⟨o,q,_⟩:=h2; exact lt q
  have I1:Inv X pins σ (upd H s.heap.objs.size (.tup [x,y])) { s with heap:=h',toks:=s.toks }:=I.turnedT (ch:=[z,TI,TO,i1,i2]) (fun c o hc q=>hk c o (fun e=>hc (by simp [e])) (fun e=>hc (by simp [e])) (fun e=>hc (by simp [e])) (fun e=>hc (by simp [e])) q) hf (Znn _)
   ⟨by show 2≤sizeLine; decide,[u,v],.cons ru (.cons rv2 .nil),⟨_,a5,rfl,_,rfl⟩⟩
  refine ⟨_,rfl,wpAny_letOwnedTupleGo_zip (s:={ s with heap:=h' }) a1 fun h2' hz2 sb2=>?_⟩;obtain ⟨f0,f1,f2,f3,f4,f5⟩:=hf z (by simp);have I2:=I1.turned (h':=h2') (t':=s.toks) (it:=z) (fun b o hb q=>(sb2.2 b hb).trans q) (by rw [Zp (ZnK (fin z (by simp)))]; exact f0) f1 f3 f4 f5;have kz:∀ c o,c≠z→h'.get? c=some o→h2'.get? c=some o:=fun c o hc q=>(sb2.2 c hc).trans q;refine ⟨.ref s.heap.objs.size,_,I2,rfl,⟨_,rfl,hfr,fun xs2 ys2 q1 q2=>⟨x,y,by rw [I.list_inj q1 hq]; exact hx,by rw [I.list_inj q2 hq']; exact hy,rfl⟩⟩,⟨hz2,kz _ _ D.TIz (hk _ _ D.TIz D.TITO D.TIi1 D.TIi2 hTI),⟨_,_,kz _ _ D.TOz a2⟩,a3.at fun o q=>kz _ o D.i1z q,a4.at fun o q=>kz _ o D.i2z q⟩,fun b hb=>?_⟩;rw [Zp (ZnK (fin b hb))];exact (hf b hb).1
 done:=by
  intro X hP hw hK hc i pins s σ H E I hf st hg;subst hP hw hK;obtain ⟨xs,ys,hq,hq',hx⟩:=hg;obtain ⟨hz,hTI,⟨u0,v0,hTO⟩,h1,h2⟩:=st;obtain ⟨its,rv,p,_⟩:=I.list hq;obtain ⟨its',rv',p',_⟩:=I.list hq';have l1:=rv.length;have l2:=rv'.length;refine wpAny_pyNext_zip_end (I.ok.hd hc) D hz hTI hTO h1 h2 p.isList p'.isList ?_ fun h' hk=>⟨rfl,I.turnedL (tk:=s.toks) (ch:=[z,TI,TO,i1,i2]) (fun c o hc q=>hk c o (fun e=>hc (by simp [e])) (fun e=>hc (by simp [e])) (fun e=>hc (by simp [e])) (fun e=>hc (by simp [e])) q) hf⟩;rcases hx with hx | hx
  ·exact .inl (by simp; omega)
  ·exact .inr (by simp; omega)
 self:=fun _ _ _ _ _ st h=>wpAny_pyIter_zip st.1 h
def iZip (K:Znj) (ta:TA):TI:=fun σ H R=>ta σ H fun vs H1=>∃ a b,vs=[.ref a,.ref b]∧(∃ xs,SqL K H1 a xs)∧(∃ ys,SqL K H1 b ys)∧R (Itz K a b) H1
theorem Zmx {X:Cx}{a b:Expr}{ta:TA}{p pos tpos:Pos}{elts:List Expr}{x1} (hg:Gl X "zip") (hm:X.mg "zip"=none) (ha:PA X [a,b] ta) (hs:starEach [a,b] X.env=[(false,eval a X.env),(false,eval b X.env)]:=by rfl) (hs2:starEach [b] X.env=[(false,eval b X.env)]:=by rfl):
  PI X (.Tuple elts x1 tpos) (.Call (.Name "zip" p) [a,b] [] pos) (iZip X.K ta):=by
 intro pins s σ H R I h;refine Call_ (ld_blt I hg hm boot_zip (PyProof.Rows.callWith_type1 (thn (ha pos pins s σ H _ I h) fun us s1 qz=>?_) (by rw [hs,hs2]) (by rw [hs2]; rfl)));obtain ⟨vs,H1,I1,r1,q1⟩:=qz;obtain ⟨l1,l2,ev,⟨xs,hq⟩,⟨ys,hq'⟩,q⟩:=q1;subst ev;cases r1 with
 | cons r r1=>
  cases r1 with
  | cons r' r1=>
   cases r1;cases r;cases r';obtain ⟨its,rv,pl,_⟩:=I1.list hq;obtain ⟨its',rv',pl',_⟩:=I1.list hq';have lt1:l1 < s1.heap.objs.size:=let ⟨o,z,_⟩:=pl.isList; Znx z;have lt2:l2 < s1.heap.objs.size:=let ⟨o,z,_⟩:=pl'.isList; Znx z;refine call_zip_2 pl.isList pl'.isList fun h' hz hTI hTO hi1 hi2 hsz hk=>?_;refine wpAny_pyIter_zip (s:={ s1 with heap:=h' }) hz ?_;have I2:Inv X pins σ H1 { s1 with heap:=h',toks:=s1.toks }:=I1.kept (t':=s1.toks) hk;refine ⟨s1.heap.objs.size+4,[s1.heap.objs.size+4,s1.heap.objs.size+2,s1.heap.objs.size+3,s1.heap.objs.size,s1.heap.objs.size+1],_,_,H1,rfl,I2,ZkQ l1 l2 _ _ _ _ _ (zipApart_new lt1 lt2),⟨hz,hTI,⟨_,_,hTO⟩,hi1,hi2⟩,fun b hb=>?_,q⟩;have hb':s1.heap.objs.size≤b:=by
    simp only [Znz,ZnX,or_false] at hb;rcases hb with rfl | rfl | rfl | rfl | rfl
    ·exact Zpo _ _
    ·exact Zpo _ _
    ·exact Zpo _ _
    ·exact Znn _
    ·exact Zpo _ _
   obtain ⟨f0,f1,f2,f3,f4,f5⟩:=I1.fpOk hb' (I1.hok.fresh hb');exact ⟨f0,f1,f2,f3,f4,f5⟩
theorem Zk1 {K:Znj}{a b:Addr}{xs ys:List V}{g:TG}{tb:TS}{D:Zab}{σ:St}{H:Hp} (n:Nat) (hn:n=min xs.length ys.length) (Pv:Nat→St→Hp→Prop) (h0:Pv 0 σ H) (hl:∀ i σ H,i≤n→Pv i σ H→SqL K H a xs∧SqL K H b ys)
  (hs:∀ i x y t σ H,xs[i]?=some x→ys[i]?=some y→Pv i σ H→H t=none→g (.ref t) σ (upd H t (.tup [x,y])) fun σ2 H2=>tb { D with nx:=Pv (i+1),ct:=Pv (i+1),bk:=D.nx } σ2 H2) (hd:∀ σ H,Pv n σ H→D.nx σ H):
  ∃ W:Nat→Nat→St→Hp→Prop,(∃ m,W 0 m σ H)∧∀ i m σ H,W i m σ H→
   ((Itz K a b).stop i H∧D.nx σ H)∨((Itz K a b).go i H∧∃ N:St→Hp→Prop,(∀ σ' H',N σ' H'→∃ m',m' < m∧W (i+1) m' σ' H')∧∀ x H',(Itz K a b).yld i H x H'→g x σ H' fun σ2 H2=>tb { D with nx:=N,ct:=N,bk:=D.nx } σ2 H2):=by
 refine ⟨fun i m σ H=>m=n - i∧i≤n∧Pv i σ H,⟨n,by simp,ZnH _,h0⟩,?_⟩;rintro i m σ H ⟨rfl,hi,p⟩;obtain ⟨q1,q2⟩:=hl i σ H hi p;by_cases hlt:i < n
 ·have e1:xs[i]?=some xs[i]:=Znp (by omega);have e2:ys[i]?=some ys[i]:=Znp (by omega);refine .inr ⟨⟨xs,ys,_,_,q1,q2,e1,e2⟩,Pv (i+1),fun σ' H' p'=>⟨n - (i+1),by omega,rfl,hlt,p'⟩,fun v H' z=>?_⟩;obtain ⟨t,rfl,ht,z⟩:=z;obtain ⟨x,y,z1,z2,rfl⟩:=z xs ys q1 q2;exact hs i x y t σ H z1 z2 p ht
 ·have e:i=n:=by omega
  subst e;exact .inl ⟨⟨xs,ys,q1,q2,by omega⟩,hd σ H p⟩
end L2
namespace L2
open PySem PySem.Spec PyProof.Rows Tw
seal PSs PS PE PT PW PA PG PGs PI PC
def YE (us:List W):Prop:=∀ i,i < us.length - 1→¬ (us.getD i []).isPrefixOf (us.getD (i+1) [])=true
instance (us:List W):Decidable (YE us):=by unfold YE; infer_instance
theorem ZjB (xs:List V):cutV xs (some 1) none=xs.drop 1:=by
 have e1:HT.sIx xs.length 0 (some 1)=min 1 xs.length:=HT.sIx_nat xs.length 0 1;unfold cutV;rw [e1,HT.sIx_none];cases xs with
 | nil=>rfl
 | cons x r=>
  have e2:min 1 (x :: r).length=1:=by simp only [ZnZ]; omega
  rw [e2];refine Zok ?_;simp
section
variable {P:Program}{w:World}{K:Znj}{mg:Str→Option Value}{base:Heap}
def Zbt (K:Znj):Sp:=fun vs H Q _=>∃ (p:Addr) (us:List W),vs=[.ref p]∧SqL K H p (us.map sv)∧∀ H',Ext H H'→Q (.bl (decide (YE us))) H'
theorem Ze1 (D:Def K mg "none_begins_next" "none_begins_next" Pl.s_none_begins_next ["words"]) (hz:mg "zip"=none):Cal P w K mg base CX0 1 "none_begins_next" ["words"] (Zbt K):=by
 have sc:Zn ["words","one","other"] ["words"] (Zf Pl.s_none_begins_next):=scO;refine D.cal fun f fd F=>F.ok sc (fun vs H Q E h=>?_) (fun cdv A outer s H vs Q E hr h=>?_)
 ·obtain ⟨_,_,rfl,_⟩:=h;rfl
 ·obtain ⟨p,us,rfl,hq,k⟩:=h;refine ⟨_,Zb (Z9 PassesOwn.never rfl (Zmx (by rfl) hz (pa_cons (pv 0) (pa_cons (ZM YI (pv 0) (ZN Ze) ZY) pa_nil)))
    (Za5 (K:=K) (n:=2) rfl rfl (Yu (Zr (i:=1) sc.nd rfl (Or.inl rfl)) (Yu (Zr (i:=2) sc.nd rfl (Or.inl rfl)) Zav)))
    (pss_one (ZD (ZK (Yx Zol Zpc Zpd mt_starts (pv 2) (pa_cons (pv 1) pa_nil))) (pss_one (ps_ret pe_bl)) pss_nil)))
   (pss_one (ps_ret pe_bl)),?_⟩
  try dsimp only [ZH,Cx.nox,Cx.wish]
  refine ⟨_,rfl,_,rfl,_,rfl,p,_,rfl,hq,fun q hq0=>?_⟩;rw [ZjB];have x1:Ext H (upd H q (.lst ((us.map sv).drop 1))):=Ext.new hq0;refine ⟨p,q,rfl,⟨_,x1.sqL hq⟩,⟨_,SqL.of Za⟩,?_⟩;refine Zk1 (K:=K) (xs:=us.map sv) (ys:=(us.map sv).drop 1) (us.length - 1) (by simp) (fun i σ H2=>(∃ o1 o2:Option V,σ=[some (.ref p),o1,o2])∧Ext (upd H q (.lst ((us.map sv).drop 1))) H2∧∀ j,j < i→¬ (us.getD j []).isPrefixOf (us.getD (j+1) [])=true) ⟨⟨none,none,rfl⟩,Ext.refl _,fun j hj=>absurd hj (Zp7 _)⟩
   (fun i σ H2 _ h=>⟨h.2.1.sqL (x1.sqL hq),h.2.1.sqL (SqL.of Za)⟩) ?_ ?_
  ·rintro i x y t σ H2 hx hy ⟨⟨o1,o2,rfl⟩,x2,all⟩ ht;rw [Znq] at hx;rw [List.getElem?_drop,Znq] at hy;obtain ⟨a,ha,rfl⟩:=Option.map_eq_some_iff.mp hx;obtain ⟨b,hb,rfl⟩:=Option.map_eq_some_iff.mp hy;have ea:us.getD i []=a:=by rw [Znv,ha]; rfl
   have eb:us.getD (i+1) []=b:=by rw [Znv,show i+1=1+i by omega,hb]; rfl
   refine ⟨t,_,rfl,SqT.of Za,rfl,_,_,rfl,_,_,rfl,rfl,?_⟩;refine ⟨_,rfl,rfl,_,rfl,b,a,rfl,rfl,_,rfl,?_⟩;by_cases z:a.isPrefixOf b=true
   ·rw [z];refine Yi ?_;have no:¬ YE us:=fun h=>by
     have l:i+1 < us.length:=by
      have:=(Znw.mp hb).1;omega
     exact h i (by omega) (by rw [ea,eb]; exact z)
    have:=k _ ((x1.trans x2).newer (o:=HO.tup [sv a,sv b]) ht);rw [decide_eq_false no] at this;exact this
   ·rw [eq_false_of_ne_true z];refine Z8 ⟨⟨_,_,rfl⟩,x2.newer ht,fun j hj=>?_⟩;by_cases e:j=i
    ·subst e;rw [ea,eb];exact z
    ·exact all j (by omega)
  ·rintro σ H2 ⟨⟨o1,o2,rfl⟩,x2,all⟩;have:=k H2 (x1.trans x2);rw [decide_eq_true (show YE us from all)] at this;exact this
end
theorem ZgQ (ws us:List W):ZnJ.sameAll (ws.map fun x=>PyData.str (st x)) (us.map fun x=>PyData.str (st x))=decide (ws=us):=by
 induction ws generalizing us with
 | nil=>cases us <;> simp [ZnJ.sameAll]
 | cons x ws ih=>
  cases us with
  | nil=>simp [ZnJ.sameAll]
  | cons y us=>
   simp only [ZnN,ZnJ.sameAll,ih us,ZnJ.same];rw [ZnW,ZnA,decide_eq_true_iff,decide_eq_true_iff,List.cons.injEq,beq_iff_eq];exact ⟨fun h=>⟨st_inj h.1,h.2⟩,fun h=>⟨by rw [h.1],h.2⟩⟩
def rEqT (K:Znj):R2:=fun x y H Q=>∃ (p q:Addr) (ws us:List W),x=.ref p∧y=.ref q∧SqL K H p (ws.map sv)∧SqL K H q (us.map sv)∧(∀ x∈ws,∀ z∈x,z∈az)∧(∀ x∈us,∀ z∈x,z∈az)∧Q (.bl (decide (ws=us))) H
theorem Zkd {X:Cx}{K:Znj} (h:X.K=K) (hu:X.A.units+64 < cLine):OpR X (compareOp .Eq) (rEqT K):=by
 subst h;intro pins s σ H x y v u Q I rx ry h;obtain ⟨p,q,ws,us,rfl,rfl,hp,hq,hl,hl',k⟩:=h;cases rx;cases ry;obtain ⟨its,r,pl,_⟩:=I.list hp;obtain ⟨its',r',pl',_⟩:=I.list hq;refine eq_dataH_same (reads_newData pl.isList (JL r)) (reads_newData pl'.isList (JL r')) (Za2 _ hl) (Za2 _ hl') hu (SeqAt.noMix_of_shape (.list .str) rfl _ _ (list_map_has fun _=>rfl) (list_map_has fun _=>rfl)) ?_;have e:ZnJ.same (.list (ws.map fun x=>PyData.str (st x))) (.list (us.map fun x=>PyData.str (st x)))=decide (ws=us):=by simp only [ZnJ.same]; exact ZgQ ws us
 rw [e];exact ⟨.bl _,H,I,rfl,k⟩
def Zib (us:List W):Prop:=∀ i,i < us.length - 1→¬ us.getD (i+1) [] < us.getD i []
instance (us:List W):Decidable (Zib us):=by unfold Zib; infer_instance
def ZaD (ws:List W) (r:List Nat):Prop:=(∀ i∈r,i < ws.length)∧r.isPerm (ZnB ws.length)=true∧Zib (r.map fun i=>ws.getD i [])∧YE (r.map fun i=>ws.getD i [])
instance (ws:List W) (r:List Nat):Decidable (ZaD ws r):=by unfold ZaD; infer_instance
theorem ZcB {us:List W}{i:Nat} (h:i < us.length):us.getD i []=us[i]:=by simp [h]
theorem Zff {us:List W}:Zib us↔us.Pairwise (·≤·):=by
 constructor
 ·intro h;rw [ZoF];have step:∀ (d i:Nat) (hi:i < us.length) (hj:i+d < us.length),us[i]≤us[i+d]:=by
   intro d;induction d with
   | zero=>intro i hi hj; exact List.le_refl _
   | succ d ih=>
    intro i hi hj;have h1:=ih i hi (by omega);have h2:=h (i+d) (by omega);rw [ZcB (by omega),ZcB (by omega)] at h2;exact List.le_trans h1 (List.not_lt.mp h2)
  intro i j hi hj lt;have:=step (j - i) i hi (by omega);simpa [show i+(j - i)=j by omega] using this
 ·intro h i hi;rw [ZoF] at h;have:=h i (i+1) (by omega) (by omega) (by omega);rw [ZcB (by omega),ZcB (by omega)];exact List.not_lt.mpr this
theorem Zcp {ws us:List W} (hp:us.Perm ws) (hs:us.Pairwise (·≤·)):ws=us↔Zib ws:=by
 rw [Zff];constructor
 ·intro e; rw [e]; exact hs
 ·intro h;exact Zou.eq_of_pairwise (fun a b _ _ h1 h2=>List.le_antisymm h1 h2) h hs hp.symm
theorem Zfd {r:List Nat}{ms:List Int}{n:Nat} (hp:ms.Perm (r.map fun (i:Nat)=>(i:Int))) (hs:ms.Pairwise (·≤·)):ms=(ZnB n).map (fun (i:Nat)=>(i:Int))↔r.isPerm (ZnB n)=true:=by
 rw [ZpD];constructor
 ·intro e;rw [e] at hp;have:=hp.map ZoY;rw [Znr,Znr] at this;have id1:∀ l:List Nat,l.map (ZoY ∘ fun (i:Nat)=>(i:Int))=l:=fun l=>List.map_id'' (fun _=>rfl) l;rw [id1,id1] at this;exact this.symm
 ·intro h;have h2:=hp.trans (h.map fun (i:Nat)=>(i:Int));refine Zou.eq_of_pairwise (fun a b _ _ h1 h2=>Int.le_antisymm h1 h2) hs ?_ h2;rw [Zpg];exact List.pairwise_le_range.imp fun h=>by omega
section
variable {P:Program}{w:World}{K:Znj}{mg:Str→Option Value}{base:Heap}
def ZdG (C:Addr):Sp:=fun vs H Q _=>∃ (o a p dx:Addr) (ws:List W) (r:List Nat),vs=[.ref o,.ref a]∧H o=some (.ins C dx [("order",.ref p)])∧JF H p r∧ZW H a ws∧ws.length < 64∧(r.length < 64∨r.length≠ws.length)∧
 ∀ H',Ext H H'→Q (.bl (decide (ZaD ws r))) H'
theorem ZiZ {C f:Addr}{fd:FuncData} (F:Fun K "shows" "Apart.shows" Pl.c_Apart_shows f fd) (B:Yo mg) (cl:Cls K C) (na:ZG K C "order") (C1:Cal P w K mg base CX0 3 "is_code" ["value"] (Jv K))
  (C2:Cal P w K mg base CX0 3 "are_places" ["values","count"] (Ju K)) (C3:Cal P w K mg base CX0 1 "words_at" ["code","places"] (Za8 K)) (C4:Cal P w K mg base CX0 1 "none_begins_next" ["words"] (Zbt K)):
  Ym P w K mg base CX0 4 f fd ["self","code"] (ZdG C):=by
 have sc:Zn ["self","code","words"] ["self","code"] (Zf Pl.c_Apart_shows):=scO;refine F.ok sc (fun vs H Q E h=>?_) (fun cdv A outer s H vs Q E hr h=>?_)
 ·obtain ⟨_,_,_,_,_,_,rfl,_⟩:=h;rfl
 ·obtain ⟨o,a,p,dx,ws,r,rfl,ho,hP,hC,h64,hrl,k⟩:=h;have hr1:ZR 1 _:=hr.mono (by decide);have hu:_+64 < cLine:=hr.units;refine ⟨_,Zb (ZD (PW.pt (Jz (Z6 (ZK (Zc C1 hr (pa_cons (pv 1) pa_nil) Zm)))
     (Y9 (Z6 (ZK (Zc C2 hr (pa_cons (Zw (pv 0) rfl) (pa_cons (Zg Zq (by rfl) B.len Zno (pa_cons (pv 1) pa_nil)) pa_nil)) Zm)))))) (pss_one (ps_ret pe_bl)) pss_nil)
   (Zb (ZD (Zz (JB hu) (Zg Zad (by rfl) B.sorted Boot.«sorted» (pa_cons (Zw (pv 0) rfl) pa_nil))
     (Yc (ZdP rfl) (by rfl) B.list boot_list (pa_cons (Yc Zfy (by rfl) B.range boot_range (pa_cons (Zg Zq (by rfl) B.len Zno (pa_cons (pv 1) pa_nil)) pa_nil)) pa_nil)) (Zu _)) (pss_one (ps_ret pe_bl)) pss_nil)
   (Zb (Zl (i:=2) sc.nd rfl (Or.inl rfl) (Zc C3 hr1 (pa_cons (pv 1) (pa_cons (Zw (pv 0) rfl) pa_nil)) Zm))
   (pss_one (ps_ret (ZO (ZV (Zkd (K:=K) rfl hu) (pv 2) (Zg YW (by rfl) B.sorted Boot.«sorted» (pa_cons (pv 2) pa_nil)) (Zu _))
    (Z3 (Zc C4 hr1 (pa_cons (pv 2) pa_nil) Zm))))))),?_⟩
  try dsimp only [ZH,Cx.nox,Cx.wish]
  refine ⟨_,rfl,.ref a,rfl,hC.arg,hC.sz,fun b H1 x1 hb=>⟨_,rfl,?_⟩⟩;rw [hC.all hb];refine Z8 ?_;have hC1:=hC.ext x1;have hP1:=hP.ext x1;refine ⟨_,rfl,o,C,dx,_,.ref p,rfl,x1.ins ho,cl,na,rfl,_,rfl,a,_,rfl,.inl (SqL.of hC1.at_),_,_,rfl,hP1.arg,fun b2 H2 x2 hb2=>⟨_,rfl,?_⟩⟩;have e2:b2=decide (∀ i∈r,i < ws.length):=by
   rw [Y0.eq (.inl hP1.1) hb2,Zni];exact Zha
  have x12:=x1.trans x2;have no:∀ {H':Hp},Ext H H'→¬ ZaD ws r→Q (.bl false) H':=fun {H'} x z=>by
   have:=k H' x;rw [decide_eq_false z] at this;exact this
  by_cases hin:∀ i∈r,i < ws.length
  ·rw [e2,decide_eq_true hin];refine Z8 ?_;have hC2:=hC1.ext x2;have hP2:=hP1.ext x2;have ho2:=x12.ins ho;refine ⟨_,rfl,o,C,dx,_,.ref p,rfl,ho2,cl,na,rfl,p,r.map fun (i:Nat)=>(i:Int),rfl,by rw [←Zaf]; exact SqL.of hP2.1,fun l ms hl hperm hsort=>?_⟩;have x3:Ext H2 (upd H2 l (.lst (ms.map V.int))):=Ext.new hl;refine ⟨_,rfl,a,_,rfl,.inl (SqL.of (hC2.ext x3).at_),ws.length,by rw [Zni],fun q hq=>?_⟩;have x4:=x3.newer (o:=HO.rng 0 ws.length) hq;refine ⟨q,ws.length,rfl,Za,by have:=hC.few; omega,fun q2 hq2=>?_⟩;have x5:=x4.newer (o:=HO.lst ((ZnB ws.length).map fun (i:Nat)=>V.int (i:Int))) hq2;refine ⟨l,q2,ms,(ZnB ws.length).map fun (i:Nat)=>(i:Int),rfl,rfl,SqL.of (Zk (Zk Za hq) hq2),SqL.of (by rw [Za,Znr]; rfl),_,rfl,?_⟩;have e5:(ms=(ZnB ws.length).map fun (i:Nat)=>(i:Int))↔r.isPerm (ZnB ws.length)=true:=by
    by_cases h6:r.length < 64
    ·exact Zfd hperm (hsort (by rw [Zni]; exact h6))
    ·have h7:r.length≠ws.length:=hrl.resolve_left h6;constructor
     ·intro e;have:=congrArg Zoe e;rw [hperm.length_eq,Zni,Zni,Zod] at this;exact absurd this h7
     ·intro e;have:=(ZpD.mp e).length_eq;rw [Zod] at this;exact absurd this h7
   by_cases hpm:r.isPerm (ZnB ws.length)=true
   ·refine Zx (by rw [e5.mpr hpm]; simp) ?_;have x15:=x12.trans x5;have hC5:=hC2.ext x5;have hP5:=hP2.ext x5;refine ⟨_,rfl,_,rfl,o,C,dx,_,.ref p,rfl,x15.ins ho,cl,na,rfl,a,p,ws,r,rfl,hC5.code,hP5.places,hin,fun D H6 hD x6 hD6=>?_⟩;have len:r.length=ws.length:=by rw [(ZpD.mp hpm).length_eq,Zod]
    have az1:∀ x∈r.map (fun i=>ws.getD i []),∀ z∈x,z∈az:=fun x hx=>by
     obtain ⟨i,hi,rfl⟩:=Znm.mp hx;have hl:=hin i hi;have e:ws.getD i []=ws[i]:=by simp [hl]
     rw [e];exact ZcJ (hC.ok _ (by simp))
    refine ⟨_,rfl,_,rfl,D,_,rfl,SqL.of hD6,by rw [Zni]; omega,fun l2 us hl2 hpu hsu=>?_⟩;have x7:Ext H6 (upd H6 l2 (.lst (us.map sv))):=Ext.new hl2;refine ⟨D,l2,_,us,rfl,rfl,SqL.of (Zk hD6 hl2),SqL.of Za,az1,fun x hx=>az1 x (hpu.mem_iff.mp hx),_,rfl,?_⟩;have x17:=(x15.trans x6).trans x7;by_cases hri:Zib (r.map fun i=>ws.getD i [])
    ·rw [decide_eq_true ((Zcp hpu hsu).mpr hri)];refine Yi ⟨_,rfl,D,_,rfl,SqL.of (Zk hD6 hl2),fun H8 x8=>?_⟩;have:=k H8 (x17.trans x8);rw [show decide (ZaD ws r)=decide (YE (r.map fun i=>ws.getD i [])) from decide_eq_decide.mpr ⟨fun z=>z.2.2.2,fun z=>⟨hin,hpm,hri,z⟩⟩] at this;exact this
    ·rw [decide_eq_false (fun z=>hri ((Zcp hpu hsu).mp z))];exact Z8 (no x17 fun z=>hri z.2.2.1)
   ·refine ZI (by rw [if_pos rfl,Zn3,decide_eq_false_iff_not]; exact fun z=>hpm (e5.mp z)) (no (x12.trans x5) fun z=>hpm z.2.1)
  ·rw [e2,decide_eq_false hin];exact Yi (no x12 fun z=>hin z.1)
def Zgq:Sp:=fun vs H Q _=>∃ (f q s e:Nat),vs=[.int (f:Int),.int (q:Int),.int (s:Int),.int (e:Int)]∧1≤q∧q≤26∧Q (.int ((min (f * q ^ s) e:Nat):Int)) H
theorem Zi3 (D:Def K mg "spread" "spread" Pl.s_spread ["free","letters","steps","enough"]) (hmin:mg "min"=none):Cal P w K mg base CX0 1 "spread" ["free","letters","steps","enough"] Zgq:=by
 have sc:Zn ["free","letters","steps","enough"] ["free","letters","steps","enough"] (Zf Pl.s_spread):=scO;refine D.cal fun f fd F=>F.ok sc (fun vs H Q E h=>?_) (fun cdv A outer s H vs Q E hr h=>?_)
 ·obtain ⟨_,_,_,_,rfl,_⟩:=h;rfl
 ·obtain ⟨f,q,st,e,rfl,hq1,hq2,k⟩:=h;refine ⟨_,Zb (JQ PassesOwn.never (PW.pt (Zb4 (Zz Zke (pv 2) Ze (Zu _)) (Zb4 (Zz Zke (pv 1) Ze (Zu _)) (ZbP (Zz Zck (pv 0) (pv 3) (Zu _))))))
    (Zb (Zl (i:=0) sc.nd rfl (Or.inl rfl) (Zo Zkf (pv 0) (pv 1)))
    (pss_one (Zl (i:=2) sc.nd rfl (Or.inl rfl) (Zo Jh (pv 2) Ze)))))
   (pss_one (ps_ret (Zg (Zd7 rfl) (by rfl) hmin Boot.«min» (pa_cons (pv 0) (pa_cons (pv 3) pa_nil))))),?_⟩
  try dsimp only [ZH,Cx.nox,Cx.wish]
  refine ⟨fun m σ H2=>∃ fr:Nat,σ=[some (.int (fr:Int)),some (.int (q:Int)),some (.int (m:Int)),some (.int (e:Int))]∧H2=H∧min (fr * q ^ m) e=min (f * q ^ st) e,⟨st,f,rfl,rfl,rfl⟩,?_⟩;rintro m σ H2 ⟨fr,rfl,rfl,hm⟩;have fin:min fr e=min (f * q ^ st) e→tRet (tCB (fun xs H Q=>∃ i j,xs=[.int i,.int j]∧Q (.int (if j < i then j else i)) H) (Je (Zbc 0) (Je (Zbc 3) Zbw))) { nx:=fun _ H'=>Q .non H',rt:=Q } [some (.int (fr:Int)),some (.int (q:Int)),some (.int (m:Int)),some (.int (e:Int))] H2:=fun z=>by
   refine ⟨_,rfl,_,rfl,_,_,rfl,?_⟩;have:(if (e:Int) < (fr:Int) then (e:Int) else (fr:Int))=((min (f * q ^ st) e:Nat):Int):=by
    rw [←z];split <;> omega
   show Q (.int _) H2;rw [this];exact k
  refine ⟨_,rfl,_,_,rfl,rfl,_,rfl,?_⟩;by_cases h1:0 < m
  ·refine ZI (by rw [decide_eq_true_iff]; omega) ⟨_,rfl,_,_,rfl,rfl,_,rfl,?_⟩;by_cases h2:1 < q
   ·refine ZI (by rw [decide_eq_true_iff]; omega) ⟨_,rfl,_,rfl,_,_,rfl,rfl,_,rfl,?_⟩;by_cases h3:fr < e
    ·refine ZI (by rw [decide_eq_true_iff]; omega) ⟨fun σ H3=>σ=[some (.int ((fr * q:Nat):Int)),some (.int (q:Int)),some (.int ((m - 1:Nat):Int)),some (.int (e:Int))]∧H3=H2,?_,?_⟩
     ·rintro σ H3 ⟨rfl,rfl⟩;refine ⟨m - 1,by omega,fr * q,rfl,rfl,?_⟩;rw [←hm,Nat.mul_assoc,←Nat.pow_succ',show (m - 1).succ=m by omega]
     ·refine ⟨_,rfl,_,rfl,_,_,rfl,rfl,.inr ⟨by omega,by omega⟩,_,rfl,_,_,rfl,rfl,?_,rfl⟩;show [some (V.int ((fr:Int) * (q:Int))),_,some (V.int ((m:Int) - 1)),_]=_;rw [show ((m:Int) - 1)=((m - 1:Nat):Int) by omega,show ((fr:Int) * (q:Int))=((fr * q:Nat):Int) from (ZqZ ..).symm]
    ·refine Zx (by rw [decide_eq_true_iff]; omega) (fin ?_);rw [←hm];have:fr≤fr * q ^ m:=ZpF _ (Zrk (by omega));omega
   ·refine Zx (by rw [decide_eq_true_iff]; omega) (Z8 (fin ?_));have e1:q=1:=by omega
    rw [←hm,e1,Nat.one_pow,Nat.mul_one]
  ·refine Zx (by rw [decide_eq_true_iff]; omega) (Z8 (fin ?_));have e1:m=0:=by omega
   rw [←hm,e1,Nat.pow_zero,Nat.mul_one]
theorem Zj4 {ms:List Int}{ls:List Nat} (h:ms.Perm (ls.map fun (i:Nat)=>(i:Int))):∃ ns:List Nat,ms=ns.map (fun (i:Nat)=>(i:Int))∧ns.Perm ls:=by
 refine ⟨ms.map ZoY,?_,?_⟩
 ·rw [Znr];conv=>lhs; rw [←Zpv ms]
  refine ZnP fun z hz=>?_;obtain ⟨l,_,rfl⟩:=Znm.mp (h.mem_iff.mp hz);simp
 ·have:=h.map ZoY;rw [Znr] at this;have e:ls.map (ZoY ∘ fun (i:Nat)=>(i:Int))=ls:=by
   conv=>rhs; rw [←Zpv ls]
   exact ZnP fun l _=>by simp
  rw [e] at this;exact this
def ZkD (K:Znj):Sp:=fun vs H Q _=>∃ (q:Nat) (p:Addr) (ls:List Nat),vs=[.int (q:Int),.ref p]∧1≤q∧q≤26∧ZaH H p ls∧∀ H',Ext H H'→Q (.bl (decide (q ^ 101 < Zai q ls))) H'
theorem Zf9 (D:Def K mg "overfull" "overfull" Pl.s_overfull ["letters","lengths"]) (B:Yo mg) (C1:Cal P w K mg base CX0 1 "spread" ["free","letters","steps","enough"] Zgq):Cal P w K mg base CX0 2 "overfull" ["letters","lengths"] (ZkD K):=by
 have sc:Zn ["letters","lengths","free","depth","left","length"] ["letters","lengths"] (Zf Pl.s_overfull):=scO;refine D.cal fun f fd F=>F.ok sc (fun vs H Q E h=>?_) (fun cdv A outer s H vs Q E hr h=>?_)
 ·obtain ⟨_,_,_,rfl,_⟩:=h;rfl
 ·obtain ⟨q,p,ls,rfl,hq1,hq2,hp,k⟩:=h;refine ⟨_,Zb (Zl (i:=2) sc.nd rfl (Or.inl rfl) Ze)
   (Zb (Zl (i:=3) sc.nd rfl (Or.inl rfl) Ze)
   (Zb (Zl (i:=4) sc.nd rfl (Or.inl rfl) (Zg Zq (by rfl) B.len Zno (pa_cons (pv 1) pa_nil)))
   (Zb (Z9 PassesOwn.never rfl (ZF (Zg ZaB (by rfl) B.sorted Boot.«sorted» (pa_cons (pv 1) pa_nil))) (Zr (i:=5) sc.nd rfl (Or.inl rfl))
    (Zb (ZD (Zz Jt (pv 2) Ze (Zu _)) (pss_one (ps_ret pe_bl)) pss_nil)
    (Zb (Zl (i:=2) sc.nd rfl (Or.inl rfl) (Zo Jh (Zc C1 hr (pa_cons (pv 2) (pa_cons (pv 0) (pa_cons (Zo Jh (pv 5) (pv 3)) (pa_cons (pv 4) pa_nil)))) Zm) Ze))
    (Zb (Zl (i:=3) sc.nd rfl (Or.inl rfl) (pv 5))
    (pss_one (Zl (i:=4) sc.nd rfl (Or.inl rfl) (Zo Jh (pv 4) Ze)))))))
   (pss_one (ps_ret pe_bl))))),?_⟩
  try dsimp only [ZH,Cx.nox,Cx.wish]
  refine ⟨_,rfl,p,_,rfl,.inl (SqL.of hp.at_),?_⟩;refine ⟨_,rfl,p,ls.map fun (i:Nat)=>(i:Int),rfl,by rw [←Zaf]; exact SqL.of hp.at_,by rw [Zni]; have:=hp.few; omega,fun l ms hl hperm hsort=>⟨l,rfl,⟨_,SqL.of Za⟩,?_⟩⟩;obtain ⟨ns,rfl,hns⟩:=Zj4 hperm;have srt:ns.Pairwise (·≤·):=by
   rw [Zpg] at hsort;exact hsort.imp fun {a b} z=>by omega
  have x1:Ext H (upd H l (.lst ((ns.map fun (i:Nat)=>(i:Int)).map V.int))):=Ext.new hl;have nl:ns.length=ls.length:=hns.length_eq;have hn:∀ n∈ns,1≤n∧n≤101:=fun n hn=>⟨hp.pos n (hns.mem_iff.mp hn),hp.short n (hns.mem_iff.mp hn)⟩;have mall:Zai q ns=Zai q ls:=ZiN hns;rw [Zni];refine Yl (K:=K) (a:=l) (xs:=(ns.map fun (i:Nat)=>(i:Int)).map V.int) (fun j σ H2=>H2=upd H l (.lst ((ns.map fun (i:Nat)=>(i:Int)).map V.int))∧∃ (fr F d:Nat) (ln:Option V),σ=[some (.int (q:Int)),some (.ref p),some (.int (fr:Int)),some (.int (d:Int)),some (.int ((ns.length - j:Nat):Int)),ln]∧(j < ns.length→fr=min F (ns.length - j))∧d≤101∧(∀ n∈ns.drop j,d≤n)∧F * q ^ (101 - d)+Zai q (ns.take j)=q ^ 101)
   ⟨rfl,1,1,0,none,by rw [←nl]; rfl,fun z=>by omega,ZnH _,fun n _=>ZnH _,by simp [Zai]⟩ (fun j σ H2 _ h=>by rw [h.1]; exact SqL.of Za) ?_ ?_
  ·rintro j v σ H2 hv ⟨rfl,fr,F,d,ln,rfl,hfr,hd,hdn,hF⟩;rw [Znr,Znq] at hv;obtain ⟨n,hn',rfl⟩:=Option.map_eq_some_iff.mp hv;have hj:j < ns.length:=(Znw.mp hn').1;obtain ⟨n1,n2⟩:=hn n (ZnD hn');have ed:ns.drop j=n :: ns.drop (j+1):=by
    obtain ⟨h1,e⟩:=Znw.mp hn';rw [Zpk h1,e]
   have dn:d≤n:=hdn n (by rw [ed]; exact ZnF);have efr:=hfr hj;have take1:ns.take (j+1)=ns.take j++[n]:=YQ hn';refine ⟨_,rfl,rfl,_,rfl,?_⟩;by_cases h0:fr=0
   ·refine ZI (by rw [decide_eq_true_iff,h0]; rfl) ?_;have F0:F=0:=by omega
    have:=k _ x1;rw [decide_eq_true (show q ^ 101 < Zai q ls by
     rw [←mall,←Zoo (j+1) ns,Zdb,take1,Zdb,ZfS];rw [F0,Nat.zero_mul,ZoN] at hF;have:0 < q ^ (101 - n):=Zrk (by omega);omega)] at this
    exact this
   ·refine Zx (by rw [decide_eq_true_iff]; intro z; have:=V.int.inj z; omega) ?_;have el:ns.length - j=(ns.length - (j+1))+1:=by omega
    refine ⟨_,rfl,_,rfl,_,rfl,_,rfl,_,_,rfl,rfl,_,rfl,fr,q,n - d,ns.length - j,?_,hq1,hq2,_,_,rfl,rfl,?_⟩
    ·show [V.int (fr:Int),V.int (q:Int),V.int ((n:Int) - (d:Int)),V.int ((ns.length - j:Nat):Int)]=_;rw [show ((n:Int) - (d:Int))=((n - d:Nat):Int) by omega]
    have F1:1≤F:=by omega
    have pq:1≤q ^ (n - d):=Zrk (by omega);have Fq:F≤F * q ^ (n - d):=ZpF _ pq;refine ⟨_,rfl,_,rfl,_,_,rfl,rfl,rfl,min (fr * q ^ (n - d)) (ns.length - j) - 1,F * q ^ (n - d) - 1,n,some (.int (n:Int)),?_,fun z=>?_,n2,fun m hm=>?_,?_⟩
    ·show [_,_,some (V.int (((min (fr * q ^ (n - d)) (ns.length - j):Nat):Int) - 1)),some (V.int (n:Int)),some (V.int (((ns.length - j:Nat):Int) - 1)),_]=_;have frq:1≤fr * q ^ (n - d):=Nat.mul_pos (by omega) pq;rw [show (((min (fr * q ^ (n - d)) (ns.length - j):Nat):Int) - 1)=((min (fr * q ^ (n - d)) (ns.length - j) - 1:Nat):Int) by omega,show (((ns.length - j:Nat):Int) - 1)=((ns.length - (j+1):Nat):Int) by omega];rfl
    ·rcases Zq4 F (ns.length - j) with y | y
     ·rw [show fr=F by omega];omega
     ·have:ns.length - j≤fr * q ^ (n - d):=by
       have:fr=ns.length - j:=by omega
       rw [this];exact ZpF _ pq
      omega
    ·rw [ed] at hdn;have sd:(ns.drop j).Pairwise (·≤·):=srt.sublist (List.drop_sublist _ _);rw [ed] at sd;exact (ZpE.mp sd).1 m hm
    ·rw [take1,Zdb,ZfS,Nat.sub_mul,Nat.one_mul,Nat.mul_assoc,←Nat.pow_add,show n - d+(101 - n)=101 - d by omega];have:q ^ (101 - n)≤F * q ^ (101 - d):=Zog (Nat.pow_le_pow_right (by omega) (by omega)) (Nat.le_mul_of_pos_left _ F1);omega
  ·rintro σ H2 ⟨rfl,fr,F,d,ln,rfl,hfr,hd,hdn,hF⟩;rw [Zni,Zni,Zor,mall] at hF;have:=k _ x1;rw [decide_eq_false (show ¬ q ^ 101 < Zai q ls by omega)] at this;exact this
end
theorem ZkY {q:Nat} (h:q≤26):az.take q=(ZnB q).map fun k=>97+k:=by
 have e:az=(ZnB 26).map fun k=>97+k:=by decide
 rw [e,←ZqB,List.take_range,ZoH h]
theorem Zas {q c:Nat} (h:q≤26):c∈az.take q↔97≤c∧c < 97+q:=by
 rw [ZkY h,Znm];constructor
 ·rintro ⟨k,hk,rfl⟩;have:=Zoq.mp hk;omega
 ·intro ⟨h1,h2⟩;exact ⟨c - 97,Zoq.mpr (by omega),by omega⟩
theorem ZcW (a:W) (q:Nat):JU a none (some (q:Int))=a.take q:=by
 unfold JU;rw [HT.sIx_nat,HT.sIx_none,ZoW,Zq6];rcases Nat.le_total q a.length with h | h
 ·rw [ZoH h]
 ·rw [ZqQ h,Zor,Zok h]
structure Zft (H:Hp) (p:Addr) (us:List W):Prop where
 at_:H p=some (.lst (us.map sv))
 few:us.length≤63
 short:∀ x∈us,x.length≤1000
theorem Zft.ext {H H':Hp}{p:Addr}{us:List W} (h:Zft H p us) (x:Ext H H'):Zft H' p us:=⟨x.lst h.at_,h.few,h.short⟩
theorem Zft.arg {K:Znj}{H:Hp}{p:Addr}{us:List W} (h:Zft H p us):JG K H (.ref p):=by
 refine ⟨⟨_,.lst h.at_⟩,fun b xs e hr=>?_⟩;cases e;have:=hr.inj (.inl h.at_);subst this;refine ⟨by rw [Zni]; exact Zd (by have:=h.few; omega),fun y hy H' _=>?_⟩;obtain ⟨x,_,rfl⟩:=Znm.mp hy;exact ⟨_,.str _⟩
structure WS (q:Nat) (ls:List Nat) (us:List W):Prop where
 lens:us.map Zoe=ls
 ok:∀ x∈us,x≠[]∧Dg q x
 apart:∀ vs:List W,vs.Perm us→vs.Pairwise (·≤·)→YE vs
theorem ZaQ:∀ {a b:List W},a.Perm b→a.Pairwise (·≤·)→b.Pairwise (·≤·)→a=b
 | [],b,h,_,_=>(List.nil_perm.mp h).symm
 | x :: a,b,h,ha,hb=>by
  cases b with
  | nil=>exact absurd h.length_eq (by simp)
  | cons y b=>
   have pa:=ZpE.mp ha;have pb:=ZpE.mp hb;have e:x=y:=by
    have h1:x∈y :: b:=h.mem_iff.mp ZnF;have h2:y∈x :: a:=h.mem_iff.mpr ZnF;rcases Znz.mp h1 with z | z
    ·exact z
    ·rcases Znz.mp h2 with z' | z'
     ·exact z'.symm
     ·exact List.le_antisymm (pa.1 y z') (pb.1 x z)
   subst e;rw [ZaQ ((List.perm_cons x).mp h) pa.2 pb.2]
theorem Zl5 {q:Nat}{ls:List Nat}{us vs:List W} (hp:vs.Perm us) (hs:vs.Pairwise (·≤·)) (h1:us.map Zoe=ls) (h2:∀ x∈us,x≠[]∧Dg q x):WS q ls us↔YE vs:=
 ⟨fun h=>h.apart vs hp hs,fun h=>⟨h1,h2,fun v p s=>by rw [ZaQ (p.trans hp.symm) s hs]; exact h⟩⟩
theorem Zda {us:List W}{ls:List Nat}:(us.map fun x=>(x.length:Int))=(ls.map fun (i:Nat)=>(i:Int))↔us.map Zoe=ls:=by
 constructor
 ·intro h;have:=congrArg (List.map ZoY) h;rw [Znr,Znr] at this;have e1:us.map (ZoY ∘ fun x=>(x.length:Int))=us.map Zoe:=ZnP fun x _=>by simp
  have e2:ls.map (ZoY ∘ fun (i:Nat)=>(i:Int))=ls:=by
   conv=>rhs; rw [←Zpv ls]
   exact ZnP fun l _=>by simp
  rw [e1,e2] at this;exact this
 ·intro h;rw [←h,Znr];rfl
section
variable {P:Program}{w:World}{K:Znj}{mg:Str→Option Value}{base:Heap}
theorem Ze6 {X:Cx}{K:Znj}{σ:St}{H1:Hp}{Q:VK}{a:Addr}{us:List W}{j0:Option Nat}{jr:List (Option Nat)} (h:Zft H1 a us)
  (k:∀ D H',H1 D=none→Ext H1 H'→SqL K H' D ((us.map fun x=>(x.length:Int)).map V.int)→Q (.ref D) H'):
  J9 (Itl K a) (j0 :: jr) (JK 0) Zjk (tCB (fun xs H Q=>∃ z,xs=[.str z]∧z.length≤sizeLine∧Q (.int z.length) H) (Je (Zbc 0) Zbw)) σ H1 Q:=by
 refine ZS (SqL.of h.at_) (by rw [Zni]; exact Zd (by have:=h.few; omega)) (fun y=>match y with | .str z=>.int (z.length:Nat) | _=>.non) (fun y H' hy x1 Q' k'=>?_) (fun D H' hD x1 hD1=>k D H' hD x1 (SqL.of ?_))
 ·obtain ⟨x,hx,rfl⟩:=Znm.mp hy;have:=h.short x hx;exact ⟨_,rfl,st x,rfl,by rw [st_len]; exact Zd (by omega),k' _ H' (Ext.refl _) rfl⟩
 ·rw [hD1,Znr,Znr];rfl
def ZdH (C:Addr):Sp:=fun vs H Q _=>∃ (o dx l p:Addr) (q:Nat) (ls:List Nat) (us:List W),vs=[.ref o,.int (q:Int),.ref p]∧H o=some (.ins C dx [("words",.ref l)])∧Zft H l us∧ZaH H p ls∧1≤q∧q≤26∧∀ b H',Ext H H'→(b=true↔WS q ls us)→Q (.bl b) H'
theorem Zi2 {C f:Addr}{fd:FuncData} (F:Fun K "shows" "Words.shows" Pl.c_Words_shows f fd) (B:Yo mg) (L:∃ t,mg "LETTERS"=some (.str "abcdefghijklmnopqrstuvwxyz" t)) (cl:Cls K C) (na:ZG K C "words") (C1:Cal P w K mg base CX0 2 "is_count" ["letters"] (Zb5 K)) (C2:Cal P w K mg base CX0 2 "are_lengths" ["values"] (Zaw K))
  (C3:Cal P w K mg base CX0 2 "are_words" ["values","letters"] (Zbs K)) (C4:Cal P w K mg base CX0 1 "none_begins_next" ["words"] (Zbt K)):Ym P w K mg base CX0 5 f fd ["self","letters","lengths"] (ZdH C):=by
 have sc:Zn ["self","letters","lengths"] ["self","letters","lengths"] (Zf Pl.c_Words_shows):=scO;obtain ⟨tk,hL⟩:=L;refine F.ok sc (fun vs H Q E h=>?_) (fun cdv A outer s H vs Q E hr h=>?_)
 ·obtain ⟨_,_,_,_,_,_,_,rfl,_⟩:=h;rfl
 ·obtain ⟨o,dx,l,p,q,ls,us,rfl,ho,hl,hp,hq1,hq2,k⟩:=h;have hr1:ZR 1 _:=hr.mono (by decide);have hr2:ZR 2 _:=hr.mono (by decide);have hu:_+64 < cLine:=hr.units;have nd:(["word"]:List Str).Nodup:=by decide +kernel
  refine ⟨_,Zb (ZD (PW.pt (Jz (Z6 (ZK (Zc C1 hr2 (pa_cons (pv 1) pa_nil) Zm))) (Y9 (Z6 (ZK (Zc C2 hr2 (pa_cons (pv 2) pa_nil) Zm)))))) (pss_one (ps_ret pe_bl)) pss_nil)
   (Zb (ZD (Z6 (ZK (Zc C3 hr2 (pa_cons (Zw (pv 0) rfl) (pa_cons (ZM (r:=Zdx) Jy (Y8 (v:=sv az) (by rfl) hL ⟨tk,by rw [Zhx]⟩) ZY (ZN (pv 1))) pa_nil)) Zm))) (pss_one (ps_ret pe_bl)) pss_nil)
   (Zb (ZD (Zz (JB hu) (Z5 (N':=["word"]) (js:=[none]) (.of (by kernel_rfl)) rfl (ZF (Zw (pv 0) rfl)) fun C fp s₀ H₀=>⟨Zr (i:=0) nd rfl (Or.inl rfl),ZZ,Zg Zs (by rfl) B.len Zno (pa_cons (pv 0) pa_nil)⟩) (pv 2) (Zu _)) (pss_one (ps_ret pe_bl)) pss_nil)
   (pss_one (ps_ret (Zc C4 hr1 (pa_cons (Zg YW (by rfl) B.sorted Boot.«sorted» (pa_cons (Zw (pv 0) rfl) pa_nil)) pa_nil) Zm))))),?_⟩
  try dsimp only [ZH,Cx.nox,Cx.wish]
  have e1:ZbJ (.int (q:Int))=true:=by
   show (decide ((1:Int)≤(q:Int)) && decide ((q:Int)≤26))=true;rw [ZnA,decide_eq_true_iff,decide_eq_true_iff];omega
  have no:∀ {H':Hp},Ext H H'→¬ WS q ls us→Q (.bl false) H':=fun {H'} x z=>k false H' x ⟨fun e=>(nomatch e),fun e=>absurd e z⟩;refine ⟨_,rfl,_,rfl,⟨_,.int _⟩,_,rfl,?_⟩;rw [e1];refine Z8 ⟨_,rfl,_,rfl,hp.arg,fun b H1 x1 hb=>⟨_,rfl,?_⟩⟩;rw [hp.all hb];refine Z8 ?_;have hl1:=hl.ext x1;refine ⟨_,rfl,o,C,dx,_,.ref l,rfl,x1.ins ho,cl,na,rfl,_,rfl,(q:Int),rfl,az,rfl,Zd (by decide),?_⟩;rw [ZcW];refine ⟨.ref l,az.take q,rfl,hl1.arg,fun a xs e hr' x hx=>?_,fun b2 H2 x2 hb2=>⟨_,rfl,?_⟩⟩
  ·cases e;have:=hr'.inj (.inl hl1.at_);subst this;obtain ⟨y,hy,e⟩:=Znm.mp hx;cases e;rw [st_len];exact Zd (by have:=hl.short y hy; omega)
  have x12:=x1.trans x2;have eb2:b2=true↔∀ x∈us,x≠[]∧Dg q x:=by
   rw [hb2.eq (.inl hl1.at_),Zn1];constructor
   ·intro h x hx;have:=h (sv x) (Znm.mpr ⟨x,hx,rfl⟩);have:(decide (x≠[]) && x.all fun c=>(az.take q).contains c)=true:=this;rw [ZnA,decide_eq_true_iff,Zn1] at this;exact ⟨this.1,fun c hc=>(Zas hq2).mp (ZpM.mp (this.2 c hc))⟩
   ·intro h v hv;obtain ⟨x,hx,rfl⟩:=Znm.mp hv;show (decide (x≠[]) && x.all fun c=>(az.take q).contains c)=true;rw [ZnA,decide_eq_true_iff,Zn1];exact ⟨(h x hx).1,fun c hc=>ZpM.mpr ((Zas hq2).mpr ((h x hx).2 c hc))⟩
  by_cases h2:∀ x∈us,x≠[]∧Dg q x
  ·rw [eb2.mpr h2];refine Z8 ?_;have hl2:=hl1.ext x2;refine ⟨_,rfl,o,C,dx,_,.ref l,rfl,x12.ins ho,cl,na,rfl,l,rfl,⟨_,SqL.of hl2.at_⟩,?_⟩;refine Ze6 (X:=ZH CX0 P w K mg base ["self","letters","lengths"] "Words.shows" (Zf Pl.c_Words_shows) f cdv A outer s H E) (K:=K) hl2 fun D3 H3 hD3 x3 hD4=>?_;have x13:=x12.trans x3;refine ⟨_,rfl,D3,p,_,ls.map fun (i:Nat)=>(i:Int),rfl,rfl,hD4,by rw [←Zaf]; exact SqL.of (hp.ext x13).at_,_,rfl,?_⟩;by_cases h3:us.map Zoe=ls
   ·refine Zx (by rw [if_pos rfl,Zn3,decide_eq_false_iff_not]; exact fun z=>z (Zda.mpr h3)) ?_;have hl3:=hl2.ext x3;refine ⟨_,rfl,o,C,dx,_,.ref l,rfl,x13.ins ho,cl,na,rfl,l,us,rfl,SqL.of hl3.at_,by have:=hl.few; omega,fun D5 vs hD5 hperm hsort=>?_⟩;refine ⟨D5,vs,rfl,SqL.of Za,fun H6 x6=>k _ H6 ((x13.newer hD5).trans x6) ?_⟩;rw [decide_eq_true_iff];exact (Zl5 hperm hsort h3 h2).symm
   ·refine ZI (by rw [if_pos rfl,Zn3,decide_eq_false_iff_not]; exact fun z=>h3 (Zda.mp z)) (no x13 fun z=>h3 z.lens)
  ·have eb:b2=false:=by
    cases b2 with
    | false=>rfl
    | true=>exact absurd (eb2.mp rfl) h2
   rw [eb];exact Yi (no x12 fun z=>h2 z.ok)
def Zgp (C:Addr):Sp:=fun vs H Q _=>∃ (o p:Addr) (q:Nat) (ls:List Nat),vs=[.ref o,.int (q:Int),.ref p]∧ZaH H p ls∧1≤q∧q≤26∧∀ H',Ext H H'→Q (.bl (decide (q ^ 101 < Zai q ls))) H'
theorem Zi0 {C f:Addr}{fd:FuncData} (F:Fun K "shows" "Full.shows" Pl.c_Full_shows f fd) (C1:Cal P w K mg base CX0 2 "is_count" ["letters"] (Zb5 K)) (C2:Cal P w K mg base CX0 2 "are_lengths" ["values"] (Zaw K))
  (C3:Cal P w K mg base CX0 2 "overfull" ["letters","lengths"] (ZkD K)):Ym P w K mg base CX0 5 f fd ["self","letters","lengths"] (Zgp C):=by
 have sc:Zn ["self","letters","lengths"] ["self","letters","lengths"] (Zf Pl.c_Full_shows):=scO;refine F.ok sc (fun vs H Q E h=>?_) (fun cdv A outer s H vs Q E hr h=>?_)
 ·obtain ⟨_,_,_,_,rfl,_⟩:=h;rfl
 ·obtain ⟨o,p,q,ls,rfl,hp,hq1,hq2,k⟩:=h;have hr2:ZR 2 _:=hr.mono (by decide);refine ⟨_,pss_one (ps_ret (ZO (Zc C1 hr2 (pa_cons (pv 1) pa_nil) Zm) (ZO (Zc C2 hr2 (pa_cons (pv 2) pa_nil) Zm) (Z3 (Zc C3 hr2 (pa_cons (pv 1) (pa_cons (pv 2) pa_nil)) Zm))))),?_⟩;try dsimp only [ZH,Cx.nox,Cx.wish]
  have e1:ZbJ (.int (q:Int))=true:=by
   show (decide ((1:Int)≤(q:Int)) && decide ((q:Int)≤26))=true;rw [ZnA,decide_eq_true_iff,decide_eq_true_iff];omega
  refine ⟨_,rfl,_,rfl,⟨_,.int _⟩,_,rfl,?_⟩;rw [e1];refine Yi ⟨_,rfl,_,rfl,hp.arg,fun b H1 x1 hb=>⟨_,rfl,?_⟩⟩;rw [hp.all hb];refine Yi ?_;exact ⟨_,rfl,_,rfl,q,p,ls,rfl,hq1,hq2,hp.ext x1,fun H2 x2=>k H2 (x1.trans x2)⟩
end
def Jf (q:Nat) (ls:List Nat) (i:Nat):Nat:=(ls.map fun l=>if l≤i then q ^ (i - l) else 0).sum
theorem Zhp {q:Nat}{ls:List Nat} (h:∀ l∈ls,1≤l):Jf q ls 0=0:=by
 unfold Jf;induction ls with
 | nil=>rfl
 | cons l ls ih=>
  rw [ZnN,Zp1,ih fun m hm=>h m (ZnC _ hm),if_neg];have:=h l ZnF;omega
theorem ZdM (q:Nat) (ls:List Nat) (i:Nat):Jf q ls (i+1)=Jf q ls i * q+ls.count (i+1):=by
 unfold Jf;induction ls with
 | nil=>simp
 | cons l ls ih=>
  rw [ZnN,Zp1,ZnN,Zp1,ih,Zq0,Nat.add_mul];by_cases h:l≤i
  ·rw [if_pos (show l≤i+1 by omega),if_pos h,show i+1 - l=i - l+1 by omega,Nat.pow_succ,if_neg (by simp; omega)];omega
  ·by_cases h':l=i+1
   ·rw [if_pos (show l≤i+1 by omega),if_neg h,show i+1 - l=0 by omega,Nat.pow_zero,Nat.zero_mul,if_pos (by simp [h'])];omega
   ·rw [if_neg (show ¬ l≤i+1 by omega),if_neg h,if_neg (by simp; omega)];omega
theorem Zho {q:Nat}{ls:List Nat}{L:Nat} (hL:L≤101) (h:∀ l∈ls,l≤L):Zai q ls=Jf q ls L * q ^ (101 - L):=by
 unfold Jf Zai;induction ls with
 | nil=>simp
 | cons l ls ih=>
  have hl:=h l ZnF;rw [ZnN,Zp1,ZnN,Zp1,ih fun m hm=>h m (ZnC _ hm),Nat.add_mul,if_pos hl,←Nat.pow_add,show L - l+(101 - L)=101 - l by omega]
theorem Zkg {q:Nat} (hq:1≤q) {ls:List Nat}{L:Nat} (hL:L≤101) (h:∀ l∈ls,l≤L):q ^ 101 < Zai q ls↔q ^ L < Jf q ls L:=by
 rw [Zho hL h];have e:q ^ 101=q ^ L * q ^ (101 - L):=by rw [←Nat.pow_add,show L+(101 - L)=101 by omega]
 rw [e];exact Nat.mul_lt_mul_right (Zrk (by omega))
theorem Zlu {X:Cx}{K:Znj}{o e:Expr}{es:List Expr}{to:TE}{t:TA}{name:Str}{apos cpos:Pos}{T id:String}{r:V→List V→Hp→VK→Prop} (hK:X.K=K) (pa:PlainAttrs T) (slot:Slot T name id) (hty:typeOf (.builtin id)=pure (.type "method_descriptor")) (hm:MtR X id r) (ho:PE X o to) (ha:PA X (e :: es) t)
  (hbase:attributeBase o name X.env (eval o X.env)=eval o X.env:=by rfl)
  (hfew:((backTo cpos (starEach (e :: es) X.env)).all (fun x=>!x.1) && (backToKw cpos (keywordEach [] X.env)).all (fun x=>x.1.isSome)
   && decide ((e :: es).length+([]:List Keyword).length+(if ([]:List Keyword).isEmpty then 0 else 1) < 30))=true:=by rfl)
  (hline:(apos.endLine == cpos.line)=true:=by rfl) (hs:starEach (e :: es) X.env=(false,eval e X.env) :: starEach es X.env:=by rfl) (hplain:(backTo cpos (starEach es X.env)).any (·.1)=false:=by rfl):
  PE X (.Call (.Attribute o name apos) (e :: es) [] cpos) (tBM K T r to t):=by
 subst hK;exact Yx pa slot hty hm ho ha hbase hfew hline hs hplain
theorem ZdK (x t:W):decide (cut t 0 x.length=x)=x.isPrefixOf t:=by
 rw [ZnW,decide_eq_true_iff,Zax];constructor
 ·intro z;rw [z];simp
 ·intro z;obtain ⟨r,e⟩:=Zph.mp z;rw [←e];simp
section
variable {P:Program}{w:World}{K:Znj}{mg:Str→Option Value}{base:Heap}
def ZdB (K:Znj):Sp:=fun vs H Q _=>∃ (p:Addr) (us:List W),vs=[.ref p]∧SqL K H p (us.map sv)∧us.length≤1000∧(∀ x∈us,x.length≤10000)∧∀ b H',Ext H H'→(b=true↔¬ YE us)→Q (.bl b) H'
theorem ZiV (D:Def K mg "_law_beside" "_law_beside" Pl.s_law_beside ["_law_words"]) (B:Yo mg) (CS:Cal P w K mg base CX0 1 "_law_stands" ["_law_word","_law_text_here","_law_at"] Zal):Cal P w K mg base CX0 2 "_law_beside" ["_law_words"] (ZdB K):=by
 have sc:Zn ["_law_words","_law_at"] ["_law_words"] (Zf Pl.s_law_beside):=scO;refine D.cal fun f fd F=>F.ok sc (fun vs H Q E h=>?_) (fun cdv A outer s H vs Q E hr h=>?_)
 ·obtain ⟨_,_,rfl,_⟩:=h;rfl
 ·obtain ⟨p,us,rfl,hS,hl,hsh,k⟩:=h;refine ⟨_,Zb (Z9 PassesOwn.never rfl (Y3 (by rfl) B.range (pa_cons (Zo Jh (Zg Zq (by rfl) B.len Zno (pa_cons (pv 0) pa_nil)) Ze) pa_nil)) (Zr (i:=1) sc.nd rfl (Or.inl rfl))
    (pss_one (ZD (ZK (Zc CS hr (pa_cons (pe_ix (r:=YG K) ZB (pv 0) (pv 1) (fun _ _=>rfl)) (pa_cons (pe_ix (r:=YG K) ZB (pv 0) (Zo Z2 (pv 1) Ze) (fun _ _=>rfl)) (pa_cons Ze pa_nil))) Zm)) (pss_one (ps_ret pe_bl)) pss_nil)))
   (pss_one (ps_ret pe_bl)),?_⟩
  try dsimp only [ZH,Cx.nox,Cx.wish]
  have en:((((us.map sv).length:Nat):Int) - 1).toNat=us.length - 1:=by rw [Zni]; omega
  refine ⟨_,rfl,p,_,rfl,.inl hS,_,_,rfl,rfl,_,rfl,by omega,by rw [Zni]; omega,?_⟩;rw [en];refine Zae (fun i σ H2=>(∃ at_:Option V,σ=[some (.ref p),at_])∧H2=H∧∀ j,j < i→¬ (us.getD j []).isPrefixOf (us.getD (j+1) [])=true) ⟨⟨none,rfl⟩,rfl,fun j hj=>absurd hj (Zp7 _)⟩ ?_ ?_
  ·rintro i σ H2 hi ⟨⟨at_,rfl⟩,rfl,all⟩;have g:∀ n,n < us.length→atI (us.map sv) (n:Int)=some (sv (us.getD n [])):=fun n hn=>ZE (by rw [Znq]; simp [hn]);have sh:∀ n,n < us.length→(us.getD n []).length≤10000:=fun n hn=>hsh _ (by rw [Znv,Znp hn]; exact ZoD _);have e0:(0:Int)+(i:Int)=(i:Int):=by omega
   have s1:=sh i (by omega);have s2:=sh (i+1) (by omega);refine ⟨_,rfl,_,rfl,p,_,(i:Int),_,rfl,by rw [e0],hS,g i (by omega),?_⟩;refine ⟨_,rfl,_,rfl,_,_,rfl,rfl,p,_,((i+1:Nat):Int),_,rfl,by rw [e0]; rfl,hS,g (i+1) (by omega),?_⟩;refine ⟨us.getD i [],us.getD (i+1) [],0,rfl,s1,by omega,ZnH _,_,rfl,?_⟩;rw [ZdK];by_cases z:(us.getD i []).isPrefixOf (us.getD (i+1) [])=true
   ·rw [z];exact Yi (k true _ (Ext.refl _) ⟨fun _ h=>h i hi z,fun _=>rfl⟩)
   ·rw [eq_false_of_ne_true z];refine Z8 ⟨⟨_,rfl⟩,rfl,fun j hj=>?_⟩;by_cases e:j=i
    ·subst e; exact z
    ·exact all j (by omega)
  ·rintro σ H2 ⟨⟨at_,rfl⟩,rfl,all⟩;exact k false _ (Ext.refl _) ⟨fun z=>(nomatch z),fun z=>absurd (show YE us from all) z⟩
end
end L2
namespace L2
open PySem PySem.Spec PyProof.Rows Tw
structure Mk0 (K:Znj) (C:Addr):Prop where
 makes:Zpe K C=true
 init:Zn4 K (.ref C) "__init__"=some (some (.builtin "object.__init__"))
 kp:Zoj K (.ref C)=true
def tObj (C:Addr):TE:=fun σ H Q=>∀ x dx,H x=none→H dx=none→dx≠x→Q (.ref x) (upd (upd H dx (.own x)) x (.ins C dx []))
section
variable {X:Cx}{C:Addr}{x:Str}{p pos:Pos}
theorem Zms (M:Mk0 X.K C) (hg:Gl X x) (hm:X.mg x=some (.ref C)) (hdb:(x == ("__debug__":Str))=false:=by decide):PE X (.Call (.Name x p) [] [] pos) (tObj C):=by
 intro pins s σ H Q I h;refine wpAny_Call_Name_kw (ld_glob I hg hm ?_ hdb);have hq:=h (s.heap.objs.size+1) s.heap.objs.size (I.hok.fresh (Zpb _)) (I.hok.fresh (Znn _)) (ZnK (Zpp _));have I2:=Inv.made (C:=C) I;refine PySem.W.callWith_K0 I.kIn M.kp (wpAny_call (ZiM I.kIn M.makes M.init (fun self=>ZpG.of_pure (PySem.W.oi_bind self)) ?_));have Y:=ZqR (M:=model X.prog X.w) I.kIn M.makes;have e:((s.heap.push Zn6).push (Zoh C s.heap.objs.size)).get? (s.heap.objs.size+1)=some (Zoh C s.heap.objs.size):=by
  have:=Znu (s.heap.push Zn6) (o:=Zoh C s.heap.objs.size) rfl;rwa [ZoV] at this
 have typ:ZpG (model X.prog X.w) ((s.heap.push Zn6).push (Zoh C s.heap.objs.size)) (typeOf (.ref (s.heap.objs.size+1))) (.ref C):=(ZpG.ld e).andThen .now;have top:ZpG (model X.prog X.w) ((s.heap.push Zn6).push (Zoh C s.heap.objs.size)) (isInstance (.ref (s.heap.objs.size+1)) (.type "object")) true:=
  typ.andThen (Y.top.keeps fun b o q=>Znk (Zoh C s.heap.objs.size) (Znk Zn6 q))
 refine codeAny_call_builtin PySem.W.oi_plain PySem.W.entry_oi ?_;refine @PySem.W.check_slot (model X.prog X.w) _ _ _ "object.__init__" "object" "__init__" (.ref (s.heap.objs.size+1)) [] [] _ PySem.W.oi_kind PySem.W.oi_split top (PySem.W.oi_args _) ?_;rw [PySem.W.oi_run];exact wpAny_pure ⟨rfl,V.ref (s.heap.objs.size+1),_,I2,rfl,hq⟩
end
end L2
namespace L2
open PySem PySem.Spec PyProof.Rows Tw
seal PSs PS PE PT PW PA PG PGs PI PC
theorem Zna:Str.ofString "abcd"=st [97,98,99,100]:=by decide +kernel
theorem Zic {q:Nat} (h:q≤4):([97,98,99,100]:W).take q=az.take q:=by
 have:∀ q:Fin 5,([97,98,99,100]:W).take q.val=az.take q.val:=by decide
 exact this ⟨q,by omega⟩
theorem Zif {ys:List V}{us:List Nat}{m:Nat} (hu:∀ l∈us,1≤l∧l≤100) (hm:1≤m∧m≤100) (h:∀ y∈ys,y∈intsV us∨y=.int (m:Int)):∃ ls:List Nat,ys=intsV ls∧∀ l∈ls,1≤l∧l≤100:=by
 induction ys with
 | nil=>exact ⟨[],rfl,fun t ht=>nomatch ht⟩
 | cons y ys ih=>
  obtain ⟨ls,rfl,hl⟩:=ih fun z hz=>h z (ZnC _ hz);rcases h y ZnF with z | z
  ·obtain ⟨u,hu',rfl⟩:=Znm.mp z;refine ⟨u :: ls,rfl,fun t h=>?_⟩;rcases Znz.mp h with rfl | h
   ·exact hu _ hu'
   ·exact hl t h
  ·refine ⟨m :: ls,by rw [z]; rfl,fun t h=>?_⟩;rcases Znz.mp h with rfl | h
   ·exact hm
   ·exact hl t h
section
variable {P:Program}{w:World}{K:Znj}{mg:Str→Option Value}{base:Heap}{cW cF:Addr}
def Zgr:Sp:=fun vs H Q _=>∃ (a:Addr) (ws:List W) (c:Int),vs=[.ref a,.int c]∧ZW H a ws∧ws.length≤63∧(∀ x∈ws,x.length≤90)∧(ws.length=63→c / 3 % 3=0)∧∀ H',Ext H H'→Q (.bl true) H'
theorem Zds (D:Def K mg "_law_words_right" "_law_words_right" Pl.s_law_words_right ["_law_code_here","_law_cell"]) (B:Yo mg)
  (CB:Cal P w K mg base CX0 1 "_law_bent" ["_law_some","_law_cell","_law_more"] (ZdA K)) (CY:Cal P w K mg base CX0 1 "_law_says" ["_law_said","_law_due"] Zb7) (CE:Cal P w K mg base CX0 2 "_law_beside" ["_law_words"] (ZdB K))
  (OW:Kls P w K mg base "Words" cW ["words"] (Jd cW "words") ["letters","lengths"] (ZdH cW)) (OF:∃ f fd,Zia K cF "shows" f∧Ym P w K mg base CX0 5 f fd ["self","letters","lengths"] (Zgp cF)∧Jc K fd ["self","letters","lengths"] [])
  (clF:Cls K cF) (MF:Mk0 K cF) (tF:mg "Full"=some (.ref cF)) (n1:ZG K cW "words"):Cal P w K mg base CX0 6 "_law_words_right" ["_law_code_here","_law_cell"] Zgr:=by
 have sc:Zn ["_law_code_here","_law_cell","_law_lengths","_law_letters","_law_words","_law_due","_law_handed","_law_answer","_law_left","_law_full","_law_length"] ["_law_code_here","_law_cell"] (Zf Pl.s_law_words_right):=scO;obtain ⟨fW,fdW,mW,FW,bW⟩:=OW.sh;obtain ⟨fF,fdF,mF,FF,bF⟩:=OF;refine D.cal fun f fd F=>F.ok sc (fun vs H Q E h=>?_) (fun cdv A outer s H vs Q E hr h=>?_)
 ·obtain ⟨_,_,_,rfl,_⟩:=h;rfl
 ·obtain ⟨a,ws,c,rfl,hC,hwl,h90,h63,k⟩:=h;have hr1:ZR 1 _:=hr.mono (by decide);have hr2:ZR 2 _:=hr.mono (by decide);have hr3:ZR 3 _:=hr.mono (by decide);have hu64:_+64 < cLine:=hr.units;have nd1:(["_law_word"]:List Str).Nodup:=by decide +kernel
  have nd2:(["_law_word","_law_letters"]:List Str).Nodup:=by decide +kernel
  refine ⟨_,Zb (Zl (i:=2) sc.nd rfl (Or.inl rfl) (Zc CB hr1 (pa_cons (Z5 (N':=["_law_word"]) (js:=[none]) (.of (by kernel_rfl)) rfl (ZF (pv 0)) fun C fp s₀ H₀=>⟨Zr (i:=0) nd1 rfl (Or.inl rfl),ZZ,Zg Zs (by rfl) B.len Zno (pa_cons (pv 0) pa_nil)⟩)
     (pa_cons (Zo ZX (pv 1) Ze) (pa_cons (Zo Z2 Ze (Zo Yj (Zo ZX (pv 1) Ze) Ze)) pa_nil))) Zm))
   (Zb (Zl (i:=3) sc.nd rfl (Or.inr rfl) (Zo Z2 Ze (Zo Yj (pv 1) Ze)))
   (Zb (Zl (i:=4) sc.nd rfl (Or.inl rfl) (Zg YW (by rfl) B.sorted Boot.«sorted» (pa_cons (pv 0) pa_nil)))
   (Zb (Zl (i:=5) sc.nd rfl (Or.inl rfl) (ZV (ZhL hu64) (Z5 (N':=["_law_word"]) (js:=[none]) (.of (by kernel_rfl)) rfl (ZF (pv 0)) fun C fp s₀ H₀=>⟨Zr (i:=0) nd1 rfl (Or.inl rfl),ZZ,Zg Zs (by rfl) B.len Zno (pa_cons (pv 0) pa_nil)⟩) (pv 2) (Zu _)))
   (Zb (Zl (i:=5) sc.nd rfl (Or.inl rfl) (ZO (pv 5) (Z3 (Zg (YL rfl) (by rfl) B.all Boot.«all» (pa_cons
     (Z5 (N':=["_law_word","_law_letters"]) (js:=[none,some 3]) (.of (by kernel_rfl)) rfl (ZF (pv 0)) fun C fp s₀ H₀=>⟨Zr (i:=0) nd2 rfl (Or.inl rfl),ZZ,ZV Jt (Zlu (K:=K) rfl Zol PySem.F.slot_str_strip PySem.F.type_str_strip Zj2 (pv 0) (pa_cons (ZM (r:=Zdx) Jy ZQ ZY (ZN (pv 1))) pa_nil)) ZQ (Zu _)⟩) pa_nil)))))
   (Zb (Zl (i:=5) sc.nd rfl (Or.inl rfl) (ZO (pv 5) (Z3 (Zg9 (Zc CE hr2 (pa_cons (pv 4) pa_nil) Zm)))))
   (Zb (Zl (i:=6) sc.nd rfl (Or.inl rfl) (Yc Z4 (by rfl) B.list boot_list (pa_cons (pv 0) pa_nil)))
   (Zb (Zl (i:=7) sc.nd rfl (Or.inl rfl) (JP OW hr3 (pa_cons (pv 6) pa_nil)))
   (Zb (Yg (Yx ZnG ZnR ZnS Z7 (pv 6) (pa_cons ZQ pa_nil)))
   (Zb (ZD (PW.pt (Jz (Zz (ZhO (K:=K) rfl hu64) (Zw (pv 7) rfl) (pv 0) (Zu _)) (Y9 (Z6 (ZK (Zc CY hr1 (pa_cons (Jn (pv 7) OW.cls mW FW hr bW .nil Zm (pa_cons (pv 3) (pa_cons (pv 2) pa_nil))) (pa_cons (pv 5) pa_nil)) Zm)))))) (pss_one (ps_ret pe_bl)) pss_nil)
   (Zb (Zl (i:=8) sc.nd rfl (Or.inl rfl) Ze)
   (Zb (Zl (i:=9) sc.nd rfl (Or.inl rfl) pe_bl)
   (Zb (Z9 PassesOwn.never rfl (Zi9 (by rfl) B.range (pa_cons Ze (pa_cons (Zo Z2 (Zi7 (K:=K) rfl rfl B.max (pa_cons (pv 2) pa_nil) Ze) Ze) pa_nil))) (Zr (i:=10) sc.nd rfl (Or.inl rfl))
    (Zb (Zl (i:=8) sc.nd rfl (Or.inl rfl) (Zo Jh (Zo Zkf (pv 8) (pv 3)) (Yx ZnG PySem.F.slot_list_count PySem.F.type_list_count (Zj0 (K:=K) rfl) (pv 2) (pa_cons (pv 10) pa_nil))))
    (pss_one (Zl (i:=9) sc.nd rfl (Or.inl rfl) (Zm5 (pv 9) (Z3 (ZV Zck (pv 8) Ze (Zu _))))))))
   (pss_one (ps_ret (Zc CY hr1 (pa_cons (Jn (Zms MF (by rfl) tF) clF mF FF hr bF .nil Zm (pa_cons (pv 3) (pa_cons (pv 2) pa_nil))) (pa_cons (pv 9) pa_nil)) Zm))))))))))))))),?_⟩
  try dsimp only [ZH,Cx.nox,Cx.wish]
  have hcl:(ws.map sv).length≤sizeLine:=by rw [Zni]; exact Zd (by omega)
  have haz:∀ x∈ws,∀ z∈x,z∈az:=fun x hx=>ZcJ (hC.ok x hx);have hne:∀ x∈ws,x≠[]:=fun x hx=>by
   have h2:=(ZnA _ _ ▸ hC.ok x hx:_∧_).1;exact of_decide_eq_true h2
  have txc:∀ {H'},Ext H H'→Zft H' a ws:=fun {H'} x=>⟨x.lst hC.at_,by omega,fun y hy=>by have:=h90 y hy; omega⟩;obtain ⟨m9,em9,lm9⟩:=Jm (i:=c / 7) (k:=9) (by decide);obtain ⟨q0,eq0,lq0⟩:=Jm (i:=c) (k:=4) (by decide);refine hid fun uz ez=>?_;refine ⟨_,rfl,a,rfl,⟨_,SqL.of hC.at_⟩,?_⟩;refine Ze6 (X:=ZH CX0 P w K mg base ["_law_code_here","_law_cell","_law_lengths","_law_letters","_law_words","_law_due","_law_handed","_law_answer","_law_left","_law_full","_law_length"] "_law_words_right" (Zf Pl.s_law_words_right) f cdv A outer s H E) (K:=K) (txc (Ext.refl _)) fun D1 H1 hD1 x1 hD1'=>?_;refine ⟨_,rfl,_,_,rfl,rfl,⟨by decide,by decide⟩,_,rfl,_,_,rfl,rfl,⟨by decide,by decide⟩,_,_,rfl,rfl,by show (0:Int) < 9; decide,_,_,rfl,rfl,D1,_,_,_,rfl,hD1',by rw [Zni,Zni]; omega,fun p ys H2 hp x2 hp2 hys hyl hy3=>?_⟩;subst ez;refine hidn fun uz ez=>?_;have eL:(zV (ws.map fun x=>(x.length:Int)))=intsV (ws.map Zoe):=by rw [zV,intsV,Znr,Znr]; rfl
  dsimp only at hys;rw [em9,show (1:Int)+(m9:Int)=((1+m9:Nat):Int) by omega] at hys;obtain ⟨ls,rfl,hls⟩:=Zif (us:=ws.map Zoe) (m:=1+m9) (fun l hl=>by
   obtain ⟨x,hx,rfl⟩:=Znm.mp hl;have h1:=Zo1.mpr (hne x hx);have h2:=h90 x hx;omega) (by omega) (fun y hy=>by rw [←eL]; exact hys y hy)
  rw [Zni,Zni,Zni] at hyl hy3;have few:ls.length≤63:=by
   by_cases e:ws.length=63
   ·have:=hy3 (h63 e);omega
   ·omega
  have x12:=x1.trans x2;have lnp:∀ {H'},Ext H2 H'→ZaH H' p ls:=fun {H'} x=>⟨x.lst hp2,by omega,fun l hl=>(hls l hl).1,fun l hl=>by have:=(hls l hl).2; omega⟩;refine ⟨_,rfl,_,_,rfl,rfl,by show (0:Int) < 4; decide,_,_,rfl,rfl,?_⟩;dsimp only;rw [eq0,show (1:Int)+(q0:Int)=((1+q0:Nat):Int) by omega];subst ez;refine hidg fun uz ez=>?_;have hq1:1≤1+q0:=by omega
  have hq4:1+q0≤4:=by omega
  generalize 1+q0=q at hq1 hq4;have hq2:q≤26:=by omega
  refine ⟨_,rfl,a,ws,rfl,SqL.of (x12.lst hC.at_),by omega,fun D3 vs hD3 hperm hsort=>?_⟩;have x3:=Ext.new (o:=HO.lst (vs.map sv)) hD3;have e3:upd H2 D3 (.lst (vs.map sv)) D3=some (.lst (vs.map sv)):=Za;generalize upd H2 D3 (.lst (vs.map sv))=H3 at x3 e3;have x13:=x12.trans x3;have vl_:vs.length=ws.length:=hperm.length_eq;subst ez;refine hidn fun uz ez=>?_;refine ⟨_,rfl,a,rfl,⟨_,SqL.of (x13.lst hC.at_)⟩,?_⟩;refine Ze6 (X:=ZH CX0 P w K mg base ["_law_code_here","_law_cell","_law_lengths","_law_letters","_law_words","_law_due","_law_handed","_law_answer","_law_left","_law_full","_law_length"] "_law_words_right" (Zf Pl.s_law_words_right) f cdv A outer s H E) (K:=K) (txc x13) fun D4 H4 hD4 x4 hD4'=>?_;have x14:=x13.trans x4;have x24:=x3.trans x4;refine ⟨_,rfl,D4,p,_,ls.map fun (i:Nat)=>(i:Int),rfl,rfl,hD4',by rw [←Zaf]; exact SqL.of (lnp x24).at_,?_⟩;rw [if_neg ZnE];have b1_:decide ((ws.map fun x=>(x.length:Int))=ls.map fun (i:Nat)=>(i:Int))=decide (ws.map Zoe=ls):=decide_eq_decide.mpr Zda;rw [b1_];subst ez;apply ZbD (P:=fun σ H5=>∃ b,σ=[some (.ref a),some (.int c),some (.ref p),some (.int (q:Int)),some (.ref D3),some (.bl b),none,none,none,none,none]∧Ext H4 H5∧(b=true↔ws.map Zoe=ls∧∀ x∈ws,x≠[]∧Dg q x))
  case use=>
   intro R rest;refine ⟨_,rfl,_,rfl,?_⟩;by_cases h1:ws.map Zoe=ls
   ·refine ZI (decide_eq_true h1) ?_;refine ⟨_,rfl,a,rfl,⟨_,SqL.of (x14.lst hC.at_)⟩,ZS (SqL.of (x14.lst hC.at_)) hcl (fun y=>match y with | .str z=>.bl (decide (∀ c∈z.cps.toList,c∈az.take q)) | _=>.non) (fun y H' hy x5 Q' k'=>?_) (fun D5 H5 hD5 x5 hD6=>?_)⟩
    ·obtain ⟨tx,htx,rfl⟩:=Znm.mp hy;have:=h90 tx htx;refine ⟨_,rfl,rfl,_,rfl,(q:Int),rfl,[97,98,99,100],by rw [Zna],Zd (by decide),?_⟩;rw [ZcW,Zic hq4];refine ⟨tx,az.take q,rfl,rfl,Zd (by omega),fun c hc=>⟨rfl,k' _ H' (Ext.refl _) ?_⟩⟩;show V.bl (decide (sv c=V.str ""))=V.bl (decide (∀ c∈tx,c∈az.take q));rw [sE];congr 1;exact decide_eq_decide.mpr ⟨fun z=>hc.mp (st_inj (V.str.inj z)),fun z=>by rw [hc.mpr z]⟩
    refine ⟨D5,ws.map fun x=>decide (∀ c∈x,c∈az.take q),rfl,SqL.of (by rw [hD6,Znr,Znr]; rfl),gto (rest _ H5 ⟨_,rfl,x5,?_⟩)⟩;rw [Zn1];constructor
    ·intro h;refine ⟨h1,fun x hx=>?_⟩;have:=of_decide_eq_true (h _ (Znm.mpr ⟨x,hx,rfl⟩));exact ⟨hne x hx,fun c hc=>(Zas hq2).mp (this c hc)⟩
    ·intro h b hb;obtain ⟨x,hx,rfl⟩:=Znm.mp hb;exact decide_eq_true fun c hc=>(Zas hq2).mpr ((h.2 x hx).2 c hc)
   ·exact Zx (by rw [decide_eq_true_iff]; exact h1) (gto (rest _ H4 ⟨false,rfl,Ext.refl _,fun z=>(nomatch z),fun z=>absurd z.1 h1⟩))
  case rest=>
   rintro σ H5 ⟨b5,rfl,x5,hb5⟩;have x25:=x24.trans x5;have x15:=x14.trans x5;apply ZaX (P:=fun σ H6=>∃ b,σ=[some (.ref a),some (.int c),some (.ref p),some (.int (q:Int)),some (.ref D3),some (.bl b),none,none,none,none,none]∧Ext H5 H6∧(b=true↔WS q ls ws))
   case use=>
    intro R rest;refine ⟨_,rfl,b5,rfl,?_⟩;by_cases e5:b5=true
    ·obtain ⟨h1,h2⟩:=hb5.mp e5;refine ZI e5 ⟨_,rfl,D3,vs,rfl,SqL.of ((x4.trans x5).lst e3),by omega,fun x hx=>by have:=h90 x (hperm.mem_iff.mp hx); omega,fun b6 H6 x6 hb6=>⟨b6,rfl,gto (rest _ H6 ⟨_,rfl,x6,?_⟩)⟩⟩;rw [Zl5 hperm hsort h1 h2,Zn3,←ZpV,hb6];exact Classical.not_not
    ·exact Zx e5 (gto (rest _ H5 ⟨false,rfl,Ext.refl _,fun z=>(nomatch z),fun z=>absurd (hb5.mpr ⟨z.lens,z.ok⟩) e5⟩))
   case rest=>
    rintro σ H6 ⟨b6,rfl,x6,hb6⟩;have x16:=x15.trans x6;have x26:=x25.trans x6;refine hid fun uz ez=>?_;refine ⟨_,rfl,a,_,rfl,.inl (SqL.of (x16.lst hC.at_)),fun hd hhd=>?_⟩;have x7:=x16.newer (o:=HO.lst (ws.map sv)) hhd;have x27:=x26.newer (o:=HO.lst (ws.map sv)) hhd;have fhd:H2 hd=none:=x26.free hhd;have fhd0:H hd=none:=x16.free hhd;have e7:upd H6 hd (.lst (ws.map sv)) hd=some (.lst (ws.map sv)):=Za;generalize upd H6 hd (.lst (ws.map sv))=H7 at x7 x27 e7;subst ez;refine hidn fun uz ez=>?_;refine ⟨_,rfl,fun o dx no ndx ne=>⟨o,hd,dx,ws.map sv,rfl,Za,(YC no ndx ne).lst e7,by rw [Zni]; omega,Zbx _,fun l G8 nl' y8 hl8'=>⟨rfl,?_⟩⟩⟩;obtain ⟨x8,nl,ho8,hl8⟩:=JD (C:=cW) (fld:="words") no ndx ne nl' y8 hl8';generalize upd G8 o (.ins cW dx [("words",.ref l)])=H8 at x8 ho8 hl8;subst ez;refine hidn fun uz ez=>?_;have hd8:=x8.lst e7;refine ⟨_,rfl,.inl ⟨rfl,_,SqL.of hd8⟩,hd,_,_,rfl,rfl,hd8,ZC (by rw [Zni]; omega),?_⟩;have x9:Ext H (upd H8 hd (.lst (ws.map sv++[.str "a"]))):=(x7.trans x8).over fhd0;have x29:Ext H2 (upd H8 hd (.lst (ws.map sv++[.str "a"]))):=(x27.trans x8).over fhd;have ho9:upd H8 hd (.lst (ws.map sv++[.str "a"])) o=some (.ins cW dx [("words",.ref l)]):=upd_k ho8 (ne_of_none e7 no).symm;have hl9:upd H8 hd (.lst (ws.map sv++[.str "a"])) l=some (.lst (ws.map sv)):=upd_k hl8 (ne_of_none e7 nl).symm;generalize upd H8 hd (.lst (ws.map sv++[.str "a"]))=H9 at x9 x29 ho9 hl9;subst ez;refine hidn fun uz ez=>?_;refine ⟨_,rfl,o,cW,dx,_,.ref l,rfl,ho9,OW.cls,n1,rfl,_,rfl,l,a,ws,rfl,rfl,SqL.of hl9,SqL.of (x9.lst hC.at_),haz,_,rfl,Z8 ?_⟩;refine ⟨_,rfl,o,dx,_,rfl,ho9,rfl,_,rfl,_,rfl,o,dx,l,p,q,ls,ws,rfl,ho9,⟨hl9,by omega,fun y hy=>by have:=h90 y hy; omega⟩,lnp x29,hq1,hq2,fun b7 H10 x10 hb7=>⟨_,rfl,b7,b6,rfl,_,rfl,?_⟩⟩;have e67:b7=b6:=by rw [ZnW,hb7,hb6]
    subst e67;refine Zx (by simp) ?_;have x210:=x29.trans x10;subst ez;have hl:=lnp x210;have hlz:SqL K H10 p ((ls.map fun (n:Nat)=>(n:Int)).map V.int):=by rw [←Zaf]; exact SqL.of hl.at_
    obtain ⟨L,eLm,hall,hin⟩:=Zlj ls;have hLs:L≤101:=by
     rcases hin with z | z
     ·omega
     ·exact hl.short L z
    refine ⟨_,rfl,p,_,rfl,hlz,?_⟩;rw [eLm];refine ⟨_,_,rfl,rfl,_,_,rfl,⟨by decide,by omega,by omega,by omega⟩,?_⟩;rw [show ((L:Int)+1 - 1).toNat=L by omega];refine Zae (fun i σ H11=>(∃ ln:Option V,σ=[some (.ref a),some (.int c),some (.ref p),some (.int (q:Int)),some (.ref D3),some (.bl b7),some (.ref hd),some (.ref o),some (.int (((q ^ i:Nat):Int) - ((Jf q ls i:Nat):Int))),some (.bl (decide (q ^ i < Jf q ls i))),ln])∧H11=H10) ⟨⟨none,by rw [Zhp hl.pos]; rfl⟩,rfl⟩ ?_ ?_
    ·rintro i σ H11 hi ⟨⟨ln,rfl⟩,rfl⟩;rw [show (1+(i:Int))=((i+1:Nat):Int) by omega];have e1:(((q ^ i:Nat):Int) - ((Jf q ls i:Nat):Int)) * (q:Int) - ((ls.map fun (n:Nat)=>(n:Int)).count ((i+1:Nat):Int):Nat)=((q ^ (i+1):Nat):Int) - ((Jf q ls (i+1):Nat):Int):=by
      rw [Zin,ZdM,Int.natCast_add,ZqZ,Nat.pow_succ,ZqZ,Int.sub_mul];omega
     have st1:q ^ i < Jf q ls i→q ^ (i+1) < Jf q ls (i+1):=fun h=>by
      rw [ZdM,Nat.pow_succ];have:=Nat.mul_lt_mul_of_pos_right h (by omega:0 < q);omega
     refine ⟨_,rfl,_,rfl,_,_,rfl,rfl,.inr ⟨by omega,by omega⟩,_,rfl,.inl ⟨rfl,_,hlz⟩,_,rfl,p,_,_,rfl,rfl,hlz,_,_,rfl,rfl,?_⟩;dsimp only;rw [e1];refine ⟨_,rfl,_,rfl,?_⟩;by_cases hf:q ^ i < Jf q ls i
     ·refine ZI (decide_eq_true hf) ⟨⟨some (.int ((i+1:Nat):Int)),?_⟩,rfl⟩;rw [decide_eq_true (st1 hf)];rfl
     ·refine Zx (by rw [decide_eq_true_iff]; exact hf) ⟨_,rfl,_,_,rfl,rfl,⟨some (.int ((i+1:Nat):Int)),?_⟩,rfl⟩;have ed:decide ((((q ^ (i+1):Nat):Int) - ((Jf q ls (i+1):Nat):Int)) < 0)=decide (q ^ (i+1) < Jf q ls (i+1)):=decide_eq_decide.mpr (by omega);rw [←ed];rfl
    ·rintro σ H11 ⟨⟨ln,rfl⟩,rfl⟩;intro o2 dx2 ho2 hdx2 ne2;have hx2:upd H11 dx2 (.own o2) o2=none:=by rw [Zp ne2.symm]; exact ho2
     have y1:Ext H11 (upd (upd H11 dx2 (.own o2)) o2 (.ins cF dx2 [])):=(Ext.new hdx2).newer hx2;refine ⟨o2,dx2,_,rfl,Za,rfl,_,rfl,_,rfl,o2,p,q,ls,rfl,hl.ext y1,hq1,hq2,fun H12 x12'=>⟨_,rfl,_,_,rfl,?_⟩⟩;have ee:decide (q ^ 101 < Zai q ls)=decide (q ^ L < Jf q ls L):=decide_eq_decide.mpr (Zkg hq1 hLs hall);rw [decide_eq_true ee];exact k H12 ((x9.trans x10).trans (y1.trans x12'))
end
end L2
namespace L2
open PySem PySem.Spec PyProof.Rows
def Zm7 (K:Znj):R2:=fun x y H Q=>∃ (p q:Addr) (ns ms:List Int),x=.ref p∧y=.ref q∧SqT K H p (ns.map V.int)∧SqT K H q (ms.map V.int)∧Q (.bl (!decide (ns=ms))) H
theorem Zls {X:Cx} (hu:X.A.units+64 < cLine):OpR X (compareOp .NotEq) (Zm7 X.K):=by
 intro pins s σ H x y v u Q I rx ry h;obtain ⟨p,q,ns,ms,rfl,rfl,hp,hq,k⟩:=h;cases rx;cases ry;obtain ⟨its,r,pl,_⟩:=I.tuple hp;obtain ⟨its',r',pl',_⟩:=I.tuple hq;have shp:∀ l:List Int,SeqAt.shaped (.tuple (l.map PyData.int))=true:=fun l=>by simp [SeqAt.shaped,PyData.canLay0,PyData.depth,PySem.W.ke_canLayAll0,PySem.W.ke_depthAll]
 have hs:∀ l:List Int,Shape.has (.tuples .int) (.tuple (l.map PyData.int))=true:=fun l=>by simp [Shape.has]
 refine ne_dataH_same (reads_newDataT pl (Zrp (Yp r))) (reads_newDataT pl' (Zrp (Yp r'))) (shp ns) (shp ms) hu (SeqAt.noMix_of_shape (.tuples .int) rfl _ _ (hs ns) (hs ms)) ?_;have e:ZnJ.same (.tuple (ns.map PyData.int)) (.tuple (ms.map PyData.int))=decide (ns=ms):=by simp only [ZnJ.same]; exact PySem.W.ke_sameAll ns ms
 rw [e];exact ⟨.bl _,H,I,rfl,k⟩
section
variable {prog:Program}{w:World}{A:Around}{E:Value→Shared→Prop}{s:Shared}
theorem Zdy {l q:Addr}{n:Nat}{its:List Value}{R:List Value→Prop}{KeyIs:Nat→Value→Prop}{Q:Value→Shared→Prop} (hl:s.heap.IsList l its.toArray) (hv:IntsAre its ((ZnB n).map Zot)) (hz:its.length≤sizeLine)
  (turn:∀ (i:Nat) (t:Tok) (h:Heap) (tk:Nat),i < n→(∀ b o,s.heap.get? b=some o→h.get? b=some o)→
   wpAny (model prog w) A.in1.in1 (call (.ref q) [.int i t]) (fun v s'=>KeyIs i v∧∃ h' tk',s'={ s with heap:=h',toks:=tk' }∧∀ b o,h.get? b=some o→h'.get? b=some o) (fun _ _=>False) { s with heap:=h,toks:=tk })
  (srt:∀ keys vs:List Value,keys.length=n→vs.length=n→(∀ i k,keys[i]?=some k→KeyIs i k)→IntsAre vs ((ZnB n).map Zot)→Zfs keys vs R)
  (h:∀ D h' tk out c,s.heap.objs.size≤D→h'.get? D=some (seqObj "list" out c)→(∀ b o,s.heap.get? b=some o→h'.get? b=some o)→R out.toList→out.size=n→Q (.ref D) { s with heap:=h',toks:=tk }):
  wpAny (model prog w) A (call (.builtin "sorted") [.ref l] [(Str.ofString "key",.ref q)]) Q E s:=by
 have e1:its.length=n:=by
  have:=hv.length;rw [Zni,Zod] at this;exact this
 refine call_function_entry_kw kind_sorted plain_sorted entry_sorted (ksk_s1 _ _) (wpAny_bind (wpAny_pure ?_));refine wpAny_bind (collect_list hl ?_ (by simpa using hz));have hsz:((s.heap.push (seqObj "list" #[] 0)).update s.heap.objs.size (Obj.mapSeq (·++its.toArray))).objs.size=s.heap.objs.size+1:=by rw [ZqL,size_push']
 generalize eh:(s.heap.push (seqObj "list" #[] 0)).update s.heap.objs.size (Obj.mapSeq (·++its.toArray))=h1 at hsz;have keep:∀ b o,s.heap.get? b=some o→h1.get? b=some o:=fun b o z=>by
  rw [←eh];exact (Zn7 _ _ (Zpz (Znx z))).trans (Znk _ z)
 have oL:(h1.push (seqObj "list" its.toArray 0)).get? h1.objs.size=some (seqObj "list" its.toArray 0):=Znu _ rfl;have k1:∀ b o,s.heap.get? b=some o→b≠h1.objs.size∧(h1.push (seqObj "list" its.toArray 0)).get? b=some o:=fun b o e=>⟨ZnK (Znx (keep b o e)),Znk _ (keep b o e)⟩;refine wpAny_bind (wpAny_newList (wpAny_bind (wpAny_holding ?_)) (by simpa using hz));refine wpAny_call_entry_kw (s:={ s with heap:=h1.push (seqObj "list" its.toArray 0),toks:=s.toks }) slot_list_sort ⟨_,oL,rfl⟩ entry_list_sort ?_ (ksk_l1 _ _);refine ZhW (R:=R) (KeyIs:=KeyIs) oL hz (fun i x h2 tk2 ex k2=>?_) (fun keys l1 l2=>srt keys its (by rw [l1,e1]) e1 l2 hv) fun h2 tk2 out c o2 k2 r2 z2=>⟨_,rfl,?_⟩
 ·obtain ⟨lt,t,rfl⟩:=ZhD hv ex;exact turn i t h2 tk2 lt fun b o e=>k2 b o (k1 b o e).1 (k1 b o e).2
 ·exact wpAny_pure ⟨_,rfl,h _ h2 tk2 out c (by show s.heap.objs.size≤h1.objs.size; omega) o2 (fun b o e=>k2 b o (k1 b o e).1 (k1 b o e).2) r2 (by rw [z2,e1])⟩
end
def ZlL (K:Znj) (P:Addr) (pos:Pos) (qual:Str) (i:Nat) (te:TE):TE:=fun σ H Q=>Je te Zbw σ H fun us H1=>∃ (r l:Addr) (xs:List V) (T:List Nat→Prop),us=[.ref r]∧SqL K H1 r ((ZnB xs.length).map fun (m:Nat)=>V.int (m:Int))∧σ[i]?=some (some (.ref l))∧SqL K H1 l xs∧xs.length < 64∧Srt xs T∧Pk P pos qual H1∧
 ∀ (D:Addr) (ms:List Nat) (H2:Hp),Zaz P H1 H2→Pk P pos qual H2→D≠P→H1 D=none→H2 D=some (.lst (ms.map fun (m:Nat)=>V.int (m:Int)))→T ms→Q (.ref D) H2
theorem Zj5 {n:Nat}{its:List Value} (h:ZA ((ZnB n).map fun (m:Nat)=>V.int (m:Int)) its):IntsAre its ((ZnB n).map Zot):=by
 have e:((ZnB n).map fun (m:Nat)=>V.int (m:Int))=((ZnB n).map Zot).map V.int:=by rw [Znr]; rfl
 rw [e] at h;exact Yp h
section
variable {X:Cx}{e:Expr}{te:TE}{p p4 p5 p6 pos lpos kp:Pos}{v y:Str}{params:Arguments}{lsc:Scope}{i:Nat}{c c0 P:Addr}
theorem Zi8 (hr:ZR 0 X.A) (hms:X.mg "sorted"=none) (he:PE X e te) (hi:X.N[i]?=some v) (hvc:X.env.kindOf v=some .cell) (hc0:X.env.cells.lookup v=some c0) (hcl:PySem.closureFor lsc X.env=pure [(v,c0)])
  (hcode:X.env.code=.ref c) (C:Zo4 X.base c P) (B:BM X.mg X.base)
  (s1:lsc.kind=.function) (s2:lsc.isCoroutine=false) (s3:lsc.isGenerator=false) (s4:lsc.names.lookup y=some .local) (s5:lsc.names.lookup v=some .free) (s6:∀ z∈lsc.names,z.2≠.cell)
  (hb:∀ (qual:Str) (bd:Expr) (sc:Scope) (cl:List (Str × Addr)) (pm cdv ct u:Value),bindArgs (Zrh "<lambda>" qual params bd sc cl pm cdv ct) ⟨[u],[]⟩=pure [(y,u)]) (hdf:defaultsOf params X.env=([],[]))
  (hd1:(v == ("__debug__":Str))=false) (hd2:(y == ("__debug__":Str))=false) (hd3:(v == ("__classdict__":Str))=false)
  (hgs:Gl X "sorted":=by rfl) (hs2:starEach [e] X.env=[(false,eval e X.env)]:=by rfl)
 :PE X (.Call (.Name "sorted" p) [e] [⟨some "key",.Lambda params (.Subscript (.Name v p4) (.Name y p5) p6) lsc lpos,kp⟩] pos) (ZlL X.K P lpos (X.env.qual++"<lambda>") i te):=by
 intro pins s σ H Q I h;refine wpAny_Call_Name_kw (ld_blt I hgs hms boot_sorted ?_);refine PyProof.Rows.callWith_kw (thn ((pa_cons he pa_nil hs2) pos pins s σ H _ I h) fun us s1' qz=>?_) (by rw [hs2]; rfl) (by rw [hs2]; rfl) rfl rfl;obtain ⟨xs',H1,I1,r1,r,l,xs,T,e1,hr1,hσ,hq,h64,hT,pk,k⟩:=qz;subst e1;obtain ⟨u,rfl,ru⟩:=YJ r1;cases ru;obtain ⟨bm,bo,b1,b2,b3,b4,b5,b6⟩:=B;have glob:=I1.mod.glob.keeps I1.bk;obtain ⟨ps,hPs⟩:=pk.at;have apart:∀ b o,X.base.get? b=some o→b≠P:=fun b o z w=>by
  have:=(I1.bs b o z).2;rw [w,hPs] at this;cases this
 have gP:mainGlobals≠P:=by
  obtain ⟨o,_,_,z,_⟩:=I1.mod.glob;exact apart _ _ z
 have bG:bm≠mainGlobals:=fun z=>by
  obtain ⟨o,es,ep,w,d,_⟩:=I1.mod.glob;rw [z,w] at b3;cases b3;rw [d] at b6;cases b6
 have hB:s1'.heap.BuiltinsAt X.mg P:=⟨bm,bo,b1,b2,bG,apart _ _ b3,I1.bk _ _ b3,b4,b5,b6⟩;have hgl:X.env.globals=mainGlobals:=I1.ok.glob;have after:∀ (H2:Hp) (s2':Shared) (f cc:Addr) (ctv:Value),Inv X pins σ H2 s2'→Zaz P H1 H2→Pk P lpos (X.env.qual++"<lambda>") H2→H2 cc=some (Zd0 cc (X.env.qual++"<lambda>"))→
   s2'.heap.get? f=some (ZpI "<lambda>" (X.env.qual++"<lambda>") params (.Subscript (.Name v p4) (.Name y p5) p6) lsc [(v,c0)] ((X.mg "__name__").getD .none) cc ctv)→
   wpAny (model X.prog X.w) X.A (call (.builtin "sorted") [.ref r] [(Str.ofString "key",.ref f)]) (EP X pins σ Q) X.xe s2':=by
  intro H2 s2' f cc ctv I2 kp2 pk2 hcc hf;obtain ⟨ps2,hPs2⟩:=pk2.at;obtain ⟨its0,rv0,pl0,hz0⟩:=I2.list (kp2.seq pk hr1);have hq2:=kp2.seq pk hq;obtain ⟨its,rv,pl,hz⟩:=I2.list hq2;obtain ⟨m,hn,hlk⟩:=I2.loc;obtain ⟨u,ru,lk⟩:=hlk i v (.ref l) hi hσ (.inr (.inl hvc));cases ru;have cell:s2'.heap.IsCell c0 (some (.ref l)):=by
   rcases lk with ⟨z,_⟩ | ⟨_,c1,z,w⟩
   ·rw [hvc] at z;cases z
   ·rw [hc0] at z;cases z;exact w
  have cd:s2'.heap.CodeRec (.ref cc) (X.env.qual++"<lambda>"):=(I2.hok cc _ hcc).1;have len:=rv.length;have len0:=rv0.length;refine Zdy (n:=xs.length) (R:=fun out=>∃ ms:List Nat,IntsAre out (ms.map Zot)∧T ms) (KeyIs:=fun i w=>∃ x,xs[i]?=some x∧RelV x w) pl0.isList (Zj5 rv0) (by omega) (fun j t h3 tk3 lt k3=>?_) (fun keys vs l1 l2 q1 q2=>hT keys vs ?_ l2 q2) fun D h3 tk3 out cn le o3 k3 ⟨ms,m1,m2⟩ z3=>?_
  ·obtain ⟨x,ex⟩:∃ x,xs[j]?=some x:=⟨_,Znp lt⟩;obtain ⟨w,ew,rw'⟩:=rv.get ex;refine Zfx (x:=w) (its:=its.toArray) (i:=j) (KeyIs:=fun i w=>∃ x,xs[i]?=some x∧RelV x w) ?_ (I2.nolimit.keeps k3) (k3 _ _ hf) (cd.keeps k3) (cell.keeps k3) ?_ (by omega) (by simpa using ew) ⟨x,ex,rw'⟩ s1 s2 s3 s4 s5 s6 hb hd1 hd2 hd3
   ·have:=hr.dp;show X.A.depth < _;omega
   ·obtain ⟨o,z,w⟩:=pl.isList;exact ⟨o,k3 _ _ z,w⟩
  ·exact Zby (by omega) fun j x kx e2 e3=>by
    obtain ⟨x',e4,e5⟩:=q1 j kx e3;rw [e2] at e4;cases e4;exact e5
  ·have fr:H2 D=none:=I2.hok.fresh le;have dP:D≠P:=fun z=>by rw [z,hPs2] at fr; cases fr
   refine ⟨.ref D,_,I2.laid (o:=.lst (ms.map fun (m:Nat)=>V.int (m:Int))) k3 le ⟨?_,out.toList,cn,Zam m1,by simpa using o3⟩,rfl,k D ms _ (fun b o hb z=>?_) ?_ dP ?_ Za m2⟩
   ·have l3:=(Zam m1).length.trans (Zn8.trans z3);rw [l3];exact hz
   ·rw [Zp (ne_of_none (kp2 b o hb z) fr)];exact kp2 b o hb z
   ·exact pk2.same fun b o z=>by rw [Zp (ne_of_none z fr)]; exact z
   ·exact kp2.free dP fr
 refine PyProof.Rows.kws_cons (PySem.W.kla_eval hdf ?_);rcases pk with hP | ⟨cc,hP,hcc⟩
 ·refine Zqx (ps:=#[]) hcl hgl glob hcode (C.keeps I1.bk) (I1.hok P _ hP) trivial rfl gP hB fun cc ctv h' tk hx hge hlt hrec htb=>PyProof.Rows.kws_nil ?_;have push:∀ b o,h'.get? b=some o→(h'.push (ZpI "<lambda>" (X.env.qual++"<lambda>") params (.Subscript (.Name v p4) (.Name y p5) p6) lsc [(v,c0)] ((X.mg "__name__").getD .none) cc ctv)).get? b=some o:=fun b o z=>Znk _ z;have fc:H1 cc=none:=I1.hok.fresh hge;have cP:cc≠P:=fun z=>by rw [z,hP] at fc; cases fc
  have I2:=I1.coded (tk:=tk) hP (fun b o hb z=>push b o (hx b o hb z)) hge (hrec.keeps push) (push _ _ htb);refine after _ _ _ cc ctv I2 (fun b o hb z=>?_) (.inr ⟨cc,?_,Za⟩) Za (Znu _ rfl)
  ·rw [Zp (ne_of_none z fc),Zp hb];exact z
  ·rw [Zp (Ne.symm cP),Za];rfl
 ·refine Zqa (cv:=.ref cc) (ps:=#[rawInt lpos.line,rawInt lpos.col,.ref cc]) hcl hgl glob hcode (C.keeps I1.bk) (I1.hok P _ hP) trivial ?_ hB fun ctv h' tk hk hsz=>PyProof.Rows.kws_nil ?_
  ·simp [codeAmong,rawInt]
  ·exact after H1 _ _ cc ctv (I1.kept (t':=tk) fun b o z=>Znk _ (hk b o z)) .refl (.inr ⟨cc,hP,hcc⟩) hcc (Znu _ rfl)
end
end L2
namespace L2
open PySem PySem.Spec PyProof.Rows Tw
seal PSs PS PE PT PW PA PG PGs PI PC
abbrev PkM (P:Addr) (H:Hp):Prop:=Pk P Pl.lamPos2 Pl.lamQual2 H
def Kp (T:Addr) (H H':Hp):Prop:=∀ b o,b≠T→(∀ kvs,o≠.dK kvs)→H b=some o→H' b=some o
theorem Ext.toKp {T:Addr}{H H':Hp} (x:Ext H H'):Kp T H H':=fun b o _ hn h=>x.keep h hn
theorem Kp.trans {T:Addr}{H H1 H2:Hp} (x:Kp T H H1) (y:Kp T H1 H2):Kp T H H2:=fun b o hb hn h=>y b o hb hn (x b o hb hn h)
theorem PkM.ext {P:Addr}{H H1:Hp} (p:PkM P H) (x:Ext H H1):PkM P H1:=by
 rcases p with p | ⟨c,p,q⟩
 ·exact .inl (x.keep p fun _ z=>nomatch z)
 ·exact .inr ⟨c,x.keep p (fun _ z=>nomatch z),x.keep q (fun _ z=>nomatch z)⟩
theorem Kp.lst {T b:Addr}{H H':Hp}{xs:List V} (x:Kp T H H') (p:PkM T H) (h:H b=some (.lst xs)):H' b=some (.lst xs):=by
 obtain ⟨ps,q⟩:=p.at;exact x b _ (Ye h q fun z=>nomatch z) (fun _ z=>nomatch z) h
section
variable {P:Program}{w:World}{K:Znj}{mg:Str→Option Value}{base:Heap}{C f T:Addr}{fd:FuncData}{cB cA:Addr}
def Zer:Sp:=fun vs H Q _=>∃ i:Int,vs=[.int i]∧Q (.int i) H
theorem Zg2 (D:Def K mg "copied" "copied" Pl.s_copied ["value"]) (B:Yo mg):Cal P w K mg base CX0 1 "copied" ["value"] Zer:=by
 have sc:Zn ["value","told","waiting","members","place"] ["value"] (Zf Pl.s_copied):=scO;refine D.cal fun f fd F=>F.ok sc (fun vs H Q E h=>?_) (fun cdv A outer s H vs Q E hr h=>?_)
 ·obtain ⟨_,rfl,_⟩:=h;rfl
 ·obtain ⟨i,rfl,k⟩:=h;refine ⟨_,Zb (ZD (Z6 (ZK (Yz B (pv 0)))) (pss_one (ps_ret (pv 0))) pss_nil)
   (Zb (Zl (i:=1) sc.nd rfl (Or.inl rfl) (Yc Z4 (by rfl) B.list boot_list (pa_cons (pv 0) pa_nil)))
   (Zb (Zl (i:=2) sc.nd rfl (Or.inl rfl) (Yd (pa_cons (pv 1) pa_nil)))
   (Zb (JQ PassesOwn.never (Zgg (pv 2) (fun _=>rfl))
    (Zb (Zl (i:=3) sc.nd rfl (Or.inl rfl) (Zg7 ZnG Zq7 Zq8 Zj1 (pv 2)))
    (pss_one (Z9 PassesOwn.never rfl (Y3 (by rfl) B.range (pa_cons (Zg Zq (by rfl) B.len Zno (pa_cons (pv 3) pa_nil)) pa_nil)) (Zr (i:=4) sc.nd rfl (Or.inl rfl))
     (pss_one (ZD (ZK (Yz B (pe_ix (r:=YG K) ZB (pv 3) (pv 4) (fun _ _=>rfl)))) Zem pss_nil))))))
   (pss_one (ps_ret (pv 1)))))),?_⟩
  try dsimp only [ZH,Cx.nox,Cx.wish]
  exact ⟨_,rfl,_,_,_,_,rfl,trivial,.int _,ZhK K,_,rfl,ZI (by decide) ⟨_,rfl,k⟩⟩
def Zhj (C:Addr):Sp:=fun vs H Q _=>∃ (o dx:Addr) (i j:Int),vs=[.ref o,.int i,.int j]∧H o=some (.ins C dx [])∧Q .non (upd H o (.ins C dx [("one",.int i),("other",.int j)]))
theorem ZgH (F:Fun K "__init__" "Begins.__init__" Pl.c_Begins_init f fd) (cl:Cls K C) (na:ZG K C "one") (nb:ZG K C "other") (CC:Cal P w K mg base CX0 1 "copied" ["value"] Zer):Ym P w K mg base CX0 2 f fd ["self","one","other"] (Zhj C):=by
 have sc:Zn ["self","one","other"] ["self","one","other"] (Zf Pl.c_Begins_init):=scO;refine F.ok sc (fun vs H Q E h=>?_) (fun cdv A outer s H vs Q E hr h=>?_)
 ·obtain ⟨_,_,_,_,rfl,_⟩:=h;rfl
 ·obtain ⟨o,dx,i,j,rfl,ho,k⟩:=h;refine ⟨_,Zb (Jk (pv 0) (Zc CC hr (pa_cons (pv 1) pa_nil) Zm) rfl) (pss_one (Jk (pv 0) (Zc CC hr (pa_cons (pv 2) pa_nil) Zm) rfl)),?_⟩;try dsimp only [ZH,Cx.nox,Cx.wish]
  refine ⟨_,rfl,i,rfl,_,rfl,o,C,dx,[],rfl,ho,cl,na,by decide,_,rfl,j,rfl,_,rfl,o,C,dx,_,rfl,Za,cl,nb,(by show 1 < 1000; decide),?_⟩;rw [Jp];exact k
theorem Zcg (n:Nat) (i:Int):ZU (n:Int) (.int i)=decide (0≤i∧i < (n:Int)):=by
 rw [ZnW];simp [ZU]
def Zfm (C:Addr):Sp:=fun vs H Q _=>∃ (o a dx:Addr) (ws:List W) (i j:Int),vs=[.ref o,.ref a]∧H o=some (.ins C dx [("one",.int i),("other",.int j)])∧ZW H a ws∧∀ b H',Ext H H'→(b=true↔BgZ ws i j)→Q (.bl b) H'
theorem Zj9 (F:Fun K "shows" "Begins.shows" Pl.c_Begins_shows f fd) (B:Yo mg) (cl:Cls K C) (na:ZG K C "one") (nb:ZG K C "other") (C1:Cal P w K mg base CX0 3 "is_code" ["value"] (Jv K))
  (C2:Cal P w K mg base CX0 2 "is_place" ["value","count"] (Zb6 K)):Ym P w K mg base CX0 4 f fd ["self","code"] (Zfm C):=by
 have sc:Zn ["self","code"] ["self","code"] (Zf Pl.c_Begins_shows):=scO;refine F.ok sc (fun vs H Q E h=>?_) (fun cdv A outer s H vs Q E hr h=>?_)
 ·obtain ⟨_,_,_,_,_,_,rfl,_⟩:=h;rfl
 ·obtain ⟨o,a,dx,ws,i,j,rfl,ho,hC,k⟩:=h;have hr2:ZR 2 _:=hr.mono (by decide);refine ⟨_,Zb (ZD (Z6 (ZK (Zc C1 hr (pa_cons (pv 1) pa_nil) Zm))) (pss_one (ps_ret pe_bl)) pss_nil)
   (Zb (ZD (PW.pt (Jz (Z6 (ZK (Zc C2 hr2 (pa_cons (Zw (pv 0) rfl) (pa_cons (Zg Zq (by rfl) B.len Zno (pa_cons (pv 1) pa_nil)) pa_nil)) Zm)))
     (Y9 (Z6 (ZK (Zc C2 hr2 (pa_cons (Zw (pv 0) rfl) (pa_cons (Zg Zq (by rfl) B.len Zno (pa_cons (pv 1) pa_nil)) pa_nil)) Zm)))))) (pss_one (ps_ret pe_bl)) pss_nil)
   (pss_one (ps_ret (ZO (ZV Zcl (Zw (pv 0) rfl) (Zw (pv 0) rfl) (Zu _))
    (Z3 (Yx Zol Zpc Zpd mt_starts (pe_ix (r:=YG K) ZB (pv 1) (Zw (pv 0) rfl) (fun _ _=>rfl)) (pa_cons (pe_ix (r:=YG K) ZB (pv 1) (Zw (pv 0) rfl) (fun _ _=>rfl)) pa_nil))))))),?_⟩
  try dsimp only [ZH,Cx.nox,Cx.wish]
  refine ⟨_,rfl,.ref a,rfl,hC.arg,hC.sz,fun b H1 x1 hb=>⟨_,rfl,?_⟩⟩;rw [hC.all hb];refine Z8 ?_;have hC1:=hC.ext x1;have ho1:=x1.ins ho;have no:¬ BgZ ws i j→Q (.bl false) H1:=fun z=>k false H1 x1 ⟨fun e=>(nomatch e),fun e=>absurd e z⟩;have g:∀ {n:Int},0≤n∧n < (ws.length:Int)→atI (ws.map sv) n=some (sv (ws.getD n.toNat [])):=fun {n} h=>by
   have:=ZE (xs:=ws.map sv) (j:=n.toNat) (v:=sv (ws.getD n.toNat [])) (by rw [Znq]; simp [show n.toNat < ws.length by omega]);rw [Zpr h.1] at this;exact this
  refine ⟨_,rfl,o,C,dx,_,_,rfl,ho1,cl,na,rfl,_,rfl,a,_,rfl,.inl (SqL.of hC1.at_),_,_,rfl,⟨_,.int _⟩,_,rfl,?_⟩;rw [Zni,Zcg];by_cases h1:0≤i∧i < (ws.length:Int)
  ·rw [decide_eq_true h1];refine Z8 ?_;refine ⟨_,rfl,o,C,dx,_,_,rfl,ho1,cl,nb,rfl,_,rfl,a,_,rfl,.inl (SqL.of hC1.at_),_,_,rfl,⟨_,.int _⟩,_,rfl,?_⟩;rw [Zni,Zcg];by_cases h2:0≤j∧j < (ws.length:Int)
   ·rw [decide_eq_true h2];refine Z8 ?_;refine ⟨_,rfl,o,C,dx,_,_,rfl,ho1,cl,na,rfl,_,rfl,o,C,dx,_,_,rfl,ho1,cl,nb,rfl,rfl,_,rfl,?_⟩;by_cases h3:i=j
    ·subst h3;refine Zx (by simp) (no fun z=>z.ne rfl)
    ·refine ZI (by rw [Zn3,decide_eq_false_iff_not]; intro z; exact h3 (V.int.inj z)) ?_;refine ⟨_,rfl,_,rfl,o,C,dx,_,_,rfl,ho1,cl,nb,rfl,a,_,j,_,rfl,rfl,SqL.of hC1.at_,g h2,rfl,?_⟩;refine ⟨_,rfl,_,rfl,o,C,dx,_,_,rfl,ho1,cl,na,rfl,a,_,i,_,rfl,rfl,SqL.of hC1.at_,g h1,ws.getD j.toNat [],ws.getD i.toNat [],rfl,rfl,k _ H1 x1 ?_⟩;exact ⟨fun z=>⟨h1,h2,h3,z⟩,fun z=>z.pre⟩
   ·rw [decide_eq_false h2];exact Yi (no fun z=>h2 z.h2)
  ·rw [decide_eq_false h1];exact Yi (Yi (no fun z=>h1 z.h1))
theorem Zaz.kp {H H':Hp} (x:Zaz T H H'):Kp T H H':=fun b o hb _ h=>x b o hb h
theorem Zig {ys:List V}{us:List Nat}{m:Nat} (h:∀ y∈ys,y∈intsV us∨y=.int (m:Int)):∃ ls:List Nat,ys=intsV ls:=by
 induction ys with
 | nil=>exact ⟨[],rfl⟩
 | cons y ys ih=>
  obtain ⟨ls,rfl⟩:=ih fun z hz=>h z (ZnC _ hz);rcases h y ZnF with z | z
  ·obtain ⟨u,_,rfl⟩:=Znm.mp z;exact ⟨u :: ls,rfl⟩
  ·exact ⟨m :: ls,by rw [z]; rfl⟩
theorem ZgD (ws:List W):((ZnB ws.length).map fun i=>ws.getD i [])=ws:=by
 refine ZpW (by simp) fun i h1 h2=>?_;simp [h2]
theorem ZbU {ws vs:List W}{r:List Nat} (hp:vs.Perm ws) (hs:vs.Pairwise (·≤·)):ZaD ws r↔r.Perm (ZnB ws.length)∧(r.map fun i=>ws.getD i [])=vs∧YE vs:=by
 have key:r.Perm (ZnB ws.length)→(r.map fun i=>ws.getD i []).Perm ws:=fun h=>by
  have:=h.map fun i=>ws.getD i [];rwa [ZgD] at this
 constructor
 ·rintro ⟨_,h2,h3,h4⟩;have pm:=ZpD.mp h2;have e:=ZaQ ((key pm).trans hp.symm) (Zff.mp h3) hs;exact ⟨pm,e,e ▸ h4⟩
 ·rintro ⟨pm,e,h4⟩;refine ⟨fun i hi=>Zoq.mp (pm.mem_iff.mp hi),ZpD.mpr pm,?_,?_⟩
  ·rw [e]; exact Zff.mpr hs
  ·rw [e]; exact h4
theorem Zhf {r:List Nat}{ms:List Int}{n:Nat} (h64:n < 64) (hp:ms.Perm (r.map fun (i:Nat)=>(i:Int))) (hs:(r.map fun (i:Nat)=>(i:Int)).length < 64→ms.Pairwise (·≤·)):ms=((ZnB n).map fun (i:Nat)=>(i:Int))↔r.Perm (ZnB n):=by
 constructor
 ·intro e;subst e;have:=(hp.map ZoY).symm;rw [Znr,Znr] at this;simpa [Function.comp_def] using this
 ·intro h;have h2:ms.Perm ((ZnB n).map fun (i:Nat)=>(i:Int)):=hp.trans (h.map _);have hs2:((ZnB n).map fun (i:Nat)=>(i:Int)).Pairwise (·≤·):=by
   rw [Zpg];exact List.pairwise_lt_range.imp fun h=>by omega
  exact Zou.eq_of_pairwise (fun a b _ _ h1 h2=>by omega) (hs (by rw [Zni]; have:=h.length_eq; rw [Zod] at this; omega)) hs2 h2
def ZlQ (K:Znj) (mg:Str→Option Value) (base:Heap) (T:Addr):Prop:=
 ∃ f fd c,Fun K "_law_begins_right" "_law_begins_right" Pl.s_law_begins_right f fd∧mg "_law_begins_right"=some (.ref f)∧Zoj K (.ref f)=true∧Jc K fd ["_law_code_here","_law_cell"] []∧fd.code=.ref c∧Zo4 base c T
def ZkC (T:Addr):Sp:=fun vs H Q _=>∃ (a:Addr) (ws:List W) (c:Int),vs=[.ref a,.int c]∧ZW H a ws∧ws.length≤63∧(∀ x∈ws,x.length≤90)∧PkM T H∧∀ H',Kp T H H'→PkM T H'→Q (.bl true) H'
theorem Zcu (D:ZlQ K mg base T) (B:Yo mg) (M:BM mg base) (hmin:mg "min"=none) (CB:Cal P w K mg base CX0 1 "_law_bent" ["_law_some","_law_cell","_law_more"] (ZdA K)) (CY:Cal P w K mg base CX0 1 "_law_says" ["_law_said","_law_due"] Zb7)
  (CE:Cal P w K mg base CX0 2 "_law_beside" ["_law_words"] (ZdB K)) (CS:Cal P w K mg base CX0 1 "_law_stands" ["_law_word","_law_text_here","_law_at"] Zal)
  (OB:Kls P w K mg base "Begins" cB ["one","other"] (Zhj cB) ["code"] (Zfm cB)) (OA:Kls P w K mg base "Apart" cA ["order"] (Jd cA "order") ["code"] (ZdG cA)) (n1:ZG K cB "one") (n2:ZG K cB "other") (n3:ZG K cA "order"):
  Cal P w K mg base CX0 6 "_law_begins_right" ["_law_code_here","_law_cell"] (ZkC T):=by
 have sc:Zn ["_law_code_here","_law_cell","_law_one","_law_other","_law_due","_law_answer","_law_words","_law_order","_law_handed","_law_apart"] ["_law_code_here","_law_cell"] (Zf Pl.s_law_begins_right):=scO;obtain ⟨fB,fdB,mB,FB,bB⟩:=OB.sh;obtain ⟨fA,fdA,mA,FA,bA⟩:=OA.sh;obtain ⟨f,fd,c₀,F,h1,h2,h3,h4,CH⟩:=D;refine ⟨f,fd,F.okC h4 sc (fun vs H Q E h=>?_) (fun A outer s H vs Q E hr h=>?_),h1,h2,h3⟩
 ·obtain ⟨_,_,_,rfl,_⟩:=h;rfl
 ·obtain ⟨a,ws,c,rfl,hC,hwl,h90,pk,k⟩:=h;have hr0:ZR 0 _:=hr.mono (by decide);have hr1:ZR 1 _:=hr.mono (by decide);have hr2:ZR 2 _:=hr.mono (by decide);have hr3:ZR 3 _:=hr.mono (by decide);have hu64:_+64 < cLine:=hr.units;have ndP:(["_law_place"]:List Str).Nodup:=by decide +kernel
  have ndC:(["_law_place","_law_code_here"]:List Str).Nodup:=by decide +kernel
  refine ⟨_,Zb (Zl (i:=2) sc.nd rfl (Or.inl rfl) (Zo Jh (Zo Yj (Zo ZX (pv 1) Ze) (Zo Z2 (Zg Zq (by rfl) B.len Zno (pa_cons (pv 0) pa_nil)) Ze)) Ze))
   (Zb (Zl (i:=3) sc.nd rfl (Or.inl rfl) (Zo Jh (Zo Yj (Zo ZX (pv 1) Ze) (Zo Z2 (Zg Zq (by rfl) B.len Zno (pa_cons (pv 0) pa_nil)) Ze)) Ze))
   (Zb (Zl (i:=4) sc.nd rfl (Or.inl rfl) (ZO (ZV Zcl (pv 2) (pv 3) (Zu _)) (ZO (ZV ZlT (Zg (Zd7 rfl) (by rfl) hmin Boot.«min» (pa_cons (pv 2) (pa_cons (pv 3) pa_nil))) Ze (Zu _))
     (Z3 (ZV Zck (Zg (Zil rfl) (by rfl) B.max Boot.«max» (pa_cons (pv 2) (pa_cons (pv 3) pa_nil))) (Zg Zq (by rfl) B.len Zno (pa_cons (pv 0) pa_nil)) (Zu _))))))
   (Zb (Zl (i:=4) sc.nd rfl (Or.inl rfl) (ZO (pv 4) (Z3 (Zc CS hr1 (pa_cons (pe_ix (r:=YG K) ZB (pv 0) (pv 2) (fun _ _=>rfl)) (pa_cons (pe_ix (r:=YG K) ZB (pv 0) (pv 3) (fun _ _=>rfl)) (pa_cons Ze pa_nil))) Zm))))
   (Zb (Zl (i:=5) sc.nd rfl (Or.inl rfl) (JP OB hr3 (pa_cons (pv 2) (pa_cons (pv 3) pa_nil))))
   (Zb (ZD (PW.pt (Jz (Zz (Zls hu64) (Jj (pa_cons (Zw (pv 5) rfl) (pa_cons (Zw (pv 5) rfl) pa_nil))) (Jj (pa_cons (pv 2) (pa_cons (pv 3) pa_nil))) (Zu _))
     (Y9 (Z6 (ZK (Zc CY hr1 (pa_cons (Jn (pv 5) OB.cls mB FB hr bB .nil Zm (pa_cons (pv 0) pa_nil)) (pa_cons (pv 4) pa_nil)) Zm)))))) (pss_one (ps_ret pe_bl)) pss_nil)
   (Zb (Zl (i:=6) sc.nd rfl (Or.inl rfl) (Zg YW (by rfl) B.sorted Boot.«sorted» (pa_cons (pv 0) pa_nil)))
   (Zb (Zl (i:=7) sc.nd rfl (Or.inl rfl) (Zi8 (P:=T) (i:=0) (v:="_law_code_here") (y:="_law_place") (c:=c₀) hr0 B.sorted
     (Z5 (N':=["_law_place"]) (js:=[none]) (.of (by kernel_rfl)) rfl (Y3 (by rfl) B.range (pa_cons (Zg Zq (by rfl) B.len Zno (pa_cons (pv 0) pa_nil)) pa_nil)) fun C fp s₀ H₀=>⟨Zr (i:=0) ndP rfl (Or.inl rfl),ZZ,pv 0⟩)
     rfl rfl rfl rfl rfl CH M rfl rfl rfl rfl rfl (by decide +kernel) (fun _ _ _ _ _ _ _ _=>rfl) rfl (by decide) (by decide) (by decide)))
   (Zb (Zl (i:=7) sc.nd rfl (Or.inl rfl) (Zc CB hr1 (pa_cons (pv 7) (pa_cons (Zo ZX (pv 1) Ze) (pa_cons (Zo Yj (pv 1) Ze) pa_nil))) Zm))
   (Zb (Zl (i:=8) sc.nd rfl (Or.inl rfl) (Yc Z4 (by rfl) B.list boot_list (pa_cons (pv 7) pa_nil)))
   (Zb (Zl (i:=9) sc.nd rfl (Or.inl rfl) (JP OA hr3 (pa_cons (pv 8) pa_nil)))
   (Zb (Yg (Yx ZnG ZnR ZnS Z7 (pv 8) (pa_cons Ze pa_nil)))
   (Zb (ZD (Zz (JB hu64) (Zw (pv 9) rfl) (pv 7) (Zu _)) (pss_one (ps_ret pe_bl)) pss_nil)
   (Zb (Zl (i:=4) sc.nd rfl (Or.inl rfl) (ZV (ZhL hu64) (Zg Zad (by rfl) B.sorted Boot.«sorted» (pa_cons (pv 7) pa_nil))
     (Z5 (N':=["_law_place"]) (js:=[none]) (.of (by kernel_rfl)) rfl (Y3 (by rfl) B.range (pa_cons (Zg Zq (by rfl) B.len Zno (pa_cons (pv 0) pa_nil)) pa_nil)) fun C fp s₀ H₀=>⟨Zr (i:=0) ndP rfl (Or.inl rfl),ZZ,pv 0⟩) (Zu _)))
   (Zb (Zl (i:=4) sc.nd rfl (Or.inl rfl) (ZO (pv 4) (Z3 (ZV (Zkd (K:=K) rfl hu64) (Z5 (N':=["_law_place","_law_code_here"]) (js:=[none,some 0]) (.of (by kernel_rfl)) rfl (ZF (pv 7)) fun C fp s₀ H₀=>⟨Zr (i:=0) ndC rfl (Or.inl rfl),ZZ,pe_ix (r:=YG K) ZB (pv 1) (pv 0) (fun _ _=>rfl)⟩) (pv 6) (Zu _)))))
   (Zb (Zl (i:=4) sc.nd rfl (Or.inl rfl) (ZO (pv 4) (Z3 (Zg9 (Zc CE hr2 (pa_cons (pv 6) pa_nil) Zm)))))
   (pss_one (ps_ret (Zc CY hr1 (pa_cons (Jn (pv 9) OA.cls mA FA hr bA .nil Zm (pa_cons (pv 0) pa_nil)) (pa_cons (pv 4) pa_nil)) Zm)))))))))))))))))),?_⟩
  try dsimp only [ZH,Cx.nox,Cx.wish]
  have g:∀ {n:Int},0≤n∧n < (ws.length:Int)→atI (ws.map sv) n=some (sv (ws.getD n.toNat [])):=fun {n} h=>by
   have:=ZE (xs:=ws.map sv) (j:=n.toNat) (v:=sv (ws.getD n.toNat [])) (by rw [Znq]; simp [show n.toNat < ws.length by omega]);rw [Zpr h.1] at this;exact this
  have sh:∀ {n:Int},0≤n∧n < (ws.length:Int)→(ws.getD n.toNat []).length≤90:=fun {n} h=>h90 _ (mem_getD (by omega));have haz:∀ x∈ws,∀ z∈x,z∈az:=fun x hx=>ZcJ (hC.ok x hx);have en:(((ws.map sv).length:Nat):Int).toNat=ws.length:=by rw [Zni]; omega
  refine ⟨_,rfl,_,_,rfl,rfl,⟨by decide,by decide⟩,_,rfl,a,_,rfl,.inl (SqL.of hC.at_),_,_,rfl,rfl,_,_,rfl,rfl,by omega,_,_,rfl,rfl,?_⟩;refine ⟨_,rfl,_,_,rfl,rfl,⟨by decide,by decide⟩,_,rfl,a,_,rfl,.inl (SqL.of hC.at_),_,_,rfl,rfl,_,_,rfl,rfl,by omega,_,_,rfl,rfl,?_⟩;dsimp only;generalize c / 3 % (((ws.map sv).length:Nat)+2:Int) - 1=i;generalize c / 7 % (((ws.map sv).length:Nat)+2:Int) - 1=j;apply ZaX (P:=fun σ H1=>∃ b,σ=[some (.ref a),some (.int c),some (.int i),some (.int j),some (.bl b),none,none,none,none,none]∧H1=H∧(b=true↔i≠j∧(0≤i∧i < (ws.length:Int))∧(0≤j∧j < (ws.length:Int))))
  case use=>
   intro R rest;refine ⟨_,rfl,_,rfl,rfl,_,rfl,?_⟩;by_cases e:i=j
   ·exact Zx (by simp [e]) (gto (rest _ H ⟨false,rfl,rfl,fun z=>(nomatch z),fun z=>absurd e z.1⟩))
   ·refine ZI (by rw [Zn3,decide_eq_false_iff_not]; intro z; exact e (V.int.inj z)) ⟨_,rfl,_,rfl,i,j,rfl,_,_,rfl,rfl,_,rfl,?_⟩;by_cases h0:0≤(if j < i then j else i)
    ·refine ZI (decide_eq_true h0) ⟨_,rfl,_,rfl,i,j,rfl,_,rfl,a,_,rfl,.inl (SqL.of hC.at_),_,_,rfl,rfl,gto (rest _ H ⟨_,rfl,rfl,?_⟩)⟩;rw [decide_eq_true_iff,Zni];split at h0 <;> split <;> constructor <;> intro z <;> omega
    ·refine Zx (by rw [decide_eq_true_iff]; exact h0) (gto (rest _ H ⟨false,rfl,rfl,fun z=>(nomatch z),fun z=>absurd ?_ h0⟩));split <;> omega
  case rest=>
   rintro σ H1 ⟨b1,rfl,rfl,hb1⟩;apply ZaX (P:=fun σ H2=>∃ b,σ=[some (.ref a),some (.int c),some (.int i),some (.int j),some (.bl b),none,none,none,none,none]∧H2=H1∧(b=true↔BgZ ws i j))
   case use=>
    intro R rest;refine ⟨_,rfl,b1,rfl,?_⟩;by_cases e1:b1=true
    ·obtain ⟨e,hi,hj⟩:=hb1.mp e1;have s1:=sh hi;have s2:=sh hj;refine ZI e1 ⟨_,rfl,_,rfl,a,_,i,_,rfl,rfl,SqL.of hC.at_,g hi,_,rfl,_,rfl,a,_,j,_,rfl,rfl,SqL.of hC.at_,g hj,ws.getD i.toNat [],ws.getD j.toNat [],0,rfl,by omega,by omega,ZnH _,gto (rest _ _ ⟨_,rfl,rfl,?_⟩)⟩;rw [ZdK];exact ⟨fun z=>⟨hi,hj,e,z⟩,fun z=>z.pre⟩
    ·exact Zx e1 (gto (rest _ _ ⟨false,rfl,rfl,fun z=>(nomatch z),fun z=>absurd (hb1.mpr ⟨z.ne,z.h1,z.h2⟩) e1⟩))
   case rest=>
    rintro σ H2 ⟨b,rfl,rfl,hb⟩;refine hid fun uz ez=>?_;refine ⟨_,rfl,_,rfl,fun o dx ho hdx ne=>⟨o,dx,i,j,rfl,Za,rfl,?_⟩⟩;rw [Jp];have hx2:upd H2 dx (.own o) o=none:=by rw [Zp ne.symm]; exact ho
    have x1:Ext H2 (upd (upd H2 dx (.own o)) o (.ins cB dx [("one",.int i),("other",.int j)])):=(Ext.new hdx).newer hx2;have ho1:upd (upd H2 dx (.own o)) o (.ins cB dx [("one",.int i),("other",.int j)]) o=some (.ins cB dx [("one",.int i),("other",.int j)]):=Za;generalize upd (upd H2 dx (.own o)) o (.ins cB dx [("one",.int i),("other",.int j)])=H3 at x1 ho1;subst ez;refine hidn fun uz ez=>?_;refine ⟨_,rfl,o,cB,dx,_,_,rfl,ho1,OB.cls,n1,rfl,_,rfl,o,cB,dx,_,_,rfl,ho1,OB.cls,n2,rfl,by show 2≤sizeLine; decide,fun t1 ht1=>⟨_,rfl,_,rfl,by show 2≤sizeLine; decide,fun t2 ht2=>⟨t1,t2,[i,j],[i,j],rfl,rfl,SqT.of (Zk Za ht2),SqT.of Za,_,rfl,Zx (by simp) ?_⟩⟩⟩;have y4:=(Ext.new (o:=HO.tup [V.int i,V.int j]) ht1).newer (o:=HO.tup [V.int i,V.int j]) ht2;generalize upd (upd H3 t1 (.tup [V.int i,V.int j])) t2 (.tup [V.int i,V.int j])=H4 at y4;have x4:=x1.trans y4;have ho4:=y4.ins ho1;refine ⟨_,rfl,o,dx,_,rfl,ho4,rfl,_,rfl,o,a,dx,ws,i,j,rfl,ho4,hC.ext x4,fun b2 H5 x5 hb2=>⟨_,rfl,b2,b,rfl,_,rfl,?_⟩⟩;have e2:b2=b:=by rw [ZnW,hb2,hb]
    subst e2;refine Zx (by simp) ?_;have x15:=x4.trans x5;subst ez;refine hidn fun uz ez=>?_;refine ⟨_,rfl,a,ws,rfl,SqL.of (x15.lst hC.at_),by omega,fun wd vs hwd hperm hsort=>?_⟩;have x6:=x15.newer (o:=HO.lst (vs.map sv)) hwd;have e6:upd H5 wd (.lst (vs.map sv)) wd=some (.lst (vs.map sv)):=Za;generalize upd H5 wd (.lst (vs.map sv))=H6 at x6 e6;subst ez;refine hidn fun uz ez=>?_;refine ⟨_,rfl,a,_,rfl,.inl (SqL.of (x6.lst hC.at_)),_,rfl,by omega,by rw [Zni]; omega,?_⟩;rw [en];refine ZbW (Zd (by omega)) (fun i=>.int (i:Int)) (fun i H' hi x Q' k'=>⟨_,rfl,k' _ H' (Ext.refl _) rfl⟩) fun D2 H7 hD2 x7 hD7=>?_;have x17:=x6.trans x7;have pk7:=PkM.ext pk x17;have e7:=x7.lst e6;refine ⟨D2,a,ws.map sv,Zhs ws,rfl,SqL.of (by rw [hD7,Zni]),rfl,SqL.of (x17.lst hC.at_),by rw [Zni]; omega,Zew (by omega),pk7,fun D3 ms H8 kp8 pk8 _ _ h8 hord=>?_⟩;subst ez;refine hidn fun uz ez=>?_;have c7:H7 a=some (.lst (ws.map sv)):=x17.lst hC.at_;have c8:H8 a=some (.lst (ws.map sv)):=kp8.kp.lst pk7 c7;have e8:H8 wd=some (.lst (vs.map sv)):=kp8.kp.lst pk7 e7;have kp18:Kp T H2 H8:=x17.toKp.trans kp8.kp;have msl:ms.length=ws.length:=by have:=hord.1.length_eq; rw [Zod] at this; exact this
    obtain ⟨m3,em3,lm3⟩:=Jm (i:=c) (k:=3) (by decide);refine ⟨_,rfl,_,rfl,_,_,rfl,rfl,⟨by decide,by decide⟩,_,rfl,_,_,rfl,rfl,by show (0:Int) < 3; decide,D3,_,_,_,rfl,SqL.of h8,by rw [Zni]; omega,fun D4 ys H9 hD4 x9 hD9 hys hyl _=>?_⟩;subst ez;refine hidn fun uz ez=>?_;dsimp only at hys;rw [em3] at hys;obtain ⟨r,rfl⟩:=Zig hys;rw [Zni,Zni] at hyl;refine ⟨_,rfl,D4,_,rfl,.inl (SqL.of hD9),fun hd hhd=>?_⟩;have x10:=x9.newer (o:=HO.lst (intsV r)) hhd;have f10:H8 hd=none:=x9.free hhd;have e10:=Zk (u:=HO.lst (intsV r)) hD9 hhd;have e10':upd H9 hd (.lst (intsV r)) hd=some (.lst (intsV r)):=Za;generalize upd H9 hd (.lst (intsV r))=H10 at x10 e10 e10';subst ez;refine hidn fun uz ez=>?_;refine ⟨_,rfl,fun o2 dx2 no2 ndx2 ne2=>⟨o2,hd,dx2,intsV r,rfl,Za,(YC no2 ndx2 ne2).lst e10',by rw [Zni]; omega,Pln.nats _,fun p2 G11 np2' y11 hp11'=>⟨rfl,?_⟩⟩⟩;obtain ⟨x11,np2,ho11,hp11⟩:=JD (C:=cA) (fld:="order") no2 ndx2 ne2 np2' y11 hp11';generalize upd G11 o2 (.ins cA dx2 [("order",.ref p2)])=H11 at x11 ho11 hp11;subst ez;refine hidn fun uz ez=>?_;have hd11:=x11.lst e10';refine ⟨_,rfl,.inl ⟨rfl,_,SqL.of hd11⟩,hd,_,_,rfl,rfl,hd11,ZC (by rw [Zni]; omega),?_⟩;have x12:Ext H8 (upd H11 hd (.lst (intsV r++[.int 0]))):=(x10.trans x11).over f10;have ho12:upd H11 hd (.lst (intsV r++[.int 0])) o2=some (.ins cA dx2 [("order",.ref p2)]):=upd_k ho11 (ne_of_none e10' no2).symm;have hp12:upd H11 hd (.lst (intsV r++[.int 0])) p2=some (.lst (intsV r)):=upd_k hp11 (ne_of_none e10' np2).symm;have nD:D4≠hd:=ne_of_none hD9 hhd;have hD12:upd H11 hd (.lst (intsV r++[.int 0])) D4=some (.lst (intsV r)):=upd_k (x11.lst e10) nD;generalize upd H11 hd (.lst (intsV r++[.int 0]))=H12 at x12 ho12 hp12 hD12;subst ez;refine hidn fun uz ez=>?_;have sq:∀ {H' p'},H' p'=some (.lst (intsV r))→SqL K H' p' ((r.map fun (i:Nat)=>(i:Int)).map V.int):=fun h=>by rw [←Zaf]; exact SqL.of h
    refine ⟨_,rfl,o2,cA,dx2,_,.ref p2,rfl,ho12,OA.cls,n3,rfl,_,rfl,p2,D4,_,_,rfl,rfl,sq hp12,sq hD12,_,rfl,Zx (by simp) ?_⟩;have c12:=x12.lst c8;have e12:=x12.lst e8;subst ez;refine hidn fun uz ez=>?_;refine ⟨_,rfl,D4,_,rfl,sq hD12,fun l ns hl hnp hns=>?_⟩;have x13:=Ext.new (o:=HO.lst (ns.map V.int)) hl;have e13:upd H12 l (.lst (ns.map V.int)) l=some (.lst (ns.map V.int)):=Za;generalize upd H12 l (.lst (ns.map V.int))=H13 at x13 e13;refine ⟨_,rfl,a,_,rfl,.inl (SqL.of (x13.lst c12)),_,rfl,by omega,by rw [Zni]; omega,?_⟩;rw [en];refine ZbW (Zd (by omega)) (fun i=>.int (i:Int)) (fun i H' hi x Q' k'=>⟨_,rfl,k' _ H' (Ext.refl _) rfl⟩) fun D5 H14 hD5 x14 hD14=>?_;refine ⟨l,D5,ns,(ZnB ws.length).map fun (i:Nat)=>(i:Int),rfl,rfl,SqL.of (x14.lst e13),SqL.of (by rw [hD14,Znr]; rfl),?_⟩;rw [if_neg ZnE,show decide (ns=(ZnB ws.length).map fun (i:Nat)=>(i:Int))=decide (r.Perm (ZnB ws.length)) from decide_eq_decide.mpr (Zhf (by omega) hnp hns)];have x814:=(x12.trans x13).trans x14;subst ez;apply ZbD (P:=fun σ H15=>∃ b,σ=[some (.ref a),some (.int c),some (.int i),some (.int j),some (.bl b),some (.ref o),some (.ref wd),some (.ref D4),some (.ref hd),some (.ref o2)]∧Ext H14 H15∧(b=true↔r.Perm (ZnB ws.length)∧(r.map fun i=>ws.getD i [])=vs))
    case use=>
     intro R rest;refine ⟨_,rfl,_,rfl,?_⟩;by_cases hp:r.Perm (ZnB ws.length)
     ·refine ZI (decide_eq_true hp) ⟨_,rfl,D4,rfl,⟨_,SqL.of ((x13.trans x14).lst hD12)⟩,ZS (SqL.of ((x13.trans x14).lst hD12)) (by rw [Zni]; exact Zd (by omega)) (fun y=>match y with | .int i=>sv (ws.getD i.toNat []) | _=>.non) (fun y H' hy x15 Q' k'=>?_) (fun D6 H15 hD6 x15 hD15=>?_)⟩
      ·obtain ⟨n,hn,rfl⟩:=Znm.mp hy;have hlt:=Zoq.mp (hp.mem_iff.mp hn);exact ⟨_,rfl,_,rfl,a,_,(n:Int),sv (ws.getD n []),rfl,rfl,SqL.of (x15.lst (x814.lst c8)),ZE (by rw [Znq]; simp [hlt]),k' _ H' (Ext.refl _) rfl⟩
      ·refine ⟨_,rfl,D6,wd,r.map fun i=>ws.getD i [],vs,rfl,rfl,SqL.of (by rw [hD15,Znr,Znr]; rfl),SqL.of (x15.lst ((x13.trans x14).lst e12)),fun x hx=>?_,fun x hx=>haz x (hperm.mem_iff.mp hx),gto (rest _ H15 ⟨_,rfl,x15,?_⟩)⟩
       ·obtain ⟨n,hn,rfl⟩:=Znm.mp hx;exact haz _ (mem_getD (Zoq.mp (hp.mem_iff.mp hn)))
       ·rw [decide_eq_true_iff];exact ⟨fun z=>⟨hp,z⟩,fun z=>z.2⟩
     ·exact Zx (by rw [decide_eq_true_iff]; exact hp) (gto (rest _ _ ⟨false,rfl,Ext.refl _,fun z=>(nomatch z),fun z=>absurd z.1 hp⟩))
    case rest=>
     rintro σ H15 ⟨b3,rfl,x15,hb3⟩;have x815:=x814.trans x15;apply ZaX (P:=fun σ H16=>∃ b,σ=[some (.ref a),some (.int c),some (.int i),some (.int j),some (.bl b),some (.ref o),some (.ref wd),some (.ref D4),some (.ref hd),some (.ref o2)]∧Ext H15 H16∧(b=true↔ZaD ws r))
     case use=>
      intro R rest;refine ⟨_,rfl,b3,rfl,?_⟩;by_cases e3:b3=true
      ·obtain ⟨q1,q2⟩:=hb3.mp e3;have vl_:vs.length=ws.length:=hperm.length_eq;refine ZI e3 ⟨_,rfl,wd,vs,rfl,SqL.of (x815.lst e8),by omega,fun x hx=>by have:=h90 x (hperm.mem_iff.mp hx); omega,fun b4 H16 x16 hb4=>⟨b4,rfl,gto (rest _ H16 ⟨_,rfl,x16,?_⟩)⟩⟩;rw [ZbU hperm hsort,Zn3,←ZpV,hb4];exact ⟨fun z=>⟨q1,q2,Classical.not_not.mp z⟩,fun z=>Classical.not_not.mpr z.2.2⟩
      ·exact Zx e3 (gto (rest _ _ ⟨false,rfl,Ext.refl _,fun z=>(nomatch z),fun z=>absurd (hb3.mpr ⟨((ZbU hperm hsort).mp z).1,((ZbU hperm hsort).mp z).2.1⟩) e3⟩))
     case rest=>
      rintro σ H16 ⟨b4,rfl,x16,hb4⟩;have x1216:=(x13.trans x14).trans (x15.trans x16);have ho16:=x1216.ins ho12;have x816:=x815.trans x16;refine ⟨_,rfl,o2,dx2,_,rfl,ho16,rfl,_,rfl,o2,a,p2,dx2,ws,r,rfl,ho16,⟨x1216.lst hp12,by omega⟩,⟨x816.lst c8,hC.ok,hC.few,hC.short⟩,by omega,by omega,fun H17 x17'=>⟨_,rfl,_,b4,rfl,?_⟩⟩;have e5:decide (ZaD ws r)=b4:=by rw [ZnW,decide_eq_true_iff,hb4]
      rw [decide_eq_true e5];exact k H17 (kp18.trans (x816.trans x17').toKp) (PkM.ext pk8 (x816.trans x17'))
end
end L2
namespace L2
open PySem PySem.Spec PyProof.Rows Tw
theorem ZA.pick {xs:List V}{us:List Value} (h:ZA xs us) (idx:List Nat):ZA (idx.filterMap fun i=>xs[i]?) (idx.filterMap fun i=>us[i]?):=by
 induction idx with
 | nil=>exact .nil
 | cons i idx ih=>
  cases e:xs[i]? with
  | none=>
   have e':=h.none_of e;rw [Zqn e,Zqn e'];exact ih
  | some x=>
   obtain ⟨u,e',r⟩:=h.get e;rw [Zqo e,Zqo e'];exact .cons r ih
theorem Zkz {n j:Nat} (h:j∈sliceRange (sliceBounds (some 3) none (some 16) n).1 (sliceBounds (some 3) none (some 16) n).2.1 (sliceBounds (some 3) none (some 16) n).2.2) (hn:3≤n):j % 16=3:=by
 have e1:(sliceBounds (some 3) none (some 16) n).1=3:=by
  show max 0 (min (3:Int) (n:Int))=3;omega
 have e3:(sliceBounds (some 3) none (some 16) n).2.2=16:=rfl;unfold sliceRange at h;obtain ⟨k,_,rfl⟩:=Znm.mp h;rw [e1,e3];omega
theorem Zmu {X:Cx}{K:Znj}{e k:Expr}{te:TE}{lo hi:Option Expr}{tl th tk:TO}{p2 pos:Pos} (hK:X.K=K) (he:PE X e te) (hl:PO X lo tl) (hu:PO X hi th) (hs:PO X (some k) tk):PE X (.Subscript e (.Slice lo hi (some k) p2) pos)
  (fun σ H Q=>te σ H fun x H1=>tl σ H1 fun l H2=>th σ H2 fun u H3=>tk σ H3 fun z H4=>∃ a xs,x=.ref a∧z≠some 0∧SqL K H4 a xs∧∀ (p:Addr) (ys:List V),(∀ y∈ys,∃ j∈sliceRange (sliceBounds l u z xs.length).1 (sliceBounds l u z xs.length).2.1 (sliceBounds l u z xs.length).2.2,xs[j]?=some y)→ys.length≤xs.length→H4 p=none→Q (.ref p) (upd H4 p (.lst ys))):=by
 subst hK;intro pins s σ H Q I h;refine Subscript_ (thn (he pins s σ H _ I h) fun v s1 qz=>?_);obtain ⟨x,H1,I1,r1,q1⟩:=qz;refine wpAny_Slice (thn (hl pins s1 σ H1 _ I1 q1) fun vl s2 ⟨l,H2,I2,pl,q2⟩=>thn (hu pins s2 σ H2 _ I2 q2) fun vu s3 ⟨u,H3,I3,pu,q3⟩=>thn (hs pins s3 σ H3 _ I3 q3) fun vk s4 qz=>?_);obtain ⟨z,H4,I4,pz,a,xs,ex,nz,hq,q⟩:=qz;subst ex;cases r1;have I5:Inv X pins σ H4 { s4 with heap:=s4.heap.push { cls:=.type "slice",data:=.fields #[vl,vu,vk] } }:=I4.kept (t':=s4.toks) fun b ob q=>Znk _ q;obtain ⟨its,rv,pl',hz⟩:=I5.list hq;have len:=rv.length;have e:(fun i:Nat=>its.toArray[i]?)=fun i:Nat=>its[i]?:=by funext i; simp
 refine tail_any (ops:=[.ref a,.ref s4.heap.objs.size]) pl'.isList.typeIs slot_list_getitem.lookup ?_ (by with_unfolding_all rfl);refine wpAny_getItem_list_slice pl'.isList (Heap.IsSliceOf.new ..) pl pu pz nz ?_ (by rw [Zny]; omega);have sz:its.toArray.size=xs.length:=by rw [Zny]; omega
 have few:=slicePick_size_le its.toArray l u z;unfold slicePick at few ⊢;rw [e,sz] at few ⊢;generalize eR:sliceRange (sliceBounds l u z xs.length).1 (sliceBounds l u z xs.length).2.1 (sliceBounds l u z xs.length).2.2=idx at few q;have few':(idx.filterMap fun j=>xs[j]?).length≤xs.length:=by
  have h2:=(rv.pick idx).length;rw [Zny] at few;omega
 refine ⟨.ref _,_,I5.laid (o:=.lst (idx.filterMap fun j=>xs[j]?)) (fun b ob q=>Znk _ q) (Znn _) ⟨Zog few' hz,_,0,rv.pick idx,Znu _ rfl⟩,rfl,q _ _ (fun y hy=>?_) few' (I5.hok.fresh (Znn _))⟩;obtain ⟨j,hj,e⟩:=ZoS.mp hy;exact ⟨j,hj,e⟩
seal PSs PS PE PT PW PA PG PGs PI PC
section
variable {P:Program}{w:World}{K:Znj}{mg:Str→Option Value}{base:Heap}{cC cT T T2:Addr}
def Zh1 (K:Znj) (T T2:Addr):Sp:=fun vs H Q _=>∃ (a:Addr) (ns:List Int),vs=[.ref a]∧SqL K H a (ns.map V.int)∧ns.length≤63∧PkL T H∧PkM T2 H∧T≠T2∧∀ H',Q (.bl true) H'
structure Car (T T2 a:Addr) (ws:List W) (H:Hp):Prop where
 code:ZW H a ws
 p1:PkL T H
 p2:PkM T2 H
theorem Car.ext {a:Addr}{ws:List W}{H H':Hp} (c:Car T T2 a ws H) (x:Ext H H'):Car T T2 a ws H':=⟨c.code.ext x,PkL.ext c.p1 x,PkM.ext c.p2 x⟩
theorem Car.xp {a:Addr}{ws:List W}{H H':Hp} (c:Car T T2 a ws H) (hn:T≠T2) (x:XP T H H'):Car T T2 a ws H':=by
 refine ⟨x.codeL c.code,x.pk',?_⟩;have kt:∀ b o,b≠T→(∀ kvs,o≠.dK kvs)→H b=some o→H' b=some o:=fun b o hb hk h=>by
  rcases x.ext b o hb h with z | ⟨⟨kvs,e⟩,_⟩
  ·exact z
  ·exact absurd e (hk kvs)
 obtain ⟨ps,hT⟩:=c.p1.at;rcases c.p2 with p | ⟨c',p,q⟩
 ·exact .inl (kt _ _ hn.symm (fun _ z=>nomatch z) p)
 ·exact .inr ⟨c',kt _ _ hn.symm (fun _ z=>nomatch z) p,kt _ _ (Ye q hT fun z=>nomatch z) (fun _ z=>nomatch z) q⟩
theorem Car.kp {a:Addr}{ws:List W}{H H':Hp} (c:Car T T2 a ws H) (hn:T≠T2) (x:Kp T2 H H') (pk:PkM T2 H'):Car T T2 a ws H':=by
 refine ⟨⟨x.lst c.p2 c.code.at_,c.code.ok,c.code.few,c.code.short⟩,?_,pk⟩;obtain ⟨ps,hT⟩:=c.p2.at;rcases c.p1 with p | ⟨c',p,q⟩
 ·exact .inl (x _ _ hn (fun _ z=>nomatch z) p)
 ·exact .inr ⟨c',x _ _ hn (fun _ z=>nomatch z) p,x _ _ (Ye q hT fun z=>nomatch z) (fun _ z=>nomatch z) q⟩
theorem Zlm {f:Addr}{fd:FuncData} (F:Fun K "law" "law" Pl.s_law f fd) (B:Yo mg) (C1:Cal P w K mg base CX0 1 "_law_code" ["_law_script"] (Zet K)) (C2:Cal P w K mg base CX0 1 "_law_text" ["_law_code_here","_law_script"] (Zeu K))
  (CA:Cal P w K mg base CX0 6 "_law_codes_right" ["_law_code_here","_law_cell"] (ZhZ T)) (CR:Cal P w K mg base CX0 7 "_law_texts_right" ["_law_code_here","_law_text_here","_law_cell"] (Zh4 K)) (CG:Cal P w K mg base CX0 6 "_law_begins_right" ["_law_code_here","_law_cell"] (ZkC T2))
  (CW:Cal P w K mg base CX0 6 "_law_words_right" ["_law_code_here","_law_cell"] Zgr) (CY:Cal P w K mg base CX0 1 "_law_says" ["_law_said","_law_due"] Zb7)
  (OC:Kls P w K mg base "Clash" cC ["one","other"] (ZdC cC) ["code"] (ZbS cC)) (OT:Kls P w K mg base "Tails" cT ["tails"] (Jd cT "tails") ["code"] (ZaS cT)):Ym P w K mg base CX0 8 f fd ["_law_script"] (Zh1 K T T2):=by
 have sc:Zn ["_law_script","_law_code_here","_law_text_here","_law_cell"] ["_law_script"] (Zf Pl.s_law):=scO;obtain ⟨fC,fdC,mC,FC,bC⟩:=OC.sh;obtain ⟨fT,fdT,mT,FT,bT⟩:=OT.sh;refine F.ok sc (fun vs H Q E h=>?_) (fun cdv A outer s H vs Q E hr h=>?_)
 ·obtain ⟨_,_,rfl,_⟩:=h;rfl
 ·obtain ⟨a,ns,rfl,hS,hlen,pk,pk2,hn,k⟩:=h;have hr1:ZR 1 _:=hr.mono (by decide);have hr3:ZR 3 _:=hr.mono (by decide);have hr5:ZR 5 _:=hr.mono (by decide);have hr6:ZR 6 _:=hr.mono (by decide);refine ⟨_,Zb (Zl (i:=1) sc.nd rfl (Or.inl rfl) (Zc C1 hr1 (pa_cons (pv 0) pa_nil) Zm))
   (Zb (Zl (i:=2) sc.nd rfl (Or.inl rfl) (Zc C2 hr1 (pa_cons (pv 1) (pa_cons (pv 0) pa_nil)) Zm))
   (Zb (Z9 PassesOwn.never rfl (ZF (Zo ZaO (ZM YI (pv 0) ZY (ZN Ze)) (Zmu (K:=K) rfl (pv 0) (ZN Ze) ZY (ZN Ze)))) (Zr (i:=3) sc.nd rfl (Or.inl rfl))
    (Zb (ZD (PW.pt (Jz (Z6 (ZK (Zc CA hr6 (pa_cons (pv 1) (pa_cons (pv 3) pa_nil)) Zm))) (Y9 (Z6 (ZK (Zc CR hr (pa_cons (pv 1) (pa_cons (pv 2) (pa_cons (pv 3) pa_nil))) Zm)))))) (pss_one (ps_ret pe_bl)) pss_nil)
    (pss_one (ZD (PW.pt (Jz (Z6 (ZK (Zc CG hr6 (pa_cons (pv 1) (pa_cons (pv 3) pa_nil)) Zm))) (Y9 (Z6 (ZK (Zc CW hr6 (pa_cons (pv 1) (pa_cons (pv 3) pa_nil)) Zm)))))) (pss_one (ps_ret pe_bl)) pss_nil))))
   (pss_one (ps_ret (ZO (Zc CY hr1 (pa_cons (Jn (JP OT hr3 (pa_cons (Yd pa_nil) pa_nil)) OT.cls mT FT hr5 bT .nil Zm (pa_cons (Yd (pa_cons ZQ (pa_cons ZQ pa_nil))) pa_nil)) (pa_cons pe_bl pa_nil)) Zm)
    (Z3 (Zc CY hr1 (pa_cons (Jn (JP OC hr3 (pa_cons (Yd (pa_cons Ze pa_nil)) (pa_cons (Yd (pa_cons Ze pa_nil)) pa_nil))) OC.cls mC FC hr5 bC .nil Zm (pa_cons (Yd (pa_cons ZQ (pa_cons ZQ pa_nil))) pa_nil)) (pa_cons pe_bl pa_nil)) Zm))))))),?_⟩
  try dsimp only [ZH,Cx.nox,Cx.wish]
  refine ⟨_,rfl,a,ns,rfl,hS,hlen,fun c ws ls H1 hc x1 hc1 hwl hl3 hlz hG h63=>?_⟩;have C1c:ZW H1 c ws:=Ziu hc1 (by omega) hlz hG;have hG':∀ x∈ws,ZbA az 65 x:=fun x hx=>⟨(hG x hx).ne,fun z hz=>hlz z ((hG x hx).az_ z hz),(hG x hx).len⟩;have h90:∀ x∈ws,x.length≤90:=fun x hx=>by have:=(hG x hx).len; omega
  refine ⟨_,rfl,_,rfl,c,a,ws,ns,rfl,hc1,by omega,hG',x1.sqL hS,hlen,fun t H2 x2 htz htl=>?_⟩;have x12:=x1.trans x2;have hS2:=x12.sqL hS;have car2:Car T T2 c ws H2:=⟨C1c.ext x2,PkL.ext pk x12,PkM.ext pk2 x12⟩;have hT:Za0 (sv t)=true:=by
   show (t.all fun z=>az.contains z)=true;rw [Zn1];intro z hz;simpa using htz z hz
  refine ⟨_,rfl,_,rfl,a,_,rfl,hS2,fun l1 h1=>?_⟩;have y1:=Ext.new (o:=HO.lst (cutV (ns.map V.int) none (some 3))) h1;have e1:upd H2 l1 (.lst (cutV (ns.map V.int) none (some 3))) l1=some (.lst (cutV (ns.map V.int) none (some 3))):=Za;have m1:∀ y∈cutV (ns.map V.int) none (some 3),∃ j,j < 62∧(ns.map V.int)[j]?=some y:=fun y hy=>by
   rw [show (3:Int)=((3:Nat):Int) from rfl,ZbF] at hy;obtain ⟨j,hj,e⟩:=List.getElem_of_mem hy;rw [ZnM] at hj;exact ⟨j,by omega,by rw [←e,Zqq,Znp]⟩
  have q1:=Zce (ns.map V.int) none (some 3);generalize cutV (ns.map V.int) none (some 3)=zs at y1 e1 m1 q1;generalize upd H2 l1 (.lst zs)=H3 at y1 e1;refine ⟨_,rfl,_,rfl,_,rfl,a,_,rfl,by decide,y1.sqL hS2,fun l2 ys m2 q2 h2=>?_⟩;have y2:=y1.newer (o:=HO.lst ys) h2;have e2:=Zk (u:=HO.lst ys) e1 h2;have e2':upd H3 l2 (.lst ys) l2=some (.lst ys):=Za;generalize upd H3 l2 (.lst ys)=H4 at y2 e2 e2';rw [Zni] at q1 q2;refine ⟨l1,l2,_,_,rfl,rfl,e2,e2',Zd (by omega),fun l3 h3=>⟨l3,rfl,⟨_,SqL.of Za⟩,?_⟩⟩;have y3:=y2.newer (o:=HO.lst (zs++ys)) h3;have e3:upd H4 l3 (.lst (zs++ys)) l3=some (.lst (zs++ys)):=Za;generalize upd H4 l3 (.lst (zs++ys))=H5 at y3 e3;have cells:∀ y∈zs++ys,∃ z:Int,y=.int z∧(ws.length=63→z / 3 % 3=0):=fun y hy=>by
   have:∃ j,j < 62∧(ns.map V.int)[j]?=some y:=by
    rcases Zns.mp hy with z | z
    ·exact m1 y z
    ·obtain ⟨j,h1,h2⟩:=m2 y z;refine ⟨j,?_,h2⟩;have hl:=(Znw.mp h2).1;rw [Zni] at hl;by_cases e:ns.length=63
     ·have:=Zkz h1 (by rw [Zni]; omega);omega
     ·omega
   obtain ⟨j,h2,h1⟩:=this;rw [Znq] at h1;obtain ⟨z,e,rfl⟩:=Option.map_eq_some_iff.mp h1;exact ⟨z,rfl,fun q=>h63 q j z h2 e⟩
  refine Yl (K:=K) (a:=l3) (xs:=zs++ys) (fun j σ H6=>(∃ ce:Option V,σ=[some (.ref a),some (.ref c),some (sv t),ce])∧Car T T2 c ws H6∧H6 l3=some (.lst (zs++ys))) ⟨⟨_,rfl⟩,car2.ext y3,e3⟩ (fun j σ H6 _ h=>SqL.of h.2.2) ?_ ?_
  ·rintro j y σ H6 hy ⟨⟨ce,rfl⟩,car,e6⟩;obtain ⟨z,rfl,hz63⟩:=cells y (ZnD hy);refine ⟨_,rfl,_,rfl,c,ws,z,rfl,car.code,by omega,h90,car.p1,fun H7 x7=>⟨_,rfl,Z8 ?_⟩⟩;have car7:=car.xp hn x7;refine ⟨_,rfl,_,rfl,_,rfl,c,ws,t,z,rfl,car7.code,by omega,h90,hT,htl,fun H8 x8=>⟨_,rfl,Z8 ?_⟩⟩;have car8:=car7.ext x8;refine ⟨_,rfl,_,rfl,c,ws,z,rfl,car8.code,by omega,h90,car8.p2,fun H9 x9 pk9=>⟨_,rfl,Z8 ?_⟩⟩;have car9:=car8.kp hn x9 pk9;have e9:H9 l3=some (.lst (zs++ys)):=x9.lst car8.p2 (x8.lst (x7.lst e6));exact ⟨_,rfl,_,rfl,c,ws,z,rfl,car9.code,by omega,h90,hz63,fun H10 x10=>⟨_,rfl,Z8 ⟨⟨_,rfl⟩,car9.ext x10,x10.lst e9⟩⟩⟩
  ·rintro σ H6 ⟨⟨ce,rfl⟩,car,e6⟩;have aa:[V.str "a",V.str "a"]=([[97],[97]]:List W).map sv:=by rw [Zhg.1]; rfl
   have cd:∀ {H' p},H' p=some (.lst [V.str "a",V.str "a"])→ZW H' p [[97],[97]]:=fun {H' p} h=>⟨by rw [h,aa],fun x hx=>by
    have:x=[97]:=by simpa using hx
    rw [this]; decide,by decide,fun x hx=>by
    have:x=[97]:=by simpa using hx
    rw [this]; decide⟩
   refine ⟨by show 0≤sizeLine; exact ZnH _,fun p0 hp0 o dx no ndx ne=>⟨o,p0,dx,[],rfl,Za,(YC no ndx ne).lst Za,by simp,fun v hv=>(nomatch hv),fun p G7 np' y7' hp7'=>⟨rfl,?_⟩⟩⟩;obtain ⟨x7,np,ho7,hp7⟩:=JD (C:=cT) (fld:="tails") no ndx ne np' y7' hp7';generalize upd G7 o (.ins cT dx [("tails",.ref p)])=H7 at x7 ho7 hp7;refine ⟨o,dx,_,rfl,ho7,rfl,by show 2≤sizeLine; decide,fun q0 hq0=>?_⟩;have y7:=Ext.new (o:=HO.lst [V.str "a",V.str "a"]) hq0;have e7:upd H7 q0 (.lst [V.str "a",V.str "a"]) q0=some (.lst [V.str "a",V.str "a"]):=Za;generalize upd H7 q0 (.lst [V.str "a",V.str "a"])=H8 at y7 e7;refine ⟨o,q0,p,dx,[[97],[97]],[],rfl,y7.ins ho7,cd e7,⟨y7.lst hp7,by simp,fun x hx=>nomatch hx⟩,fun b H9 x9 hb=>⟨b,false,rfl,_,rfl,?_⟩⟩;have eb:b=false:=by
    cases b with
    | false=>rfl
    | true=>exact absurd ((hb.mp rfl).ww 0 1 (by decide) (by decide) (by decide) [] rfl) (by simp)
   rw [eb];refine ZI (by decide) ?_;refine ⟨by show 1≤sizeLine; decide,fun p1 hp1=>⟨by show 1≤sizeLine; decide,fun p2 hp2=>?_⟩⟩;have z1:=Zk (u:=HO.lst [V.int 1]) (Za (H:=H9) (a:=p1) (o:=HO.lst [V.int 0])) hp2;have z2:upd (upd H9 p1 (.lst [V.int 0])) p2 (.lst [V.int 1]) p2=some (.lst [V.int 1]):=Za;generalize upd (upd H9 p1 (.lst [V.int 0])) p2 (.lst [V.int 1])=H10 at z1 z2;refine fun o1 dx1 no1 ndx1 ne1=>⟨o1,p1,p2,dx1,_,_,rfl,Za,(YC no1 ndx1 ne1).lst z1,(YC no1 ndx1 ne1).lst z2,by simp,by simp,Pln.ints [0],Pln.ints [1],fun r1 r2 G11 n1' n2' _ y11' hr11' hr12'=>⟨rfl,?_⟩⟩;obtain ⟨x11,_,_,ho11,hr11,hr12⟩:=Zcd no1 ndx1 ne1 n1' n2' y11' hr11' hr12';generalize upd G11 o1 (.ins cC dx1 [("one",.ref r1),("other",.ref r2)])=H11 at x11 ho11 hr11 hr12;refine ⟨o1,dx1,_,rfl,ho11,rfl,by show 2≤sizeLine; decide,fun q1 hq1=>?_⟩;have y11:=Ext.new (o:=HO.lst [V.str "a",V.str "a"]) hq1;have e11:upd H11 q1 (.lst [V.str "a",V.str "a"]) q1=some (.lst [V.str "a",V.str "a"]):=Za;generalize upd H11 q1 (.lst [V.str "a",V.str "a"])=H12 at y11 e11;refine ⟨o1,q1,r1,r2,dx1,[[97],[97]],[0],[1],rfl,y11.ins ho11,⟨y11.lst hr11,by simp⟩,⟨y11.lst hr12,by simp⟩,by decide,by decide,cd e11,fun x hx=>by
    have:x=[97]:=by simpa using hx
    rw [this]; decide,fun b2 H13 x13 hb2=>⟨b2,true,rfl,?_⟩⟩
   have eb2:b2=true:=hb2.mpr ⟨by decide,by decide,by decide,by decide⟩;rw [eb2];exact k H13
end
end L2
namespace L2
open PySem PySem.Spec PyProof.Rows
theorem ZgR {P:Program}{w:World}{K:Znj}{mg mb:Str→Option Value}{CX:CXT}{k:Nat}{fa a T T2:Addr}{fd:FuncData}{x:Str}{sp:Sp}{s₁:Shared}{vs:List Value}{ns:List Int}
  (KX:K.In s₁.heap) (hns:s₁.heap.Ns mainGlobals mg) (hb:s₁.heap.Ns builtinsNs mb) (hbb:∀ x:Str,x≠"__name__"→mb x=bootBuiltins x) (hlim:s₁.heap.NoLimit) (hg:s₁.gens=#[])
  (ha:s₁.heap.get? a=some { cls:=.type "list",data:=.seq vs.toArray }) (hi:IntsAre vs ns) (hl:ns.length≤sizeLine) (hr:ZR k callerA)
  (KT:∀ b,b=T∨b=T2→K.lookup b=none) (hT:∀ b,b=T∨b=T2→s₁.heap.get? b=some { cls:=.none,data:=.fields #[] }) (tab:∀ b,b=T∨b=T2→isCodeTable s₁.heap b) (M:BM mg s₁.heap)
  (F:∀ base:Heap,K.In base→base.Ns mainGlobals mg→BM mg base→Ym P w K mg base CX k fa fd [x] sp) (hbind:∀ (s:Shared) (u:Value),BindsTo s fd ⟨[u],[]⟩ [(x,u)])
  (hsp:∀ H:Hp,H T=some (.tbl #[])→H T2=some (.tbl #[])→SqL K H a (ns.map V.int)→sp [.ref a] H (fun v _=>v=.bl true) fun _ _ _=>False)
  (hCX:∀ H e s',CX [] H s₁ (fun _ _ _=>False) e s'→False):
  codeAny (model P w) callerA (.call (.ref fa) ⟨[.ref a],[]⟩) (fun r s'=>r=.ok (.ret (.bool true))∧OldK s₁.heap s'.heap∧s'.os=s₁.os∧AllBare s'.gens) s₁:=by
 have rv:=Zca hi;have len:=hi.length;have aT:¬ (a=T∨a=T2):=fun z=>by rw [hT a z] at ha; cases ha
 generalize eo:({ cls:=.type "list",data:=.seq vs.toArray }:Obj)=oa at ha;let H:Hp:=fun b=>if b=T∨b=T2 then some (.tbl #[]) else if b=a then (match K.lookup a with | none=>some (.frz oa (.lst (ns.map V.int))) | some _=>none) else none;have HT:∀ b,b=T∨b=T2→H b=some (.tbl #[]):=fun b h=>if_pos h;have Ha:H a=(match K.lookup a with | none=>some (.frz oa (.lst (ns.map V.int))) | some _=>none):=by
  show (if a=T∨a=T2 then _ else if a=a then _ else _)=_;rw [if_neg aT,if_pos rfl]
 have Hn:∀ b,¬ (b=T∨b=T2)→b≠a→H b=none:=fun b h1 h2=>by
  show (if b=T∨b=T2 then _ else if b=a then _ else _)=_;rw [if_neg h1,if_neg h2]
 have lstA:∀ {H':Hp},Yh P w H' s₁.heap a (.lst (ns.map V.int)):=by
  subst eo;exact ⟨by rw [Zni]; exact hl,vs,_,rv,ha⟩
 have hok:HOk P w H s₁.heap:=fun b u e=>by
  by_cases z:b=T∨b=T2
  ·rw [HT b z] at e;cases e;exact hT b z
  ·by_cases y:b=a
   ·subst y;rw [Ha] at e;cases q:K.lookup b with
    | none=>
     rw [q] at e;cases e;exact ⟨ha,lstA⟩
    | some o=>
     rw [q] at e;cases e
   ·rw [Hn b z y] at e;cases e
 have sq:SqL K H a (ns.map V.int):=by
  cases q:K.lookup a with
  | none=>exact .inl (.inr ⟨oa,by rw [Ha,q]⟩)
  | some o=>
   have e:=KX a o q;rw [ha] at e;cases e;subst eo;exact .inr ⟨_,vs.toArray,_,q,rfl,rfl,rfl,by rw [Zny,len]; exact hl,by simpa using rv⟩
 have noD:∀ {b:Addr}{o:Obj},s₁.heap.get? b=some o→(∀ fs,o.data≠.fields fs)→(∀ es n,o.data≠.seq es n)→H b=none:=fun {b o} e n1 n2=>by
  refine Hn b (fun z=>?_) fun z=>?_
  ·rw [hT b z] at e;cases e;exact n1 _ rfl
  ·rw [z,ha,←eo] at e;cases e;exact n2 _ _ rfl
 have nsK:∀ {b:Addr}{m:Str→Option Value},s₁.heap.Ns b m→(ZeM s₁.heap H).Ns b m:=fun {b m} ⟨o,es,ep,e,d,r⟩=>⟨o,es,ep,Zc3 e (noD e (fun _ z=>by rw [d] at z; cases z) fun _ _ z=>by rw [d] at z; cases z),d,r⟩;have kb:K.In (ZeM s₁.heap H):=fun b o e=>Zc3 (KX b o e) (by
  by_cases z:b=T∨b=T2
  ·rw [KT b z] at e;cases e
  ·by_cases y:b=a
   ·subst y;rw [Ha,e]
   ·exact Hn b z y)
 have M':BM mg (ZeM s₁.heap H):=let ⟨bm,o,b1,b2,b3,b4,b5,b6⟩:=M; ⟨bm,o,b1,b2,Zc3 b3 (noD b3 (fun _ z=>by rw [b6] at z; cases z) fun _ _ z=>by rw [b6] at z; cases z),b4,b5,b6⟩;have hM:Mod K mg (ZeM s₁.heap H):=⟨kb,nsK hns,⟨mb,nsK hb,hbb⟩,let ⟨mc,h1,h2⟩:=hlim; ⟨mc,nsK h1,h2⟩⟩;have e0:Zgy P w K mg (ZeM s₁.heap H) callerA [] s₁ H:=⟨rfl,hM,fun b o e=>Zlk e,Zpx (Ziw _ _),trivial,fun b z=>absurd (show b∈([]:List Addr) from z) (by simp),hok,.of_eq hg⟩;refine codeAny_mono ((F _ kb (nsK hns) M').run callerA [] s₁ H ⟨[.ref a],[]⟩ [.ref a] [.ref a] _ _ hr e0 (hbind s₁ (.ref a)) (.cons rfl .nil) (hsp H (HT T (.inl rfl)) (HT T2 (.inr rfl)) sq)) fun r s' h=>?_;cases r with
 | error e=>exact (hCX H e s' h).elim
 | ok fl=>
  cases fl with
  | next=>exact False.elim h
  | brk=>exact False.elim h
  | cont=>exact False.elim h
  | ret u=>
   obtain ⟨v,H',os,bare,un,hok',r',q⟩:=h;cases (show v=.bl true from q);cases (show u=Value.bool true from r');refine ⟨rfl,⟨fun b o e=>?_,fun b o e=>un.there b o e (by simp)⟩,os,bare⟩;by_cases z:b=T∨b=T2
   ·obtain ⟨more,e2⟩:=un.tbls b _ (HT b z);have e3:s'.heap.get? b=some { cls:=.none,data:=.fields (#[]++more) }:=hok' b _ e2;rw [hT b z] at e;cases e;exact .inr (.inl ⟨tab b z,rfl,#[],more,rfl,e3⟩)
   ·cases q:H b with
    | none=>exact .inl (un.keep b o e q (fun z=>absurd (show b∈([]:List Addr) from z) (by simp)) (by simp))
    | some u=>
     have y:b=a:=Classical.byContradiction fun y=>by rw [Hn b z y] at q; cases q
     subst y;rw [ha] at e;cases e;rw [Ha] at q;cases q2:K.lookup b with
     | none=>
      rw [q2] at q;cases q;obtain ⟨e2,_⟩:=hok' b _ (un.frzs b _ _ (by rw [Ha,q2]));exact .inl e2
     | some o=>
      rw [q2] at q;cases q
end L2
namespace L2
open PySem PySem.Spec PyProof.Rows Tw
theorem ZaJ {fd:FuncData}{ps:List Str} (h:∀ a,bindArgs fd ⟨[a],[]⟩=pure (ps.zip [a])) (us:List Value) (hl:us.length=1):bindArgs fd ⟨us,[]⟩=pure (ps.zip us):=match us,hl with | [a],_=>h a
theorem Jb {fd:FuncData}{ps:List Str} (h:∀ a b,bindArgs fd ⟨[a,b],[]⟩=pure (ps.zip [a,b])) (us:List Value) (hl:us.length=2):bindArgs fd ⟨us,[]⟩=pure (ps.zip us):=match us,hl with | [a,b],_=>h a b
theorem ZaK {fd:FuncData}{ps:List Str} (h:∀ a b c,bindArgs fd ⟨[a,b,c],[]⟩=pure (ps.zip [a,b,c])) (us:List Value) (hl:us.length=3):bindArgs fd ⟨us,[]⟩=pure (ps.zip us):=match us,hl with | [a,b,c],_=>h a b c
theorem bnd4 {fd:FuncData}{ps:List Str} (h:∀ a b c d,bindArgs fd ⟨[a,b,c,d],[]⟩=pure (ps.zip [a,b,c,d])) (us:List Value) (hl:us.length=4):bindArgs fd ⟨us,[]⟩=pure (ps.zip us):=match us,hl with | [a,b,c,d],_=>h a b c d
theorem bnd5 {fd:FuncData}{ps:List Str} (h:∀ a b c d e,bindArgs fd ⟨[a,b,c,d,e],[]⟩=pure (ps.zip [a,b,c,d,e])) (us:List Value) (hl:us.length=5):bindArgs fd ⟨us,[]⟩=pure (ps.zip us):=match us,hl with | [a,b,c,d,e],_=>h a b c d e
def Zi (K:Znj) (x:Str) (st:Stmt) (f:Addr):Prop:=ZnI K mainGlobals x=some (some (.ref f))∧
 ∃ (oc:Value) (od:Option Addr) (kV doc pm:Value) (an:Option Addr) (cdv ct:Value) (osl:Array (Option Value)),K.lookup f=some ⟨oc,od,.func (Zop x x (YX st) (YB st) (Zf st) .none kV doc pm an cdv ct),osl⟩∧
  Zo5 K cdv x=true∧Zoj K (.ref f)=true
theorem Zi.is {K:Znj}{h:Heap}{mg:Str→Option Value}{x:Str}{st:Stmt}{ps:List Str} (X:K.In h) (G:h.Ns mainGlobals mg) (d:∃ f,Zi K x st f)
  (hb:∀ (kV doc pm:Value) (an:Option Addr) (cdv ct:Value) (us:List Value),us.length=ps.length→bindArgs (Zop x x (YX st) (YB st) (Zf st) .none kV doc pm an cdv ct) ⟨us,[]⟩=pure (ps.zip us)):Def K mg x x st ps:=by
 obtain ⟨f,a,oc,od,kV,doc,pm,an,cdv,ct,osl,l,c,k⟩:=d;have F:=Zc1 (x:=x) (qual:=x) (st:=st) l c k;exact ⟨f,_,F,Zoi X G a,k,F.binds hb⟩
theorem Zi.mk {K:Znj}{x:Str}{st:Stmt}{f:Addr}{oc:Value}{od:Option Addr}{kV doc pm:Value}{an:Option Addr}{cdv ct:Value}{osl:Array (Option Value)} (a:ZnI K mainGlobals x=some (some (.ref f)))
  (l:K.lookup f=some ⟨oc,od,.func (Zop x x (YX st) (YB st) (Zf st) .none kV doc pm an cdv ct),osl⟩) (c:Zo5 K cdv x=true) (k:Zoj K (.ref f)=true):∃ f,Zi K x st f:=
 ⟨f,a,oc,od,kV,doc,pm,an,cdv,ct,osl,l,c,k⟩
theorem Zmn {K:Znj}{x:Str}{t:Tok} (a:ZnI K mainGlobals "LETTERS"=some (some (.str x t))) (e:x=Str.ofString "abcdefghijklmnopqrstuvwxyz"):
  ∃ x t,ZnI K mainGlobals "LETTERS"=some (some (.str x t))∧x=Str.ofString "abcdefghijklmnopqrstuvwxyz":=⟨x,t,a,e⟩
theorem Zmo {K:Znj}{x:Int}{t:Tok} (a:ZnI K mainGlobals "LONGEST"=some (some (.int x t))) (e:x=100):∃ x t,ZnI K mainGlobals "LONGEST"=some (some (.int x t))∧x=100:=⟨x,t,a,e⟩
structure ZlR (K:Znj) (x:Str) (C:Addr):Prop where
 a:ZnI K mainGlobals x=some (some (.ref C))
 ok:ZpH K C Zjx "ValueError.__new__"=true
def Jq (K:Znj) (C:Addr) (m qual:Str) (st:Stmt) (f:Addr) (fd:FuncData):Prop:=Zn4 K (.ref C) m=some (some (.ref f))∧Zqi K (.ref f)=true∧Fun K m qual st f fd
structure JE (K:Znj) (C:Addr) (fld:Str) (cC cR:Addr) (bC bR:Bool):Prop where
 cl:Cls K C
 mak:Zpe K C=true
 kp:Zoj K (.ref C)=true
 na:ZG K C fld
 ty:ZcL K C
 kC:Zoc K (.ref C) (.ref cC)=some bC
 kR:Zoc K (.ref C) (.ref cR)=some bR
def Zar (K:Znj) (x:Str):Option Addr:=match ZnI K mainGlobals x with
 | some (some (.ref f))=>match K.lookup f with
  | some ⟨_,_,.func fd,_⟩=>match fd.code with
   | .ref c=>some c
   | _=>none
  | _=>none
 | _=>none
def Zaa (K:Znj) (x:Str):Addr:=match Zar K x with
 | some c=>match K.lookup c with
  | some ⟨_,_,.fields vs,_⟩=>match (vs[11]?:Option Value) with
   | some (.ref p)=>p
   | _=>0
  | _=>0
 | none=>0
def Zgz (K:Znj) (c P:Addr):Prop:=∀ h:Heap,K.In h→Zo4 h c P
theorem Zgz.hd {K:Znj}{c P:Addr}{h:Heap} (x:Zgz K c P) (X:K.In h):Zo4 h c P:=x h X
theorem Zi.table {K:Znj}{h:Heap}{mg:Str→Option Value}{T c:Addr} (X:K.In h) (G:h.Ns mainGlobals mg) (d:∃ f,Zi K "in_order" Pl.s_in_order f) (hc:Zar K "in_order"=some c) (hh:Zgz K c T)
  (hb:∀ (kV doc pm:Value) (an:Option Addr) (cdv ct:Value) (us:List Value),us.length=["values"].length→bindArgs (Zop "in_order" "in_order" (YX Pl.s_in_order) (YB Pl.s_in_order) (Zf Pl.s_in_order) .none kV doc pm an cdv ct) ⟨us,[]⟩=pure ((["values"]:List Str).zip us)):
  ∀ base:Heap,K.In base→DefT K mg base T:=by
 obtain ⟨f,a,oc,od,kV,doc,pm,an,cdv,ct,osl,l,cd,k⟩:=d;have F:=Zc1 (x:="in_order") (qual:="in_order") (st:=Pl.s_in_order) l cd k;refine fun base XB=>⟨f,_,c,F,Zoi X G a,k,F.binds hb,?_,hh.hd XB⟩;unfold Zar at hc;rw [a] at hc;dsimp only at hc;rw [l] at hc;dsimp only at hc;split at hc
 next c'=>
  cases hc;rfl
 next=>cases hc
theorem Zi.table2 {K:Znj}{h:Heap}{mg:Str→Option Value}{T c:Addr} (X:K.In h) (G:h.Ns mainGlobals mg) (d:∃ f,Zi K "_law_begins_right" Pl.s_law_begins_right f) (hc:Zar K "_law_begins_right"=some c) (hh:Zgz K c T)
  (hb:∀ (kV doc pm:Value) (an:Option Addr) (cdv ct:Value) (us:List Value),us.length=["_law_code_here","_law_cell"].length→bindArgs (Zop "_law_begins_right" "_law_begins_right" (YX Pl.s_law_begins_right) (YB Pl.s_law_begins_right) (Zf Pl.s_law_begins_right) .none kV doc pm an cdv ct) ⟨us,[]⟩=pure ((["_law_code_here","_law_cell"]:List Str).zip us)):
  ∀ base:Heap,K.In base→ZlQ K mg base T:=by
 obtain ⟨f,a,oc,od,kV,doc,pm,an,cdv,ct,osl,l,cd,k⟩:=d;have F:=Zc1 (x:="_law_begins_right") (qual:="_law_begins_right") (st:=Pl.s_law_begins_right) l cd k;refine fun base XB=>⟨f,_,c,F,Zoi X G a,k,F.binds hb,?_,hh.hd XB⟩;unfold Zar at hc;rw [a] at hc;dsimp only at hc;rw [l] at hc;dsimp only at hc;split at hc
 next c'=>
  cases hc;rfl
 next=>cases hc
theorem Zmb {l:Zq9}{w:World}{K:Znj}{h:Heap}{mg:Str→Option Value}{fa T T2 ci cj:Addr} (X:K.In h) (G:h.Ns mainGlobals mg) (hfa:mg "law"=some (.ref fa)) (hci:Zar K "in_order"=some ci) (hhd:Zgz K ci T) (hcj:Zar K "_law_begins_right"=some cj) (hhd2:Zgz K cj T2)
  (d0:∃ f,Zi K "is_whole" Pl.s_is_whole f)
  (d1:∃ f,Zi K "is_word" Pl.s_is_word f)
  (d2:∃ f,Zi K "are_words" Pl.s_are_words f)
  (d3:∃ f,Zi K "is_code" Pl.s_is_code f)
  (d4:∃ f,Zi K "is_place" Pl.s_is_place f)
  (d5:∃ f,Zi K "are_places" Pl.s_are_places f)
  (d6:∃ f,Zi K "words_at" Pl.s_words_at f)
  (d7:∃ f,Zi K "joined" Pl.s_joined f)
  (d8:∃ f,Zi K "check_code" Pl.s_check_code f)
  (d9:∃ f,Zi K "noted" Pl.s_noted f)
  (d10:∃ f,Zi K "count_below" Pl.s_count_below f)
  (d11:∃ f,Zi K "grouped" Pl.s_grouped f)
  (d12:∃ f,Zi K "standing" Pl.s_standing f)
  (d13:∃ f,Zi K "marks_behind" Pl.s_marks_behind f)
  (d14:∃ f,Zi K "unrolled" Pl.s_unrolled f)
  (d15:∃ f,Zi K "copied" Pl.s_copied f)
  (d16:∃ f,Zi K "are_tails" Pl.s_are_tails f)
  (d17:∃ f,Zi K "rests_known" Pl.s_rests_known f)
  (d18:∃ f,Zi K "tails_closed" Pl.s_tails_closed f)
  (d19:∃ f,Zi K "marks_closed" Pl.s_marks_closed f)
  (d20:∃ f,Zi K "none_begins_next" Pl.s_none_begins_next f)
  (d21:∃ f,Zi K "is_count" Pl.s_is_count f)
  (d22:∃ f,Zi K "are_lengths" Pl.s_are_lengths f)
  (d23:∃ f,Zi K "spread" Pl.s_spread f)
  (d24:∃ f,Zi K "overfull" Pl.s_overfull f)
  (d25:∃ f,Zi K "check_asked" Pl.s_check_asked f)
  (d26:∃ f,Zi K "chains_to_marks" Pl.s_chains_to_marks f)
  (d27:∃ f,Zi K "read" Pl.s_read f)
  (d28:∃ f,Zi K "rest_numbers" Pl.s_rest_numbers f)
  (d29:∃ f,Zi K "first_rests" Pl.s_first_rests f)
  (d30:∃ f,Zi K "places_begun" Pl.s_places_begun f)
  (d31:∃ f,Zi K "rests_behind" Pl.s_rests_behind f)
  (d32:∃ f,Zi K "take_new" Pl.s_take_new f)
  (d33:∃ f,Zi K "all_rests" Pl.s_all_rests f)
  (d34:∃ f,Zi K "once" Pl.s_once f)
  (d35:∃ f,Zi K "_law_code" Pl.s_law_code f)
  (d36:∃ f,Zi K "_law_stands" Pl.s_law_stands f)
  (d37:∃ f,Zi K "_law_text" Pl.s_law_text f)
  (d38:∃ f,Zi K "_law_says" Pl.s_law_says f)
  (d39:∃ f,Zi K "_law_bent" Pl.s_law_bent f)
  (d40:∃ f,Zi K "_law_tails" Pl.s_law_tails f)
  (d41:∃ f,Zi K "_law_made" Pl.s_law_made f)
  (d42:∃ f,Zi K "_law_codes_right" Pl.s_law_codes_right f)
  (d43:∃ f,Zi K "_law_stuck" Pl.s_law_stuck f)
  (d44:∃ f,Zi K "_law_texts_right" Pl.s_law_texts_right f)
  (d45:∃ f,Zi K "_law_beside" Pl.s_law_beside f)
  (d46:∃ f,Zi K "_law_words_right" Pl.s_law_words_right f)
  (d47:∃ f,Zi K "_law_begins_right" Pl.s_law_begins_right f)
  (d48:∃ f,Zi K "in_order" Pl.s_in_order f)
  (d49:∃ f,Zi K "law" Pl.s_law f)
  (b0:ZnI K mainGlobals "isinstance"=some none)
  (b1:ZnI K mainGlobals "int"=some none)
  (b2:ZnI K mainGlobals "bool"=some none)
  (b3:ZnI K mainGlobals "str"=some none)
  (b4:ZnI K mainGlobals "list"=some none)
  (b5:ZnI K mainGlobals "dict"=some none)
  (b6:ZnI K mainGlobals "all"=some none)
  (b7:ZnI K mainGlobals "any"=some none)
  (b8:ZnI K mainGlobals "len"=some none)
  (b9:ZnI K mainGlobals "range"=some none)
  (b10:ZnI K mainGlobals "sorted"=some none)
  (b11:ZnI K mainGlobals "sum"=some none)
  (b12:ZnI K mainGlobals "enumerate"=some none)
  (b13:ZnI K mainGlobals "max"=some none)
  (b14:ZnI K mainGlobals "ValueError"=some none)
  (b15:ZnI K mainGlobals "min"=some none)
  (b16:ZnI K mainGlobals "zip"=some none)
  (gL:∃ x t,ZnI K mainGlobals "LETTERS"=some (some (.str x t))∧x=Str.ofString "abcdefghijklmnopqrstuvwxyz") (gE:∃ x t,ZnI K mainGlobals "EMPTY"=some (some (.int x t))∧x=0) {c0 c1 cC cT cR cS cB cA cW cF cE:Addr}
  (r0:ZlR K "BadCode" c0) (r1:ZlR K "BadText" c1)
  (tC:ZnI K mainGlobals "Clash"=some (some (.ref cC)))
  (tT:ZnI K mainGlobals "Tails"=some (some (.ref cT)))
  (tR:ZnI K mainGlobals "Reading"=some (some (.ref cR)))
  (tS:ZnI K mainGlobals "Stuck"=some (some (.ref cS)))
  (tB:ZnI K mainGlobals "Begins"=some (some (.ref cB)))
  (tA:ZnI K mainGlobals "Apart"=some (some (.ref cA)))
  (tW:ZnI K mainGlobals "Words"=some (some (.ref cW)))
  (tF:ZnI K mainGlobals "Full"=some (some (.ref cF)))
  (tE:ZnI K mainGlobals "Rest"=some (some (.ref cE)))
  (aC1:JE K cC "one" cC cR true false)
  (aC2:JE K cC "other" cC cR true false)
  (aT:JE K cT "tails" cC cR false false)
  (aE1:JE K cE "place" cC cR false false)
  (aE2:JE K cE "mark" cC cR false false)
  (aE3:JE K cE "ahead" cC cR false false)
  (aE4:JE K cE "behind" cC cR false false)
  (aR:JE K cR "places" cC cR false true)
  (aS:JE K cS "marks" cC cR false false)
  (aB1:JE K cB "one" cC cR false false)
  (aB2:JE K cB "other" cC cR false false)
  (aA:JE K cA "order" cC cR false false)
  (aW:JE K cW "words" cC cR false false)
  (aF:JE K cF "words" cC cR false false)
  (i0:Zn4 K (.ref cF) "__init__"=some (some (.builtin "object.__init__")))
  (m0:∃ f fd,Jq K cC "__init__" "Clash.__init__" Pl.c_Clash_init f fd)
  (m1:∃ f fd,Jq K cC "shows" "Clash.shows" Pl.c_Clash_shows f fd)
  (m2:∃ f fd,Jq K cT "__init__" "Tails.__init__" Pl.c_Tails_init f fd)
  (m3:∃ f fd,Jq K cT "shows" "Tails.shows" Pl.c_Tails_shows f fd)
  (m4:∃ f fd,Jq K cE "__init__" "Rest.__init__" Pl.c_Rest_init f fd)
  (m5:∃ f fd,Jq K cR "__init__" "Reading.__init__" Pl.c_Reading_init f fd)
  (m6:∃ f fd,Jq K cR "shows" "Reading.shows" Pl.c_Reading_shows f fd)
  (m7:∃ f fd,Jq K cS "__init__" "Stuck.__init__" Pl.c_Stuck_init f fd)
  (m8:∃ f fd,Jq K cS "shows" "Stuck.shows" Pl.c_Stuck_shows f fd)
  (m9:∃ f fd,Jq K cB "__init__" "Begins.__init__" Pl.c_Begins_init f fd)
  (m10:∃ f fd,Jq K cB "shows" "Begins.shows" Pl.c_Begins_shows f fd)
  (m11:∃ f fd,Jq K cA "__init__" "Apart.__init__" Pl.c_Apart_init f fd)
  (m12:∃ f fd,Jq K cA "shows" "Apart.shows" Pl.c_Apart_shows f fd)
  (m13:∃ f fd,Jq K cW "__init__" "Words.__init__" Pl.c_Words_init f fd)
  (m14:∃ f fd,Jq K cW "shows" "Words.shows" Pl.c_Words_shows f fd)
  (m15:∃ f fd,Jq K cF "shows" "Full.shows" Pl.c_Full_shows f fd)
 :∃ fd:FuncData,(∀ (s:Shared) (v:Value),BindsTo s fd ⟨[v],[]⟩ [("_law_script",v)])∧∀ base:Heap,K.In base→base.Ns mainGlobals mg→BM mg base→Ym l.prog w K mg base CX0 8 fa fd ["_law_script"] (Zh1 K T T2):=by
 have B:Yo mg:=⟨Zn0 X G b0,Zn0 X G b1,Zn0 X G b2,Zn0 X G b3,Zn0 X G b4,Zn0 X G b5,Zn0 X G b6,Zn0 X G b7,Zn0 X G b8,Zn0 X G b9,Zn0 X G b10,Zn0 X G b11,Zn0 X G b12,Zn0 X G b13,Zn0 X G b14⟩;have hmin:mg "min"=none:=Zn0 X G b15;have hzip:mg "zip"=none:=Zn0 X G b16;have L:∃ t,mg "LETTERS"=some (.str "abcdefghijklmnopqrstuvwxyz" t):=by
  obtain ⟨x,t,e,rfl⟩:=gL;exact ⟨t,Zoi X G e⟩
 have hE:∃ t,mg "EMPTY"=some (.int 0 t):=by
  obtain ⟨x,t,e,rfl⟩:=gE;exact ⟨t,Zoi X G e⟩
 have Z0:Exc K mg "BadCode" c0:=⟨Zoi X G r0.a,r0.ok⟩;have Z1:Exc K mg "BadText" c1:=⟨Zoi X G r1.a,r1.ok⟩;have D_is_whole:=Zi.is (ps:=["value"]) X G d0 fun _ _ _ _ _ _=>ZaJ fun _=>rfl;have D_is_word:=Zi.is (ps:=["value","letters"]) X G d1 fun _ _ _ _ _ _=>Jb fun _ _=>rfl;have D_are_words:=Zi.is (ps:=["values","letters"]) X G d2 fun _ _ _ _ _ _=>Jb fun _ _=>rfl;have D_is_code:=Zi.is (ps:=["value"]) X G d3 fun _ _ _ _ _ _=>ZaJ fun _=>rfl;have D_is_place:=Zi.is (ps:=["value","count"]) X G d4 fun _ _ _ _ _ _=>Jb fun _ _=>rfl;have D_are_places:=Zi.is (ps:=["values","count"]) X G d5 fun _ _ _ _ _ _=>Jb fun _ _=>rfl;have D_words_at:=Zi.is (ps:=["code","places"]) X G d6 fun _ _ _ _ _ _=>Jb fun _ _=>rfl;have D_joined:=Zi.is (ps:=["code","places"]) X G d7 fun _ _ _ _ _ _=>Jb fun _ _=>rfl;have D_check_code:=Zi.is (ps:=["value"]) X G d8 fun _ _ _ _ _ _=>ZaJ fun _=>rfl;have D_noted:=Zi.is (ps:=["values"]) X G d9 fun _ _ _ _ _ _=>ZaJ fun _=>rfl;have D_count_below:=Zi.is (ps:=["values","value"]) X G d10 fun _ _ _ _ _ _=>Jb fun _ _=>rfl;have D_grouped:=Zi.is (ps:=["words"]) X G d11 fun _ _ _ _ _ _=>ZaJ fun _=>rfl;have D_standing:=Zi.is (ps:=["groups","text","mark"]) X G d12 fun _ _ _ _ _ _=>ZaK fun _ _ _=>rfl;have D_marks_behind:=Zi.is (ps:=["groups","text","mark"]) X G d13 fun _ _ _ _ _ _=>ZaK fun _ _ _=>rfl;have D_unrolled:=Zi.is (ps:=["chain"]) X G d14 fun _ _ _ _ _ _=>ZaJ fun _=>rfl;have D_copied:=Zi.is (ps:=["value"]) X G d15 fun _ _ _ _ _ _=>ZaJ fun _=>rfl;have D_are_tails:=Zi.is (ps:=["values"]) X G d16 fun _ _ _ _ _ _=>ZaJ fun _=>rfl;have D_rests_known:=Zi.is (ps:=["heads","texts","known"]) X G d17 fun _ _ _ _ _ _=>ZaK fun _ _ _=>rfl;have D_tails_closed:=Zi.is (ps:=["code","tails"]) X G d18 fun _ _ _ _ _ _=>Jb fun _ _=>rfl;have D_marks_closed:=Zi.is (ps:=["code","text","known"]) X G d19 fun _ _ _ _ _ _=>ZaK fun _ _ _=>rfl;have D_none_begins_next:=Zi.is (ps:=["words"]) X G d20 fun _ _ _ _ _ _=>ZaJ fun _=>rfl;have D_is_count:=Zi.is (ps:=["letters"]) X G d21 fun _ _ _ _ _ _=>ZaJ fun _=>rfl;have D_are_lengths:=Zi.is (ps:=["values"]) X G d22 fun _ _ _ _ _ _=>ZaJ fun _=>rfl;have D_spread:=Zi.is (ps:=["free","letters","steps","enough"]) X G d23 fun _ _ _ _ _ _=>bnd4 fun _ _ _ _=>rfl;have D_overfull:=Zi.is (ps:=["letters","lengths"]) X G d24 fun _ _ _ _ _ _=>Jb fun _ _=>rfl;have D_check_asked:=Zi.is (ps:=["code","text"]) X G d25 fun _ _ _ _ _ _=>Jb fun _ _=>rfl;have D_chains_to_marks:=Zi.is (ps:=["groups","text"]) X G d26 fun _ _ _ _ _ _=>Jb fun _ _=>rfl;have D_read:=Zi.is (ps:=["code","text"]) X G d27 fun _ _ _ _ _ _=>Jb fun _ _=>rfl;have D_rest_numbers:=Zi.is (ps:=["code"]) X G d28 fun _ _ _ _ _ _=>ZaJ fun _=>rfl;have D_first_rests:=Zi.is (ps:=["code","groups","place"]) X G d29 fun _ _ _ _ _ _=>ZaK fun _ _ _=>rfl;have D_places_begun:=Zi.is (ps:=["words","order","tail"]) X G d30 fun _ _ _ _ _ _=>ZaK fun _ _ _=>rfl;have D_rests_behind:=Zi.is (ps:=["code","groups","words","order","rest"]) X G d31 fun _ _ _ _ _ _=>bnd5 fun _ _ _ _ _=>rfl;have D_take_new:=Zi.is (ps:=["known","numbers","rests"]) X G d32 fun _ _ _ _ _ _=>ZaK fun _ _ _=>rfl;have D_all_rests:=Zi.is (ps:=["code"]) X G d33 fun _ _ _ _ _ _=>ZaJ fun _=>rfl;have D_once:=Zi.is (ps:=["code"]) X G d34 fun _ _ _ _ _ _=>ZaJ fun _=>rfl;have D_law_code:=Zi.is (ps:=["_law_script"]) X G d35 fun _ _ _ _ _ _=>ZaJ fun _=>rfl;have D_law_stands:=Zi.is (ps:=["_law_word","_law_text_here","_law_at"]) X G d36 fun _ _ _ _ _ _=>ZaK fun _ _ _=>rfl;have D_law_text:=Zi.is (ps:=["_law_code_here","_law_script"]) X G d37 fun _ _ _ _ _ _=>Jb fun _ _=>rfl;have D_law_says:=Zi.is (ps:=["_law_said","_law_due"]) X G d38 fun _ _ _ _ _ _=>Jb fun _ _=>rfl;have D_law_bent:=Zi.is (ps:=["_law_some","_law_cell","_law_more"]) X G d39 fun _ _ _ _ _ _=>ZaK fun _ _ _=>rfl;have D_law_tails:=Zi.is (ps:=["_law_code_here","_law_tails_here"]) X G d40 fun _ _ _ _ _ _=>Jb fun _ _=>rfl;have D_law_made:=Zi.is (ps:=["_law_code_here","_law_places"]) X G d41 fun _ _ _ _ _ _=>Jb fun _ _=>rfl;have D_law_codes_right:=Zi.is (ps:=["_law_code_here","_law_cell"]) X G d42 fun _ _ _ _ _ _=>Jb fun _ _=>rfl;have D_law_stuck:=Zi.is (ps:=["_law_code_here","_law_text_here","_law_marks"]) X G d43 fun _ _ _ _ _ _=>ZaK fun _ _ _=>rfl;have D_law_texts_right:=Zi.is (ps:=["_law_code_here","_law_text_here","_law_cell"]) X G d44 fun _ _ _ _ _ _=>ZaK fun _ _ _=>rfl;have D_law_beside:=Zi.is (ps:=["_law_words"]) X G d45 fun _ _ _ _ _ _=>ZaJ fun _=>rfl;have D_law_words_right:=Zi.is (ps:=["_law_code_here","_law_cell"]) X G d46 fun _ _ _ _ _ _=>Jb fun _ _=>rfl;have DT:=Zi.table X G d48 hci hhd fun _ _ _ _ _ _=>ZaJ fun _=>rfl;have DT2:=Zi.table2 X G d47 hcj hhd2 fun _ _ _ _ _ _=>Jb fun _ _=>rfl;obtain ⟨g0,gd0,ga0,gf0,F0⟩:=m0;have B0:=F0.binds (ps:=["self","one","other"]) fun _ _ _ _ _ _=>ZaK fun _ _ _=>rfl;obtain ⟨g1,gd1,ga1,gf1,F1⟩:=m1;have B1:=F1.binds (ps:=["self","code"]) fun _ _ _ _ _ _=>Jb fun _ _=>rfl;obtain ⟨g2,gd2,ga2,gf2,F2⟩:=m2;have B2:=F2.binds (ps:=["self","tails"]) fun _ _ _ _ _ _=>Jb fun _ _=>rfl;obtain ⟨g3,gd3,ga3,gf3,F3⟩:=m3;have B3:=F3.binds (ps:=["self","code"]) fun _ _ _ _ _ _=>Jb fun _ _=>rfl;obtain ⟨g4,gd4,ga4,gf4,F4⟩:=m4;have B4:=F4.binds (ps:=["self","place","mark","ahead","behind"]) fun _ _ _ _ _ _=>bnd5 fun _ _ _ _ _=>rfl;obtain ⟨g5,gd5,ga5,gf5,F5⟩:=m5;have B5:=F5.binds (ps:=["self","places"]) fun _ _ _ _ _ _=>Jb fun _ _=>rfl;obtain ⟨g6,gd6,ga6,gf6,F6⟩:=m6;have B6:=F6.binds (ps:=["self","code","text"]) fun _ _ _ _ _ _=>ZaK fun _ _ _=>rfl;obtain ⟨g7,gd7,ga7,gf7,F7⟩:=m7;have B7:=F7.binds (ps:=["self","marks"]) fun _ _ _ _ _ _=>Jb fun _ _=>rfl;obtain ⟨g8,gd8,ga8,gf8,F8⟩:=m8;have B8:=F8.binds (ps:=["self","code","text"]) fun _ _ _ _ _ _=>ZaK fun _ _ _=>rfl;obtain ⟨g9,gd9,ga9,gf9,F9⟩:=m9;have B9:=F9.binds (ps:=["self","one","other"]) fun _ _ _ _ _ _=>ZaK fun _ _ _=>rfl;obtain ⟨g10,gd10,ga10,gf10,F10⟩:=m10;have B10:=F10.binds (ps:=["self","code"]) fun _ _ _ _ _ _=>Jb fun _ _=>rfl;obtain ⟨g11,gd11,ga11,gf11,F11⟩:=m11;have B11:=F11.binds (ps:=["self","order"]) fun _ _ _ _ _ _=>Jb fun _ _=>rfl;obtain ⟨g12,gd12,ga12,gf12,F12⟩:=m12;have B12:=F12.binds (ps:=["self","code"]) fun _ _ _ _ _ _=>Jb fun _ _=>rfl;obtain ⟨g13,gd13,ga13,gf13,F13⟩:=m13;have B13:=F13.binds (ps:=["self","words"]) fun _ _ _ _ _ _=>Jb fun _ _=>rfl;obtain ⟨g14,gd14,ga14,gf14,F14⟩:=m14;have B14:=F14.binds (ps:=["self","letters","lengths"]) fun _ _ _ _ _ _=>ZaK fun _ _ _=>rfl;obtain ⟨g15,gd15,ga15,gf15,F15⟩:=m15;have B15:=F15.binds (ps:=["self","letters","lengths"]) fun _ _ _ _ _ _=>ZaK fun _ _ _=>rfl;obtain ⟨f,a,oc,od,kV,doc,pm,an,cdv,ct,osl,lk,c,k⟩:=d49;have e:=hfa.symm.trans (Zoi X G a);cases e;have FL:=Zc1 (x:="law") (qual:="law") (st:=Pl.s_law) lk c k;refine ⟨Zop "law" "law" (YX Pl.s_law) (YB Pl.s_law) (Zf Pl.s_law) .none kV doc pm an cdv ct,fun s v=>.of_eq rfl,fun base XB _ M=>?_⟩;have Cwhole:=Zf6 (P:=l.prog) (w:=w) (base:=base) D_is_whole B;have Cword:=Zg5 (P:=l.prog) (w:=w) (base:=base) D_is_word B;have Cwords:=ZeY D_are_words B Cword;have Ccode:=Zg4 D_is_code L Cwords;have Cplace:=Zf5 D_is_place Cwhole;have Cplaces:=ZdV D_are_places B Cplace;have Cwat:=Zgc (P:=l.prog) (w:=w) (base:=base) D_words_at;have Cchk:=ZdW D_check_code Z0 Ccode;have Cgrp:=Zg3 (P:=l.prog) (w:=w) (base:=base) D_grouped B;have Cstd:=Zga (P:=l.prog) (w:=w) (base:=base) D_standing B;have Cjoi:=ZiY (P:=l.prog) (w:=w) (base:=base) D_joined Cwat;have Cnot:=Zj7 (P:=l.prog) (w:=w) (base:=base) D_noted B;have Cbel:=Zdp (P:=l.prog) (w:=w) (base:=base) D_count_below B;have Cmar:=Zcw D_marks_behind Cstd;have Cunr:=Zgb (P:=l.prog) (w:=w) (base:=base) D_unrolled;have CcoG:=Zg1 (P:=l.prog) (w:=w) (base:=base) D_copied B;have CcoZ:=Zg2 (P:=l.prog) (w:=w) (base:=base) D_copied B;have Ctls:=ZeX (P:=l.prog) (w:=w) (base:=base) D_are_tails B;have Ckno:=Zdq D_rests_known Cgrp Cmar;have Cclo:=Zcz D_tails_closed B Cnot Ckno;have Cmcl:=ZiX D_marks_closed Cgrp Cmar;have Cnon:=Ze1 (P:=l.prog) (w:=w) (base:=base) D_none_begins_next hzip;have Ccnt:=Zf4 D_is_count B L Cwhole;have Clns:=Zdm D_are_lengths B Cwhole;have Cspr:=Zi3 (P:=l.prog) (w:=w) (base:=base) (K:=K) D_spread hmin;have Covr:=Zf9 D_overfull B Cspr;have Cask:=Zdn D_check_asked B L Z1 Cchk;have Ccha:=ZiW D_chains_to_marks B Cstd;have Cord:=Zf2 (P:=l.prog) (w:=w) (DT base XB) B M;have Crno:=Zb2 (P:=l.prog) (w:=w) (base:=base) D_rest_numbers B hE;have RC:Zhu l.prog w K mg base cE:=⟨Zoi X G tE,aE1.cl,aE1.na,aE2.na,aE3.na,aE4.na⟩;have O:ZeC l.prog w K mg base cE:=⟨Zoi X G tE,g4,gd4,⟨aE1.mak,ga4,gf4,aE1.kp⟩,Zf3 F4 aE1.cl aE1.na aE2.na aE3.na aE4.na,B4⟩;have Cfst:=Zcv D_first_rests Cstd O;have Cpbe:=Zcx D_places_begun B Cbel;have Crbe:=Zcy D_rests_behind B Cstd Cpbe O RC;have Ctak:=Ze2 (P:=l.prog) (w:=w) (base:=base) D_take_new RC;have Call:=ZdU D_all_rests B hE Cgrp Cord Cwat Crno Cfst Ctak Crbe;have iC:=Ziy F0 aC1.cl aC1.na aC2.na CcoG;have iT:=ZiA F2 aT.cl aT.na CcoG;have iR:=ZfL F5 aR.cl aR.na CcoG;have iS:=Ziz F7 aS.cl aS.na CcoG;have shC:=Zka F1 B aC1.cl aC1.na aC2.na Ccode Cplaces Cjoi;have shT:=Zi1 F3 aT.cl aT.na Ccode Ctls Cclo;have shR:=Zkb F6 B aR.cl aR.na Ccode Cplaces Cjoi;have shS:=Zkc F8 B aS.cl aS.na Ccode Cplaces Cnot Cmcl;have OC:Kls l.prog w K mg base "Clash" cC ["one","other"] (ZdC cC) ["code"] (ZbS cC):=⟨Zoi X G tC,aC1.cl,⟨g0,gd0,⟨aC1.mak,ga0,gf0,aC1.kp⟩,iC,B0⟩,⟨g1,gd1,⟨ga1,gf1,F1.kp⟩,shC,B1⟩⟩;have OT:Kls l.prog w K mg base "Tails" cT ["tails"] (Jd cT "tails") ["code"] (ZaS cT):=⟨Zoi X G tT,aT.cl,⟨g2,gd2,⟨aT.mak,ga2,gf2,aT.kp⟩,iT,B2⟩,⟨g3,gd3,⟨ga3,gf3,F3.kp⟩,shT,B3⟩⟩;have OC1:Kls l.prog w K mg base "Clash" cC ["one","other"] (Zfh cC) ["code"] (ZbS cC):=⟨OC.there,OC.cls,⟨g0,gd0,⟨aC1.mak,ga0,gf0,aC1.kp⟩,ZgI iC,B0⟩,OC.sh⟩;have OT1:Kls l.prog w K mg base "Tails" cT ["tails"] (Zfj cT) ["code"] (ZaS cT):=⟨OT.there,OT.cls,⟨g2,gd2,⟨aT.mak,ga2,gf2,aT.kp⟩,ZgJ iT,B2⟩,OT.sh⟩;have OR1:Zjs l.prog w K mg base "Reading" cR "places" (ZcH cR):=⟨Zoi X G tR,aR.cl,aR.na,⟨g5,gd5,⟨aR.mak,ga5,gf5,aR.kp⟩,ZfK iR,B5⟩,⟨g6,gd6,⟨ga6,gf6,F6.kp⟩,shR,B6⟩⟩;have OS1:Zjs l.prog w K mg base "Stuck" cS "marks" (ZcI cS):=⟨Zoi X G tS,aS.cl,aS.na,⟨g7,gd7,⟨aS.mak,ga7,gf7,aS.kp⟩,ZfK iS,B7⟩,⟨g8,gd8,⟨ga8,gf8,F8.kp⟩,shS,B8⟩⟩;have OR:Kls l.prog w K mg base "Reading" cR ["places"] (Jd cR "places") ["code","text"] (ZcH cR):=⟨OR1.there,aR.cl,⟨g5,gd5,⟨aR.mak,ga5,gf5,aR.kp⟩,iR,B5⟩,⟨g6,gd6,⟨ga6,gf6,F6.kp⟩,shR.mono (by decide),B6⟩⟩;have OS:Kls l.prog w K mg base "Stuck" cS ["marks"] (Jd cS "marks") ["code","text"] (ZcI cS):=⟨OS1.there,aS.cl,⟨g7,gd7,⟨aS.mak,ga7,gf7,aS.kp⟩,iS,B7⟩,⟨g8,gd8,⟨ga8,gf8,F8.kp⟩,shS.mono (by decide),B8⟩⟩;have OB:Kls l.prog w K mg base "Begins" cB ["one","other"] (Zhj cB) ["code"] (Zfm cB):=⟨Zoi X G tB,aB1.cl,⟨g9,gd9,⟨aB1.mak,ga9,gf9,aB1.kp⟩,ZgH F9 aB1.cl aB1.na aB2.na CcoZ,B9⟩,⟨g10,gd10,⟨ga10,gf10,F10.kp⟩,(Zj9 F10 B aB1.cl aB1.na aB2.na Ccode Cplace).mono (by decide),B10⟩⟩;have OA:Kls l.prog w K mg base "Apart" cA ["order"] (Jd cA "order") ["code"] (ZdG cA):=⟨Zoi X G tA,aA.cl,⟨g11,gd11,⟨aA.mak,ga11,gf11,aA.kp⟩,Zix F11 aA.cl aA.na CcoG,B11⟩,⟨g12,gd12,⟨ga12,gf12,F12.kp⟩,(ZiZ F12 B aA.cl aA.na Ccode Cplaces Cwat Cnon).mono (by decide),B12⟩⟩;have OW:Kls l.prog w K mg base "Words" cW ["words"] (Jd cW "words") ["letters","lengths"] (ZdH cW):=⟨Zoi X G tW,aW.cl,⟨g13,gd13,⟨aW.mak,ga13,gf13,aW.kp⟩,ZiB F13 aW.cl aW.na CcoG,B13⟩,⟨g14,gd14,⟨ga14,gf14,F14.kp⟩,Zi2 F14 B L aW.cl aW.na Ccnt Clns Cwords Cnon,B14⟩⟩;have Conc:=Zj8 D_once hE Cchk Call Cunr RC OC1 OT1;have Crea:=Zlo D_read B Cask Cgrp Ccha Cunr OR1 OS1;have Lst:=Zi4 (P:=l.prog) (w:=w) (base:=base) D_law_stands B;have Lco:=Zf7 (P:=l.prog) (w:=w) (base:=base) D_law_code B;have Lte:=Zf8 (P:=l.prog) (w:=w) (base:=base) D_law_text B;have Lsa:=Zlp (P:=l.prog) (w:=w) (base:=base) (K:=K) D_law_says B;have Lbe:=Zll (P:=l.prog) (w:=w) (base:=base) D_law_bent B;have Lta:=Ze0 D_law_tails B Lst;have Lma:=Zln (P:=l.prog) (w:=w) (base:=base) D_law_made B;have Lsk:=ZeZ D_law_stuck B Lst;have Lbs:=ZiV D_law_beside B Lst;have RA:=Zdo D_law_codes_right B Conc Lbe Lsa Lma Lta OC OT aC1.na aC2.na aT.na aC1.ty aT.ty aC1.kC aT.kC;have RT:=Zdr D_law_texts_right B Crea Lbe Lsa Lma Lsk OR OS aR.na aS.na aR.ty aS.ty aR.kR aS.kR;have RW:=Zds D_law_words_right B Lbe Lsa Lbs OW ⟨g15,gd15,⟨ga15,gf15,F15.kp⟩,Zi0 F15 Ccnt Clns Covr,B15⟩ aF.cl ⟨aF.mak,i0,aF.kp⟩ (Zoi X G tF) aW.na;have RB:=Zcu (P:=l.prog) (w:=w) (DT2 base XB) B M hmin Lbe Lsa Lbs Lst OB OA aB1.na aB2.na aA.na;exact Zlm FL B Lco Lte RA RT RB RW Lsa OC OT
end L2
set_option maxHeartbeats 0
namespace L2
open PySem PySem.Spec PySem.W PyProof.Rows Tw
def Zk8 (tb:String→Option Builtin) (p:Program) (w:World) (m:Nat) (ann:Option Value) (x:SharedT × Thread):Option (SharedT × Thread):=bif stepOk m ann x.2 then stepT (denote tb) p w x.1 x.2 else none
def ZmC (tb:String→Option Builtin) (p:Program) (w:World) (m:Nat) (ann:Option Value) (k:Nat):SharedT × Thread→Option SharedT:=
 Nat.rec (fun _=>none) (fun _ more x=>bif through x.2 then some x.1 else (Zk8 tb p w m ann x).bind more) k
theorem ZjU {tb:String→Option Builtin}{p:Program}{w:World}{m:Nat}{ann:Option Value}{x y:SharedT × Thread} (h:Zk8 tb p w m ann x=some y):stepOk m ann x.2=true∧step (denote tb) p w x.1.abs x.2=.go y.1.abs y.2:=by
 unfold Zk8 at h;cases q:stepOk m ann x.2 <;> rw [q] at h
 ·exact nomatch h
 ·exact ⟨rfl,stepT_spec h⟩
theorem Zjf {tb:String→Option Builtin}{p:Program}{w:World}{m:Nat}{ann:Option Value}{r:SharedT} (k:Nat):∀ x:SharedT × Thread,ZmC tb p w m ann k x=some r→topRun tb p w m ann k x.1.abs x.2=some r.abs:=by
 induction k with
 | zero=>exact fun x h=>nomatch h
 | succ k ih=>
  intro x h;have h:(bif through x.2 then some x.1 else (Zk8 tb p w m ann x).bind (ZmC tb p w m ann k))=some r:=h;rw [topRun];cases q:through x.2 <;> rw [q] at h
  ·obtain ⟨y,e1,e2⟩:=Option.bind_eq_some_iff.mp h;obtain ⟨o1,o2⟩:=ZjU e1;rw [o1,o2];exact ih y e2
  ·exact congrArg some (congrArg SharedT.abs (Option.some.inj h))
noncomputable def ZmS (P:Params):BT:=(.node (boot_o_0 P) (.node (boot_o_1 P) (.node (boot_o_3 P) (.node (boot_o_7 P) .nil .nil) .nil) (.node (boot_o_5 P) (.node (boot_o_9 P) .nil .nil) .nil)) (.node (boot_o_2 P) (.node (boot_o_4 P) (.node (boot_o_8 P) .nil .nil) .nil) (.node (boot_o_6 P) (.node (boot_o_10 P) .nil .nil) .nil)))
noncomputable def S0T (w:World) (os:OsState):SharedT:=⟨ZmS w.params,11,{},#[],boot_drawn,boot_toks,os⟩
theorem ZkX (w:World) (os:OsState):(S0T w os).abs=⟨boot_heap w.params,Zrn [],boot_drawn,boot_toks,os⟩:=by kernel_rfl
noncomputable def Zfo (p:Program) (w:World) (os:OsState):Option SharedT:=ZmC treeTable p w 11 (some (.ref 6)) 20000 (S0T w os,topStub p)
noncomputable def okT (p:Program) (w:World) (s:Shared):Bool:=staticsOk (importedModules p.main.body) (boot_heap w.params) s.heap && namesBound p s.heap && gensDone s && laidKept (boot_heap w.params) s.heap
theorem Zjh {a:Shared}{h:Heap}{g:Array GenState}{d:Drawn}{t:Nat} (e1:h=a.heap) (e2:g=a.gens) (e3:d=a.drawn) (e4:t=a.toks):(⟨h,g,d,t,a.os⟩:Shared)=a:=by
 cases a;subst e1 e2 e3 e4;rfl
theorem Zk0 {tb:String→Option Builtin}{p:Program}{w:World}{N m:Nat}{ann:Option Value}{a r:Shared} (ha:fencedOpening tb p w N=some a) (h1:(a.heap.isNs mainGlobals && a.gens.size == 0)=true) (h2:a.heap.objs.size=m) (h3:a.heap.nsMap mainGlobals "__annotations__"=ann)
  (run:topRun tb p w m ann N a (topStub p)=some r) (ok:(staticsOk (importedModules p.main.body) a.heap r.heap && namesBound p r.heap && gensDone r && laidKept a.heap r.heap)=true):openEnds tb p w N=some r:=by
 subst h2 h3;rw [openEnds,ha,Option.bind_some,topFrom,h1];dsimp only;rw [run,Option.bind_some,ok]
theorem Zk6 {p q:Program}{Xt:Shared→Bool}{α:Type}{Yf:Shared→α}{Ya:World→α}
  (open_:∀ w:World,(fencedOpening treeTable p w 20000).map (fun s=>(s.heap,s.gens,s.drawn,s.toks))=some (boot_heap w.params,Zrn [],boot_drawn,boot_toks))
  (size:∀ w:World,((boot_heap w.params).isNs mainGlobals && (Zrn []:Array GenState).size == 0,(boot_heap w.params).objs.size,(boot_heap w.params).nsMap mainGlobals "__annotations__")=(true,11,some (.ref 6)))
  (h:∀ w os,∃ s,Zfo p w os=some s∧okT p w s.abs=true∧openSeen q [] (importedModules p.main.body) Xt true s.abs=openGood q []∧Yf s.abs=Ya w):LeftO p q [] Xt Yf Ya 20000 true:=fun w=>by
 obtain ⟨a,ea,eb⟩:=Option.map_eq_some_iff.mp (open_ w);have u1:a.heap=boot_heap w.params:=congrArg (·.1) eb;have u2:a.gens=Zrn []:=congrArg (·.2.1) eb;obtain ⟨s,r,l1,l2,l3⟩:=h w a.os;have top:=Zjf _ _ r;have e0:(S0T w a.os).abs=a:=(ZkX w a.os).trans (Zjh u1.symm u2.symm (congrArg (·.2.2.1) eb).symm (congrArg (·.2.2.2) eb).symm);rw [show (S0T w a.os,topStub p).1.abs=a from e0] at top;have ends:=Zk0 ea (by rw [u1,u2]; exact congrArg (·.1) (size w)) (by rw [u1]; exact congrArg (·.2.1) (size w)) (by rw [u1]; exact congrArg (·.2.2) (size w)) top (by rw [u1]; exact l1);rw [ends,Option.map_some,l2,l3]
theorem map_some {α β:Type}{x:Option α}{f:α→β}{b:β} (h:x.map f=some b) {s:α} (e:x=some s):f s=b:=by
 rw [e] at h;exact Option.some.inj h
def ZaW (o:Obj):Bool:=match o.cls with
 | .none=>match o.data with
  | .fields _=>true
  | _=>false
 | _=>false
def ZcY:Nat→List Obj→List (Addr × Obj)
 | _,[]=>[]
 | a,o :: os=>match alive o with
  | some o'=>bif ZaW o' then ZcY (a+1) os else (a,o') :: ZcY (a+1) os
  | none=>ZcY (a+1) os
def Zee (h:Heap):Znj:=ZcY 0 h.objs.toList
theorem ZcZ {a:Nat}{o:Obj}:∀ {os:List Obj}{n:Nat},(ZcY n os).lookup a=some o→ZaW o=false∧∃ o',n≤a∧os[a - n]?=some o'∧alive o'=some o
 | [],_,h=>nomatch h
 | u :: os,n,h=>by
  have go:(ZcY (n+1) os).lookup a=some o→ZaW o=false∧∃ o',n≤a∧(u :: os)[a - n]?=some o'∧alive o'=some o:=fun q=>by
   obtain ⟨h0,o',h1,h2,h3⟩:=ZcZ q;refine ⟨h0,o',by omega,?_,h3⟩;rw [show a - n=(a - (n+1))+1 by omega];exact h2
  unfold ZcY at h;cases q:alive u with
  | none=>rw [q] at h; exact go h
  | some u'=>
   rw [q] at h;dsimp only at h;cases y:ZaW u' with
   | true=>rw [y] at h; exact go h
   | false=>
    rw [y,cond_false,Zoy] at h;by_cases e:a=n
    ·subst e;rw [show (a == a)=true from beq_self_eq_true a] at h;cases h;exact ⟨y,u,Znn _,by simp,q⟩
    ·rw [show (a == n)=false from beq_false_of_ne e] at h;exact go h
theorem ZjL (h:Heap) {a:Addr}{o:Obj} (e:(Zee h).lookup a=some o):ZaW o=false:=(ZcZ e).1
theorem ZjK (h:Heap):(Zee h).In h:=fun a o e=>by
 obtain ⟨_,o',_,h2,h3⟩:=ZcZ e;rw [Zq6] at h2;unfold Heap.get?;rw [←ZnY,h2];show (match some o' with | some ⟨_,_,.freed,_⟩=>none | o=>o)=some o;rw [←h3];obtain ⟨c,d,dt,sl⟩:=o';cases dt <;> rfl
def ZeK (K:Znj) (x:Str):Bool:=match Zar K x with
 | some c=>match K.lookup c with
  | some ⟨.type n,_,.fields vs,_⟩=>n == "code" && (match (vs[11]?:Option Value) with
   | some (.ref p)=>c != p && (match vs.getD 11 .none with
    | .ref p'=>p' == p
    | _=>false) && (match vs.getD 18 .none with
    | .str _ _=>true
    | _=>false) && (match vs.getD 7 .none with
    | .int _ _=>true
    | _=>false) && (match vs.getD 9 .none with
    | .bool _=>true
    | _=>false) && (match vs.getD 10 .none with
    | .int _ _=>true
    | _=>false)
   | _=>false)
  | _=>false
 | none=>false
theorem ZhC {K:Znj}{x:Str} (h:ZeK K x=true):∃ c,Zar K x=some c∧Zgz K c (Zaa K x):=by
 unfold ZeK at h;split at h
 next c ec=>
  refine ⟨c,ec,?_⟩;split at h
  next n od vs sl el=>
   rw [ZnA,beq_iff_eq] at h;obtain ⟨rfl,h⟩:=h;split at h
   next p ep=>
    have tp:Zaa K x=p:=by
     unfold Zaa;rw [ec];dsimp only;rw [el];dsimp only;rw [ep]
    rw [tp];simp only [ZnA,bne_iff_ne,ne_eq] at h;obtain ⟨⟨⟨⟨⟨h0,h1⟩,h2⟩,h3⟩,h4⟩,h5⟩:=h;split at h1
    next p' e1=>
     rw [beq_iff_eq] at h1;subst h1;split at h2
     next x2 t2 e2=>
      split at h3
      next x3 t3 e3=>
       split at h4
       next x4 e4=>
        split at h5
        next x5 t5 e5=>exact fun h X=>⟨_,vs,x2,t2,x3,t3,x4,x5,t5,X _ _ el,rfl,rfl,ep,e1,e2,e3,e4,e5,h0⟩
        next=>cases h5
       next=>cases h4
      next=>cases h3
     next=>cases h2
    next=>cases h1
   next=>cases h
  next=>cases h
 next=>cases h
def Zfn (h:Heap) (a:Addr):Bool:=match h.get? a with
 | some ⟨.none,none,.fields vs,sl⟩=>vs.isEmpty && sl.isEmpty
 | _=>false
theorem ZkO {h:Heap}{a:Addr} (e:Zfn h a=true):h.get? a=some { cls:=.none,data:=.fields #[] }:=by
 unfold Zfn at e;split at e
 next vs sl q=>
  rw [ZnA,Array.isEmpty_iff,Array.isEmpty_iff] at e;rw [q,e.1,e.2]
 next=>cases e
def ZeF (fd:FuncData):FuncData:={ fd with kwdefaults:=.none,doc:=.none,pyModule:=.none,annotations:=none,code:=.none,closureTuple:=.none }
def Zt (K:Znj) (x:Str):Option (FuncData × Bool):=match ZnI K mainGlobals x with
 | some (some (.ref f))=>match K.lookup f with
  | some ⟨_,_,.func fd,_⟩=>some (ZeF fd,Zo5 K fd.code x && Zoj K (.ref f))
  | _=>none
 | _=>none
def Zv (x:Str) (st:Stmt):Option (FuncData × Bool):=some (Zop x x (YX st) (YB st) (Zf st) .none .none .none .none none .none .none,true)
theorem Zi.of_seen {K:Znj}{x:Str}{st:Stmt} (h:Zt K x=Zv x st):∃ f,Zi K x st f:=by
 unfold Zt Zv at h;split at h
 next f e=>
  split at h
  next oc od fd osl l=>
   obtain ⟨e1,e2⟩:=Prod.mk.inj (Option.some.inj h);rw [ZnA] at e2;obtain ⟨nm,qn,ps,bd,sc,gl,cl,df,kd,dc,pm,an,cd,ct,bl⟩:=fd;unfold ZeF Zop at e1;simp only [FuncData.mk.injEq] at e1;obtain ⟨rfl,rfl,rfl,rfl,rfl,rfl,rfl,rfl,_,_,_,_,_,_,rfl⟩:=e1;exact ⟨f,e,oc,od,kd,dc,pm,an,cd,ct,osl,l,e2.1,e2.2⟩
  next=>cases h
 next=>cases h
def YD (K:Znj) (x:Str):Bool:=match ZnI K mainGlobals x with
 | some none=>true
 | _=>false
theorem Yt {K:Znj}{x:Str} (h:YD K x=true):ZnI K mainGlobals x=some none:=by
 unfold YD at h;split at h
 ·assumption
 ·cases h
def adr (K:Znj) (x:Str):Addr:=match ZnI K mainGlobals x with
 | some (some (.ref a))=>a
 | _=>0
def Zac (K:Znj) (x:Str):Bool:=match ZnI K mainGlobals x with
 | some (some (.ref _))=>true
 | _=>false
theorem JH {K:Znj}{x:Str} (h:Zac K x=true):ZnI K mainGlobals x=some (some (.ref (adr K x))):=by
 unfold Zac at h;unfold adr;split at h
 next a e=>rw [e]
 next=>cases h
def ZkJ (K:Znj) (x:Str):Option Str:=match ZnI K mainGlobals x with
 | some (some (.str y _))=>some y
 | _=>none
def ZjO (K:Znj) (x:Str):Option Int:=match ZnI K mainGlobals x with
 | some (some (.int y _))=>some y
 | _=>none
theorem ZmF {K:Znj}{x y:Str} (h:ZkJ K x=some y):∃ z t,ZnI K mainGlobals x=some (some (.str z t))∧z=y:=by
 unfold ZkJ at h;split at h
 next z t e=>exact ⟨z,t,e,Option.some.inj h⟩
 next=>cases h
theorem Zmg {K:Znj}{x:Str}{y:Int} (h:ZjO K x=some y):∃ z t,ZnI K mainGlobals x=some (some (.int z t))∧z=y:=by
 unfold ZjO at h;split at h
 next z t e=>exact ⟨z,t,e,Option.some.inj h⟩
 next=>cases h
theorem at_ {α:Type}{l l':List α} (h:l=l') (i:Nat) {a b:α} (ea:l[i]?=some a) (eb:l'[i]?=some b):a=b:=by
 rw [h,eb] at ea;exact (Option.some.inj ea).symm
abbrev AS:=List Bool × List (Option (Option Value)) × List (Option Bool)
def YA (K:Znj) (x fld:Str):AS:=
 ([Zpq K (adr K x) Str.empty,ZpK K (adr K x),Zqz K (adr K x),Zpe K (adr K x),Zoj K (.ref (adr K x))],
  [Zn4 K (.ref (adr K x)) "__setattr__",Zn4 K (.ref (adr K x)) fld,Zn4 K (.ref (adr K x)) "__class__",ZqA K (.builtin "object.__class__") "__get__"],
  [Zrc K (.builtin "object.__class__"),Zrq K (adr K x) (.type "object"),Zoc K (.ref (adr K x)) (.ref (adr K "Clash")),Zoc K (.ref (adr K x)) (.ref (adr K "Reading"))])
def YY (bC bR:Bool):AS:=
 ([true,true,true,true,true],[some (some (.builtin "object.__setattr__")),some none,some (some (.builtin "object.__class__")),some (some (.builtin "getset_descriptor.__get__"))],[some true,some true,some bC,some bR])
theorem Y6 {K:Znj}{x fld:Str}{bC bR:Bool} (h:YA K x fld=YY bC bR):JE K (adr K x) fld (adr K "Clash") (adr K "Reading") bC bR:=by
 obtain ⟨h1,h23⟩:=Prod.mk.inj h;obtain ⟨h2,h3⟩:=Prod.mk.inj h23;have cl:Cls K (adr K x):=⟨at_ h1 0 rfl rfl,at_ h1 1 rfl rfl,at_ h1 2 rfl rfl,at_ h2 0 rfl rfl⟩;exact ⟨cl,at_ h1 3 rfl rfl,at_ h1 4 rfl rfl,at_ h2 1 rfl rfl,⟨cl,at_ h2 2 rfl rfl,at_ h2 3 rfl rfl,at_ h3 0 rfl rfl,at_ h3 1 rfl rfl⟩,at_ h3 2 rfl rfl,at_ h3 3 rfl rfl⟩
def Ys (K:Znj) (x m qual:Str):Option (FuncData × Bool):=match Zn4 K (.ref (adr K x)) m with
 | some (some (.ref f))=>match K.lookup f with
  | some ⟨_,_,.func fd,_⟩=>some (ZeF fd,Zo5 K fd.code qual && Zoj K (.ref f) && Zqi K (.ref f))
  | _=>none
 | _=>none
def YH (m qual:Str) (st:Stmt):Option (FuncData × Bool):=some (Zop m qual (YX st) (YB st) (Zf st) .none .none .none .none none .none .none,true)
theorem YT {K:Znj}{x m qual:Str}{st:Stmt} (h:Ys K x m qual=YH m qual st):∃ f fd,Jq K (adr K x) m qual st f fd:=by
 unfold Ys YH at h;split at h
 next f e=>
  split at h
  next oc od fd osl l=>
   obtain ⟨e1,e2⟩:=Prod.mk.inj (Option.some.inj h);rw [ZnA,ZnA] at e2;obtain ⟨nm,qn,ps,bd,sc,gl,cl,df,kd,dc,pm,an,cd,ct,bl⟩:=fd;unfold ZeF Zop at e1;simp only [FuncData.mk.injEq] at e1;obtain ⟨rfl,rfl,rfl,rfl,rfl,rfl,rfl,rfl,_,_,_,_,_,_,rfl⟩:=e1;exact ⟨f,_,e,e2.2,Zc1 l e2.1.1 e2.1.2⟩
  next=>cases h
 next=>cases h
abbrev Zhv:=List (Option (FuncData × Bool)) × List Bool × Option Str × Option Int × List AS × List (Option (FuncData × Bool)) × Option (Option Value) × Bool × Bool × Bool
def Zkx (K:Znj):Zhv:=
 ([Zt K "is_whole",
  Zt K "is_word",
  Zt K "are_words",
  Zt K "is_code",
  Zt K "is_place",
  Zt K "are_places",
  Zt K "words_at",
  Zt K "joined",
  Zt K "check_code",
  Zt K "noted",
  Zt K "count_below",
  Zt K "grouped",
  Zt K "standing",
  Zt K "marks_behind",
  Zt K "unrolled",
  Zt K "copied",
  Zt K "are_tails",
  Zt K "rests_known",
  Zt K "tails_closed",
  Zt K "marks_closed",
  Zt K "none_begins_next",
  Zt K "is_count",
  Zt K "are_lengths",
  Zt K "spread",
  Zt K "overfull",
  Zt K "check_asked",
  Zt K "chains_to_marks",
  Zt K "read",
  Zt K "rest_numbers",
  Zt K "first_rests",
  Zt K "places_begun",
  Zt K "rests_behind",
  Zt K "take_new",
  Zt K "all_rests",
  Zt K "once",
  Zt K "_law_code",
  Zt K "_law_stands",
  Zt K "_law_text",
  Zt K "_law_says",
  Zt K "_law_bent",
  Zt K "_law_tails",
  Zt K "_law_made",
  Zt K "_law_codes_right",
  Zt K "_law_stuck",
  Zt K "_law_texts_right",
  Zt K "_law_beside",
  Zt K "_law_words_right",
  Zt K "_law_begins_right",
  Zt K "in_order",
  Zt K "law"],
  [YD K "isinstance",YD K "int",YD K "bool",YD K "str",YD K "list",YD K "dict",YD K "all",YD K "any",YD K "len",YD K "range",YD K "sorted",YD K "sum",YD K "enumerate",YD K "max",YD K "ValueError",YD K "min",YD K "zip",Zac K "Clash",Zac K "Tails",Zac K "Reading",Zac K "Stuck",Zac K "Begins",Zac K "Apart",Zac K "Words",Zac K "Full",Zac K "Rest",Zac K "BadCode",Zac K "BadText",ZpH K (adr K "BadCode") Zjx "ValueError.__new__",ZpH K (adr K "BadText") Zjx "ValueError.__new__"],
  ZkJ K "LETTERS",ZjO K "EMPTY",[YA K "Clash" "one",YA K "Clash" "other",YA K "Tails" "tails",YA K "Rest" "place",YA K "Rest" "mark",YA K "Rest" "ahead",YA K "Rest" "behind",YA K "Reading" "places",YA K "Stuck" "marks",YA K "Begins" "one",YA K "Begins" "other",YA K "Apart" "order",YA K "Words" "words",YA K "Full" "words"],[Ys K "Clash" "__init__" "Clash.__init__",Ys K "Clash" "shows" "Clash.shows",Ys K "Tails" "__init__" "Tails.__init__",Ys K "Tails" "shows" "Tails.shows",Ys K "Rest" "__init__" "Rest.__init__",Ys K "Reading" "__init__" "Reading.__init__",Ys K "Reading" "shows" "Reading.shows",Ys K "Stuck" "__init__" "Stuck.__init__",Ys K "Stuck" "shows" "Stuck.shows",Ys K "Begins" "__init__" "Begins.__init__",Ys K "Begins" "shows" "Begins.shows",Ys K "Apart" "__init__" "Apart.__init__",Ys K "Apart" "shows" "Apart.shows",Ys K "Words" "__init__" "Words.__init__",Ys K "Words" "shows" "Words.shows",Ys K "Full" "shows" "Full.shows"],Zn4 K (.ref (adr K "Full")) "__init__",ZeK K "in_order",ZeK K "_law_begins_right",Zaa K "in_order" != Zaa K "_law_begins_right")
def ZcG:Zhv:=
 ([Zv "is_whole" Pl.s_is_whole,
  Zv "is_word" Pl.s_is_word,
  Zv "are_words" Pl.s_are_words,
  Zv "is_code" Pl.s_is_code,
  Zv "is_place" Pl.s_is_place,
  Zv "are_places" Pl.s_are_places,
  Zv "words_at" Pl.s_words_at,
  Zv "joined" Pl.s_joined,
  Zv "check_code" Pl.s_check_code,
  Zv "noted" Pl.s_noted,
  Zv "count_below" Pl.s_count_below,
  Zv "grouped" Pl.s_grouped,
  Zv "standing" Pl.s_standing,
  Zv "marks_behind" Pl.s_marks_behind,
  Zv "unrolled" Pl.s_unrolled,
  Zv "copied" Pl.s_copied,
  Zv "are_tails" Pl.s_are_tails,
  Zv "rests_known" Pl.s_rests_known,
  Zv "tails_closed" Pl.s_tails_closed,
  Zv "marks_closed" Pl.s_marks_closed,
  Zv "none_begins_next" Pl.s_none_begins_next,
  Zv "is_count" Pl.s_is_count,
  Zv "are_lengths" Pl.s_are_lengths,
  Zv "spread" Pl.s_spread,
  Zv "overfull" Pl.s_overfull,
  Zv "check_asked" Pl.s_check_asked,
  Zv "chains_to_marks" Pl.s_chains_to_marks,
  Zv "read" Pl.s_read,
  Zv "rest_numbers" Pl.s_rest_numbers,
  Zv "first_rests" Pl.s_first_rests,
  Zv "places_begun" Pl.s_places_begun,
  Zv "rests_behind" Pl.s_rests_behind,
  Zv "take_new" Pl.s_take_new,
  Zv "all_rests" Pl.s_all_rests,
  Zv "once" Pl.s_once,
  Zv "_law_code" Pl.s_law_code,
  Zv "_law_stands" Pl.s_law_stands,
  Zv "_law_text" Pl.s_law_text,
  Zv "_law_says" Pl.s_law_says,
  Zv "_law_bent" Pl.s_law_bent,
  Zv "_law_tails" Pl.s_law_tails,
  Zv "_law_made" Pl.s_law_made,
  Zv "_law_codes_right" Pl.s_law_codes_right,
  Zv "_law_stuck" Pl.s_law_stuck,
  Zv "_law_texts_right" Pl.s_law_texts_right,
  Zv "_law_beside" Pl.s_law_beside,
  Zv "_law_words_right" Pl.s_law_words_right,
  Zv "_law_begins_right" Pl.s_law_begins_right,
  Zv "in_order" Pl.s_in_order,
  Zv "law" Pl.s_law],
  [true,true,true,true,true,true,true,true,true,true,true,true,true,true,true,true,true,true,true,true,true,true,true,true,true,true,true,true,true,true],
  some (Str.ofString "abcdefghijklmnopqrstuvwxyz"),some 0,[YY true false,YY true false,YY false false,YY false false,YY false false,YY false false,YY false false,YY false true,YY false false,YY false false,YY false false,YY false false,YY false false,YY false false],[YH "__init__" "Clash.__init__" Pl.c_Clash_init,YH "shows" "Clash.shows" Pl.c_Clash_shows,YH "__init__" "Tails.__init__" Pl.c_Tails_init,YH "shows" "Tails.shows" Pl.c_Tails_shows,YH "__init__" "Rest.__init__" Pl.c_Rest_init,YH "__init__" "Reading.__init__" Pl.c_Reading_init,YH "shows" "Reading.shows" Pl.c_Reading_shows,YH "__init__" "Stuck.__init__" Pl.c_Stuck_init,YH "shows" "Stuck.shows" Pl.c_Stuck_shows,YH "__init__" "Begins.__init__" Pl.c_Begins_init,YH "shows" "Begins.shows" Pl.c_Begins_shows,YH "__init__" "Apart.__init__" Pl.c_Apart_init,YH "shows" "Apart.shows" Pl.c_Apart_shows,YH "__init__" "Words.__init__" Pl.c_Words_init,YH "shows" "Words.shows" Pl.c_Words_shows,YH "shows" "Full.shows" Pl.c_Full_shows],some (some (.builtin "object.__init__")),true,true,true)
theorem ZlG {l:Zq9}{w:World}{K:Znj}{h:Heap}{mg:Str→Option Value}{fa:Addr} (X:K.In h) (G:h.Ns mainGlobals mg) (hfa:mg "law"=some (.ref fa)) (S:Zkx K=ZcG):
  ∃ fd:FuncData,(∀ (s:Shared) (v:Value),BindsTo s fd ⟨[v],[]⟩ [("_law_script",v)])∧∀ base:Heap,K.In base→base.Ns mainGlobals mg→BM mg base→Ym l.prog w K mg base CX0 8 fa fd ["_law_script"] (Zh1 K (Zaa K "in_order") (Zaa K "_law_begins_right")):=by
 obtain ⟨S1,S⟩:=Prod.mk.inj S;obtain ⟨S2,S⟩:=Prod.mk.inj S;obtain ⟨S3,S⟩:=Prod.mk.inj S;obtain ⟨S4,S⟩:=Prod.mk.inj S;obtain ⟨S5,S⟩:=Prod.mk.inj S;obtain ⟨S6,S⟩:=Prod.mk.inj S;obtain ⟨S9,S⟩:=Prod.mk.inj S;obtain ⟨S7,S⟩:=Prod.mk.inj S;obtain ⟨S8,_⟩:=Prod.mk.inj S;obtain ⟨ci,hci,hhd⟩:=ZhC S7;obtain ⟨cj,hcj,hhd2⟩:=ZhC S8;exact Zmb X G hfa hci hhd hcj hhd2 (Zi.of_seen (at_ S1 0 rfl rfl)) (Zi.of_seen (at_ S1 1 rfl rfl)) (Zi.of_seen (at_ S1 2 rfl rfl)) (Zi.of_seen (at_ S1 3 rfl rfl)) (Zi.of_seen (at_ S1 4 rfl rfl)) (Zi.of_seen (at_ S1 5 rfl rfl)) (Zi.of_seen (at_ S1 6 rfl rfl)) (Zi.of_seen (at_ S1 7 rfl rfl)) (Zi.of_seen (at_ S1 8 rfl rfl)) (Zi.of_seen (at_ S1 9 rfl rfl)) (Zi.of_seen (at_ S1 10 rfl rfl)) (Zi.of_seen (at_ S1 11 rfl rfl)) (Zi.of_seen (at_ S1 12 rfl rfl)) (Zi.of_seen (at_ S1 13 rfl rfl)) (Zi.of_seen (at_ S1 14 rfl rfl)) (Zi.of_seen (at_ S1 15 rfl rfl)) (Zi.of_seen (at_ S1 16 rfl rfl)) (Zi.of_seen (at_ S1 17 rfl rfl)) (Zi.of_seen (at_ S1 18 rfl rfl)) (Zi.of_seen (at_ S1 19 rfl rfl)) (Zi.of_seen (at_ S1 20 rfl rfl)) (Zi.of_seen (at_ S1 21 rfl rfl)) (Zi.of_seen (at_ S1 22 rfl rfl)) (Zi.of_seen (at_ S1 23 rfl rfl)) (Zi.of_seen (at_ S1 24 rfl rfl)) (Zi.of_seen (at_ S1 25 rfl rfl)) (Zi.of_seen (at_ S1 26 rfl rfl)) (Zi.of_seen (at_ S1 27 rfl rfl)) (Zi.of_seen (at_ S1 28 rfl rfl)) (Zi.of_seen (at_ S1 29 rfl rfl)) (Zi.of_seen (at_ S1 30 rfl rfl)) (Zi.of_seen (at_ S1 31 rfl rfl)) (Zi.of_seen (at_ S1 32 rfl rfl)) (Zi.of_seen (at_ S1 33 rfl rfl)) (Zi.of_seen (at_ S1 34 rfl rfl)) (Zi.of_seen (at_ S1 35 rfl rfl)) (Zi.of_seen (at_ S1 36 rfl rfl)) (Zi.of_seen (at_ S1 37 rfl rfl)) (Zi.of_seen (at_ S1 38 rfl rfl)) (Zi.of_seen (at_ S1 39 rfl rfl)) (Zi.of_seen (at_ S1 40 rfl rfl)) (Zi.of_seen (at_ S1 41 rfl rfl)) (Zi.of_seen (at_ S1 42 rfl rfl)) (Zi.of_seen (at_ S1 43 rfl rfl)) (Zi.of_seen (at_ S1 44 rfl rfl)) (Zi.of_seen (at_ S1 45 rfl rfl)) (Zi.of_seen (at_ S1 46 rfl rfl)) (Zi.of_seen (at_ S1 47 rfl rfl)) (Zi.of_seen (at_ S1 48 rfl rfl)) (Zi.of_seen (at_ S1 49 rfl rfl))
  (Yt (at_ S2 0 rfl rfl)) (Yt (at_ S2 1 rfl rfl)) (Yt (at_ S2 2 rfl rfl)) (Yt (at_ S2 3 rfl rfl)) (Yt (at_ S2 4 rfl rfl)) (Yt (at_ S2 5 rfl rfl)) (Yt (at_ S2 6 rfl rfl)) (Yt (at_ S2 7 rfl rfl)) (Yt (at_ S2 8 rfl rfl)) (Yt (at_ S2 9 rfl rfl)) (Yt (at_ S2 10 rfl rfl)) (Yt (at_ S2 11 rfl rfl)) (Yt (at_ S2 12 rfl rfl)) (Yt (at_ S2 13 rfl rfl)) (Yt (at_ S2 14 rfl rfl)) (Yt (at_ S2 15 rfl rfl)) (Yt (at_ S2 16 rfl rfl))
  (ZmF S3) (Zmg S4) ⟨JH (at_ S2 26 rfl rfl),at_ S2 28 rfl rfl⟩ ⟨JH (at_ S2 27 rfl rfl),at_ S2 29 rfl rfl⟩
  (JH (at_ S2 17 rfl rfl)) (JH (at_ S2 18 rfl rfl)) (JH (at_ S2 19 rfl rfl)) (JH (at_ S2 20 rfl rfl)) (JH (at_ S2 21 rfl rfl)) (JH (at_ S2 22 rfl rfl)) (JH (at_ S2 23 rfl rfl)) (JH (at_ S2 24 rfl rfl)) (JH (at_ S2 25 rfl rfl)) (Y6 (at_ S5 0 rfl rfl)) (Y6 (at_ S5 1 rfl rfl)) (Y6 (at_ S5 2 rfl rfl)) (Y6 (at_ S5 3 rfl rfl)) (Y6 (at_ S5 4 rfl rfl)) (Y6 (at_ S5 5 rfl rfl)) (Y6 (at_ S5 6 rfl rfl)) (Y6 (at_ S5 7 rfl rfl)) (Y6 (at_ S5 8 rfl rfl)) (Y6 (at_ S5 9 rfl rfl)) (Y6 (at_ S5 10 rfl rfl)) (Y6 (at_ S5 11 rfl rfl)) (Y6 (at_ S5 12 rfl rfl)) (Y6 (at_ S5 13 rfl rfl)) S9
  (YT (at_ S6 0 rfl rfl)) (YT (at_ S6 1 rfl rfl)) (YT (at_ S6 2 rfl rfl)) (YT (at_ S6 3 rfl rfl)) (YT (at_ S6 4 rfl rfl)) (YT (at_ S6 5 rfl rfl)) (YT (at_ S6 6 rfl rfl)) (YT (at_ S6 7 rfl rfl)) (YT (at_ S6 8 rfl rfl)) (YT (at_ S6 9 rfl rfl)) (YT (at_ S6 10 rfl rfl)) (YT (at_ S6 11 rfl rfl)) (YT (at_ S6 12 rfl rfl)) (YT (at_ S6 13 rfl rfl)) (YT (at_ S6 14 rfl rfl)) (YT (at_ S6 15 rfl rfl))
def ZlY (h:Heap):Zhv × Bool:=(Zkx (Zee h),Zfn h (Zaa (Zee h) "in_order") && Zfn h (Zaa (Zee h) "_law_begins_right"))
noncomputable def hook:Hook where
 α:=Zhv × Bool
 obs:=fun s=>ZlY s.heap
 val:=fun _=>(ZcG,true)
 says:=fun _ h=>∃ K:Znj,K.In h∧(∀ a o,K.lookup a=some o→ZaW o=false)∧Zkx K=ZcG∧h.get? (Zaa K "in_order")=some { cls:=.none,data:=.fields #[] }∧h.get? (Zaa K "_law_begins_right")=some { cls:=.none,data:=.fields #[] }
 of:=fun _ s e=>⟨Zee s.heap,ZjK _,fun _ _ q=>ZjL _ q,(Prod.mk.inj e).1,ZkO (Zpi.mp (Prod.mk.inj e).2).1,ZkO (Zpi.mp (Prod.mk.inj e).2).2⟩
 keeps:=fun _ _ _ ⟨K,x,n,e,t,u⟩ k=>⟨K,x.keeps k,n,e,k _ _ t,k _ _ u⟩
theorem walk2 {l:Zq9}{q:Program}{loose:List Str}{XP:(Str→Option Value)→Heap→Prop}{d:DefRec} (hn:l.most=some 63) (hdf:d.params.defaults=[]) (hnm:d.name="law"):
  PySem.W.WalkO q loose XP hook.says l.row.toRowW d [] (fun f vs=>PySem.call f vs):=by
 refine Att.attach_call hn hdf fun w s₀ s₁ mg mb fa o pm cd doc a vs ns G Y ho hd hcd hmg hobj hints hlen hg=>?_;obtain ⟨K,KX,KN,S,hT1,hT2⟩:=Y;rw [hnm] at hmg;obtain ⟨fd,hb,hF⟩:=ZlG (l:=l) (w:=w) KX G.T.g hmg S;have S':=(Prod.mk.inj (Prod.mk.inj (Prod.mk.inj (Prod.mk.inj (Prod.mk.inj (Prod.mk.inj (Prod.mk.inj S).2).2).2).2).2).2).2;obtain ⟨ci,_,hhd⟩:=ZhC (K:=K) (Prod.mk.inj S').1;obtain ⟨cj,_,hhd2⟩:=ZhC (K:=K) (Prod.mk.inj (Prod.mk.inj S').2).1;have hne:Zaa K "in_order"≠Zaa K "_law_begins_right":=bne_iff_ne.mp (Prod.mk.inj (Prod.mk.inj S').2).2;have hT:∀ b,b=Zaa K "in_order"∨b=Zaa K "_law_begins_right"→s₁.heap.get? b=some { cls:=.none,data:=.fields #[] }:=fun b h=>by
  rcases h with rfl | rfl
  ·exact hT1
  ·exact hT2
 have KT:∀ b,b=Zaa K "in_order"∨b=Zaa K "_law_begins_right"→K.lookup b=none:=fun b h=>by
  cases z:K.lookup b with
  | none=>rfl
  | some u=>
   have e:=KX _ _ z;rw [hT b h] at e;cases e;exact nomatch KN _ _ z
 have tb:∀ {c T:Addr},Zo4 s₁.heap c T→isCodeTable s₁.heap T:=fun {c T} C=>by
  obtain ⟨o,vs,_,_,_,_,_,_,_,e1,e2,e3,e4,_⟩:=C;exact ⟨c,o,vs,e1,e2,e3,e4⟩
 have tab:∀ b,b=Zaa K "in_order"∨b=Zaa K "_law_begins_right"→isCodeTable s₁.heap b:=fun b h=>by
  rcases h with rfl | rfl
  ·exact tb (hhd.hd KX)
  ·exact tb (hhd2.hd KX)
 exact ZgR (sp:=Zh1 K (Zaa K "in_order") (Zaa K "_law_begins_right")) (CX:=CX0) (k:=8) KX G.T.g G.T.b G.T.builtins G.T.nolimit hg hobj hints (Zog hlen (by decide)) ⟨rfl,by decide,by decide⟩ KT hT tab G.T.bmain hF hb (fun H hP hP2 hS=>⟨a,ns,rfl,hS,hlen,.inl hP,.inl hP2,hne,fun _=>rfl⟩) fun _ _ _ z=>z
noncomputable def look0 (p q:Program) (R:WRecords) (w:World) (os:OsState):=(Zfo p w os).map fun s=>(okT p w s.abs,s.abs.heap.bltView)
theorem look0_r:look0=look0:=rfl
name_quick look0Q for L2.look0 by L2.look0_r
noncomputable def look1 (p q:Program) (R:WRecords) (w:World) (os:OsState):=(Zfo p w os).map fun s=>seen ((recsOf q).map (·.name)) (ownsOf q) [] { s.abs with gens:=#[] }
theorem look1_r:look1=look1:=rfl
name_quick look1Q for L2.look1 by L2.look1_r
noncomputable def look2 (p q:Program) (R:WRecords) (w:World) (os:OsState):=(Zfo p w os).map fun s=>(openSeen q [] (importedModules p.main.body) (fun s=>xlAt q [] s && recOk R s) true s.abs).2.2.1
theorem look2_r:look2=look2:=rfl
name_quick look2Q for L2.look2 by L2.look2_r
noncomputable def look3 (p q:Program) (R:WRecords) (w:World) (os:OsState):=(Zfo p w os).map fun s=>tabsOk q s.abs
theorem look3_r:look3=look3:=rfl
name_quick look3Q for L2.look3 by L2.look3_r
noncomputable def look4 (p q:Program) (R:WRecords) (w:World) (os:OsState):=(Zfo p w os).map fun s=>(pinSeenD q (drecsOf q) s.abs,plainSeenD q [] s.abs,clsSeenW q [] s.abs)
theorem look4_r:look4=look4:=rfl
name_quick look4Q for L2.look4 by L2.look4_r
noncomputable def look5 (p q:Program) (R:WRecords) (w:World) (os:OsState):=(Zfo p w os).map fun s=>plainSeenE q (looseW q []) s.abs
theorem look5_r:look5=look5:=rfl
name_quick look5Q for L2.look5 by L2.look5_r
noncomputable def look6 (p q:Program) (R:WRecords) (w:World) (os:OsState):=(Zfo p w os).map fun s=>wideSeen q s.abs
theorem look6_r:look6=look6:=rfl
name_quick look6Q for L2.look6 by L2.look6_r
noncomputable def look7 (p q:Program) (R:WRecords) (w:World) (os:OsState):=(Zfo p w os).map fun s=>ZlY s.abs.heap
theorem look7_r:look7=look7:=rfl
name_quick look7Q for L2.look7 by L2.look7_r
def vw:Program:=view PySem.Challenge.pw_tworeadings_k06_answers_by_hand [1,2,3,5,6,7,8,9,10,11,12,13,14,15,16,17,18,19,20,21,23,24,25,26,27,28,29,30,31,32,33,34,35,36,37,38,39,40,41,43,44,45,47,48,49,50,51,52,53,54,55,57,58,59,60,61,62,63,64,65,66,67,68,69,70]
def XtL:Shared→Bool:=fun s=>xlAt vw [] s && recOk (RowW.records PySem.Challenge.rw_tworeadings_k06_answers_by_hand.row.toRowW) s
theorem hop (w:World):(fencedOpening treeTable PySem.Challenge.pw_tworeadings_k06_answers_by_hand w 20000).map (fun s=>(s.heap,s.gens,s.drawn,s.toks))=some (boot_heap w.params,Zrn [],boot_drawn,boot_toks):=boot_open (by kernel_rfl) (by decide) (fun s=>by kernel_rfl) w
theorem hsz (w:World):((boot_heap w.params).isNs mainGlobals && (Zrn []:Array GenState).size == 0,(boot_heap w.params).objs.size,(boot_heap w.params).nsMap mainGlobals "__annotations__")=(true,11,some (.ref 6)):=by kernel_rfl
theorem Zk9 (w:World) (os:OsState):PySem.W.Fast.look0Q PySem.Challenge.pw_tworeadings_k06_answers_by_hand vw (RowW.records PySem.Challenge.rw_tworeadings_k06_answers_by_hand.row.toRowW) w os=some ((true,bltViewBooted)):=by kernel_rfl
theorem Zla (w:World) (os:OsState):PySem.W.Fast.look1Q PySem.Challenge.pw_tworeadings_k06_answers_by_hand vw (RowW.records PySem.Challenge.rw_tworeadings_k06_answers_by_hand.row.toRowW) w os=some (expectedOf vw):=by kernel_rfl
theorem Zlb (w:World) (os:OsState):PySem.W.Fast.look2Q PySem.Challenge.pw_tworeadings_k06_answers_by_hand vw (RowW.records PySem.Challenge.rw_tworeadings_k06_answers_by_hand.row.toRowW) w os=some (true):=by kernel_rfl
theorem Zlc (w:World) (os:OsState):PySem.W.Fast.look3Q PySem.Challenge.pw_tworeadings_k06_answers_by_hand vw (RowW.records PySem.Challenge.rw_tworeadings_k06_answers_by_hand.row.toRowW) w os=some (true):=by kernel_rfl
theorem Zld (w:World) (os:OsState):PySem.W.Fast.look4Q PySem.Challenge.pw_tworeadings_k06_answers_by_hand vw (RowW.records PySem.Challenge.rw_tworeadings_k06_answers_by_hand.row.toRowW) w os=some ((pinGoodD (drecsOf vw),plainGoodD vw [],clsGoodW vw [])):=by kernel_rfl
theorem Zle (w:World) (os:OsState):PySem.W.Fast.look5Q PySem.Challenge.pw_tworeadings_k06_answers_by_hand vw (RowW.records PySem.Challenge.rw_tworeadings_k06_answers_by_hand.row.toRowW) w os=some (plainGoodE vw (looseW vw [])):=by kernel_rfl
theorem Zlf (w:World) (os:OsState):PySem.W.Fast.look6Q PySem.Challenge.pw_tworeadings_k06_answers_by_hand vw (RowW.records PySem.Challenge.rw_tworeadings_k06_answers_by_hand.row.toRowW) w os=some (wideGood vw):=by kernel_rfl
theorem Zlg (w:World) (os:OsState):PySem.W.Fast.look7Q PySem.Challenge.pw_tworeadings_k06_answers_by_hand vw (RowW.records PySem.Challenge.rw_tworeadings_k06_answers_by_hand.row.toRowW) w os=some ((ZcG,true)):=by kernel_rfl
theorem left:LeftO PySem.Challenge.pw_tworeadings_k06_answers_by_hand vw [] XtL hook.obs hook.val 20000 true:=Zk6 hop hsz fun w os=>by
 have h0:=Zk9 w os;rw [←PySem.W.Fast.look0Q_eq] at h0;have h1:=Zla w os;rw [←PySem.W.Fast.look1Q_eq] at h1;have h2:=Zlb w os;rw [←PySem.W.Fast.look2Q_eq] at h2;have h3:=Zlc w os;rw [←PySem.W.Fast.look3Q_eq] at h3;have h4:=Zld w os;rw [←PySem.W.Fast.look4Q_eq] at h4;have h5:=Zle w os;rw [←PySem.W.Fast.look5Q_eq] at h5;have h6:=Zlf w os;rw [←PySem.W.Fast.look6Q_eq] at h6;have h7:=Zlg w os;rw [←PySem.W.Fast.look7Q_eq] at h7;obtain ⟨s,e,l0⟩:=Option.map_eq_some_iff.mp h0;obtain ⟨a0,a1⟩:=Prod.mk.inj l0;obtain ⟨b0,b1⟩:=Prod.mk.inj (map_some h4 e);obtain ⟨b1,b2⟩:=Prod.mk.inj b1;exact ⟨s,e,a0,Prod.ext (map_some h1 e) (Prod.ext a1 (Prod.ext (map_some h2 e) (Prod.ext (map_some h3 e) (Prod.ext b0 (Prod.ext (map_some h5 e) (Prod.ext b1 (Prod.ext (map_some h6 e) b2))))))),map_some h7 e⟩
theorem said:OpenLaw.wellSaid PySem.Challenge.rw_tworeadings_k06_answers_by_hand=true:=by
 delta OpenLaw.wellSaid OpenRow.wellSaid OpenRow.partSaid looksOpen
 with_reducible repeat' refine look_both ?_ ?_
 all_goals decide +kernel
end L2
open PySem PySem.W PyProof.Rows
theorem PySem.Challenge.cw_tworeadings_k06_answers_by_hand_holds : PySem.Challenge.rw_tworeadings_k06_answers_by_hand.Holds := by
 w_on
 refine holds_law L2.said fun said=>?_;refine holds_open (q:=L2.vw) (loose:=[]) (Xt:=L2.XtL) (XP:=XL L2.vw []) (Yf:=Hook.obs L2.hook) (Ya:=Hook.val L2.hook) (YP:=Hook.says L2.hook) (N:=20000) L2.left (Hook.of L2.hook) (Hook.keeps L2.hook) (fun s e=>xl_of s (Zpi.mp e).1) XL.keeps (by rfl) (by rfl) (by rfl)
  (fun s e=>recFacts_of (Zpi.mp e).2) (by rfl) (by first | assumption | decide +kernel) (by decide +kernel) ⟨rfl,rfl,rfl,rfl,rfl,by decide +kernel⟩ ?hw ?hc
 case hw=>w_witness2
 case hc=>exact L2.walk2 (l:=PySem.Challenge.rw_tworeadings_k06_answers_by_hand) rfl rfl rfl
