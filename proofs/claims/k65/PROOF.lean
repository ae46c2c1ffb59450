import PyProof.Rows.All
import Wide.All
import OpenK.AllK
import Wide.FinOn
import Lean
import PyProof.EqAt
import PyProof.EqKinds
import PyProof.TupleCall
import PySem.Challenge.RW_easelroom_k65_curves_in_drawings
set_option Elab.async false
set_option linter.all false
set_option maxRecDepth 100000
set_option maxHeartbeats 0
local macro_rules | `(tactic| lia) => `(tactic| first | lia (splits := 9) | omega)
open Option renaming some→Dn,none→Go
open PySem renaming wpAny_bind→BL,Value→JI,Shared→kI,wpAny_pure→CP,Spec→adE,SetTable→MP,Program→CR,starEach→Ce,wpAny→Bu,Around→CT,sizeLine→Dk,model→Bx,mainGlobals→Fg,NameKind→J8,World→CQ,wpAny_mono→Ge,wpAny_field→HI,wpAny_holding→JK,Builtin→Pb,wpAny_newObj_type→ML,cellsFrom→HX,wpAny_callSpecial?_slot→RJ,tupleKeyHash→Kl,mem_of_lookup→QW,assignEach→Jr,FuncData→Ib,wpAny_call_entry→QM,foldedSetIterable→R6,compareOp→KY,PassesOwn→Ux,wpAny_Call_Name_kw→RW,boot_len→QK,wpAny_seqItems→Qc,binaryOp→KH,backTo→HB,wpAny_setState_of→SJ,intKind→Jx,wpAny_setField→RZ,wpAny_setField_rec→Tc,wpAny_passesOwn→Rt,builtinLookup_eq_fast→Ul,bootBuiltins→Qo,wpAny_truthy_bool→TV,wpAny_standAt→RQ,wpAny_pyIter_list→TQ,wpAny_loadPart_at→TJ,wpAny_attempt→RP,behindInMarks→RN,wpAny_of_eq→Qx,codeAny_mono→RT,wpAny_specialOf→Tf,wpAny_execs_nil→Te,rawInt→K6,Paired→Qt,sizeLine_eq→RM,isSubtype_type→T4,swapsWith→QC,attributeBase→Sq,wpAny_rule→RL,typeLookup_type→U9,sliceBounds→Ro,excClassObj→Rm,codeAny→Mi,cLine→J7,pyNext→LK,IsPair→LQ,firstArgMember→Ui,wpAny_throw→T5,Keyword→Q6,holding→QJ
open PySem.W renaming Frag→Bs,nsIn→Gs,findIn→KJ,Looks→SX,excIn→Ko,mg_none_of→PJ,keepIn→Lp,mg_of→MF,mroIn→R9,fnOf→R8,clsIn→Ra,codeIn→Tg,looks_mroIn→V8,isFn→T3,typeIn→Ud
open PySem.Heap renaming get?_push_of_some→Dm,lt_size→Dj,get?_push_size→HD,get?_update_other→Ld,get?_update_self→Lb,SameBut→Kh,size_push→Q7,get?_none_of_le→Um,ExtBut→T6
open List renaming not_mem_nil→Dl,mem_cons→Cr,size_toArray→Em,length_map→Eh,getElem?_eq_some_iff→K8,getElem?_eq_getElem→KN,getElem?_map→Ir,lookup_cons→Jc,length_cons→Jb,getElem?_append_left→MH,mem_cons_of_mem→Kw,getElem?_append_right→PB,mem_singleton→La,mem_cons_self→LR,take_length→Kg,length_append→Lr,map_cons→K7,take_succ→Kq,mem_of_getElem?→Q8,nodup_cons→Lq,mem_append_right→Qg,range→Jo,getD_eq_getElem?_getD→S9,replicate→Mz,mem_range→Mw,all_eq_true→QS,eq_nil_of_length_eq_zero→V3,mem_map→Mv,foldl_cons→RD,length_take→Rg,mem_append_left→Tw,filterMap_cons_some→V5,mem_filter→Rz,mem_append→Rv,drop_zero→Rq,drop_eq_getElem_cons→VB,length→R0,length_set→Tp,getElem?_replicate→VN,forIn_cons→Tn,find?_cons→Tj,contains_cons→Uw,take_of_length_le→VG,getElem_mem→Uh,getElem?_set_ne→V7,map_append→Ug,append_nil→Ue,forIn_nil→Ub
open Nat renaming le_of_ble_eq_true→Gq,lt_of_lt_of_le→GP,le_refl→Dp,le_trans→GK,ne_of_lt→Gf,lt_irrefl→KZ,ne_of_gt→Lk,not_lt_zero→RB,lt_of_le_of_lt→SN,zero_le→O8,beq→KD,eq_of_beq_eq_true→Uq,le_succ→Qz,zero_add→S8,le_of_lt→S7
open Option.some renaming inj→Fj
open Bool renaming false_ne_true→Hi,false_eq_true→Kv,and_eq_true→Kf,not_eq_true'→TY,not_eq_true→T8,and_false→Ua
open Int renaming mul_eq_zero→Ja,emod_lt_of_pos→SM,emod_nonneg→Ru,gcd→Lz,le_of_lt→Sg,natAbs_mul→U8
open Classical renaming byContradiction→P0,epsilon_spec→Tq
open PySem.Builtin.SmallTypes renaming nextOf→Qh,ownedTupleIsFree→VP
open PyProof.Rows renaming slot_tuple_getitem→Ri,callWith_type1→Tv,SortKind→Qv,kindOf→Ke,Keyed→JG,SortSt→Li,AllBare→Q0,envOfC→M4
open PySem.SeqAt renaming EqAt→SQ,ne_of_list_tuple→VJ
open PySem.Obj renaming data_mapFields→Ml,isFreed_of_fields→Qf,cls_mapFields→Ut
open Ne renaming symm→Eu
open PySem.SetTable renaming bits→Le,insertAt→QT,layClean→afK,runEnd→T7,probe→Ti
open PySem.PassesOwn renaming never→Mj
open PySem.Heap.SameBut renaming update→R7
open False renaming elim→Ku
open Prod renaming ext→Jm
open PyProof.Rows.F renaming plain_set_update_loop→Tz
open PySem.F renaming slot_tuple_iterator_next→Vc,excBase_ValueError→Va,store_object→Ur,called_set→RV,slot_zip_next→VH
open PySem.SetTable.layClean renaming free→V6
open PySem.PyData renaming keyHash→Rb
open Option renaming map_eq_some_iff→V4,getD_some→Us
open PySem.Builtin.Slice renaming slicePlaces→Vb
open PySem.Builtin.Tuple renaming tupleExact→VF
open PySem.Str renaming ofString→Qq
open PySem.Calls renaming Name_function_global→VD
open Array renaming length_toList→Uj
open PySem.Code renaming quiet_builtin→Uv
open Prod.mk renaming injEq→Td
open Lean renaming maxHeartbeats→ahm
namespace L2
open PySem PySem.Spec PyProof.Rows
abbrev Key:=Sum Int Str
def CV:Key->JI->Bool
 | .inl k,v=>Value.isInt k v
 | .inr x,v=>Value.isStrOf x v
def ac3 (w:CQ):Key->Int
 | .inl k=>hashInt k
 | .inr x=>hashStr w x
theorem bO:∀ {k:Key} {v:JI},CV k v=true->(∃ i t,k=Sum.inl i/\v=Value.int i t)\/(∃ x t,k=Sum.inr x/\v=Value.str x t)
 | .inl i,v,h=>by
  obtain ⟨t,e⟩:=Value.isInt_shape (k:=i) (v:=v) h;exact .inl ⟨i,t,rfl,e⟩
 | .inr x,v,h=>by
  obtain ⟨t,e⟩:=Value.isStrOf_shape (x:=x) (v:=v) h;exact .inr ⟨x,t,rfl,e⟩
theorem zaW (i:Int)(t:Tok):CV (.inl i) (.int i t)=true:=by simp [CV,Value.isInt]
theorem zaA (x:Str)(t:Tok):CV (.inr x) (.str x t)=true:=by simp [CV,Value.isStrOf]
theorem Zv (a b:Int):decide ((Sum.inl a:Key)=Sum.inl b)=(a==b):=by
 by_cases e:a=b
 ·subst e;simp
 ·have h:¬ (Sum.inl a:Key)=Sum.inl b:=fun q=>e (Sum.inl.inj q)
  rw [decide_eq_false h];exact (beq_eq_false_iff_ne.mpr e).symm
theorem Yo (a b:Str):decide ((Sum.inr a:Key)=Sum.inr b)=decide (a=b):=by
 by_cases e:a=b
 ·subst e;simp
 ·have h:¬ (Sum.inr a:Key)=Sum.inr b:=fun q=>e (Sum.inr.inj q)
  rw [decide_eq_false h,decide_eq_false e]
theorem agP (a:Int)(b:Str):decide ((Sum.inl a:Key)=Sum.inr b)=false:=decide_eq_false (fun q=>nomatch q)
theorem Vp (a:Str)(b:Int):decide ((Sum.inr a:Key)=Sum.inl b)=false:=decide_eq_false (fun q=>nomatch q)
def dN (prog:CR)(w:CQ):PySem.KeyKind prog w Key where
 is:=CV
 hash:=ac3 w
 inj:=fun v a b ha hb=>by
  rcases bO ha with ⟨i,t,rfl,rfl⟩ | ⟨x,t,rfl,rfl⟩
  ·rcases bO hb with ⟨j,u,rfl,e⟩ | ⟨y,u,rfl,e⟩
   ·injection e with e1 _;rw [e1]
   ·exact nomatch e
  ·rcases bO hb with ⟨j,u,rfl,e⟩ | ⟨y,u,rfl,e⟩
   ·exact nomatch e
   ·injection e with e1 _;rw [e1]
 byValue:=fun k v h=>by
  rcases bO h with ⟨i,t,rfl,rfl⟩ | ⟨x,t,rfl,rfl⟩ <;> rfl
 pyHash:=fun hv h=>by
  rcases bO hv with ⟨i,t,rfl,rfl⟩ | ⟨x,t,rfl,rfl⟩
  ·exact wpAny_pyHash_int h
  ·exact wpAny_pyHash_str h
 eqBool:=fun hu hv h=>by
  rcases bO hu with ⟨i,t,rfl,rfl⟩ | ⟨x,t,rfl,rfl⟩
  ·rcases bO hv with ⟨j,u,rfl,rfl⟩ | ⟨y,u,rfl,rfl⟩
   ·rw [Zv] at h;exact wpAny_eqBool_int h
   ·rw [agP] at h;exact SeqAt.EqAt.int_str i t y u _ _ _ _ h
  ·rcases bO hv with ⟨j,u,rfl,rfl⟩ | ⟨y,u,rfl,rfl⟩
   ·rw [Vp] at h;exact SeqAt.EqAt.str_int x t j u _ _ _ _ h
   ·rw [Yo] at h;exact wpAny_eqBool_str h
 «strs»:=fun k x t v h=>by
  rcases bO h with ⟨i,u,rfl,e⟩ | ⟨y,u,rfl,e⟩
  ·exact nomatch e
  ·injection e with e1 _
   subst e1;cases v <;> rfl
theorem yI (prog:CR)(w:CQ)(i:Int)(t:Tok):(dN prog w).is (.inl i) (.int i t)=true:=zaW i t
theorem xU (prog:CR)(w:CQ)(x:Str)(t:Tok):(dN prog w).is (.inr x) (.str x t)=true:=zaA x t
inductive V where
 | non | bl (b:Bool) | int (i:Int) | str (x:Str) | byt (b:Array UInt8) | flt (b:UInt64) | ref (a:Addr) | ty (n:String)
 deriving DecidableEq
def RelV:V->JI->Prop
 | .non,u=>u=Value.none
 | .bl b,u=>u=Value.bool b
 | .int i,u=>∃ t,u=Value.int i t
 | .str x,u=>∃ t,u=Value.str x t
 | .byt b,u=>∃ t,u=Value.bytes b t
 | .flt b,u=>∃ t,u=Value.float b t
 | .ref a,u=>u=Value.ref a
 | .ty n,u=>u=Value.type n
abbrev CJ:List V->List JI->Prop:=Qt RelV
theorem CJ.length {xs:List V}{us:List JI}(r:CJ xs us):xs.length=us.length:=Paired.length r
theorem CJ.get:∀ {xs:List V} {us:List JI} {i:Nat} {x:V},CJ xs us->xs[i]?=Dn x->∃ u,us[i]?=Dn u/\RelV x u
 | _,_,_,_,.nil,e=>by simp at e
 | _,_,0,_,.cons r _,e=>by simp at e;subst e;exact ⟨_,rfl,r⟩
 | _,_,i+1,x,.cons _ t,e=>by
  obtain ⟨u,h1,h2⟩:=CJ.get (i:=i) (x:=x) t (by simpa using e);exact ⟨u,by simpa using h1,h2⟩
theorem CJ.set {x:V}{u:JI}(r:RelV x u):∀ {xs:List V} {us:List JI} (i:Nat),CJ xs us->CJ (xs.set i x) (us.set i u)
 | _,_,_,.nil=>.nil
 | _,_,0,.cons _ t=>.cons r t
 | _,_,i+1,.cons q t=>.cons q (CJ.set r i t)
theorem CJ.append:∀ {xs ys:List V} {us ws:List JI},CJ xs us->CJ ys ws->CJ (xs++ys) (us++ws)
 | _,_,_,_,.nil,s=>s
 | _,_,_,_,.cons r t,s=>.cons r (CJ.append t s)
theorem CJ.take:∀ {xs:List V} {us:List JI} (n:Nat),CJ xs us->CJ (xs.take n) (us.take n)
 | _,_,0,_=>.nil
 | _,_,_+1,.nil=>.nil
 | _,_,n+1,.cons r t=>.cons r (CJ.take n t)
theorem CJ.drop:∀ {xs:List V} {us:List JI} (n:Nat),CJ xs us->CJ (xs.drop n) (us.drop n)
 | _,_,0,r=>r
 | _,_,_+1,.nil=>.nil
 | _,_,n+1,.cons _ t=>CJ.drop n t
def Pk:Option V->Option JI->Prop
 | some v,Dn u=>RelV v u
 | none,Go=>True
 | _,_=>False
def KV {κ : Type}:List (κ×V)->List (κ×JI)->Prop:=Qt fun (p:κ×V) (q:κ×JI)=>p.1=q.1/\RelV p.2 q.2
def kV:Key->V
 | .inl i=>.int i
 | .inr x=>.str x
inductive HO where
 | lst (xs:List V)
 | tup (xs:List V)
 | dK (kvs:List (Key×V)) | dT (kvs:List (List Key×V))
 | set (S:Int->Bool) (n:Nat)
 | ins (C dx:Addr) (fs:List (Str×V))
 | own (x:Addr)
 | xd (fs:List (Str×V))
 | met (f x:Addr)
 | rng (lo hi:Int)
 | frz (o:Obj) (u:HO)
 | tbl (ps:Array JI)
 | ext (φ : Heap->Prop)
abbrev Hp:=Addr->Option HO
def Cd (H:Hp)(a:Addr)(o:HO):Hp:=fun b=>if b=a then Dn o else H b
theorem aU {H:Hp}{a:Addr}{o:HO}:Cd H a o a=Dn o:=by unfold Cd;rw [if_pos rfl]
theorem aH {H:Hp}{a b:Addr}{o:HO}(h:b≠a):Cd H a o b=H b:=by unfold Cd;rw [if_neg h]
theorem aO {H:Hp}{a b:Addr}{o:HO}(h:H a=Dn o)(h':H b=Go):a≠b:=by
 intro e;subst e;rw [h] at h';cases h'
section
variable (P:CR)(w:CQ)
def Kz (h:Heap)(a:Addr)(items:Array JI):Prop:=∃ o,h.get? a=Dn o/\o.cls=.type "tuple"/\(∃ n,o.data=.seq items n)/\o.dict=Go
theorem Kz.tup {h:Heap}{a:Addr}{items:Array JI}(x:Kz h a items):IsTup h a items:=let ⟨o,ho,hc,hd,_⟩:=x;⟨o,ho,hc,hd⟩
theorem Kz.new (h:Heap)(items:Array JI):Kz (h.push { cls:=.type "tuple",data:=.seq items }) h.objs.size items:=⟨_,HD _ rfl,rfl,⟨_,rfl⟩,rfl⟩
def gJ (H:Hp)(h:Heap)(a:Addr):HO->Prop
 | .lst xs=>xs.length<=Dk/\∃ (its:List JI) (n:Nat),CJ xs its/\h.get? a=Dn { cls:=.type "list",data:=.seq its.toArray n }
 | .tup xs=>xs.length<=Dk/\∃ its:List JI,CJ xs its/\Kz h a its.toArray
 | .dK kvs=>kvs.length<=Dk/\(a==sysModules)=false/\∃ vs,KV kvs vs/\h.DictOf (dN P w) a vs
 | .dT kvs=>kvs.length<=Dk/\(a==sysModules)=false/\∃ xs:List (List Key×Addr×JI),
   Qt (fun (p:List Key×V) (q:List Key×Addr×JI)=>p.1=q.1/\H q.2.1=Dn (.tup (p.1.map kV))/\RelV p.2 q.2.2) kvs xs /\
   ∃ o es ep,h.get? a=Dn o/\o.ExactDict/\o.data=.dict es ep/\es.toList=xs.map (entryOfKey (tupleKind (dN P w)))/\(xs.map (·.1)).Nodup
 | .set S n=>h.SetOf (Jx P w) a S n
 | .ins C dx fs=>H dx=Dn (.own a)/\fs.length<=1000/\dx≠a/\h.get? a=Dn (PySem.W.instObj C dx) /\
   ∃ mA,h.Ns1 dx mA/\(∀ f,Pk (fs.lookup f) (mA f))/\PySem.Within mA (fs.map (·.1))
 | .own _=>∃ o,h.get? a=Dn o
 | .xd fs=>∃ mA,h.Ns1 a mA/\∀ f,Pk (fs.lookup f) (mA f)
 | .rng lo hi=>∃ t u v,h.get? a=Dn { cls:=.type "range",data:=.fields #[.int lo t,.int hi u,.int 1 v] }
 | .frz o u=>h.get? a=Dn o/\gJ H h a u
 | .tbl ps=>h.get? a=Dn { cls:=.none,data:=.fields ps }
 | .met f x=>h.get? a=Dn (PySem.W.methodObj (.ref f) (.ref x))
 | .ext φ=>φ h/\(∃ o,h.get? a=Dn o)/\∀ h1 h2:Heap,φ h1->(∀ o,h1.get? a=Dn o->h2.get? a=Dn o)->φ h2
def HS (H:Hp)(h:Heap):Prop:=∀ a o,H a=Dn o->gJ P w H h a o
end
section
variable {P:CR}{w:CQ}{H H':Hp}{h h':Heap}{a:Addr}{o:HO}
theorem gJ.lt (x:gJ P w H h a o):a<h.objs.size:=by
 cases o with
 | lst xs=>obtain ⟨_,_,_,_,e⟩:=x;exact Dj e
 | tup xs=>obtain ⟨_,_,_,p⟩:=x;exact p.tup.lt
 | dK kvs=>obtain ⟨_,_,_,_,o,_,_,e,_⟩:=x;exact Dj e
 | dT kvs=>obtain ⟨_,_,_,_,o,_,_,e,_⟩:=x;exact Dj e
 | set S n=>obtain ⟨o,_,_,_,e,_⟩:=x;exact Dj e
 | ins C dx fs=>obtain ⟨_,_,_,e,_⟩:=x;exact Dj e
 | own y=>obtain ⟨_,e⟩:=x;exact Dj e
 | xd fs=>obtain ⟨_,⟨_,_,_,e,_⟩,_⟩:=x;exact Dj e
 | rng lo hi=>obtain ⟨_,_,_,e⟩:=x;exact Dj e
 | frz ob u=>obtain ⟨e,_⟩:=x;exact Dj e
 | tbl ps=>exact Dj (show h.get? a=Dn _ from x)
 | met f y=>exact Dj (show h.get? a=Dn _ from x)
 | ext φ=>obtain ⟨_,⟨_,e⟩,_⟩:=x;exact Dj e
theorem Paired.mapP {α β : Type}{F G:α->β->Prop}:∀ {l₁ : List α} {l₂ : List β},Qt F l₁ l₂->(∀ a b,F a b->G a b)->Qt G l₁ l₂
 | _,_,.nil,_=>.nil
 | _,_,.cons r t,f=>.cons (f _ _ r) (Paired.mapP t f)
theorem gJ.stay (x:gJ P w H h a o)(k:∀ b u,(b=a\/H b=Dn (.own a))->h.get? b=Dn u->h'.get? b=Dn u)
  (ho:∀ b,H b=Dn (.own a)->H' b=Dn (.own a)) (ht:∀ b xs,H b=Dn (.tup xs)->H' b=Dn (.tup xs)):gJ P w H' h' a o:=by
 induction o with
 | lst xs=>obtain ⟨z,its,n,r,e⟩:=x;exact ⟨z,its,n,r,k _ _ (.inl rfl) e⟩
 | tup xs=>obtain ⟨z,its,r,ob,e,c⟩:=x;exact ⟨z,its,r,ob,k _ _ (.inl rfl) e,c⟩
 | dK kvs=>obtain ⟨z,y,vs,r,ob,es,ep,e,c⟩:=x;exact ⟨z,y,vs,r,ob,es,ep,k _ _ (.inl rfl) e,c⟩
 | dT kvs=>
  obtain ⟨z,y,xs,r,ob,es,ep,e,c⟩:=x;exact ⟨z,y,xs,Paired.mapP r fun p q z=>⟨z.1,ht _ _ z.2.1,z.2.2⟩,ob,es,ep,k _ _ (.inl rfl) e,c⟩
 | set S n=>obtain ⟨ob,es,ep,t,e,c⟩:=x;exact ⟨ob,es,ep,t,k _ _ (.inl rfl) e,c⟩
 | ins C dx fs=>
  obtain ⟨d,z,ne,e,mA,⟨od,es,ep,e2,c⟩,r⟩:=x;exact ⟨ho _ d,z,ne,k _ _ (.inl rfl) e,mA,⟨od,es,ep,k _ _ (.inr d) e2,c⟩,r⟩
 | own y=>obtain ⟨ob,e⟩:=x;exact ⟨ob,k _ _ (.inl rfl) e⟩
 | xd fs=>obtain ⟨mA,⟨od,es,ep,e,c⟩,r⟩:=x;exact ⟨mA,⟨od,es,ep,k _ _ (.inl rfl) e,c⟩,r⟩
 | rng lo hi=>obtain ⟨t,u,v,e⟩:=x;exact ⟨t,u,v,k _ _ (.inl rfl) e⟩
 | frz ob u ih=>obtain ⟨e,q⟩:=x;exact ⟨k _ _ (.inl rfl) e,ih q⟩
 | tbl ps=>
  have e:h.get? a=Dn { cls:=.none,data:=.fields ps }:=x;show h'.get? a=Dn { cls:=.none,data:=.fields ps };exact k a _ (.inl rfl) e
 | met f y=>
  have e:h.get? a=Dn (PySem.W.methodObj (.ref f) (.ref y)):=x;show h'.get? a=Dn (PySem.W.methodObj (.ref f) (.ref y));exact k a _ (.inl rfl) e
 | ext φ=>obtain ⟨p,⟨o,e⟩,st⟩:=x;exact ⟨st _ _ p fun o q=>k _ _ (.inl rfl) q,⟨o,k _ _ (.inl rfl) e⟩,st⟩
theorem HS.lt (x:HS P w H h)(e:H a=Dn o):a<h.objs.size:=(x a o e).lt
theorem HS.fresh (x:HS P w H h)(e:h.objs.size<=a):H a=Go:=by
 cases q:H a with
 | none=>rfl
 | some u=>exact absurd (GP (x.lt q) e) (KZ _)
theorem HS.kept (x:HS P w H h)(k:∀ b u,h.get? b=Dn u->h'.get? b=Dn u):HS P w H h':=fun a o e=>
 (x a o e).stay (fun b u _ q=>k b u q) (fun _ q=>q) fun _ _ q=>q
theorem HS.laid (x:HS P w H h)(k:∀ b u,h.get? b=Dn u->h'.get? b=Dn u)(hp:h.objs.size<=a)(new:gJ P w (Cd H a o) h' a o):HS P w (Cd H a o) h':=fun b u e=>by
 have hn:=x.fresh hp;by_cases hb:b=a
 ·subst hb;rw [aU] at e;cases e;exact new
 ·rw [aH hb] at e;exact (x b u e).stay (fun c v _ q=>k c v q) (fun c q=>by rw [aH (aO q hn)];exact q) fun c xs q=>by rw [aH (aO q hn)];exact q
end
def Rd (H:Hp)(a:Addr)(u:HO):Prop:=H a=Dn u\/∃ o,H a=Dn (.frz o u)
theorem Rd.ok {P:CR}{w:CQ}{H:Hp}{h:Heap}{a:Addr}{u:HO}(r:Rd H a u)(x:HS P w H h):gJ P w H h a u:=by
 rcases r with r | ⟨o,r⟩
 ·exact x a u r
 ·obtain ⟨_,q⟩:=x a _ r;exact q
def Mut:Option HO->Prop
 | some (.lst _)=>True
 | some (.dK _)=>True
 | some (.dT _)=>True
 | some (.set _ _)=>True
 | some (.ins _ _ _)=>True
 | some (.ext _)=>True
 | _=>False
section
variable {P:CR}{w:CQ}{H:Hp}{h h':Heap}{x e:Addr}{o':HO}
theorem HS.write (ok:HS P w H h)(mu:Mut (H x))(he:e=x\/H e=Dn (.own x))(k:∀ b u,b≠e->h.get? b=Dn u->h'.get? b=Dn u)(heo:∃ u,h'.get? e=Dn u)
  (new:gJ P w (Cd H x o') h' x o'):HS P w (Cd H x o') h':=fun b u q=>by
 have nown:∀ c y,H c=Dn (.own y)->c≠x:=fun c y r z=>by subst z;rw [r] at mu;exact mu
 have ntup:∀ c xs,H c=Dn (.tup xs)->c≠x:=fun c xs r z=>by subst z;rw [r] at mu;exact mu
 by_cases hb:b=x
 ·subst hb;rw [aU] at q;cases q;exact new
 ·rw [aH hb] at q;by_cases hbe:b=e
  ·have q':H b=Dn (.own x):=by
    rcases he with z | z
    ·exact absurd (hbe.trans z) hb
    ·rw [hbe];exact z
   rw [q] at q';cases q';obtain ⟨v,hv⟩:=heo;exact ⟨v,by rw [hbe];exact hv⟩
  ·refine (ok b u q).stay (fun c v hc r=>k c v ?_ r) (fun c r=>by rw [aH (nown c b r)];exact r) fun c xs r=>by rw [aH (ntup c xs r)];exact r
   rcases hc with rfl | hc
   ·exact hbe
   ·rintro rfl;rcases he with z | z
    ·exact nown c b hc z
    ·rw [hc] at z;cases z;exact hb rfl
end
structure Un (fs ex:List Addr) (H H':Hp) (h h':Heap):Prop where
 keep:∀ b o,h.get? b=Dn o->H b=Go->b∉fs->b∉ex->h'.get? b=Dn o
 slot:∀ b o,h.get? b=Dn o->H b=Go->b∈fs->b∉ex->∃ sl,h'.get? b=Dn { o with slots:=sl }
 free:∀ b o,h.get? b=Dn o->H b=Go->b∉ex->H' b=Go
 there:∀ b o,h.get? b=Dn o->b∉ex->∃ o',h'.get? b=Dn o'
 tups:∀ b xs,H b=Dn (.tup xs)->H' b=Dn (.tup xs)
 frzs:∀ b o u,H b=Dn (.frz o u)->H' b=Dn (.frz o u)
 tbls:∀ b ps,H b=Dn (.tbl ps)->∃ more,H' b=Dn (.tbl (ps++more))
section
variable {fs fs' ex ex':List Addr}{H H1 H2:Hp}{h h1 h2 h':Heap}{a x e:Addr}{o:HO}
theorem Un.any (u:Un fs ex H H1 h h1){b:Addr}{ob:Obj}(q:h.get? b=Dn ob)(n:H b=Go)(hx:b∉ex):∃ sl,h1.get? b=Dn { ob with slots:=sl }:=by
 by_cases hb:b∈fs
 ·exact u.slot b ob q n hb hx
 ·exact ⟨ob.slots,u.keep b ob q n hb hx⟩
theorem Un.kept (k:∀ b u,h.get? b=Dn u->h'.get? b=Dn u):Un fs ex H H h h':=
 ⟨fun b ob q _ _ _=>k b ob q,fun b ob q _ _ _=>⟨ob.slots,k b ob q⟩,fun _ _ _ n _=>n,fun b ob q _=>⟨ob,k b ob q⟩,fun _ _ q=>q,fun _ _ _ q=>q,fun _ ps q=>⟨#[],by rw [q];simp⟩⟩
theorem Un.refl:Un fs ex H H h h:=Un.kept fun _ _ q=>q
theorem Un.laid (k:∀ b u,h.get? b=Dn u->h'.get? b=Dn u)(hp:h.objs.size<=a)(hn:H a=Go):Un fs ex H (Cd H a o) h h' where
 keep:=fun b u q _ _ _=>k b u q
 slot:=fun b u q _ _ _=>⟨u.slots,k b u q⟩
 free:=fun b u q n _=>by rw [aH (Gf (GP (Dj q) hp))];exact n
 there:=fun b u q _=>⟨u,k b u q⟩
 tups:=fun b xs q=>by rw [aH (aO q hn)];exact q
 frzs:=fun b u xs q=>by rw [aH (aO q hn)];exact q
 tbls:=fun b ps q=>⟨#[],by rw [aH (aO q hn),q];simp⟩
theorem Un.write (mu:Mut (H x))(he:e=x\/H e=Dn (.own x))(k:∀ b u,b≠e->h.get? b=Dn u->h'.get? b=Dn u)(heo:∃ u,h'.get? e=Dn u):Un fs ex H (Cd H x o) h h':=by
 have hx:∀ b,H b=Go->b≠x:=fun b n z=>by subst z;rw [n] at mu;exact mu
 have hb:∀ b,H b=Go->b≠e:=fun b n z=>by
  subst z;rcases he with r | r
  ·exact hx b n r
  ·rw [n] at r;cases r
 have hm:∀ b u,H b=Dn u->¬ Mut (Dn u)->b≠x:=fun b u q nm z=>by subst z;rw [q] at mu;exact nm mu
 refine ⟨fun b u q n _ _=>k b u (hb b n) q,fun b u q n _ _=>⟨u.slots,k b u (hb b n) q⟩,fun b u q n _=>by rw [aH (hx b n)];exact n,fun b u q _=>?_,
  fun b xs q=>by rw [aH (hm b _ q fun z=>z)];exact q,fun b u xs q=>by rw [aH (hm b _ q fun z=>z)];exact q,fun b ps q=>⟨#[],by rw [aH (hm b _ q fun z=>z),q];simp⟩⟩
 by_cases hbe:b=e
 ·subst hbe;exact heo
 ·exact ⟨u,k b u hbe q⟩
end
def trk (h:Heap)(H:Hp):List Addr:=(Jo h.objs.size).filter fun a=>(H a).isSome
def Ky (h:Heap)(H:Hp):Heap:=PySem.W.hideAll h (trk h H)
theorem aec (h:Heap)(H:Hp):(Ky h H).objs.size=h.objs.size:=PySem.W.hideAll_size _ _
theorem zbs {h:Heap}{H:Hp}{b:Addr}{o:Obj}(e:h.get? b=Dn o)(n:H b=Go):(Ky h H).get? b=Dn o:=
 PySem.W.hideAll_get _ e fun hm=>by
  have q:(H b).isSome=true:=(Rz.mp hm).2;rw [n] at q;simp at q
theorem ahf {h:Heap}{H:Hp}{b:Addr}{o:Obj}(e:(Ky h H).get? b=Dn o):h.get? b=Dn o/\H b=Go:=by
 have e':h.get? b=Dn o:=PySem.W.of_hideAll (trk h H) e;refine ⟨e',?_⟩;cases q:H b with
 | none=>rfl
 | some x=>
  have hm:b∈trk h H:=Rz.mpr ⟨Mw.mpr (Dj e'),by simp [q]⟩;have z:(Ky h H).get? b=Go:=PySem.W.hideAll_none (trk h H) hm;rw [z] at e;cases e
def ahh (g h:Heap)(L:Addr):List (Addr×Obj):=(Jo h.objs.size).filterMap fun a=>if a=L\/(g.get? a).isSome=true then Go else (h.get? a).map fun o=>(a,o)
def rest (g h:Heap)(L d:Addr):List (Addr×Obj):=(ahh g h L).filter fun p=>decide (p.1≠d)
structure Mod (K:Bs) (mg:Str->Option JI) (base:Heap):Prop where
 kin:K.In base
 glob:base.Ns Fg mg
 blt:∃ mb,base.Ns builtinsNs mb/\∀ x:Str,x ≠ "__name__"->mb x=Qo x
 nolimit:base.NoLimit
structure Cx where
 prog:CR
 w:CQ
 K:Bs
 mg:Str->Option JI
 base:Heap
 A:CT
 N:List Str
 s₀ : kI
 H₀ : Hp
 env:Env
 outer:List Env
 stack:List Env
 ex:List Addr
 fn:Str->Bool
 calm:Bool
 pn:List (Addr×Obj)
 xe:JI->kI->Prop
def frs (l:List Env):List Addr:=l.filterMap (·.frame)
abbrev Cx.fs (X:Cx):List Addr:=frs X.outer
def Vis (sc:Scope)(x:Str):Prop:=sc.names.lookup x=Dn .local\/sc.names.lookup x=Dn .cell\/sc.names.lookup x=Dn .free
def Loc (sc:Scope)(x:Str):Prop:=sc.names.lookup x=Dn .local\/sc.names.lookup x=Dn .cell
def Look (env:Env)(h:Heap)(m:Str->Option JI)(x:Str)(u:JI):Prop:=
 (env.kindOf x=Dn .local/\m x=Dn u)\/((env.kindOf x=Dn .cell\/env.kindOf x=Dn .free)/\∃ c,env.cells.lookup x=Dn c/\h.IsCell c (Dn u))
inductive Mr (H:Hp):JI->Prop
 | nil:Mr H .none
 | cons {c:Addr} {o:Obj} {u:HO} {vs:Array JI} {z:JI} (h1:H c=Dn (.frz o u)) (h2:o.data=.fields vs) (h3:vs[2]?=Dn z) (t:Mr H z):Mr H (.ref c)
theorem Mr.mono {H H':Hp}{v:JI}(c:Mr H v)(k:∀ a o u,H a=Dn (.frz o u)->H' a=Dn (.frz o u)):Mr H' v:=by
 induction c with
 | nil=>exact .nil
 | cons h1 h2 h3 _ ih=>exact .cons (k _ _ _ h1) h2 h3 ih
def Still (H:Hp)(v:JI):Prop:=(∃ a,v=.ref a)/\Mr H v
def Quiet (A:CT)(H:Hp):Prop:=∀ v,A.handled=Dn v->Still H v
structure Cx.Ok (X:Cx):Prop where
 mod:Mod X.K X.mg X.base
 kind:X.env.scope.kind=.function
 glob:X.env.globals=Fg
 blt:X.env.builtins=builtinsNs
 above:X.s₀.heap.objs.size<=X.env.locals
 inj:∀ x y c,X.env.cells.lookup x=Dn c->X.env.cells.lookup y=Dn c->x=y
 has:∀ x,(X.env.kindOf x=Dn .cell\/X.env.kindOf x=Dn .free)->∃ c,X.env.cells.lookup x=Dn c
 cab:∀ x c,X.fn x=true->X.env.cells.lookup x=Dn c->X.s₀.heap.objs.size<=c
 hd:X.calm=true->X.A.handled=Go
 qt:Quiet X.A X.H₀
 frames:X.A.frames=Dn X.stack
 stk:X.stack=X.outer\/(X.stack=X.env::X.outer/\X.env.frame=Dn X.env.locals)
 exf:∀ b∈X.ex,b≠X.env.locals/\∀ x c,X.env.cells.lookup x=Dn c->c≠b
 bs:∀ b o,X.base.get? b=Dn o->X.s₀.heap.get? b=Dn o/\X.H₀ b=Go
 bsz:X.base.objs.size<=X.s₀.heap.objs.size
 noex:∀ b o,X.base.get? b=Dn o->b∉X.ex
 exfs:∀ b∈X.ex,b∉X.fs
 funs:X.s₀.heap.FunFrames X.base X.outer
 frf:∀ b∈X.fs,X.H₀ b=Go
structure BZ (X:Cx) (pins:List (Addr×Obj)) (σ : List (Option V)) (H:Hp) (s:kI):Prop where
 ok:X.Ok
 os:s.os=X.s₀.os
 bare:Q0 s.gens
 base:Un X.fs X.ex X.H₀ H X.s₀.heap s.heap
 loc:∃ m,s.heap.Ns X.env.locals m/\∀ (i:Nat) (x:Str) (v:V),X.N[i]?=Dn x->σ[i]?=Dn (Dn v)->Vis X.env.scope x->∃ u,RelV v u/\Look X.env s.heap m x u
 cell:∀ x c,X.env.cells.lookup x=Dn c->∃ v,s.heap.IsCell c v
 free:H X.env.locals=Go
 freeC:∀ x c,X.env.cells.lookup x=Dn c->H c=Go
 pin:∀ p∈X.pn++pins,s.heap.get? p.1=Dn p.2/\H p.1=Go/\p.1≠X.env.locals/\p.1∉X.fs/\∀ v,p.2.data≠.cell v
 hok:HS X.prog X.w H s.heap
 len:σ.length=X.N.length
section
variable {X:Cx}{pins:List (Addr×Obj)}{σ : List (Option V)}{H H':Hp}{s:kI}{h':Heap}
theorem Cx.Ok.nofr (ok:X.Ok){b:Addr}{o:Obj}(e:X.base.get? b=Dn o):b∉X.fs:=fun hb=>by
 have:=(ok.funs.mem hb).1
 rw [e] at this;cases this
theorem BZ.bs (I:BZ X pins σ H s):∀ b o,X.base.get? b=Dn o->s.heap.get? b=Dn o/\H b=Go:=fun b o e=>
 ⟨I.base.keep b o (I.ok.bs b o e).1 (I.ok.bs b o e).2 (I.ok.nofr e) (I.ok.noex b o e),I.base.free b o (I.ok.bs b o e).1 (I.ok.bs b o e).2 (I.ok.noex b o e)⟩
theorem BZ.qt0 (I:BZ X pins σ H s):Quiet X.A H:=fun v e=>⟨(I.ok.qt v e).1,(I.ok.qt v e).2.mono I.base.frzs⟩
theorem BZ.bk (I:BZ X pins σ H s):∀ b o,X.base.get? b=Dn o->s.heap.get? b=Dn o:=fun b o e=>(I.bs b o e).1
theorem BZ.mod (I:BZ X pins σ H s):Mod X.K X.mg X.base:=I.ok.mod
theorem BZ.kIn (I:BZ X pins σ H s):X.K.In s.heap:=I.ok.mod.kin.keeps I.bk
theorem BZ.lt (I:BZ X pins σ H s):X.env.locals<s.heap.objs.size:=let ⟨_,hn,_⟩:=I.loc;hn.lt
theorem BZ.sz (I:BZ X pins σ H s):X.s₀.heap.objs.size<=s.heap.objs.size:=GK I.ok.above (S7 I.lt)
theorem BZ.nofs (I:BZ X pins σ H s){a:Addr}(h:s.heap.objs.size<=a):a∉X.fs:=fun hb=>by
 obtain ⟨_,o,ho,_⟩:=I.ok.funs.mem hb;exact absurd (GP (Dj ho)<|GK I.sz h)<|KZ _
theorem BZ.cne (I:BZ X pins σ H s):∀ x c,X.env.cells.lookup x=Dn c->c≠X.env.locals:=fun x c e z=>by
 obtain ⟨v,o,ho,hd⟩:=I.cell x c e;obtain ⟨m,⟨o',es,ep,ho',hd',_⟩,_⟩:=I.loc;rw [z,ho'] at ho;cases ho;rw [hd'] at hd;cases hd
theorem BZ.funs (I:BZ X pins σ H s):s.heap.FunFrames X.base X.outer:=by
 have all:∀ (l:List Env),(∀ b∈frs l,b∈X.fs)->X.s₀.heap.FunFrames X.base l->s.heap.FunFrames X.base l:=by
  intro l;induction l with
  | nil=>intro _ _;trivial
  | cons env r ih=>
   intro hs hl;obtain ⟨hk,⟨L,o,hf,hn,ho,hd⟩,hr⟩:=hl;have hL:L∈X.fs:=hs L (by unfold frs;rw [List.filterMap_cons,hf];exact LR);obtain ⟨sl,e⟩:=I.base.slot L o ho (I.ok.frf L hL) hL fun z=>I.ok.exfs L z hL
   exact ⟨hk,⟨L,_,hf,hn,e,hd⟩,ih (fun b hb=>hs b (by unfold frs;rw [List.filterMap_cons,hf];exact Kw _ hb)) hr⟩
 exact all X.outer (fun _ hb=>hb) I.ok.funs
theorem BZ.stack (I:BZ X pins σ H s):s.heap.FunFrames X.base X.stack:=by
 rcases I.ok.stk with e | ⟨e,hf⟩
 ·rw [e];exact I.funs
 ·rw [e];obtain ⟨m,hn,_⟩:=I.loc;refine .cons (by rw [I.ok.kind];decide) hf hn ?_ I.funs;exact Um<|GK I.ok.bsz I.ok.above
theorem BZ.stkSub (I:BZ X pins σ H s):∀ b∈frs X.stack,b∈X.env.locals::X.fs:=fun b hb=>by
 rcases I.ok.stk with e | ⟨e,hf⟩
 ·rw [e] at hb;exact Kw _ hb
 ·rw [e] at hb;unfold frs at hb;rw [List.filterMap_cons,hf] at hb;exact hb
theorem BZ.stkFree (I:BZ X pins σ H s):∀ b∈frs X.stack,H b=Go:=fun b hb=>by
 rcases Cr.mp (I.stkSub b hb) with e | hb
 ·rw [e];exact I.free
 ·obtain ⟨_,o,ho,_⟩:=I.ok.funs.mem hb;exact I.base.free b o ho (I.ok.frf b hb) fun z=>I.ok.exfs b z hb
theorem BZ.stepG {g':Array GenState}{t':Nat}{d':Drawn}{ch:List Addr}(I:BZ X pins σ H s)
  (hch:∀ b∈ch,(b∈X.ex\/X.s₀.heap.get? b=Go)/\b≠X.env.locals/\(∀ x c,X.env.cells.lookup x=Dn c->c≠b)/\∀ p∈X.pn++pins,p.1≠b)
  (keep:∀ b o,b≠X.env.locals->b∉X.fs->b∉ch->s.heap.get? b=Dn o->H b=Go->h'.get? b=Dn o)
  (slot:∀ b o,b≠X.env.locals->b∈X.fs->b∉ch->s.heap.get? b=Dn o->H b=Go->∃ sl,h'.get? b=Dn { o with slots:=sl }) (free:∀ b o,b∉ch->s.heap.get? b=Dn o->H b=Go->H' b=Go)
  (there:∀ b o,b∉ch->s.heap.get? b=Dn o->∃ o',h'.get? b=Dn o')
  (tups:∀ b xs,H b=Dn (.tup xs)->H' b=Dn (.tup xs)) (frzs:∀ b o u,H b=Dn (.frz o u)->H' b=Dn (.frz o u)) (tbls:∀ b ps,H b=Dn (.tbl ps)->∃ more,H' b=Dn (.tbl (ps++more)))
  (ns:∀ m,s.heap.Ns X.env.locals m->h'.Ns X.env.locals m) (hok:HS X.prog X.w H' h') (hg:Q0 g') :
  BZ X pins σ H' { s with heap:=h',gens:=g',drawn:=d',toks:=t' }:=by
 have neL:∀ b o,X.s₀.heap.get? b=Dn o->b≠X.env.locals:=fun b o e=>Gf (GP (Dj e) I.ok.above)
 have neC:∀ b o,X.s₀.heap.get? b=Dn o->b∉X.ex->b∉ch:=fun b o e hx hb=>by
  rcases (hch b hb).1 with z | z
  ·exact hx z
  ·rw [z] at e;cases e
 have cellK:∀ x c,X.env.cells.lookup x=Dn c->∀ v,s.heap.IsCell c v->h'.IsCell c v:=fun x c e v ⟨o,ho,hd⟩=>by
  have nch:c∉ch:=fun z=>(hch c z).2.2.1 x c e rfl
  by_cases hc:c∈X.fs
  ·obtain ⟨sl,q⟩:=slot c o (I.cne x c e) hc nch ho (I.freeC x c e);exact ⟨_,q,hd⟩
  ·exact ⟨o,keep c o (I.cne x c e) hc nch ho<|I.freeC x c e,hd⟩
 refine ⟨I.ok,I.os,hg,⟨fun b o e n hb hx=>?_,fun b o e n hb hx=>?_,fun b o e n hx=>?_,fun b o e hx=>?_,fun b xs e=>tups b xs<|I.base.tups b xs e,fun b o xs e=>frzs b o xs<|I.base.frzs b o xs e,fun b ps e=>?_⟩,?_,fun x c e=>?_,?_,fun x c e=>?_,fun p hp=>?_,hok,I.len⟩
 ·exact keep b o (neL b o e) hb (neC b o e hx) (I.base.keep b o e n hb hx)<|I.base.free b o e n hx
 ·obtain ⟨sl,e1⟩:=I.base.slot b o e n hb hx;obtain ⟨sl',e2⟩:=slot b _ (neL b o e) hb (neC b o e hx) e1 (I.base.free b o e n hx);exact ⟨sl',e2⟩
 ·obtain ⟨o',e1⟩:=I.base.there b o e hx;exact free b o' (neC b o e hx) e1<|I.base.free b o e n hx
 ·obtain ⟨o',e1⟩:=I.base.there b o e hx;exact there b o' (neC b o e hx) e1
 ·obtain ⟨m1,e1⟩:=I.base.tbls b ps e;obtain ⟨m2,e2⟩:=tbls b _ e1;exact ⟨m1++m2,by rw [e2,Array.append_assoc]⟩
 ·obtain ⟨m,hn,hl⟩:=I.loc;refine ⟨m,ns m hn,fun i x v e1 e2 e3=>?_⟩;obtain ⟨u,r,l⟩:=hl i x v e1 e2 e3;refine ⟨u,r,?_⟩;rcases l with l | ⟨k,c,e,z⟩
  ·exact .inl l
  ·exact .inr ⟨k,c,e,cellK x c e _ z⟩
 ·obtain ⟨v,z⟩:=I.cell x c e;exact ⟨v,cellK x c e v z⟩
 ·obtain ⟨m,⟨o,_,_,ho,_⟩,_⟩:=I.loc;exact free _ o (fun z=>(hch _ z).2.1 rfl) ho I.free
 ·obtain ⟨v,o,ho,hd⟩:=I.cell x c e;exact free c o (fun z=>(hch c z).2.2.1 x c e rfl) ho<|I.freeC x c e
 ·obtain ⟨e,n,ne,nf,d⟩:=I.pin p hp;have nch:p.1∉ch:=fun z=>(hch p.1 z).2.2.2 p hp rfl
  exact ⟨keep p.1 p.2 ne nf nch e n,free p.1 p.2 nch e n,ne,nf,d⟩
theorem BZ.step {g':Array GenState}{t':Nat}{d':Drawn}{ch:List Addr}(I:BZ X pins σ H s)
  (hch:∀ b∈ch,(b∈X.ex\/X.s₀.heap.objs.size<=b)/\b≠X.env.locals/\(∀ x c,X.env.cells.lookup x=Dn c->c≠b)/\∀ p∈X.pn++pins,p.1≠b)
  (keep:∀ b o,b≠X.env.locals->b∉X.fs->b∉ch->s.heap.get? b=Dn o->H b=Go->h'.get? b=Dn o)
  (slot:∀ b o,b≠X.env.locals->b∈X.fs->b∉ch->s.heap.get? b=Dn o->H b=Go->∃ sl,h'.get? b=Dn { o with slots:=sl }) (free:∀ b o,b∉ch->s.heap.get? b=Dn o->H b=Go->H' b=Go)
  (there:∀ b o,b∉ch->s.heap.get? b=Dn o->∃ o',h'.get? b=Dn o')
  (tups:∀ b xs,H b=Dn (.tup xs)->H' b=Dn (.tup xs)) (frzs:∀ b o u,H b=Dn (.frz o u)->H' b=Dn (.frz o u)) (tbls:∀ b ps,H b=Dn (.tbl ps)->∃ more,H' b=Dn (.tbl (ps++more)))
  (ns:∀ m,s.heap.Ns X.env.locals m->h'.Ns X.env.locals m) (hok:HS X.prog X.w H' h') (hg:Q0 g') :
  BZ X pins σ H' { s with heap:=h',gens:=g',drawn:=d',toks:=t' }:=
 I.stepG (ch:=ch) (fun b z=>⟨(hch b z).1.imp id fun q=>Um q,(hch b z).2⟩) keep slot free there tups frzs tbls ns hok hg
theorem BZ.un {t':Nat}(I:BZ X pins σ H s)(u:Un X.fs [] H H' s.heap h')(hok:HS X.prog X.w H' h'):BZ X pins σ H' { s with heap:=h',toks:=t' }:=by
 obtain ⟨m,⟨o,es,ep,ho,r⟩,_⟩:=id I.loc;obtain ⟨sl,hL⟩:=u.any ho I.free (by simp);exact I.step (g':=s.gens) (d':=s.drawn) (ch:=[]) (fun _ z=>nomatch z) (fun b o _ hb _ e n=>u.keep b o e n hb (by simp)) (fun b o _ hb _ e n=>u.slot b o e n hb (by simp)) (fun b o _ e n=>u.free b o e n (by simp)) (fun b o _ e=>u.there b o e (by simp)) u.tups u.frzs u.tbls (fun m' hm=>by
  obtain ⟨o',es',ep',ho',r'⟩:=hm;rw [ho] at ho';cases ho';exact ⟨_,es',ep',hL,r'⟩) hok I.bare
theorem BZ.call {g':Array GenState}{t':Nat}{d':Drawn}{ch:List Addr}(I:BZ X pins σ H s)(u:Un (frs X.stack) ch H H' s.heap h')(hok:HS X.prog X.w H' h')(hg:Q0 g')
  (hch:∀ b∈ch,(b∈X.ex\/X.s₀.heap.objs.size<=b)/\b≠X.env.locals/\(∀ x c,X.env.cells.lookup x=Dn c->c≠b)/\∀ p∈X.pn++pins,p.1≠b) :
  BZ X pins σ H' { s with heap:=h',gens:=g',drawn:=d',toks:=t' }:=by
 obtain ⟨m,⟨o,es,ep,ho,r⟩,_⟩:=id I.loc;obtain ⟨sl,hL⟩:=u.any ho I.free fun z=>(hch _ z).2.1 rfl
 exact I.step (ch:=ch) hch (fun b o hL hb hc e n=>u.keep b o e n (fun z=>(Cr.mp (I.stkSub b z)).elim hL hb) hc) (fun b o _ _ hc e n=>u.any e n hc) (fun b o hc e n=>u.free b o e n hc) (fun b o hc e=>u.there b o e hc) u.tups u.frzs u.tbls (fun m' hm=>by
  obtain ⟨o',es',ep',ho',r'⟩:=hm;rw [ho] at ho';cases ho';exact ⟨_,es',ep',hL,r'⟩) hok hg
theorem BZ.turned {t':Nat}{it:Addr}(I:BZ X pins σ H s)(k:∀ b o,b≠it->s.heap.get? b=Dn o->h'.get? b=Dn o)(hn:H it=Go)(hL:it≠X.env.locals)
  (h1:it∈X.ex\/X.s₀.heap.objs.size<=it) (h2:∀ x c,X.env.cells.lookup x=Dn c->c≠it) (h3:∀ p∈X.pn++pins,p.1≠it):BZ X pins σ H { s with heap:=h',toks:=t' }:=by
 have nit:∀ b u,H b=Dn u->b≠it:=fun b u e z=>by rw [z,hn] at e;cases e
 refine I.step (g':=s.gens) (d':=s.drawn) (ch:=[it]) (fun b hb=>?_) (fun b o _ _ hc e _=>k b o (fun z=>hc<|by simp [z]) e) (fun b o _ _ hc e _=>⟨o.slots,k b o (fun z=>hc<|by simp [z]) e⟩) (fun _ _ _ _ n=>n)
  (fun b o hc e=>⟨o,k b o (fun z=>hc (by simp [z])) e⟩) (fun _ _ e=>e) (fun _ _ _ e=>e) (fun b ps e=>⟨#[],by rw [e];simp⟩) (fun m hm=>?_) (fun b u e=>?_) I.bare
 ·have e:b=it:=by simpa using hb
  subst e;exact ⟨h1,hL,h2,h3⟩
 ·obtain ⟨o,es,ep,ho,r⟩:=hm;exact ⟨o,es,ep,k _ o (Eu hL) ho,r⟩
 ·refine (I.hok b u e).stay (fun c v hc q=>k c v ?_ q) (fun _ q=>q) fun _ _ q=>q;rcases hc with z | z
  ·rw [z];exact nit b u e
  ·exact nit c _ z
theorem BZ.tok (I:BZ X pins σ H s)(t:Nat):BZ X pins σ H { s with toks:=t }:=I.un (h':=s.heap) (t':=t) Un.refl I.hok
theorem BZ.kept {t':Nat}(I:BZ X pins σ H s)(k:∀ b u,s.heap.get? b=Dn u->h'.get? b=Dn u):BZ X pins σ H { s with heap:=h',toks:=t' }:=I.un (Un.kept k) (I.hok.kept k)
theorem BZ.laid {a:Addr}{o:HO}{t':Nat}(I:BZ X pins σ H s)(k:∀ b u,s.heap.get? b=Dn u->h'.get? b=Dn u)(hp:s.heap.objs.size<=a)(new:gJ X.prog X.w (Cd H a o) h' a o) :
  BZ X pins σ (Cd H a o) { s with heap:=h',toks:=t' }:=I.un (Un.laid k hp (I.hok.fresh hp)) (I.hok.laid k hp new)
theorem BZ.write {x e:Addr}{o:HO}{t':Nat}(I:BZ X pins σ H s)(mu:Mut (H x))(he:e=x\/H e=Dn (.own x))(k:∀ b u,b≠e->s.heap.get? b=Dn u->h'.get? b=Dn u)(heo:∃ u,h'.get? e=Dn u)
  (new:gJ X.prog X.w (Cd H x o) h' x o):BZ X pins σ (Cd H x o) { s with heap:=h',toks:=t' }:=I.un (Un.write mu he k heo) (I.hok.write mu he k heo new)
theorem BZ.weak {σ':List (Option V)}(I:BZ X pins σ H s)(hl:σ'.length = σ.length)(w:∀ (i:Nat) v,σ'[i]?=Dn (Dn v)->σ[i]?=Dn (Dn v)):BZ X pins σ' H s:=
 ⟨I.ok,I.os,I.bare,I.base,let ⟨m,hn,hl'⟩:=I.loc;⟨m,hn,fun i x v e1 e2 e3=>hl' i x v e1 (w i v e2) e3⟩,I.cell,I.free,I.freeC,I.pin,I.hok,hl.trans I.len⟩
theorem BZ.pins_of {pins':List (Addr×Obj)}(I:BZ X pins σ H s)(h:∀ p∈pins',s.heap.get? p.1=Dn p.2/\H p.1=Go/\p.1≠X.env.locals/\p.1∉X.fs/\∀ v,p.2.data≠.cell v):BZ X pins' σ H s:=
 ⟨I.ok,I.os,I.bare,I.base,I.loc,I.cell,I.free,I.freeC,fun p hp=>(Rv.mp hp).elim (fun z=>I.pin p (Tw _ z)) (h p),I.hok,I.len⟩
theorem Ae {N:List Str}(hN:N.Nodup){i j:Nat}{x:Str}(a:N[i]?=Dn x)(b:N[j]?=Dn x):i=j:=by
 obtain ⟨h1,e1⟩:=K8.mp a;obtain ⟨h2,e2⟩:=K8.mp b;exact (List.getElem_inj hN).mp (e1.trans e2.symm)
theorem uL {M:Model}{A:CT}{E:JI->kI->Prop}{i:Nat}{x:Str}{v:V}{u:JI}{Q:Unit->kI->Prop}(I:BZ X pins σ H s)(hN:X.N.Nodup)(hi:X.N[i]?=Dn x)(hx:Loc X.env.scope x)(r:RelV v u)
  (h:∀ s',BZ X pins (σ.set i (Dn v)) H s'->(∃ a,Kh a s.heap s'.heap/\(a=X.env.locals\/X.env.cells.lookup x=Dn a))->Q () s') (hf:X.fn x=true\/X.env.scope.names.lookup x=Dn .local:=by first | exact .inl rfl | exact .inr rfl | assumption):Bu M A (storeName X.env x u) Q E s:=by
 obtain ⟨m,hn,hl⟩:=id I.loc;have hcls:(X.env.scope.kind==.class||(X.env.scope.kind==.module&&X.env.locals != X.env.globals))=false:=by rw [I.ok.kind];rfl
 have hiσ : i < σ.length:=by rw [I.len];exact (K8.mp hi).1
 have cne:=I.cne;have tracked:∀ {a:Addr} {h':Heap},(∃ o,s.heap.get? a=Dn o/\H a=Go)->Kh a s.heap h'->HS X.prog X.w H h':=fun {a h'} ha hs b ob e=>by
  obtain ⟨_,_,hfree⟩:=ha;refine (I.hok b ob e).stay (fun c w' hc q=>(hs.2 c ?_).trans q) (fun _ q=>q) fun _ _ q=>q;rintro rfl;rcases hc with rfl | hc
  ·rw [hfree] at e;cases e
  ·rw [hfree] at hc;cases hc
 rcases hx with hk | hk
 ·refine wpAny_storeName_local hk hn (fun h' hn' hs=>?_) hcls;obtain ⟨oL,_,_,hoL,_⟩:=id hn;refine h _ ⟨I.ok,I.os,I.bare,⟨fun b o e n hb hx=>?_,fun b o e n hb hx=>?_,I.base.free,fun b o e hx=>?_,I.base.tups,I.base.frzs,I.base.tbls⟩,⟨_,hn',fun j y v' e1 e2 e3=>?_⟩,fun y c e=>?_,I.free,I.freeC,fun p hp=>?_,tracked ⟨oL,hoL,I.free⟩ hs,by simpa using I.len⟩ ⟨_,hs,.inl rfl⟩
  ·exact (hs.2 b<|Gf<|GP (Dj e) I.ok.above).trans (I.base.keep b o e n hb hx)
  ·obtain ⟨sl,e1⟩:=I.base.slot b o e n hb hx;exact ⟨sl,(hs.2 b<|Gf<|GP (Dj e) I.ok.above).trans e1⟩
  ·obtain ⟨o',e1⟩:=I.base.there b o e hx;exact ⟨o',(hs.2 b<|Gf<|GP (Dj e) I.ok.above).trans e1⟩
  ·by_cases hj:j=i
   ·subst hj;rw [hi] at e1;cases e1;rw [List.getElem?_set_self hiσ] at e2;cases e2;exact ⟨u,r,.inl ⟨hk,by simp⟩⟩
   ·rw [V7 (Eu hj)] at e2;obtain ⟨u',r',q⟩:=hl j y v' e1 e2 e3;refine ⟨u',r',?_⟩;rcases q with ⟨k,e⟩ | ⟨k,c,e,z⟩
    ·refine .inl ⟨k,?_⟩;have:y≠x:=fun e=>hj (Ae hN e1 (e ▸ hi))
     simp [this,e]
    ·exact .inr ⟨k,c,e,z.sameBut hs<|cne y c e⟩
  ·obtain ⟨w',z⟩:=I.cell y c e;exact ⟨w',z.sameBut hs<|cne y c e⟩
  ·obtain ⟨e,n,ne,nf,d⟩:=I.pin p hp;exact ⟨(hs.2 p.1 ne).trans e,n,ne,nf,d⟩
 ·have hfn:X.fn x=true:=by
   rcases hf with z | z
   ·exact z
   ·rw [z] at hk;cases hk
  obtain ⟨c,hc⟩:=I.ok.has x (.inl hk);obtain ⟨w',z⟩:=I.cell x c hc;refine wpAny_storeName_cell I.ok.kind hk hc z<|fun h' hc' hs=>?_
  obtain ⟨oc,hoc,hocd⟩:=id z;refine h { s with heap:=h' } ⟨I.ok,I.os,I.bare,⟨fun b o e n hb hx=>?_,fun b o e n hb hx=>?_,I.base.free,fun b o e hx=>?_,I.base.tups,I.base.frzs,I.base.tbls⟩,⟨m,hn.sameBut hs<|Eu<|cne x c hc,fun j y v' e1 e2 e3=>?_⟩,fun y c' e=>?_,I.free,I.freeC,fun p hp=>?_,tracked ⟨oc,hoc,I.freeC x c hc⟩ hs,by simpa using I.len⟩ ⟨c,hs,.inr hc⟩
  ·exact (hs.2 b<|Gf<|GP (Dj e)<|I.ok.cab x c hfn hc).trans (I.base.keep b o e n hb hx)
  ·obtain ⟨sl,e1⟩:=I.base.slot b o e n hb hx;exact ⟨sl,(hs.2 b<|Gf<|GP (Dj e)<|I.ok.cab x c hfn hc).trans e1⟩
  ·obtain ⟨o',e1⟩:=I.base.there b o e hx;exact ⟨o',(hs.2 b<|Gf<|GP (Dj e)<|I.ok.cab x c hfn hc).trans e1⟩
  ·by_cases hj:j=i
   ·subst hj;rw [hi] at e1;cases e1;rw [List.getElem?_set_self hiσ] at e2;cases e2;exact ⟨u,r,.inr ⟨.inl hk,c,hc,hc'⟩⟩
   ·rw [V7 (Eu hj)] at e2;obtain ⟨u',r',q⟩:=hl j y v' e1 e2 e3;refine ⟨u',r',?_⟩;rcases q with q | ⟨k,c',e,z'⟩
    ·exact .inl q
    ·refine .inr ⟨k,c',e,z'.sameBut hs ?_⟩;rintro rfl;exact hj<|Ae hN e1<|I.ok.inj _ _ _ e hc ▸ hi
  ·by_cases hcc:c'=c
   ·subst hcc;exact ⟨_,hc'⟩
   ·obtain ⟨w2,z2⟩:=I.cell y c' e;exact ⟨w2,z2.sameBut hs hcc⟩
  ·obtain ⟨e,n,ne,nf,d⟩:=I.pin p hp;refine ⟨(hs.2 p.1 ?_).trans e,n,ne,nf,d⟩;intro q;rw [q,hoc] at e;have q':oc=p.2:=Fj e;exact d w' (by rw [<-q'];exact hocd)
theorem jK {M:Model}{A:CT}{E:JI->kI->Prop}{i:Nat}{x:Str}{v:V}{u:JI}{Q:Unit->kI->Prop}(I:BZ X pins σ H s)(hN:X.N.Nodup)(hi:X.N[i]?=Dn x)(hx:Loc X.env.scope x)(r:RelV v u)
  (h:∀ s',BZ X pins (σ.set i (Dn v)) H s'->Q () s') (hf:X.fn x=true\/X.env.scope.names.lookup x=Dn .local:=by first | exact .inl rfl | exact .inr rfl | assumption):Bu M A (storeName X.env x u) Q E s:=
 uL I hN hi hx r (fun s' I' _=>h s' I') hf
theorem BZ.call' {s':kI}{ch:List Addr}(I:BZ X pins σ H s)(ho:s'.os=s.os)(u:Un (frs X.stack) ch H H' s.heap s'.heap)(hok:HS X.prog X.w H' s'.heap)(hg:Q0 s'.gens)
  (hch:∀ b∈ch,(b∈X.ex\/X.s₀.heap.objs.size<=b)/\b≠X.env.locals/\(∀ x c,X.env.cells.lookup x=Dn c->c≠b)/\∀ p∈X.pn++pins,p.1≠b):BZ X pins σ H' s':=by
 obtain ⟨h',g',d',t',o'⟩:=s';have e:o'=s.os:=ho;subst e;exact I.call (g':=g') (t':=t') (d':=d') u hok hg hch
end
abbrev XK:=JI->Option Addr->Hp->Prop
abbrev St:=List (Option V)
abbrev VK:=V->Hp->Prop
abbrev TE:=St->Hp->VK->Prop
abbrev TT:=St->Hp->(Bool->Hp->Prop)->Prop
abbrev TA:=St->Hp->(List V->Hp->Prop)->Prop
structure Ends where
 nx:St->Hp->Prop
 rt:VK
 bk:St->Hp->Prop:=fun _ _=>False
 ct:St->Hp->Prop:=fun _ _=>False
abbrev TS:=Ends->St->Hp->Prop
def EP (X:Cx)(pins:List (Addr×Obj))(σ : St)(Q:VK)(u:JI)(s':kI):Prop:=∃ v H',BZ X pins σ H' s'/\RelV v u/\Q v H'
def TP (X:Cx)(pins:List (Addr×Obj))(σ : St)(Q:Bool->Hp->Prop)(b:Bool)(s':kI):Prop:=∃ H',BZ X pins σ H' s'/\Q b H'
def zac (X:Cx)(pins:List (Addr×Obj))(σ : St)(Q:List V->Hp->Prop)(us:List JI)(s':kI):Prop:=∃ vs H',BZ X pins σ H' s'/\CJ vs us/\Q vs H'
def SP (X:Cx)(pins:List (Addr×Obj))(D:Ends)(f:Flow)(s':kI):Prop:=
 match f with
 | .next=>∃ σ' H',BZ X pins σ' H' s'/\D.nx σ' H'
 | .brk=>∃ σ' H',BZ X pins σ' H' s'/\D.bk σ' H'
 | .cont=>∃ σ' H',BZ X pins σ' H' s'/\D.ct σ' H'
 | .ret u=>∃ v σ' H',BZ X pins σ' H' s'/\RelV v u/\D.rt v H'
def PE (X:Cx)(e:Expr)(t:TE):Prop:=
 ∀ (pins:List (Addr×Obj)) (s:kI) (σ : St) (H:Hp) (Q:VK),BZ X pins σ H s->t σ H Q->Bu (Bx X.prog X.w) X.A (eval e X.env) (EP X pins σ Q) X.xe s
def PT (X:Cx)(e:Expr)(t:TT):Prop:=
 ∀ (pins:List (Addr×Obj)) (s:kI) (σ : St) (H:Hp) (Q:Bool->Hp->Prop),BZ X pins σ H s->t σ H Q->Bu (Bx X.prog X.w) X.A (isTrue e X.env (eval e X.env)) (TP X pins σ Q) X.xe s
def PW (X:Cx)(e:Expr)(t:TT):Prop:=
 ∀ (whole:Sem JI) (pins:List (Addr×Obj)) (s:kI) (σ : St) (H:Hp) (Q:Bool->Hp->Prop),BZ X pins σ H s->t σ H Q->Bu (Bx X.prog X.w) X.A (isTrue e X.env whole) (TP X pins σ Q) X.xe s
theorem PW.pt {X:Cx}{e:Expr}{t:TT}(h:PW X e t):PT X e t:=h _
def PA (X:Cx)(es:List Expr)(t:TA):Prop:=
 ∀ (pos:Pos) (pins:List (Addr×Obj)) (s:kI) (σ : St) (H:Hp) (Q:List V->Hp->Prop),BZ X pins σ H s->t σ H Q->Bu (Bx X.prog X.w) X.A (spliced (HB pos (Ce es X.env))) (zac X pins σ Q) X.xe s
def PS (X:Cx)(st:Stmt)(t:TS):Prop:=
 ∀ (pins:List (Addr×Obj)) (s:kI) (σ : St) (H:Hp) (D:Ends),BZ X pins σ H s->t D σ H->Bu (Bx X.prog X.w) X.A (exec st X.env) (SP X pins D) X.xe s
def KQ (X:Cx)(st:List Stmt)(t:TS):Prop:=
 ∀ (pins:List (Addr×Obj)) (s:kI) (σ : St) (H:Hp) (D:Ends),BZ X pins σ H s->t D σ H->Bu (Bx X.prog X.w) X.A (execs st X.env) (SP X pins D) X.xe s
theorem DW {α : Type}{t:Sem α}{Q Q':α->kI->Prop}{M:Model}{A:CT}{E:JI->kI->Prop}{s:kI}(h:Bu M A t Q E s)(hQ:∀ a s,Q a s->Q' a s):Bu M A t Q' E s:=Ge h hQ fun _ _ x=>x
section
variable {X:Cx}
def Zr (i:Nat):TE:=fun σ H Q=>∃ v,σ[i]?=Dn (Dn v)/\Q v H
def tC (v:V):TE:=fun _ H Q=>Q v H
theorem XQ {i:Nat}{x:Str}{pos:Pos}(hN:X.N[i]?=Dn x)(hv:Vis X.env.scope x)(hd:(x==("__debug__" : Str))=false:=by decide)(hcd:(x==("__classdict__" : Str))=false:=by decide):PE X (.Name x pos) (Zr i):=by
 intro pins s σ H Q I h;obtain ⟨v,e,h⟩:=h;obtain ⟨m,hn,hl⟩:=I.loc;obtain ⟨u,r,l⟩:=hl i x v hN e hv;have fin:EP X pins σ Q u s:=⟨v,H,I,r,h⟩
 rcases l with ⟨hk,hm⟩ | ⟨hk,c,hc,hcell⟩
 ·exact wpAny_Name (wpAny_loadName_local I.ok.kind hk hn hm fin) hd
 ·rcases hk with hk | hk
  ·exact wpAny_Name (wpAny_loadName_cell I.ok.kind hk hc hcell fin) hd
  ·exact wpAny_Name (wpAny_loadName_free I.ok.kind hk hc hcell fin hcd) hd
theorem ahd {i j pos}:PE X (.Constant (.int i) j pos) (tC (.int i)):=fun _ _ _ H _ I h=>wpAny_Constant_int ⟨.int i,H,I.tok _,⟨_,rfl⟩,h⟩
theorem aat {b j pos}:PE X (.Constant (.bool b) j pos) (tC (.bl b)):=fun _ _ _ H _ I h=>Constant_bool ⟨.bl b,H,I,rfl,h⟩
theorem WW {j pos}:PE X (.Constant .none j pos) (tC .non):=fun _ _ _ H _ I h=>Constant_none ⟨.non,H,I,rfl,h⟩
theorem afr {x j pos}:PE X (.Constant (.str x) j pos) (tC (.str x)):=fun _ _ _ H _ I h=>Calls.Constant_str ⟨.str x,H,I.tok _,⟨_,rfl⟩,h⟩
def Gl (X:Cx)(x:Str):Prop:=X.env.kindOf x=Dn .globalImplicit
theorem lH {E:JI->kI->Prop}{pins:List (Addr×Obj)}{s:kI}{σ : St}{H:Hp}{x:Str}{u:JI}{pos:Pos}{Q:JI->kI->Prop}(I:BZ X pins σ H s)(hg:Gl X x)(hm:X.mg x=Dn u)(h:Q u s)
  (hd:(x==("__debug__" : Str))=false:=by decide):Bu (Bx X.prog X.w) X.A (eval (.Name x pos) X.env) Q E s:=
 VD I.ok.kind hg (Calls.loadGlobal_global (by rw [I.ok.glob];exact I.mod.glob.keeps I.bk) hm h) hd
theorem nZ {E:JI->kI->Prop}{pins:List (Addr×Obj)}{s:kI}{σ : St}{H:Hp}{x:Str}{u:JI}{pos:Pos}{Q:JI->kI->Prop}(I:BZ X pins σ H s)(hg:Gl X x)(hm:X.mg x=Go)(hv:Qo x=Dn u)(h:Q u s)
  (hn:x ≠ "__name__":=by decide) (hd:(x==("__debug__" : Str))=false:=by decide):Bu (Bx X.prog X.w) X.A (eval (.Name x pos) X.env) Q E s:=by
 obtain ⟨mb,h1,h2⟩:=I.mod.blt;exact VD I.ok.kind hg (Calls.loadGlobal_builtin (by rw [I.ok.glob];exact I.mod.glob.keeps I.bk) hm (by rw [I.ok.blt];exact h1.keeps I.bk) ((h2 x hn).trans hv) h) hd
theorem Gv {x:Str}{v:V}{u:JI}{pos:Pos}(hg:Gl X x)(hm:X.mg x=Dn u)(r:RelV v u)(hd:(x==("__debug__" : Str))=false:=by decide):PE X (.Name x pos) (tC v):=
 fun _ _ _ H _ I h=>lH I hg hm ⟨v,H,I,r,h⟩ hd
variable {a b:Expr}{ta tb:TE}{pos:Pos}
variable {tA tB':TT}{rest:List Expr}
def acO (t u:TT):TT:=fun σ H Q=>t σ H fun c H1=>if c=true then u σ H1 Q else Q false H1
def tOr (t u:TT):TT:=fun σ H Q=>t σ H fun c H1=>if c=true then Q true H1 else u σ H1 Q
def adf (t:TT):TT:=fun σ H Q=>t σ H fun c H1=>Q (!c) H1
theorem aeA (ha:PT X a tA):PW X (.BoolOp .And [a] pos) tA:=by
 intro wh pins s σ H Q I h;refine isTrue_and<|DW (ha pins s σ H Q I h) fun c s1 e=>?_
 cases c with
 | true=>exact isTrue_and_nil e
 | false=>exact e
theorem Yj (ha:PT X a tA):PW X (.BoolOp .Or [a] pos) tA:=by
 intro wh pins s σ H Q I h;refine isTrue_or<|DW (ha pins s σ H Q I h) fun c s1 e=>?_
 cases c with
 | false=>exact isTrue_or_nil e
 | true=>exact e
theorem WM (ha:PT X a tA)(hb:PW X (.BoolOp .And (b::rest) pos) tB'):PW X (.BoolOp .And (a::b::rest) pos) (acO tA tB'):=by
 intro wh pins s σ H Q I h;refine isTrue_and<|DW (ha pins s σ H _ I h) fun c s1 ⟨H1,I1,q1⟩=>?_
 cases c with
 | true=>exact hb wh pins s1 σ H1 Q I1 q1
 | false=>exact ⟨H1,I1,q1⟩
theorem abv (ha:PT X a tA)(hb:PW X (.BoolOp .Or (b::rest) pos) tB'):PW X (.BoolOp .Or (a::b::rest) pos) (tOr tA tB'):=by
 intro wh pins s σ H Q I h;refine isTrue_or<|DW (ha pins s σ H _ I h) fun c s1 ⟨H1,I1,q1⟩=>?_
 cases c with
 | true=>exact ⟨H1,I1,q1⟩
 | false=>exact hb wh pins s1 σ H1 Q I1 q1
theorem Wq (ha:PT X a tA):PT X (.UnaryOp .Not a pos) (adf tA):=by
 intro pins s σ H Q I h;exact isTrue_not<|ha pins s σ H (fun c H1=>Q (!c) H1) I h
def aaM (ta tb:TE):TE:=fun σ H Q=>ta σ H fun x H1=>∃ c,x=.bl c/\if c=true then tb σ H1 Q else Q (.bl false) H1
def abh (ta:TE):TE:=fun σ H Q=>ta σ H fun x H1=>∃ c,x=.bl c/\Q (.bl (!c)) H1
theorem XH {op}{t:TE}(h:PE X a t):PE X (.BoolOp op [a] pos) t:=fun pins s σ H Q I hw=>BoolOp_one (h pins s σ H Q I hw)
theorem Y6 (ha:PE X a ta)(hb:PE X (.BoolOp .And (b::rest) pos) tb):PE X (.BoolOp .And (a::b::rest) pos) (aaM ta tb):=by
 intro pins s σ H Q I h;refine BoolOp_and<|DW (ha pins s σ H _ I h) fun v s1 ⟨x,H1,I1,r1,q1⟩=>?_
 obtain ⟨c,rfl,q1⟩:=q1;cases r1;refine TV ?_;cases c with
 | true=>exact hb pins s1 σ H1 Q I1 q1
 | false=>exact ⟨.bl false,H1,I1,rfl,q1⟩
theorem Xy (ha:PE X a ta):PE X (.UnaryOp .Not a pos) (abh ta):=by
 intro pins s σ H Q I h;refine UnaryOp_<|DW (ha pins s σ H _ I h) fun v s1 ⟨x,H1,I1,r1,q1⟩=>?_
 obtain ⟨c,rfl,q1⟩:=q1;cases r1;exact not_of<|TV ⟨.bl<|!c,H1,I1,rfl,q1⟩
def tIf (t:TT)(ta tb:TE):TE:=fun σ H Q=>t σ H fun c H1=>if c=true then ta σ H1 Q else tb σ H1 Q
theorem zbn {c:Expr}(hc:PT X c tA)(ha:PE X a ta)(hb:PE X b tb):PE X (.IfExp c a b pos) (tIf tA ta tb):=by
 intro pins s σ H Q I h;refine wpAny_IfExp<|DW (hc pins s σ H _ I h) fun d s1 ⟨H1,I1,q1⟩=>?_
 cases d with
 | true=>exact ha pins s1 σ H1 Q I1 q1
 | false=>exact hb pins s1 σ H1 Q I1 q1
end
def Fl (K:Bs)(H:Hp)(a:Addr)(xs:List V):Prop:=
 Rd H a (.lst xs) \/
  ∃ (o:Obj) (its:Array JI) (n:Nat),K.lookup a=Dn o/\o.cls=.type "list"/\o.dict=Go/\o.data=.seq its n/\its.size<=Dk/\CJ xs its.toList
def G7 (K:Bs)(H:Hp)(a:Addr)(xs:List V):Prop:=
 Rd H a (.tup xs) \/
  ∃ (o:Obj) (its:Array JI) (n:Nat),K.lookup a=Dn o/\o.cls=.type "tuple"/\o.data=.seq its n/\its.size<=Dk/\CJ xs its.toList/\o.dict=Go
def acU:JI->Option V
 | .none=>Dn .non
 | .bool b=>Dn (.bl b)
 | .int i _=>Dn (.int i)
 | .str x _=>Dn (.str x)
 | .bytes b _=>Dn (.byt b)
 | .float b _=>Dn (.flt b)
 | .ref a=>Dn (.ref a)
 | .type n=>Dn (.ty n)
 | _=>Go
theorem RelV.abs {x:V}{u:JI}(r:RelV x u):acU u=Dn x:=by
 cases x with
 | non=>cases r;rfl
 | bl _=>cases r;rfl
 | int _=>obtain ⟨t,rfl⟩:=r;rfl
 | str _=>obtain ⟨t,rfl⟩:=r;rfl
 | byt _=>obtain ⟨t,rfl⟩:=r;rfl
 | flt _=>obtain ⟨t,rfl⟩:=r;rfl
 | ref _=>cases r;rfl
 | ty _=>cases r;rfl
theorem RelV.inj {x y:V}{u:JI}(r:RelV x u)(q:RelV y u):x=y:=Fj (r.abs.symm.trans q.abs)
theorem CJ.inj:∀ {xs ys:List V} {us:List JI},CJ xs us->CJ ys us->xs=ys
 | _,_,_,.nil,.nil=>rfl
 | _,_,_,.cons r t,.cons r' t'=>by rw [r.inj r',CJ.inj t t']
section
variable {X:Cx}{pins:List (Addr×Obj)}{σ : St}{H:Hp}{s:kI}{a:Addr}{xs ys:List V}
theorem Fl.of {K:Bs}(h:H a=Dn (.lst xs)):Fl K H a xs:=.inl (.inl h)
theorem G7.of {K:Bs}(h:H a=Dn (.tup xs)):G7 K H a xs:=.inl (.inl h)
theorem BZ.list (I:BZ X pins σ H s)(h:Fl X.K H a xs):∃ its:List JI,CJ xs its/\PlainL s.heap a its.toArray/\xs.length<=Dk:=by
 rcases h with h | ⟨o,its,n,hk,hc,hd,hs,hz,r⟩
 ·obtain ⟨z,its,n,r,e⟩:=h.ok I.hok;exact ⟨its,r,⟨_,n,e,rfl,rfl,rfl⟩,z⟩
 ·refine ⟨its.toList,r,⟨o,n,I.kIn a o hk,hc,hd,by simpa using hs⟩,?_⟩;have e:=r.length;simp only [Uj] at e;lia
theorem BZ.tupO (I:BZ X pins σ H s)(h:G7 X.K H a xs):∃ its:List JI,CJ xs its/\Kz s.heap a its.toArray/\xs.length<=Dk:=by
 rcases h with h | ⟨o,its,n,hk,hc,hs,hz,r,hd⟩
 ·obtain ⟨z,its,r,p⟩:=h.ok I.hok;exact ⟨its,r,p,z⟩
 ·refine ⟨its.toList,r,⟨o,I.kIn a o hk,hc,⟨n,by simpa using hs⟩,hd⟩,?_⟩;have e:=r.length;simp only [Uj] at e;lia
theorem BZ.tuple (I:BZ X pins σ H s)(h:G7 X.K H a xs):∃ its:List JI,CJ xs its/\IsTup s.heap a its.toArray/\xs.length<=Dk:=let ⟨its,r,p,z⟩:=I.tupO h;⟨its,r,p.tup,z⟩
theorem BZ.list_inj (I:BZ X pins σ H s)(h:Fl X.K H a xs)(h':Fl X.K H a ys):xs=ys:=by
 obtain ⟨its,r,⟨o,n,e,_,_,d⟩,_⟩:=I.list h;obtain ⟨its',r',⟨o',n',e',_,_,d'⟩,_⟩:=I.list h';rw [e] at e';cases e';rw [d] at d';injection d' with d1 _
 have:its=its':=by simpa using congrArg Array.toList d1
 subst this;exact r.inj r'
theorem BZ.tuple_inj (I:BZ X pins σ H s)(h:G7 X.K H a xs)(h':G7 X.K H a ys):xs=ys:=by
 obtain ⟨its,r,⟨o,e,_,n,d⟩,_⟩:=I.tuple h;obtain ⟨its',r',⟨o',e',_,n',d'⟩,_⟩:=I.tuple h';rw [e] at e';cases e';rw [d] at d';injection d' with d1 _
 have:its=its':=by simpa using congrArg Array.toList d1
 subst this;exact r.inj r'
end
abbrev Cx.wish (X:Cx)(E:JI->kI->Prop):Cx:={ X with xe:=E }
abbrev Cx.nox (X:Cx):Cx:=X.wish fun _ _=>False
theorem Cx.Ok.wish {X:Cx}(ok:X.Ok)(E:JI->kI->Prop):(X.wish E).Ok:=
 ⟨ok.mod,ok.kind,ok.glob,ok.blt,ok.above,ok.inj,ok.has,ok.cab,ok.hd,ok.qt,ok.frames,ok.stk,ok.exf,ok.bs,ok.bsz,ok.noex,ok.exfs,ok.funs,ok.frf⟩
theorem Cx.Ok.unwish {X:Cx}{E:JI->kI->Prop}(ok:(X.wish E).Ok):X.Ok:=
 ⟨ok.mod,ok.kind,ok.glob,ok.blt,ok.above,ok.inj,ok.has,ok.cab,ok.hd,ok.qt,ok.frames,ok.stk,ok.exf,ok.bs,ok.bsz,ok.noex,ok.exfs,ok.funs,ok.frf⟩
section
variable {X:Cx}{pins:List (Addr×Obj)}{σ : St}{H:Hp}{s:kI}{E:JI->kI->Prop}
theorem BZ.wish (I:BZ X pins σ H s)(E:JI->kI->Prop):BZ (X.wish E) pins σ H s:=⟨I.ok.wish E,I.os,I.bare,I.base,I.loc,I.cell,I.free,I.freeC,I.pin,I.hok,I.len⟩
theorem BZ.unwish (I:BZ (X.wish E) pins σ H s):BZ X pins σ H s:=⟨I.ok.unwish,I.os,I.bare,I.base,I.loc,I.cell,I.free,I.freeC,I.pin,I.hok,I.len⟩
theorem SP.unwish {D:Ends}{f:Flow}{s':kI}(h:SP (X.wish E) pins D f s'):SP X pins D f s':=by
 cases f with
 | next=>obtain ⟨σ',H',I,q⟩:=h;exact ⟨σ',H',I.unwish,q⟩
 | brk=>obtain ⟨σ',H',I,q⟩:=h;exact ⟨σ',H',I.unwish,q⟩
 | cont=>obtain ⟨σ',H',I,q⟩:=h;exact ⟨σ',H',I.unwish,q⟩
 | ret u=>obtain ⟨v,σ',H',I,r,q⟩:=h;exact ⟨v,σ',H',I.unwish,r,q⟩
theorem KQ.nox {st:List Stmt}{t:TS}(h:KQ X.nox st t):KQ X st t:=fun pins s σ H D I hw=>
 Ge (h pins s σ H D (I.wish _) hw) (fun _ _ q=>q.unwish) fun _ _ z=>Ku z
end
section
variable {X:Cx}{st:Stmt}{rest:List Stmt}{t u:TS}{e:Expr}{te:TE}{pos:Pos}
def aaX:TS:=fun D σ H=>D.nx σ H
def adb (t u:TS):TS:=fun D σ H=>t { D with nx:=u D } σ H
theorem afS:KQ X [] aaX:=fun _ _ σ H _ I h=>Te ⟨σ,H,I,h⟩
theorem zL (h1:PS X st t)(h2:KQ X rest u):KQ X (st::rest) (adb t u):=by
 intro pins s σ H D I h;refine wpAny_execs_cons<|DW (h1 pins s σ H { D with nx:=u D } I h) fun f s1 q=>?_
 cases f with
 | next=>
  obtain ⟨σ',H',I',q⟩:=q;exact h2 pins s1 σ' H' D I' q
 | ret v=>exact q
 | brk=>exact q
 | cont=>exact q
theorem wO (h1:PS X st t):KQ X [st] t:=by
 intro pins s σ H D I h;refine wpAny_execs_cons<|DW (h1 pins s σ H D I h) fun f s1 q=>?_
 cases f with
 | next=>exact Te q
 | ret v=>exact q
 | brk=>exact q
 | cont=>exact q
def aas:TS:=fun D σ H=>D.ct σ H
theorem xr:PS X (.Continue pos) aas:=fun _ _ σ H _ I h=>wpAny_Continue ⟨σ,H,I,h⟩
theorem BZ.quiet {pins:List (Addr×Obj)}{σ : St}{H:Hp}{s:kI}(I:BZ X pins σ H s):interactive X.env=false:=by simp [interactive,I.ok.kind]
def aa5 (te:TE):TS:=fun D σ H=>te σ H fun _ H1=>D.nx σ H1
theorem JN (he:PE X e te)(hs:QC e Go pos.line X.env=pure false:=by rfl):PS X (.Expr e pos) (aa5 te):=by
 intro pins s σ H D I h;exact wpAny_Expr_any (DW (he pins s σ H _ I h) fun v s1 ⟨x,H1,I1,r1,q1⟩=>⟨σ,H1,I1,q1⟩) I.quiet hs
def adg (te:TE):TS:=fun D σ H=>te σ H D.rt
theorem M7 (he:PE X e te):PS X (.Return (Dn e) pos) (adg te):=by
 intro pins s σ H D I h;exact wpAny_Return_some<|DW (he pins s σ H _ I h) fun v s1 ⟨x,H1,I1,r1,q1⟩=>⟨x,σ,H1,I1,r1,q1⟩
def acY (c:TT)(t u:TS):TS:=fun D σ H=>c σ H fun b H1=>if b=true then t D σ H1 else u D σ H1
theorem X6 {c:Expr}{a b:List Stmt}{tc:TT}(hc:PT X c tc)(ha:KQ X a t)(hb:KQ X b u):PS X (.If c a b pos) (acY tc t u):=by
 intro pins s σ H D I h;refine wpAny_If<|DW (hc pins s σ H _ I h) fun d s1 ⟨H1,I1,q1⟩=>?_
 cases d with
 | true=>exact ha pins s1 σ H1 D I1 q1
 | false=>exact hb pins s1 σ H1 D I1 q1
end
abbrev TG:=V->St->Hp->(St->Hp->Prop)->Prop
abbrev Q9:=List V->St->Hp->(St->Hp->Prop)->Prop
def PG (X:Cx)(target:Expr)(t:TG):Prop:=
 ∀ (pins:List (Addr×Obj)) (s:kI) (σ : St) (H:Hp) (v:V) (u:JI) (Q:St->Hp->Prop),BZ X pins σ H s->RelV v u->t v σ H Q ->
  Bu (Bx X.prog X.w) X.A (assign target X.env u) (fun _ s'=>∃ σ' H',BZ X pins σ' H' s'/\Q σ' H') X.xe s
def Qj (X:Cx)(ts:List Expr)(t:Q9):Prop:=
 ∀ (pins:List (Addr×Obj)) (s:kI) (σ : St) (H:Hp) (vs:List V) (us:List JI) (Q:St->Hp->Prop),BZ X pins σ H s->CJ vs us->t vs σ H Q ->
  Bu (Bx X.prog X.w) X.A (assignInOrder ((Jr ts X.env).map (·.2)) us) (fun _ s'=>∃ σ' H',BZ X pins σ' H' s'/\Q σ' H') X.xe s
abbrev WD:=V->V->V->Hp->(Hp->Prop)->Prop
def aax (X:Cx)(t:WD):Prop:=
 ∀ (pins:List (Addr×Obj)) (s:kI) (σ : St) (H:Hp) (o i v:V) (ov iv u:JI) (Q:Hp->Prop),BZ X pins σ H s->RelV o ov->RelV i iv->RelV v u->t o i v H Q ->
  Bu (Bx X.prog X.w) X.A (setItem ov iv u) (fun _ s'=>∃ H',BZ X pins σ H' s'/\Q H') X.xe s
section
variable {X:Cx}{pos:Pos}
def GC (i:Nat):TG:=fun v σ H Q=>Q (σ.set i (Dn v)) H
theorem lG {i:Nat}{x:Str}(hN:X.N.Nodup)(hi:X.N[i]?=Dn x)(hx:Loc X.env.scope x)(hf:X.fn x=true\/X.env.scope.names.lookup x=Dn .local:=by first | exact .inl rfl | exact .inr rfl | assumption):PG X (.Name x pos) (GC i):=by
 intro pins s σ H v u Q I r h;exact wpAny_assign_Name<|jK I hN hi hx r (fun s' I'=>⟨_,H,I',h⟩) hf
def acF:Q9:=fun vs σ H Q=>vs=[]/\Q σ H
def aaj (t:TG)(u:Q9):Q9:=fun vs σ H Q=>∃ v r,vs=v::r/\t v σ H fun σ' H'=>u r σ' H' Q
theorem JV:Qj X [] acF:=by
 intro pins s σ H vs us Q I r h;obtain ⟨e,h⟩:=h;subst e;cases r;exact assignInOrder_nil ⟨σ,H,I,h⟩
theorem tW {e:Expr}{es:List Expr}{t:TG}{u:Q9}(h1:PG X e t)(h2:Qj X es u)
  (hs:(Jr (e::es) X.env).map (·.2)=assign e X.env::(Jr es X.env).map (·.2):=by rfl):Qj X (e::es) (aaj t u):=by
 intro pins s σ H vs us Q I r h;obtain ⟨v,vr,e1,h⟩:=h;subst e1;cases r with
 | cons r rr=>
  rw [hs];refine assignInOrder_cons<|DW (h1 pins s σ H _ _ _ I r h) fun _ s1 ⟨σ1,H1,I1,q1⟩=>?_
  exact h2 pins s1 σ1 H1 _ _ Q I1 rr q1
def ac1 (K:Bs)(n:Nat)(t:Q9):TG:=fun v σ H Q=>∃ a xs,v=.ref a/\G7 K H a xs/\xs.length=n/\t xs σ H Q
theorem Za {es:List Expr}{k:Nat}{t:Q9}{n:Nat}(hc:X.calm=true)(h:Qj X es t)
  (hn:(Jr es X.env).length=n:=by rfl) (hst:(Jr es X.env).findIdx? (·.1)=Go:=by rfl):PG X (.Tuple es k pos) (ac1 X.K n t):=by
 intro pins s σ H v u Q I r hw;obtain ⟨a,xs,e1,hq,hl,hw⟩:=hw;subst e1;cases r;obtain ⟨its,rv,ht,hz⟩:=I.tuple hq;refine assign_Tuple_tuple (I.ok.hd hc) ht (by simp [hn,<-hl,rv.length]) hst fun h' hx=>?_;have I1:BZ X pins σ H { s with heap:=h' }:=I.kept (t':=s.toks) fun b o e=>hx b o (Gf (Dj e)) e
 exact h pins _ σ H xs _ Q I1 (by simpa using rv) hw
def ac5 (to ti:TE)(t:WD):TG:=fun v σ H Q=>to σ H fun o H1=>ti σ H1 fun i H2=>t o i v H2 fun H3=>Q σ H3
theorem Yq {o i:Expr}{to ti:TE}{t:WD}(ho:PE X o to)(hi:PE X i ti)(hs:aax X t)
  (ha:∀ v,assign (.Subscript o i pos) X.env v=(do
   let ov <-QJ [v] (eval o X.env)
   let iv <-QJ [v,ov] (eval i X.env)
   standAt pos
   QJ [v,ov,iv] (setItem ov iv v)
   release [v,ov,iv] []):=by intro _;rfl):PG X (.Subscript o i pos) (ac5 to ti t):=by
 intro pins s σ H v u Q I r h;rw [ha];refine BL<|JK<|DW (ho pins s σ H _ I h) fun ov s1 ⟨x,H1,I1,r1,q1⟩=>?_
 refine BL<|JK<|DW (hi pins s1 σ H1 _ I1 q1) fun iv s2 ⟨y,H2,I2,r2,q2⟩=>?_
 refine BL<|RQ<|BL<|JK<|DW (hs pins s2 σ H2 x y v ov iv u _ I2 r1 r2 r q2) fun _ s3 ⟨H3,I3,q3⟩=>?_
 exact wpAny_release ⟨σ,H3,I3,q3⟩
def XF (te:TE)(g:TG):TS:=fun D σ H=>te σ H fun x H1=>g x σ H1 D.nx
theorem YT {tg e:Expr}{te:TE}{g:TG}(he:PE X e te)(hg:PG X tg g)(hs:swapsWithSole [tg] e pos.line X.env=pure false:=by rfl)(hw:swappedStores [tg] e X.env=pure Go:=by rfl)
  (h1:(Jr [tg] X.env).map (·.2)=[assign tg X.env]:=by rfl):PS X (.Assign [tg] e pos) (XF te g):=by
 intro pins s σ H D I h;refine wpAny_Assign_stores (DW (he pins s σ H _ I h) fun v s1 ⟨x,H1,I1,r1,q1⟩=>?_) hs hw;rw [h1];exact DW (hg pins s1 σ H1 x v _ I1 r1 q1) fun _ s2 q=>q
theorem O2 {i:Nat}{x:Str}{e:Expr}{te:TE}{pos':Pos}(hN:X.N.Nodup)(hi:X.N[i]?=Dn x)(hx:Loc X.env.scope x)(he:PE X e te)(hs:QC e (Dn (.Name x pos')) pos.line X.env=pure false:=by rfl)(hf:X.fn x=true\/X.env.scope.names.lookup x=Dn .local:=by first | exact .inl rfl | exact .inr rfl | assumption) :
  PS X (.Assign [.Name x pos'] e pos) (XF te (GC i)):=by
 intro pins s σ H D I h;refine wpAny_Assign_Name (DW (he pins s σ H _ I h) fun v s1 ⟨y,H1,I1,r1,q1⟩=>?_) hs;exact jK I1 hN hi hx r1 (fun s2 I2=>⟨_,H1,I2,q1⟩) hf
def aci (i j:Nat)(ta:TA):TS:=fun D σ H=>ta σ H fun vs H1=>∃ v w,vs=[v,w]/\D.nx ((σ.set i (Dn v)).set j (Dn w)) H1
theorem YG {i j:Nat}{x y:Str}{a b:Expr}{ta:TA}{px py pt:Pos}{kt k2 pt2}(hc:X.calm=true)(hN:X.N.Nodup)(hi:X.N[i]?=Dn x)(hj:X.N[j]?=Dn y)(hij:i≠j)
  (hx:X.env.scope.names.lookup x=Dn .local) (hy:X.env.scope.names.lookup y=Dn .local) (ha:PA X [a,b] ta)
  (hw:swappedStores [.Tuple [.Name x px,.Name y py] kt pt] (.Tuple [a,b] k2 pt2) X.env=pure (Dn [x,y]))
  (hs:swapsWithSole [.Tuple [.Name x px,.Name y py] kt pt] (.Tuple [a,b] k2 pt2) pos.line X.env=pure false:=by rfl) :
  PS X (.Assign [.Tuple [.Name x px,.Name y py] kt pt] (.Tuple [a,b] k2 pt2) pos) (aci i j ta):=by
 intro pins s σ H D I h;rw [exec_Assign_arm];refine BL<|RQ ?_
 rw [hs];refine BL<|CP ?_
 rw [if_neg (by decide)];refine BL<|Tuple_<|DW (ha _ pins s σ H _ I h) fun us s1 ⟨vs,H1,I1,r1,q1⟩=>?_
 obtain ⟨v,w,e1,q1⟩:=q1;subst e1;obtain ⟨u1,u2,rfl,rv,rw'⟩:∃ u1 u2,us=[u1,u2]/\RelV v u1/\RelV w u2:=by
  cases r1 with
  | cons p q=>
   cases q with
   | cons p' q'=>
    cases q'
    exact ⟨_,_,rfl,p,p'⟩
 refine ML ?_ (by show 2<=Dk;decide);have I2:BZ X pins σ H1 { s1 with heap:=s1.heap.push { cls:=.type "tuple",data:=.seq [u1,u2].toArray } }:=I1.kept (t':=s1.toks) fun b o e=>Dm _ e
 rw [hw];refine BL<|CP ?_
 show Bu (Bx X.prog X.w) X.A (do rule "assign.swapped-stores";let items <-unpackItems (.ref s1.heap.objs.size) 2 Go;assignInOrder [fun v=>bindName X.env y v,fun v=>bindName X.env x v] items.reverse;pure Flow.next) _ _ _;refine BL<|RL<|BL<|unpackItems_tuple (items:=#[u1,u2]) (I.ok.hd hc) (IsTup.new s1.heap _) fun h' hx'=>?_
 have I3:=I2.kept (h':=h') (t':=s1.toks) fun b o e=>hx' b o (Gf (Dj e)) e
 show Bu _ _ (assignInOrder [fun v=>bindName X.env y v,fun v=>bindName X.env x v] [u2,u1] >>= fun _=>pure Flow.next) _ _ _;refine BL<|assignInOrder_cons<|wpAny_bindName<|jK I3 hN hj (.inl hy) rw' (fun s2 I4=>?_)<|.inr hy
 refine assignInOrder_cons<|wpAny_bindName<|jK I4 hN hi (.inl hx) rv (fun s3 I5=>assignInOrder_nil<|CP ?_)<|.inr hx
 rw [List.set_comm _ _ (Eu hij)] at I5;exact ⟨_,H1,I5,q1⟩
def Vi (c:TT)(tb:TS):TS:=fun D σ H=>∃ W:Nat->St->Hp->Prop,(∃ m,W m σ H)/\∀ m σ H,W m σ H ->
 c σ H fun b H1=>if b=true then ∃ N:St->Hp->Prop,(∀ σ' H',N σ' H'->∃ m',m'<m/\W m' σ' H')/\tb { D with nx:=N,ct:=N,bk:=D.nx } σ H1 else D.nx σ H1
theorem aeQ {c:Expr}{body:List Stmt}{tc:TT}{tb:TS}(hp:Ux (Bx X.prog X.w) X.A X.env X.xe)(hc:PT X c tc)(hb:KQ X body tb):PS X (.While c body [] pos) (Vi tc tb):=by
 intro pins s σ H D I h;obtain ⟨W,⟨m0,w0⟩,turn⟩:=h;refine wpAny_While<|codeAny_whileLoop (fun n s'=>∃ σ' H',BZ X pins σ' H' s'/\W n σ' H') ?_ m0 ⟨σ,H,I,w0⟩
 rintro n s1 ⟨σ1,H1,I1,w1⟩;refine Rt hp<|DW (hc pins s1 σ1 H1 _ I1<|turn n σ1 H1 w1) fun b s2 ⟨H2,I2,q2⟩=>?_
 cases b with
 | true=>
  obtain ⟨N,hN,q2⟩:=q2;rw [if_pos rfl];refine Rt hp<|DW (hb pins s2 σ1 H2 _ I2 q2) fun f s3 q3=>?_
  cases f with
  | next=>
   obtain ⟨σ3,H3,I3,n3⟩:=q3;obtain ⟨m',hm,w3⟩:=hN σ3 H3 n3;exact ⟨m',hm,σ3,H3,I3,w3⟩
  | cont=>
   obtain ⟨σ3,H3,I3,n3⟩:=q3;obtain ⟨m',hm,w3⟩:=hN σ3 H3 n3;exact ⟨m',hm,σ3,H3,I3,w3⟩
  | brk=>exact q3
  | ret v=>exact q3
 | false=>
  rw [if_neg Hi];exact Te ⟨σ1,H2,I2,q2⟩
end
theorem tG:entryFor table "proto.unchain" = Dn Pb.«proto.unchain»:=entryFor_of_tree (by kernel_rfl)
inductive yN (h:Heap):List Addr->JI->Prop
 | nil:yN h [] .none
 | cons {c:Addr} {o:Obj} {vs:Array JI} {z:JI} {l:List Addr} (ho:h.get? c=Dn o) (hd:o.data=.fields vs) (h2:vs[2]?=Dn z) (t:yN h l z):yN h (c::l) (.ref c)
theorem yN.keep {h h':Heap}{l:List Addr}{v:JI}(c:yN h l v)(k:∀ a∈l,∀ o,h.get? a=Dn o->h'.get? a=Dn o):yN h' l v:=by
 induction c with
 | nil=>exact .nil
 | cons ho hd h2 t ih=>exact .cons (k _ (by simp) _ ho) hd h2 (ih fun a ha=>k a (by simp [ha]))
theorem yN.there {h:Heap}{l:List Addr}{v:JI}(c:yN h l v):∀ a∈l,∃ o,h.get? a=Dn o:=by
 induction c with
 | nil=>intro a ha;cases ha
 | @cons c o vs z l ho hd h2 t ih=>
  intro a ha;rcases Cr.mp ha with rfl | ha
  ·exact ⟨o,ho⟩
  ·exact ih a ha
def xM (A:CT)(h:Heap):Prop:=∀ v,A.handled=Dn v->∃ a l,v=.ref a/\yN h l v
theorem Mr.heap {P:CR}{w:CQ}{H:Hp}{h:Heap}{v:JI}(c:Mr H v)(x:HS P w H h):∃ l,yN h l v:=by
 induction c with
 | nil=>exact ⟨[],.nil⟩
 | cons h1 h2 h3 _ ih=>obtain ⟨l,t⟩:=ih;exact ⟨_,.cons (x _ _ h1).1 h2 h3 t⟩
theorem zam {A:CT}{P:CR}{w:CQ}{H:Hp}{h:Heap}(q:Quiet A H)(x:HS P w H h):xM A h:=fun v e=>by
 obtain ⟨⟨a,h1⟩,c⟩:=q v e;obtain ⟨l,t⟩:=c.heap x;exact ⟨a,l,h1,t⟩
def Lnk (h:Heap)(x y:JI):Prop:=∃ (c:Addr) (o:Obj) (vs:Array JI),x=.ref c/\h.get? c=Dn o/\o.data=.fields vs/\vs[2]?=Dn y
inductive Ph (h:Heap):JI->JI->Prop
 | refl {x:JI}:Ph h x x
 | step {x y z:JI} (a:Lnk h x y) (b:Ph h y z):Ph h x z
theorem Ph.snoc {h:Heap}{x y z:JI}(a:Ph h x y)(b:Lnk h y z):Ph h x z:=by
 induction a with
 | refl=>exact .step b .refl
 | step l _ ih=>exact .step l (ih b)
theorem Ph.one {h:Heap}{x y z:JI}(a:Ph h x y)(b:Lnk h y z):∃ u,Lnk h x u/\Ph h u z:=by
 cases a with
 | refl=>exact ⟨z,b,.refl⟩
 | step l r=>exact ⟨_,l,r.snoc b⟩
theorem qR {prog:CR}{w:CQ}{A:CT}{s:kI}{e:Addr}{R:Result->kI->Prop}(h:R (.ok (.ret .none)) s):∀ {l:List Addr} {o:JI},yN s.heap l o->e∉l->(∃ a,o=.ref a)->∀ (slow:JI) (tg:Bool),(tg=false->Ph s.heap slow o)->(tg=true->∃ y,Lnk s.heap slow y/\Ph s.heap y o) ->
  Mi (Bx prog w) A (.builtin "proto.unchain" ⟨[.ref e,o,slow,.bool tg],[]⟩) R s:=by
 intro l o c;induction c with
 | nil=>rintro _ ⟨a,z⟩;cases z
 | @cons c o vs z l ho hd h2 t ih=>
  intro ne _ slow tg hf ht;have lk:Lnk s.heap (.ref c) z:=⟨c,o,vs,rfl,ho,hd,h2⟩
  refine codeAny_builtin tG ?_;unfold Pb.«proto.unchain»;dsimp only;refine BL<|HI ho hd h2 ?_
  by_cases z0:z=.none
  ·subst z0;rw [if_pos (show (Value.none==Value.none)=true from rfl)];refine BL<|CP<|CP ?_
   exact h
  ·have zn:¬ (z==Value.none)=true:=fun q=>z0 (beq_iff_eq.mp q)
   rw [if_neg zn];obtain ⟨d,rfl,hdm⟩:∃ d,z=.ref d/\d∈l:=by
    cases t with
    | nil=>exact absurd rfl z0
    | cons=>exact ⟨_,rfl,by simp⟩
   have ze:¬ (Value.ref d==Value.ref e)=true:=fun q=>by
    have:=Value.ref.inj (beq_iff_eq.mp q)
    exact ne (by rw [<-this];simp [hdm])
   rw [if_neg ze];by_cases zs:(Value.ref d==slow)=true
   ·rw [if_pos zs];refine BL<|RL ?_
    first
     | exact CP h
     | (refine BL (CP (CP ?_));exact h)
   ·rw [if_neg zs];have ne':e∉l:=fun q=>ne (by simp [q])
    cases tg with
    | true=>
     obtain ⟨y,⟨cs,os,ss,rfl,hs1,hs2,hs3⟩,r⟩:=ht rfl;rw [if_pos rfl];refine BL<|HI hs1 hs2 hs3<|CP ⟨Uv _<|by decide +kernel,?_⟩
     exact ih ne' ⟨d,rfl⟩ y false (fun _=>r.snoc lk) fun q=>nomatch q
    | false=>
     rw [if_neg Hi];refine BL<|CP<|CP ⟨Uv _<|by decide +kernel,?_⟩
     exact ih ne' ⟨d,rfl⟩ slow true (fun q=>nomatch q) fun _=>(hf rfl).one lk
theorem zaf {α : Type}{prog:CR}{w:CQ}{A:CT}{E:JI->kI->Prop}{s:kI}{e:Addr}{oe:Obj}{ws:Array JI}{h0:Heap}{Q:α->kI->Prop}(hq:xM A h0)(k0:∀ b o,h0.get? b=Dn o->s.heap.get? b=Dn o)(e0:h0.get? e=Go)(he:s.heap.get? e=Dn oe)(hd:oe.data=.fields ws)(hz:2<ws.size)
  (h:∀ h',(∀ b,b≠e->h'.get? b=s.heap.get? b)->(∃ o',h'.get? e=Dn o'/\o'.cls=oe.cls/\o'.dict=oe.dict/\((A.handled=Go/\h'=s.heap)\/∃ v,A.handled=Dn v/\o'.data=.fields (ws.setIfInBounds 2 v)))->E (.ref e) { s with heap:=h' }):Bu (Bx prog w) A (raiseNew (.ref e):Sem α) Q E s:=by
 unfold raiseNew;refine BL<|wpAny_handled ?_
 cases hh:A.handled with
 | none=>
  dsimp only;refine BL<|CP<|T5 ?_
  exact h s.heap (fun _ _=>rfl) ⟨oe,he,rfl,rfl,.inl ⟨hh,rfl⟩⟩
 | some v=>
  obtain ⟨a,l,rfl,ch⟩:=hq v hh;have nl:e∉l:=fun q=>by obtain ⟨o,z⟩:=ch.there e q;rw [e0] at z;cases z
  have ch':yN s.heap l (.ref a):=ch.keep fun b _ o z=>k0 b o z
  dsimp only;have al:a∈l:=by cases ch with | cons=>simp
  have ne:(Value.ref a != Value.ref e)=true:=by
   simp only [bne_iff_ne,ne_eq];intro q;exact nl (by rw [<-Value.ref.inj q];exact al)
  rw [if_pos ne];refine BL<|JK<|wpAny_runValue<|qR ?_ ch' nl ⟨a,rfl⟩ (.ref a) false (fun _=>.refl) fun q=>nomatch q
  dsimp only;refine BL ?_;unfold updateField;refine BL<|wpAny_load he ?_
  rw [hd];dsimp only;rw [if_pos hz];refine wpAny_update he<|T5 ?_
  have hd3:=Ml hd (·.setIfInBounds 2 (Value.ref a));exact h _ (fun b hb=>Ld _ _<|Eu hb) ⟨_,Lb _ he<|Qf hd3,Ut _ _,by obtain ⟨c0,d0,dt,sl⟩:=oe;cases hd;rfl,.inr ⟨_,hh,hd3⟩⟩
theorem aed {prog:CR}{w:CQ}{A:CT}{E:JI->kI->Prop}{s:kI}{it:Addr}{x left step:Int}{Q:Option JI->kI->Prop}(hh:xM A s.heap)(hit:IsRangeIter s.heap it x left step)(hleft:left<=0)
  (hQ:∀ h',T6 it s.heap h'->Q Go { s with heap:=h' }):Bu (Bx prog w) A (LK (.ref it)) Q E s:=by
 have hT:s.TypeIs (.ref it) "range_iterator":=⟨_,hit,rfl⟩
 unfold LK;refine BL (RP (RJ (name:=Qq "__next__") hT F.slot_range_iterator_next
  (QM F.slot_range_iterator_next hT F.entry_range_iterator_next ?_ (F.args_range_iterator_next_1 _))))
 show Bu _ _ (field (.ref it) 0 >>= _) _ _ s;refine BL<|HI hit rfl (x:=K6 x) rfl ?_
 show Bu _ _ (field (.ref it) 1 >>= _) _ _ s;refine BL<|HI hit rfl (x:=K6 left) rfl ?_
 show Bu _ _ (field (.ref it) 2 >>= _) _ _ s;refine BL<|HI hit rfl (x:=K6 step) rfl ?_
 show Bu _ _ (if left<=0 then _ else _) _ _ s;rw [if_pos hleft];refine BL<|RL ?_
 refine BL ?_;show Bu _ _ (newExc (.type "StopIteration") [] >>= _) _ _ _;refine BL ?_;simp only [newExc,newTuple];refine BL<|ML ?_<|by size_fits
 refine BL (m:=Ui _ _)<|Qx (a:=Value.none) (by first | rfl | (simp only [Ui];rfl)) ?_
 refine ML ?_<|by size_fits
 refine zaf (A:=A.in1) (h0:=s.heap) hh (fun b o q=>Dm _<|Dm _ q) (Um<|by simp [Heap.push]) (HD _ rfl) rfl (by simp;lia) fun h' h1 ⟨o',h2,h3,_⟩=>?_;refine BL<|wpAny_isInstance (T := "StopIteration") (b:=true) ⟨_,h2,h3⟩ isSubtype_stop ?_
 refine CP<|hQ _ fun b o hb e=>?_
 rw [h1 b ?_]
 ·exact Dm _<|Dm _ e
 ·have:=Dj e
  exact Gf<|GP this<|by simp [Heap.push]
structure It where
 go:Nat->Hp->Prop
 yld:Nat->Hp->V->Hp->Prop
 stop:Nat->Hp->Prop
 cm:Bool
def BP (X:Cx)(pins:List (Addr×Obj))(H:Hp)(b:Addr):Prop:=
 H b=Go/\b≠X.env.locals/\b∉X.fs/\(b∈X.ex\/X.s₀.heap.objs.size<=b)/\(∀ x c,X.env.cells.lookup x=Dn c->c≠b)/\∀ p∈X.pn++pins,p.1≠b
theorem BZ.fpOk {X:Cx}{pins:List (Addr×Obj)}{σ : St}{H H':Hp}{s:kI}{b:Addr}(I:BZ X pins σ H s)(hb:s.heap.objs.size<=b)(hn:H' b=Go):BP X pins H' b:=by
 refine ⟨hn,Lk<|GP I.lt hb,I.nofs hb,.inr<|GK I.sz hb,fun x c e z=>?_,fun p hp z=>?_⟩
 ·obtain ⟨v,q⟩:=I.cell x c e;exact absurd (GP q.lt (by rw [z];exact hb))<|KZ _
 ·exact absurd (GP (Dj (I.pin p hp).1) (by rw [z];exact hb))<|KZ _
structure Turn (P:CR) (w:CQ) (K:Bs) (tg:Expr) (J:It) (fp:List Addr) (it:Addr) (tn:Nat->Heap->Prop):Prop where
 mem:it∈fp
 obj:∀ i h,tn i h->∀ b∈fp,∃ o,h.get? b=Dn o/\∀ v,o.data≠.cell v
 keep:∀ i h h',tn i h->(∀ b∈fp,∀ o,h.get? b=Dn o->h'.get? b=Dn o)->tn i h'
 item:∀ (X:Cx),X.prog=P->X.w=w->X.K=K->(J.cm=true->X.calm=true)->∀ (i:Nat) (pins:List (Addr×Obj)) (s:kI) (σ : St) (H:Hp) (E:JI->kI->Prop),BZ X pins σ H s->(∀ b∈fp,BP X pins H b)->tn i s.heap->J.go i H ->
  Bu (Bx P w) X.A (LK (.ref it)) (fun r s1=>∃ u,r=Dn u /\
   Bu (Bx P w) X.A (letOwnedTupleGo tg (.ref it) u) (fun _ s2=>∃ x H',BZ X pins σ H' s2/\RelV x u/\J.yld i H x H'/\tn (i+1) s2.heap/\∀ b∈fp,H' b=Go) E s1) E s
 done:∀ (X:Cx),X.prog=P->X.w=w->X.K=K->(J.cm=true->X.calm=true)->∀ (i:Nat) (pins:List (Addr×Obj)) (s:kI) (σ : St) (H:Hp) (E:JI->kI->Prop),BZ X pins σ H s->(∀ b∈fp,BP X pins H b)->tn i s.heap->J.stop i H ->
  Bu (Bx P w) X.A (LK (.ref it)) (fun r s1=>r=Go/\BZ X pins σ H s1) E s
 self:∀ (A:CT) (i:Nat) (s:kI) (Q:JI->kI->Prop) (E:JI->kI->Prop),tn i s.heap->Q (.ref it) s->Bu (Bx P w) A (pyIter (.ref it)) Q E s
abbrev TI:=St->Hp->(It->Hp->Prop)->Prop
def PIE (X:Cx)(pins:List (Addr×Obj))(σ : St)(tg:Expr)(R:It->Hp->Prop)(itv:JI)(s2:kI):Prop:=
 ∃ (it:Addr) (fp:List Addr) (tn:Nat->Heap->Prop) (J:It) (H':Hp),itv=.ref it/\BZ X pins σ H' s2/\Turn X.prog X.w X.K tg J fp it tn/\tn 0 s2.heap/\(∀ b∈fp,BP X pins H' b)/\R J H'
def PI (X:Cx)(tg iter:Expr)(wi:TI):Prop:=
 ∀ (pins:List (Addr×Obj)) (s:kI) (σ : St) (H:Hp) (R:It->Hp->Prop),BZ X pins σ H s->wi σ H R ->
  Bu (Bx X.prog X.w) X.A (eval iter X.env) (fun v s1=>Bu (Bx X.prog X.w) X.A (pyIter v) (PIE X pins σ tg R) X.xe s1) X.xe s
theorem EY {M:Model}{A:CT}{E:JI->kI->Prop}{s:kI}{tg:Expr}{it:Addr}{u:JI}{o:Obj}{n:String}{vs:Array JI}{Q:Unit->kI->Prop}(ho:s.heap.get? it=Dn o)(hc:o.cls=.type n)(hd:o.data=.fields vs)
    (hn:["enumerate", "zip", "dict_itemiterator", "dict_reverseitemiterator", "odict_iterator", "itertools.zip_longest", "itertools.pairwise"].contains n=false) (hQ:Q () s):Bu M A (letOwnedTupleGo tg (.ref it) u) Q E s:=by
  unfold letOwnedTupleGo;cases tg <;> first
    | exact CP hQ
    | (cases u <;> first
        | exact CP hQ
        | (refine BL (wpAny_load ho ?_)
           rw [hc,hd];show Bu M A (if (["enumerate", "zip", "dict_itemiterator", "dict_reverseitemiterator", "odict_iterator", "itertools.zip_longest", "itertools.pairwise"].contains n&&vs[0]?==Dn (K6 _))=true then _ else _) Q E s;rw [if_neg (by intro h;rw [hn,Bool.false_and] at h;cases h)];exact CP hQ))
def Itl (K:Bs)(a:Addr):It:=
 ⟨fun i H=>∃ xs x,Fl K H a xs/\xs[i]?=Dn x,fun i H x H'=>H'=H/\∀ xs,Fl K H a xs->xs[i]?=Dn x,fun i H=>∃ xs,Fl K H a xs/\xs.length<=i,true⟩
def Itt (K:Bs)(a:Addr):It:=
 ⟨fun i H=>∃ xs x,G7 K H a xs/\xs[i]?=Dn x,fun i H x H'=>H'=H/\∀ xs,G7 K H a xs->xs[i]?=Dn x,fun i H=>∃ xs,G7 K H a xs/\xs.length<=i,true⟩
def Itr (lo:Int)(n:Nat):It:=⟨fun i _=>i<n,fun i H x H'=>H'=H/\x=.int (lo+i),fun i _=>n<=i,false⟩
theorem zaB {P:CR}{w:CQ}{K:Bs}{tg:Expr}(a it:Addr):Turn P w K tg (Itl K a) [it] it (fun i h=>h.IsListIter it a i) where
 mem:=by simp
 obj:=fun i h st b hb=>by
  have e:b=it:=by simpa using hb
  subst e;obtain ⟨o,e,c,d⟩:=st;exact ⟨o,e,fun v z=>by rw [d] at z;cases z⟩
 keep:=fun i h h' st k=>st.at fun o e=>k it (by simp) o e
 item:=by
  intro X hP hw hK hc i pins s σ H E I hf st hg;subst hP hw hK;obtain ⟨xs,x,hq,hx⟩:=hg;obtain ⟨its,rv,p,hz⟩:=I.list hq;obtain ⟨u,hu,ru⟩:=rv.get hx;obtain ⟨f0,f1,f2,f3,f4,f5⟩:=hf it (by simp);refine wpAny_pyNext_list_item st p.isList (x:=u) (by simpa using hu) fun h' st' sb=>?_;have I1:BZ X pins σ H { s with heap:=h' }:=I.turned (t':=s.toks) (fun b o hb e=>(sb.2 b hb).trans e) f0 f1 f3 f4 f5;obtain ⟨o,e,c,d⟩:=id st';exact ⟨u,rfl,EY (s:={ s with heap:=h' }) e c d (by decide) ⟨x,H,I1,ru,⟨rfl,fun ys hy=>by rw [I.list_inj hy hq];exact hx⟩,st',fun b hb=>(hf b hb).1⟩⟩
 done:=by
  intro X hP hw hK hc i pins s σ H E I hf st hg;subst hP hw hK;obtain ⟨xs,hq,hx⟩:=hg;obtain ⟨its,rv,p,hz⟩:=I.list hq;obtain ⟨f0,f1,f2,f3,f4,f5⟩:=hf it (by simp);have hl:=rv.length;exact wpAny_pyNext_list_end (I.ok.hd<|hc rfl) st p.isList (by simp;lia) fun h' eb=>⟨rfl,I.turned (t':=s.toks) (fun b o hb e=>eb b o hb e) f0 f1 f3 f4 f5⟩
 self:=fun _ _ _ _ _ st h=>wpAny_pyIter_listiter st h
theorem zan {P:CR}{w:CQ}{K:Bs}{tg:Expr}(a it:Addr):Turn P w K tg (Itt K a) [it] it (fun i h=>h.IsTupleIter it a i) where
 mem:=by simp
 obj:=fun i h st b hb=>by
  have e:b=it:=by simpa using hb
  subst e;obtain ⟨o,e,c,d⟩:=st;exact ⟨o,e,fun v z=>by rw [d] at z;cases z⟩
 keep:=fun i h h' st k=>st.at fun o e=>k it (by simp) o e
 item:=by
  intro X hP hw hK hc i pins s σ H E I hf st hg;subst hP hw hK;obtain ⟨xs,x,hq,hx⟩:=hg;obtain ⟨its,rv,p,hz⟩:=I.tuple hq;obtain ⟨u,hu,ru⟩:=rv.get hx;obtain ⟨f0,f1,f2,f3,f4,f5⟩:=hf it (by simp);refine wpAny_pyNext_tuple_item st (show s.heap.IsTuple a its.toArray from p) (x:=u) (by simpa using hu) fun h' st' sb=>?_;have I1:BZ X pins σ H { s with heap:=h' }:=I.turned (t':=s.toks) (fun b o hb e=>(sb.2 b hb).trans e) f0 f1 f3 f4 f5;obtain ⟨o,e,c,d⟩:=id st';exact ⟨u,rfl,EY (s:={ s with heap:=h' }) e c d (by decide) ⟨x,H,I1,ru,⟨rfl,fun ys hy=>by rw [I.tuple_inj hy hq];exact hx⟩,st',fun b hb=>(hf b hb).1⟩⟩
 done:=by
  intro X hP hw hK hc i pins s σ H E I hf st hg;subst hP hw hK;obtain ⟨xs,hq,hx⟩:=hg;obtain ⟨its,rv,p,hz⟩:=I.tuple hq;obtain ⟨f0,f1,f2,f3,f4,f5⟩:=hf it (by simp);have hl:=rv.length;exact wpAny_pyNext_tuple_end (I.ok.hd<|hc rfl) st (show s.heap.IsTuple a its.toArray from p) (by simp;lia) fun h' eb=>⟨rfl,I.turned (t':=s.toks) (fun b o hb e=>eb b o hb e) f0 f1 f3 f4 f5⟩
 self:=fun _ _ _ _ _ st h=>wpAny_pyIter_tupleiter st h
theorem zaw {P:CR}{w:CQ}{K:Bs}{tg:Expr}(it:Addr)(lo:Int)(n:Nat):Turn P w K tg (Itr lo n) [it] it (fun i h=>IsRangeIter h it (lo+(i:Nat)*1) ((n:Int) - (i:Nat)) 1) where
 mem:=by simp
 obj:=fun i h st b hb=>by
  have e:b=it:=by simpa using hb
  subst e;exact ⟨_,st,fun v z=>by
   have z':Data.fields _=Data.cell v:=z;cases z'⟩
 keep:=fun i h h' st k=>k it (by simp) _ st
 item:=by
  intro X hP hw hK hc i pins s σ H E I hf st hg;subst hP hw hK;obtain ⟨f0,f1,f2,f3,f4,f5⟩:=hf it (by simp);refine wpAny_pyNext_range_item st (by have:i<n:=hg;lia) fun h' st' kk=>?_;have I1:BZ X pins σ H { s with heap:=h',toks:=s.toks+1 }:=I.turned (fun b o hb e=>(kk.2 b hb).trans e) f0 f1 f3 f4 f5;have st2:IsRangeIter h' it (lo+((i+1:Nat):Int)*1) ((n:Int) - ((i+1:Nat):Int)) 1:=by
   have e1:lo+((i+1:Nat):Int)*1=lo+((i:Nat):Int)*1+1:=by lia
   have e2:(n:Int) - ((i+1:Nat):Int)=(n:Int) - ((i:Nat):Int) - 1:=by lia
   rw [e1,e2];exact st'
  refine ⟨_,rfl,EY (s:={ s with heap:=h',toks:=s.toks+1 }) (n := "range_iterator") st' rfl rfl (by decide) ⟨.int<|lo+i,H,I1,⟨s.toks,?_⟩,⟨rfl,rfl⟩,st2,fun b hb=>(hf b hb).1⟩⟩;rw [Int.mul_one]
 done:=by
  intro X hP hw hK hc i pins s σ H E I hf st hg;subst hP hw hK;obtain ⟨f0,f1,f2,f3,f4,f5⟩:=hf it (by simp);exact aed (zam I.qt0 I.hok) st (by have:n<=i:=hg;lia) fun h' eb=>⟨rfl,I.turned (t':=s.toks) (fun b o hb e=>eb b o hb e) f0 f1 f3 f4 f5⟩
 self:=fun _ _ _ _ _ st h=>wpAny_pyIter_rangeiter st h
section
variable {X:Cx}{tg:Expr}
theorem Bd {pins:List (Addr×Obj)}{σ : St}{H:Hp}{s:kI}{R:It->Hp->Prop}{E:JI->kI->Prop}{lo hi:Int}{t u v:Tok}{tk:Nat}(I:BZ X pins σ H s)(h1:-(2^62)<=lo)(h2:lo<2^62)(h3:-(2^62)<=hi)(h4:hi<2^62)
  (q:R (Itr lo (hi - lo).toNat) H):Bu (Bx X.prog X.w) X.A (pyIter (.ref s.heap.objs.size)) (PIE X pins σ tg R) E { s with heap:=s.heap.push { cls:=.type "range",data:=.fields #[.int lo t,.int hi u,.int 1 v] },toks:=tk }:=by
 refine wpAny_pyIter_range (IsRange.new ..) (small_one h1 h2 h3 h4) ?_;have I1:BZ X pins σ H { s with heap:=s.heap.push { cls:=.type "range",data:=.fields #[.int lo t,.int hi u,.int 1 v] },toks:=tk }:=I.kept fun b o e=>Dm _ e
 refine ⟨(s.heap.push { cls:=.type "range",data:=.fields #[.int lo t,.int hi u,.int 1 v] }).objs.size,[(s.heap.push { cls:=.type "range",data:=.fields #[.int lo t,.int hi u,.int 1 v] }).objs.size],_,_,H,rfl,
  I1.kept (t':=tk) fun b o e=>Dm _ e,zaw _ lo (hi - lo).toNat,?_,fun b hb=>?_,q⟩
 ·have e1:lo+((0:Nat):Int)*1=lo:=by simp
  have e2:(((hi - lo).toNat:Nat):Int) - ((0:Nat):Int)=Builtin.Range.rangeSize lo hi 1:=by rw [rangeSize_one];split <;> lia
  show IsRangeIter _ _ (lo+((0:Nat):Int)*1) ((((hi - lo).toNat:Nat):Int) - ((0:Nat):Int)) 1;rw [e1,e2];exact HD _ rfl
 ·have e:b=(s.heap.push { cls:=.type "range",data:=.fields #[.int lo t,.int hi u,.int 1 v] }).objs.size:=by simpa using hb
  subst e;exact I1.fpOk (Dp _)<|I1.hok.fresh<|Dp _
def abj (ta:TA):TI:=fun σ H R=>ta σ H fun vs H1=>∃ j:Int,vs=[.int j]/\-(2^62)<=j/\j<2^62/\R (Itr 0 j.toNat) H1
def aaI (ta:TA):TI:=fun σ H R=>ta σ H fun vs H1=>∃ i j:Int,vs=[.int i,.int j]/\(-(2^62)<=i/\i<2^62/\-(2^62)<=j/\j<2^62)/\R (Itr i (j - i).toNat) H1
theorem zaG {a:Expr}{ta:TA}{p pos:Pos}(hg:Gl X "range")(hm:X.mg "range" = Go)(ha:PA X [a] ta)(hs:Ce [a] X.env=[(false,eval a X.env)]:=by rfl):PI X tg (.Call (.Name "range" p) [a] [] pos) (abj ta):=by
 intro pins s σ H R I h;refine Call_<|nZ I hg hm boot_range<|Tv (DW (ha pos pins s σ H _ I h) fun us s1 ⟨vs,H1,I1,r1,q1⟩=>?_) hs rfl
 obtain ⟨j,e,q1,q2,q⟩:=q1;subst e;cases r1 with
 | cons r rr=>
  cases rr;obtain ⟨t,rfl⟩:=r;exact call_range_1<|Bd I1 (by lia) (by lia) q1 q2<|by simpa using q
theorem zaM {a b:Expr}{ta:TA}{p pos:Pos}(hg:Gl X "range")(hm:X.mg "range" = Go)(ha:PA X [a,b] ta)(hs:Ce [a,b] X.env=[(false,eval a X.env),(false,eval b X.env)]:=by rfl)(hs2:Ce [b] X.env=[(false,eval b X.env)]:=by rfl) :
  PI X tg (.Call (.Name "range" p) [a,b] [] pos) (aaI ta):=by
 intro pins s σ H R I h;refine Call_<|nZ I hg hm boot_range<|Tv (DW (ha pos pins s σ H _ I h) fun us s1 ⟨vs,H1,I1,r1,q1⟩=>?_) (by rw [hs,hs2]) (by rw [hs2];rfl)
 obtain ⟨i,j,e,⟨q1,q2,q3,q4⟩,q⟩:=q1;subst e;cases r1 with
 | cons r rr=>
  cases rr with
  | cons r' rr=>
   cases rr;obtain ⟨t,rfl⟩:=r;obtain ⟨t',rfl⟩:=r';exact call_range_2<|Bd I1 q1 q2 q3 q4 q
def acQ (wi:TI)(g:TG)(tb:TS):TS:=fun D σ H=>wi σ H fun J H1=>∃ W:Nat->Nat->St->Hp->Prop,(∃ m,W 0 m σ H1)/\∀ i m σ H,W i m σ H ->
 (J.stop i H/\D.nx σ H)\/(J.go i H/\∃ N:St->Hp->Prop,(∀ σ' H',N σ' H'->∃ m',m'<m/\W (i+1) m' σ' H')/\∀ x H',J.yld i H x H'->g x σ H' fun σ2 H2=>tb { D with nx:=N,ct:=N,bk:=D.nx } σ2 H2)
def ug (fp:List Addr)(h:Heap):List (Addr×Obj):=fp.filterMap fun b=>(h.get? b).map fun o=>(b,o)
theorem iJ {fp:List Addr}{h:Heap}{b:Addr}{o:Obj}(hb:b∈fp)(e:h.get? b=Dn o):(b,o)∈ug fp h:=List.mem_filterMap.mpr ⟨b,hb,by rw [e];rfl⟩
theorem adI {fp:List Addr}{h:Heap}{p:Addr×Obj}(hp:p∈ug fp h):p.1∈fp/\h.get? p.1=Dn p.2:=by
 obtain ⟨b,hb,e⟩:=List.mem_filterMap.mp hp;cases q:h.get? b with
 | none=>rw [q] at e;cases e
 | some o=>
  rw [q] at e;have e':(b,o)=p:=Fj e;subst e';exact ⟨hb,q⟩
theorem BZ.pinned {pins:List (Addr×Obj)}{σ : St}{H:Hp}{s:kI}{fp:List Addr}(I:BZ X pins σ H s)(hf:∀ b∈fp,BP X pins H b)(ho:∀ b∈fp,∃ o,s.heap.get? b=Dn o/\∀ v,o.data≠.cell v):BZ X (pins++ug fp s.heap) σ H s:=
 I.pins_of fun p hp=>(Rv.mp hp).elim (fun z=>I.pin p (Qg _ z)) fun z=>by
  obtain ⟨hb,e⟩:=adI z;obtain ⟨f0,f1,f2,_⟩:=hf p.1 hb;obtain ⟨o,e',d⟩:=ho p.1 hb;rw [e] at e';cases e';exact ⟨e,f0,f1,f2,d⟩
theorem BZ.unpinned {pins pl:List (Addr×Obj)}{σ : St}{H:Hp}{s:kI}(I:BZ X (pins++pl) σ H s):BZ X pins σ H s:=I.pins_of fun p hp=>I.pin p (Qg _ (Tw _ hp))
theorem NQ {iter:Expr}{body:List Stmt}{wi:TI}{g:TG}{tb:TS}{pos:Pos}(hp:Ux (Bx X.prog X.w) X.A X.env X.xe)(hc:X.calm=true)(hi:PI X tg iter wi)(hg:PG X tg g)(hb:KQ X body tb)
  (hs:∀ x,R6 iter X.env x=pure x:=by intro _;rfl):PS X (.For tg iter body [] pos) (acQ wi g tb):=by
 intro pins s σ H D I h;refine wpAny_For (DW (hi pins s σ H _ I h) fun v s1 h1=>DW h1 fun itv s2 h2=>?_) hs;obtain ⟨it,fp,tn,J,H2,e,I2,T,st2,f2,W,⟨m0,w0⟩,turn⟩:=h2;subst e
 -- what stays true of the iterator's objects through the loop
 have stat:∀ {H':Hp},(∀ b∈fp,H' b=Go)->∀ b∈fp,BP X pins H' b:=fun hn b hb=>⟨hn b hb,(f2 b hb).2⟩
 refine codeAny_forLoop_any (fun n s'=>∃ i σ' H',BZ X pins σ' H' s'/\tn i s'.heap/\(∀ b∈fp,H' b=Go)/\W i n σ' H') ?_ m0 ⟨0,σ,H2,I2,st2,fun b hb=>(f2 b hb).1,w0⟩;rintro n s3 ⟨i,σ3,H3,I3,st3,fr3,w3⟩;rcases turn i n σ3 H3 w3 with ⟨stop,qn⟩ | ⟨go,N,hN,step⟩
 ·refine Rt hp<|DW (T.done X rfl rfl rfl (fun _=>hc) i pins s3 σ3 H3 X.xe I3 (stat fr3) st3 stop) fun r s4 ⟨hr,I4⟩=>?_
  subst hr;exact Te ⟨σ3,H3,I4,qn⟩
 ·refine Rt hp<|DW (T.item X rfl rfl rfl (fun _=>hc) i pins s3 σ3 H3 X.xe I3 (stat fr3) st3 go) fun r s4 ⟨u,hr,h4⟩=>?_
  subst hr;refine Rt hp<|DW h4 fun _ s5 ⟨x,H5,I5,r5,y5,st5,fr5⟩=>?_
  have I5':=I5.pinned (stat fr5) (T.obj _ _ st5);refine Rt hp<|DW (hg _ s5 σ3 H5 x u _ I5' r5<|step x H5 y5) fun _ s6 ⟨σ6,H6,I6,q6⟩=>?_
  refine Rt hp<|DW (hb _ s6 σ6 H6 _ I6 q6) fun f s7 q7=>?_
  have again:∀ {σ7:St} {H7:Hp},BZ X (pins++ug fp s5.heap) σ7 H7 s7->N σ7 H7->∃ m,m<n/\∃ i σ' H',BZ X pins σ' H' s7/\tn i s7.heap/\(∀ b∈fp,H' b=Go)/\W i m σ' H':=fun {σ7 H7} I7 n7=>by
   obtain ⟨m',hm,w7⟩:=hN σ7 H7 n7;refine ⟨m',hm,i+1,σ7,H7,I7.unpinned,T.keep _ _ _ st5 fun b hb o e=>(I7.pin (b,o)<|Qg _<|Qg _<|iJ hb e).1,fun b hb=>?_,w7⟩;obtain ⟨o,e,d⟩:=T.obj _ _ st5 b hb;exact (I7.pin (b,o)<|Qg _<|Qg _<|iJ hb e).2.1
  cases f with
  | next=>obtain ⟨σ7,H7,I7,n7⟩:=q7;exact again I7 n7
  | cont=>obtain ⟨σ7,H7,I7,n7⟩:=q7;exact again I7 n7
  | brk=>obtain ⟨σ7,H7,I7,q7⟩:=q7;exact ⟨σ7,H7,I7.unpinned,q7⟩
  | ret v=>obtain ⟨x7,σ7,H7,I7,r7,q7⟩:=q7;exact ⟨x7,σ7,H7,I7.unpinned,r7,q7⟩
end
abbrev R2:=V->V->Hp->VK->Prop
def Ho (X:Cx)(f:JI->JI->Sem JI)(r:R2):Prop:=
 ∀ (pins:List (Addr×Obj)) (s:kI) (σ : St) (H:Hp) (x y:V) (v u:JI) (Q:VK),BZ X pins σ H s->RelV x v->RelV y u->r x y H Q ->
  Bu (Bx X.prog X.w) X.A (f v u) (EP X pins σ Q) X.xe s
def UnR (X:Cx)(f:JI->Sem JI)(r:V->Hp->VK->Prop):Prop:=
 ∀ (pins:List (Addr×Obj)) (s:kI) (σ : St) (H:Hp) (x:V) (v:JI) (Q:VK),BZ X pins σ H s->RelV x v->r x H Q ->
  Bu (Bx X.prog X.w) X.A (f v) (EP X pins σ Q) X.xe s
def m9 (X:Cx)(f:JI)(r:List V->Hp->VK->Prop):Prop:=
 ∀ (pins:List (Addr×Obj)) (s:kI) (σ : St) (H:Hp) (xs:List V) (us:List JI) (Q:VK),BZ X pins σ H s->CJ xs us->r xs H Q ->
  Bu (Bx X.prog X.w) X.A (call f us) (EP X pins σ Q) X.xe s
def acG (X:Cx)(r:V->Hp->(Bool->Hp->Prop)->Prop):Prop:=
 ∀ (pins:List (Addr×Obj)) (s:kI) (σ : St) (H:Hp) (x:V) (v:JI) (Q:Bool->Hp->Prop),BZ X pins σ H s->RelV x v->r x H Q ->
  Bu (Bx X.prog X.w) X.A (truthy v) (TP X pins σ Q) X.xe s
def tOp (r:R2)(ta tb:TE):TE:=fun σ H Q=>ta σ H fun x H1=>tb σ H1 fun y H2=>r x y H2 Q
def tUn (r:V->Hp->VK->Prop)(ta:TE):TE:=fun σ H Q=>ta σ H fun x H1=>r x H1 Q
def rI (C:Int->Int->Prop)(g:Int->Int->V):R2:=fun x y H Q=>∃ i j,x=.int i/\y=.int j/\C i j/\Q (g i j) H
def rI0 (g:Int->Int->V):R2:=fun x y H Q=>∃ i j,x=.int i/\y=.int j/\Q (g i j) H
def rU (g:Int->V):V->Hp->VK->Prop:=fun x H Q=>∃ i,x=.int i/\Q (g i) H
section
variable {X:Cx}{a b c:Expr}{ta tb tc:TE}{pos:Pos}
theorem aaV (ha:PE X a ta)(hb:PE X b tb){pins:List (Addr×Obj)}{s:kI}{σ : St}{H:Hp}{R:V->V->Hp->Prop}(I:BZ X pins σ H s)
  (h:ta σ H fun x H1=>tb σ H1 fun y H2=>R x y H2) {Q:JI->kI->Prop} {f:JI->JI->Sem JI}
  (hf:∀ v u s2 x y H2,BZ X pins σ H2 s2->RelV x v->RelV y u->R x y H2->Bu (Bx X.prog X.w) X.A (f v u) Q X.xe s2) :
  Bu (Bx X.prog X.w) X.A (eval a X.env) (fun v s₁=>Bu (Bx X.prog X.w) X.A (eval b X.env) (fun u s₂=>Bu (Bx X.prog X.w) X.A (f v u) Q X.xe s₂) X.xe s₁) X.xe s:=by
 refine DW (ha pins s σ H _ I h) fun v s1 ⟨x,H1,I1,r1,q1⟩=>?_;refine DW (hb pins s1 σ H1 _ I1 q1) fun u s2 ⟨y,H2,I2,r2,q2⟩=>?_;exact hf v u s2 x y H2 I2 r1 r2 q2
theorem aaP {op:Operator}{r:R2}(ho:Ho X (KH op) r)(ha:PE X a ta)(hb:PE X b tb):PE X (.BinOp a op b pos) (tOp r ta tb):=by
 intro pins s σ H Q I h;exact wpAny_BinOp<|aaV ha hb I h fun v u s2 x y H2 I2 rx ry q=>ho pins s2 σ H2 x y v u Q I2 rx ry q
theorem Z4 {op:UnaryOp}{r:V->Hp->VK->Prop}(ho:UnR X (unaryOp op) r)(ha:PE X a ta):PE X (.UnaryOp op a pos) (tUn r ta):=by
 intro pins s σ H Q I h;exact UnaryOp_<|DW (ha pins s σ H _ I h) fun v s1 ⟨x,H1,I1,r1,q1⟩=>ho pins s1 σ H1 x v Q I1 r1 q1
theorem opI {f:JI->JI->Sem JI}{C:Int->Int->Prop}{g:Int->Int->Int}
  (rule:∀ (i j:Int) (t u:Tok) (s:kI) (Q:JI->kI->Prop) (E:JI->kI->Prop),C i j->Q (.int (g i j) s.toks) { s with toks:=s.toks+1 }->Bu (Bx X.prog X.w) X.A (f (.int i t) (.int j u)) Q E s) :
  Ho X f (rI C fun i j=>.int (g i j)):=by
 intro pins s σ H x y v u Q I rx ry h;obtain ⟨i,j,rfl,rfl,hc,q⟩:=h;obtain ⟨t,rfl⟩:=rx;obtain ⟨t',rfl⟩:=ry;exact rule i j t t' s _ _ hc ⟨.int<|g i j,H,I.tok _,⟨_,rfl⟩,q⟩
theorem acj {f:JI->JI->Sem JI}{g:Int->Int->Int}
  (rule:∀ (i j:Int) (t u:Tok) (s:kI) (Q:JI->kI->Prop) (E:JI->kI->Prop),Q (.int (g i j) s.toks) { s with toks:=s.toks+1 }->Bu (Bx X.prog X.w) X.A (f (.int i t) (.int j u)) Q E s) :
  Ho X f (rI0 fun i j=>.int (g i j)):=by
 intro pins s σ H x y v u Q I rx ry h;obtain ⟨i,j,rfl,rfl,q⟩:=h;obtain ⟨t,rfl⟩:=rx;obtain ⟨t',rfl⟩:=ry;exact rule i j t t' s _ _ ⟨.int<|g i j,H,I.tok _,⟨_,rfl⟩,q⟩
theorem abB {f:JI->JI->Sem JI}{g:Int->Int->Bool}
  (rule:∀ (i j:Int) (t u:Tok) (s:kI) (Q:JI->kI->Prop) (E:JI->kI->Prop),Q (.bool (g i j)) s->Bu (Bx X.prog X.w) X.A (f (.int i t) (.int j u)) Q E s) :
  Ho X f (rI0 fun i j=>.bl (g i j)):=by
 intro pins s σ H x y v u Q I rx ry h;obtain ⟨i,j,rfl,rfl,q⟩:=h;obtain ⟨t,rfl⟩:=rx;obtain ⟨t',rfl⟩:=ry;exact rule i j t t' s _ _ ⟨.bl<|g i j,H,I,rfl,q⟩
def acf (i j:Int):Prop:=0<=j/\j<=1000000/\i.natAbs<2^64
theorem Wg:Ho X (KH .Add) (rI0 fun i j=>.int (i+j)):=acj fun _ _ _ _ _ _ _ q=>add_int q
theorem afW:Ho X (KH .Sub) (rI0 fun i j=>.int (i - j)):=acj fun _ _ _ _ _ _ _ q=>sub_int q
theorem agw:Ho X (KH .Mod) (rI (fun _ j=>j≠0) fun i j=>.int (i.fmod j)):=opI fun _ _ _ _ _ _ _ hc q=>mod_int' hc q
theorem Y9:Ho X (KH .Pow) (rI acf fun i j=>.int (i^j.toNat)):=opI fun _ _ _ _ _ _ _ hc q=>pow_int_small hc.1 hc.2.1 hc.2.2 q
theorem unI {f:JI->Sem JI}{g:Int->Int}
  (rule:∀ (i:Int) (t:Tok) (s:kI) (Q:JI->kI->Prop) (E:JI->kI->Prop),Q (.int (g i) s.toks) { s with toks:=s.toks+1 }->Bu (Bx X.prog X.w) X.A (f (.int i t)) Q E s) :
  UnR X f (rU fun i=>.int (g i)):=by
 intro pins s σ H x v Q I rx h;obtain ⟨i,rfl,q⟩:=h;obtain ⟨t,rfl⟩:=rx;exact rule i t s _ _ ⟨.int<|g i,H,I.tok _,⟨_,rfl⟩,q⟩
theorem W4:UnR X (unaryOp .USub) (rU fun i=>.int (-i)):=unI fun _ _ _ _ _ q=>neg_int q
theorem yM {pins:List (Addr×Obj)}{σ : St}{H:Hp}{s:kI}{Q:VK}{k k':Bool}(I:BZ X pins σ H s)(q:Q (.bl k) H)(e:k=k'):EP X pins σ Q (.bool k') s:=by
 subst e;exact ⟨.bl k,H,I,rfl,q⟩
theorem abu:Ho X (KY .Lt) (rI0 fun i j=>.bl (decide (i<j))):=abB fun _ _ _ _ _ _ _ q=>lt_int q
theorem abk:Ho X (KY .Gt) (rI0 fun i j=>.bl (decide (j<i))):=abB fun _ _ _ _ _ _ _ q=>gt_int q
theorem ZX:Ho X (KY .GtE) (rI0 fun i j=>.bl (decide (j<=i))):=abB fun _ _ _ _ _ _ _ q=>ge_int q
theorem Xg:Ho X (KY .Is) (fun x y H Q=>y=.non/\Q (.bl (decide (x=.non))) H):=by
 intro pins s σ H x y v u Q I rx ry h;obtain ⟨rfl,q⟩:=h;cases ry;refine is_none_gen<|yM I q ?_
 cases x <;> first
  | (cases rx;rfl)
  | (obtain ⟨t,rfl⟩:=rx;rfl)
theorem Ho.or {f:JI->JI->Sem JI}{r r':R2}(h:Ho X f r)(h':Ho X f r'):Ho X f (fun x y H Q=>r x y H Q\/r' x y H Q):=by
 intro pins s σ H x y v u Q I rx ry q;rcases q with q | q
 ·exact h pins s σ H x y v u Q I rx ry q
 ·exact h' pins s σ H x y v u Q I rx ry q
theorem FP (b:Expr){op:CmpOp}(h:op≠.In:=by decide)(h2:op≠.NotIn:=by decide):RN op b=false:=by
 have e1:(op==CmpOp.In)=false:=by cases op <;> first | rfl | exact absurd rfl h
 have e2:(op==CmpOp.NotIn)=false:=by cases op <;> first | rfl | exact absurd rfl h2
 cases b <;> simp [RN,e1,e2]
theorem afi {op:CmpOp}{r:R2}(ho:Ho X (KY op) r)(ha:PE X a ta)(hb:PE X b tb)(hm:RN op b=false):PE X (.Compare a [op] [b] pos) (tOp r ta tb):=by
 intro pins s σ H Q I h;exact wpAny_Compare1 (aaV ha hb I h fun v u s2 x y H2 I2 rx ry q=>ho pins s2 σ H2 x y v u Q I2 rx ry q) hm
def aav (t:TE):TT:=fun σ H Q=>t σ H fun x H'=>∃ k,x=.bl k/\Q k H'
theorem agY {op:CmpOp}{r:R2}(ho:Ho X (KY op) r)(ha:PE X a ta)(hb:PE X b tb)(hm:RN op b=false):PT X (.Compare a [op] [b] pos) (aav (tOp r ta tb)):=by
 intro pins s σ H Q I h;refine wpAny_isTrue_Compare1 (DW (ha pins s σ H _ I h) fun v s1 ⟨x,H1,I1,r1,q1⟩=>DW (hb pins s1 σ H1 _ I1 q1) fun u s2 ⟨y,H2,I2,r2,q2⟩=>
  DW (ho pins s2 σ H2 x y v u _ I2 r1 r2 q2) fun c s3 ⟨z,H3,I3,r3,k,e,q3⟩=>?_) hm
 subst e;cases r3;exact TV ⟨H3,I3,q3⟩
def acv (K:Bs)(x:V)(H:Hp)(k:Bool):Prop:=
 match x with
 | .non=>k=false
 | .bl b=>k=b
 | .int i=>k=(i != 0)
 | .str y=>y.length<=Dk/\k=((y.length:Int) != 0)
 | .byt y=>y.size<=Dk/\k=((y.size:Int) != 0)
 | .ref p=>(∃ xs,Fl K H p xs/\k = !xs.isEmpty)\/(∃ xs,G7 K H p xs/\k = !xs.isEmpty)\/∃ kvs,H p=Dn (.dK kvs)/\k = !kvs.isEmpty
 | _=>False
theorem zav {κ : Type}{kvs:List (κ×V)}{vs:List (κ×JI)}(r:KV kvs vs):(!vs.isEmpty) = !kvs.isEmpty:=by
 cases r <;> rfl
theorem qK {xs:List V}{its:List JI}(r:CJ xs its):(!its.toArray.isEmpty) = !xs.isEmpty:=by
 cases r <;> simp
theorem mR:(Dk:Nat)<2^63:=by rw [RM];decide
theorem YB:acG X (fun x H Q=>∃ k,acv X.K x H k/\Q k H):=by
 intro pins s σ H x v Q I rx h;obtain ⟨k,e,q⟩:=h;have hl:=mR;have hs:Dk=16777216:=RM;cases x with
 | non=>
  cases rx;have e':k=false:=e;subst e';exact truthy_none ⟨H,I,q⟩
 | bl b=>
  cases rx;have e':k=b:=e;subst e';exact TV ⟨H,I,q⟩
 | int i=>
  obtain ⟨t,rfl⟩:=rx;have e':k=(i != 0):=e;subst e';exact PySem.P.truthy_int ⟨H,I,q⟩
 | str y=>
  obtain ⟨t,rfl⟩:=rx;obtain ⟨hy,e'⟩:y.length<=Dk/\k=((y.length:Int) != 0):=e;subst e';exact PySem.P.truthy_str (by lia) ⟨H,I.tok _,q⟩
 | byt y=>
  obtain ⟨t,rfl⟩:=rx;obtain ⟨hy,e'⟩:y.size<=Dk/\k=((y.size:Int) != 0):=e;subst e';exact PySem.W.truthy_bytes (by lia) ⟨H,I.tok _,q⟩
 | ref p=>
  cases rx;have e':(∃ xs,Fl X.K H p xs/\k = !xs.isEmpty)\/(∃ xs,G7 X.K H p xs/\k = !xs.isEmpty)\/∃ kvs,H p=Dn (.dK kvs)/\k = !kvs.isEmpty:=e
  rcases e' with ⟨xs,hx,e'⟩ | ⟨xs,hx,e'⟩ | ⟨kvs,hx,e'⟩
  ·subst e';obtain ⟨its,r,pl,hz⟩:=I.list hx;have hlen:=r.length;exact wpAny_truthy_list pl.isList (by simp only [Em];lia) ⟨H,I.tok _,by rw [qK r];exact q⟩
  ·subst e';obtain ⟨its,r,pl,hz⟩:=I.tuple hx;have hlen:=r.length;exact truthy_tuple pl (by simp only [Em];lia) ⟨H,I.tok _,by rw [qK r];exact q⟩
  ·subst e';obtain ⟨hz,hS,vs,r,m⟩:kvs.length<=Dk/\(p==sysModules)=false/\∃ vs,KV kvs vs/\s.heap.DictOf (dN X.prog X.w) p vs:=I.hok p _ hx
   have hlen:kvs.length=vs.length:=Paired.length r;exact wpAny_truthy_dict hS m (by lia) ⟨H,I.tok _,by rw [zav r];exact q⟩
 | _=>exact (show False from e).elim
theorem agS (ha:PE X a ta)(he:∀ whole,isTrue a X.env whole=(do let v <-whole;standAt a.pos;QJ [v] (truthy v))) :
  PT X a (fun σ H Q=>ta σ H fun x H'=>∃ k,acv X.K x H' k/\Q k H'):=by
 intro pins s σ H Q I h;exact isTrue_plain (DW (ha pins s σ H _ I h) fun v s1 ⟨x,H1,I1,r1,q1⟩=>YB pins s1 σ H1 x v Q I1 r1 q1)<|he _
theorem vals1 {x:V}{us:List JI}(r:CJ [x] us):∃ u,us=[u]/\RelV x u:=by
 cases r with
 | cons r1 r2=>cases r2;exact ⟨_,rfl,r1⟩
theorem vals2 {x y:V}{us:List JI}(r:CJ [x,y] us):∃ u w',us=[u,w']/\RelV x u/\RelV y w':=by
 cases r with
 | cons r1 r2=>
  cases r2 with
  | cons r3 r4=>cases r4;exact ⟨_,_,rfl,r1,r3⟩
theorem aez:m9 X (.builtin "abs") (fun xs H Q=>∃ i,xs=[.int i]/\Q (.int (if i<0 then -i else i)) H):=by
 intro pins s σ H xs us Q I r h;obtain ⟨i,rfl,q⟩:=h;obtain ⟨u,rfl,t,rfl⟩:=vals1 r;exact call_abs_int fun u tk=>⟨.int<|if i<0 then -i else i,H,I.tok _,⟨_,rfl⟩,q⟩
theorem zaL:m9 X (.type "int") (fun xs H Q=>(∃ i,xs=[.int i]/\Q (.int i) H)\/∃ k,xs=[.bl k]/\Q (.int (if k then 1 else 0)) H):=by
 intro pins s σ H xs us Q I r h;rcases h with ⟨i,rfl,q⟩ | ⟨k,rfl,q⟩
 ·obtain ⟨u,rfl,t,rfl⟩:=vals1 r;exact call_int_int ⟨.int i,H,I,⟨_,rfl⟩,q⟩
 ·obtain ⟨u,rfl,r1⟩:=vals1 r;cases r1;exact call_int_bool ⟨.int<|if k then 1 else 0,H,I.tok _,⟨_,rfl⟩,q⟩
end
structure adv (h:Heap) (x dx C:Addr) (mA:Str->Option JI):Prop where
 obj:h.get? x=Dn (PySem.W.instObj C dx)
 ns:h.Ns1 dx mA
 ne:dx≠x
theorem zaz {h:Heap}{dx:Addr}{mA:Str->Option JI}(n:h.Ns1 dx mA):∃ od,h.get? dx=Dn od/\∀ name,PySem.W.lookIn name od=Dn (mA name):=by
 obtain ⟨o,es,ep,ho,hd,hk,_,hm⟩:=n;refine ⟨o,ho,fun name=>?_⟩;have e:=hm name;unfold nsFind findBy at e;rw [<-Array.find?_toList] at e;unfold PySem.W.lookIn;rw [hd];dsimp only;split
 ·rename_i y q;rw [q] at e;exact congrArg Dn e
 ·rename_i q;rw [q] at e;have a:es.toList.any (·.refKey)=false:=by
   rw [List.any_eq_false];intro y hy;obtain ⟨z,t,hkey⟩:=hk y (Array.mem_toList_iff.mp hy);simp [DictEntry.refKey,hkey]
  have a':¬ es.toList.any (·.refKey)=true:=by rw [a];exact Hi
  rw [if_neg a'];exact congrArg Dn e
section
variable {prog:CR}{w:CQ}{A:CT}{E:JI->kI->Prop}{s:kI}{K:Bs}{x dx C f:Addr}{mA:Str->Option JI}{name:Str}{v:JI}
end
theorem Pk.some_of {v:V}{o:Option JI}(r:Pk (Dn v) o):∃ u,o=Dn u/\RelV v u:=by
 cases o with
 | none=>exact (show False from r).elim
 | some u=>exact ⟨u,rfl,r⟩
theorem zbe {v:V}{u:JI}(r:RelV v u):PySem.W.handedIn u=true:=by
 cases v with
 | non=>cases (show u=Value.none from r);rfl
 | bl b=>cases (show u=Value.bool b from r);rfl
 | int i=>obtain ⟨t,e⟩:=(show ∃ t,u=Value.int i t from r);cases e;rfl
 | str x=>obtain ⟨t,e⟩:=(show ∃ t,u=Value.str x t from r);cases e;rfl
 | byt b=>obtain ⟨t,e⟩:=(show ∃ t,u=Value.bytes b t from r);cases e;rfl
 | flt b=>obtain ⟨t,e⟩:=(show ∃ t,u=Value.float b t from r);cases e;rfl
 | ref a=>cases (show u=Value.ref a from r);rfl
 | ty n=>cases (show u=Value.type n from r);rfl
section
variable {P:CR}{w:CQ}{H H':Hp}{h h':Heap}{a C dx:Addr}{fs fs':List (Str×V)}
end
structure Cls (K:Bs) (C:Addr):Prop where
 pg:PySem.W.plainGet K C Str.empty=true
 hd:PySem.W.hasDictIn K C=true
 po:PySem.W.plainOver K C=true
 sa:KJ K (.ref C) "__setattr__" = Dn (Dn (.builtin "object.__setattr__"))
structure Con (K:Bs) (C:Addr) (f:Str) (v:V) (u:JI):Prop where
 at_:KJ K (.ref C) f=Dn (Dn u)
 rel:RelV v u
 get:PySem.W.specialIn K u "__get__" = Dn Go
 cp:PySem.W.copiedNames.contains f=false
structure Meth (K:Bs) (C:Addr) (m:Str) (f:Addr):Prop where
 at_:KJ K (.ref C) m=Dn (Dn (.ref f))
 fn:T3 K (.ref f)=true
 kp:Lp K (.ref f)=true
section
variable {X:Cx}{pins:List (Addr×Obj)}{σ : St}{H:Hp}{s:kI}{a C dx:Addr}{fs:List (Str×V)}{f:Str}{v:V}{A:CT}{E:JI->kI->Prop}
theorem aeF {prog:CR}{w:CQ}{env:Env}{e:Expr}{f:Str}{pos:Pos}{s:kI}{Q:JI->kI->Prop}(hb:Sq e f env (eval e env)=eval e env)
  (h:Bu (Bx prog w) A (eval e env) (fun o s₁=>Bu (Bx prog w) A (getAttr o f true) Q E s₁) E s):Bu (Bx prog w) A (eval (.Attribute e f pos) env) Q E s:=
 Attribute_any_ h (by rw [arm_eval_Attribute,hb])
end
section
variable {X:Cx}{o e value:Expr}{f:Str}{pos pos' tpos:Pos}{ta tv:TE}
end
section
variable {X:Cx}{pins:List (Addr×Obj)}{σ : St}{H:Hp}{s:kI}{A:CT}{E:JI->kI->Prop}{Q:JI->kI->Prop}{c:JI}{b:Bool}
inductive JB (K:Bs) (H:Hp):V->JI->Prop where
 | non:JB K H .non (.type "NoneType")
 | bl (x:Bool):JB K H (.bl x) (.type "bool")
 | int (i:Int):JB K H (.int i) (.type "int")
 | str (x:Str):JB K H (.str x) (.type "str")
 | flt (x:UInt64):JB K H (.flt x) (.type "float")
 | lst {a:Addr} {xs:List V} (e:H a=Dn (.lst xs)):JB K H (.ref a) (.type "list")
 | frz {a:Addr} {o:Obj} {xs:List V} (e:H a=Dn (.frz o (.lst xs))):JB K H (.ref a) (.type "list")
 | tup {a:Addr} {xs:List V} (e:H a=Dn (.tup xs)):JB K H (.ref a) (.type "tuple")
 | dK {a:Addr} {kvs:List (Key×V)} (e:H a=Dn (.dK kvs)):JB K H (.ref a) (.type "dict")
 | dT {a:Addr} {kvs:List (List Key×V)} (e:H a=Dn (.dT kvs)):JB K H (.ref a) (.type "dict")
 | ins {a C dx:Addr} {fs:List (Str×V)} (e:H a=Dn (.ins C dx fs)) (cl:Cls K C) (ha:KJ K (.ref C) "__class__" = Dn (Dn (.builtin "object.__class__")))
   (hn:PySem.W.specialIn K (.builtin "object.__class__") "__get__" = Dn (Dn (.builtin "getset_descriptor.__get__"))) (htk:PySem.W.takesIn K (.builtin "object.__class__")=Dn true)
   (hm:R9 K C (.type "object")=Dn true):JB K H (.ref a) (.ref C)
end
structure fP (k:Nat) (A:CT):Prop where
 hd:9<=k->A.handled=Go
 dp:A.depth+3*k+5<recursionLimit
 un:A.units+16*k+200<J7
theorem fP.mono {j k:Nat}{A:CT}(r:fP k A)(h:j<=k):fP j A:=⟨fun z=>r.hd (GK z h),by have:=r.dp;lia,by have:=r.un;lia⟩
theorem fP.deeper {k:Nat}{A:CT}(r:fP (k+1) A)(env:Env):fP k (A.deeper env):=
 ⟨fun z=>r.hd (Nat.le_succ_of_le z),by have:=r.dp;show A.depth+1+3*k+5<_;lia,by have:=r.un;show A.units+3+16*k+200<_;lia⟩
theorem zao {A:CT}{C:Addr}{us:List JI}{kw:List (Str×JI)}:(A.under (.builtin "type.__call__" ⟨.ref C::us,kw⟩)).depth=A.depth+1:=by
 first | rfl | simp [Around.under,Code.weight,Code.isCreation,Code.isGuard,Code.isCaller,Code.frames,Code.isFrame,guardIds]
theorem zag {A:CT}{C:Addr}{us:List JI}{kw:List (Str×JI)}:(A.under (.builtin "type.__call__" ⟨.ref C::us,kw⟩)).units=A.units+1:=by
 first | rfl | simp [Around.under,Code.cUnits,Code.frames,Code.isFrame]
theorem fP.make {k:Nat}{A:CT}(r:fP (k+1) A)(C:Addr)(us:List JI)(kw:List (Str×JI)):fP k (A.under (.builtin "type.__call__" ⟨.ref C::us,kw⟩)):=
 ⟨fun z=>r.hd (Nat.le_succ_of_le z),by have:=r.dp;rw [zao];lia,by have:=r.un;rw [zag];lia⟩
theorem fP.calm {k:Nat}{A:CT}(r:fP k A)(h:9<=k):A.handled.isNone=true:=by rw [r.hd h];rfl
theorem fP.depth {k:Nat}{A:CT}(r:fP k A):A.depth<recursionLimit:=by have:=r.dp;lia
theorem fP.units {k:Nat}{A:CT}(r:fP k A):A.units+64<J7:=by have:=r.un;lia
def acD:TA:=fun _ H Q=>Q [] H
def aaJ (ta:TE)(tr:TA):TA:=fun σ H Q=>ta σ H fun x H1=>tr σ H1 fun xs H2=>Q (x::xs) H2
section
variable {X:Cx}{e:Expr}{es:List Expr}{te:TE}{t:TA}{pos:Pos}
theorem FZ:PA X [] acD:=fun _ _ _ _ H Q I h=>Calls.spliced_nil ⟨[],H,I,.nil,h⟩
theorem yx (ha:PE X e te)(hr:PA X es t)(hs:Ce (e::es) X.env=(false,eval e X.env)::Ce es X.env:=by rfl):PA X (e::es) (aaJ te t):=by
 intro pos pins s σ H Q I h;rw [hs];show Bu _ _ (spliced ((false,eval e X.env)::HB pos (Ce es X.env))) _ _ s;refine Calls.spliced_cons<|DW (ha pins s σ H _ I h) fun u s1 ⟨x,H1,I1,r1,q1⟩=>?_
 exact DW (hr pos pins s1 σ H1 _ I1 q1) fun us s2 ⟨xs,H2,I2,r2,q2⟩=>⟨x::xs,H2,I2,.cons r1 r2,q2⟩
def acP (t:TA):TE:=fun σ H Q=>t σ H fun xs H1=>xs.length<=Dk/\∀ p,H1 p=Go->Q (.ref p) (Cd H1 p (.tup xs))
def acX (t:TA):TE:=fun σ H Q=>t σ H fun xs H1=>xs.length<=Dk/\∀ p,H1 p=Go->Q (.ref p) (Cd H1 p (.lst xs))
theorem Xq {x1}(h:PA X es t):PE X (.Tuple es x1 pos) (acP t):=by
 intro pins s σ H Q I hq;refine wpAny_Tuple_spliced<|DW (h pos pins s σ H _ I hq) fun us s1 ⟨xs,H1,I1,r,z,q⟩=>⟨by rw [<-r.length];exact z,?_⟩
 have hf:H1 s1.heap.objs.size=Go:=I1.hok.fresh (Dp _);refine ⟨.ref s1.heap.objs.size,Cd H1 s1.heap.objs.size<|.tup xs,I1.laid (t':=s1.toks) (fun b u e=>Dm _ e) (Dp _) ?_,rfl,q _ hf⟩;exact ⟨z,us,r,⟨_,HD _ rfl,rfl,⟨_,rfl⟩,rfl⟩⟩
theorem N8 (h:PA X es t):PE X (.List es pos) (acX t):=by
 intro pins s σ H Q I hq;refine wpAny_List_spliced<|DW (h pos pins s σ H _ I hq) fun us s1 ⟨xs,H1,I1,r,z,q⟩=>⟨by rw [<-r.length];exact z,?_⟩
 have hf:H1 s1.heap.objs.size=Go:=I1.hok.fresh (Dp _);refine ⟨.ref s1.heap.objs.size,Cd H1 s1.heap.objs.size<|.lst xs,I1.laid (t':=s1.toks) (fun b u e=>Dm _ e) (Dp _) ?_,rfl,q _ hf⟩;exact ⟨z,us,0,r,HD _ rfl⟩
end
abbrev Sp:=List V->Hp->VK->XK->Prop
abbrev Lw:=List Env->Hp->kI->XK->JI->kI->Prop
structure Rp (P:CR) (w:CQ) (K:Bs) (mg:Str->Option JI) (base:Heap) (A:CT) (outer:List Env) (s:kI) (H:Hp):Prop where
 frames:A.frames=Dn outer
 mod:Mod K mg base
 bs:∀ b o,base.get? b=Dn o->s.heap.get? b=Dn o/\H b=Go
 bsz:base.objs.size<=s.heap.objs.size
 funs:s.heap.FunFrames base outer
 frf:∀ b∈frs outer,H b=Go
 hok:HS P w H s.heap
 bare:Q0 s.gens
 qt:Quiet A H
def CE (outer:List Env)(P:CR)(w:CQ)(H:Hp)(s:kI)(Q:VK)(u:JI)(s':kI):Prop:=
 ∃ v H',s'.os=s.os/\Q0 s'.gens/\Un (frs outer) [] H H' s.heap s'.heap/\HS P w H' s'.heap/\RelV v u/\Q v H'
def adQ (CX:Lw)(outer:List Env)(P:CR)(w:CQ)(H:Hp)(s:kI)(Q:VK)(E:XK)(r:Result)(s':kI):Prop:=
 match r with
 | .ok (.ret u)=>CE outer P w H s Q u s'
 | .ok _=>False
 | .error e=>CX outer H s E e s'
structure iW (P:CR) (w:CQ) (K:Bs) (mg:Str->Option JI) (base:Heap) (CX:Lw) (k:Nat) (f:Addr) (fd:Ib) (ps:List Str) (sp:Sp):Prop where
 len:∀ vs H Q E,sp vs H Q E->vs.length=ps.length
 run:∀ (A:CT) (outer:List Env) (s:kI) (H:Hp) (args:Args) (us:List JI) (vs:List V) (Q:VK) (E:XK),fP k A->Rp P w K mg base A outer s H->BindsTo s fd args (ps.zip us)->CJ vs us->sp vs H Q E ->
  Mi (Bx P w) A (.call (.ref f) args) (adQ CX outer P w H s Q E) s
theorem iW.mono {P:CR}{w:CQ}{K:Bs}{mg:Str->Option JI}{base:Heap}{CX:Lw}{j k:Nat}{f:Addr}{fd:Ib}{ps:List Str}{sp:Sp}(F:iW P w K mg base CX j f fd ps sp)(h:j<=k) :
  iW P w K mg base CX k f fd ps sp:=⟨F.len,fun A outer s H args us vs Q E hr=>F.run A outer s H args us vs Q E (hr.mono h)⟩
theorem iW.imp {P:CR}{w:CQ}{K:Bs}{mg:Str->Option JI}{base:Heap}{CX:Lw}{k:Nat}{f:Addr}{fd:Ib}{ps:List Str}{sp sp':Sp}(F:iW P w K mg base CX k f fd ps sp)
  (h:∀ vs H Q E,sp' vs H Q E->sp vs H Q E):iW P w K mg base CX k f fd ps sp':=
 ⟨fun vs H Q E q=>F.len vs H Q E (h _ _ _ _ q),fun A outer s H args us vs Q E hr he hb hv hs=>F.run A outer s H args us vs Q E hr he hb hv (h _ _ _ _ hs)⟩
theorem Rp.make {P:CR}{w:CQ}{K:Bs}{mg:Str->Option JI}{base:Heap}{A:CT}{outer:List Env}{s:kI}{H:Hp}(e:Rp P w K mg base A outer s H)(C:Addr)(us:List JI)(kw:List (Str×JI)) :
  Rp P w K mg base (A.under (.builtin "type.__call__" ⟨.ref C::us,kw⟩)) outer s H:=⟨by first | exact e.frames | (simpa [Around.under,Code.envs,Code.isFrame,pushEnvs] using e.frames),e.mod,e.bs,e.bsz,e.funs,e.frf,e.hok,e.bare,e.qt⟩
section
variable {X:Cx}{pins:List (Addr×Obj)}{σ : St}{H:Hp}{s s':kI}
theorem BZ.env0 (I:BZ X pins σ H s):Rp X.prog X.w X.K X.mg X.base X.A X.stack s H:=
 ⟨I.ok.frames,I.ok.mod,I.bs,GK I.ok.bsz I.sz,I.stack,I.stkFree,I.hok,I.bare,I.qt0⟩
theorem BZ.after {Q:VK}{u:JI}(I:BZ X pins σ H s)(h:CE X.stack X.prog X.w H s Q u s'):EP X pins σ Q u s':=by
 obtain ⟨v,H',os,bare,un,hok,r,q⟩:=h;obtain ⟨hh,g,d,t,os'⟩:=s';obtain rfl:os'=s.os:=os;exact ⟨v,H',I.call (h':=hh) (g':=g) (d':=d) (t':=t) (ch:=[]) un hok bare<|fun b z=>absurd z<|by simp,r,q⟩
end
def Rh (sp:Sp)(dvs:List V)(E:XK)(t:TA):TE:=fun σ H Q=>t σ H fun vs H1=>sp (vs++dvs) H1 Q E
def Binds (K:Bs)(fd:Ib)(ps:List Str)(ds:List JI):Prop:=
 ∀ (s:kI) (us:List JI),K.In s.heap->(us++ds).length=ps.length->BindsTo s fd ⟨us,[]⟩ (ps.zip (us++ds))
theorem Binds.all {K:Bs}{fd:Ib}{ps:List Str}(h:∀ us:List JI,us.length=ps.length->bindArgs fd ⟨us,[]⟩=pure (ps.zip us)):Binds K fd ps []:=fun s us _ hl=>by
 rw [Ue] at hl |-
 exact .of_eq<|h us hl
def Passes (CX:Lw)(X:Cx)(E:XK):Prop:=∀ (pins:List (Addr×Obj)) (σ : St) (H:Hp) (s:kI) (e:JI) (s':kI),BZ X pins σ H s->CX X.stack H s E e s'->X.xe e s'
section
variable {X:Cx}{CX:Lw}{k:Nat}{f C:Addr}{fd:Ib}{ps:List Str}{sp:Sp}{dvs:List V}{ds:List JI}{E:XK}{x m:Str}{p pos apos:Pos}{e o:Expr}{es:List Expr}{ta:TE}{t:TA}
theorem Oa {pins:List (Addr×Obj)}{σ : St}{H:Hp}{s:kI}{Q:VK}{us:List JI}{vs:List V}(F:iW X.prog X.w X.K X.mg X.base CX k f fd ps sp)(hr:fP k X.A)(hb:Binds X.K fd ps ds)(hd:CJ dvs ds)(hx:Passes CX X E)
  (I:BZ X pins σ H s) (r:CJ vs us) (h:sp (vs++dvs) H Q E):Bu (Bx X.prog X.w) X.A (call (.ref f) us) (EP X pins σ Q) X.xe s:=by
 have r2:CJ (vs++dvs) (us++ds):=r.append hd;have hl:(us++ds).length=ps.length:=by rw [<-r2.length];exact F.len _ _ _ _ h
 refine wpAny_call<|RT (F.run X.A X.stack s H ⟨us,[]⟩ (us++ds) (vs++dvs) Q E hr I.env0 (hb s us I.kIn hl) r2 h) fun r s' hq=>?_
 cases r with
 | error e=>exact hx pins σ H s e s' I hq
 | ok fl=>
  cases fl with
  | ret u=>exact I.after hq
  | next=>exact Ku hq
  | brk=>exact Ku hq
  | cont=>exact Ku hq
theorem agW (F:iW X.prog X.w X.K X.mg X.base CX k f fd ps sp)(hr:fP k X.A)(hg:Gl X x)(hm:X.mg x=Dn (.ref f))(hk:Lp X.K (.ref f)=true)(hb:Binds X.K fd ps ds)(hd:CJ dvs ds)(hx:Passes CX X E)
  (ha:PA X (e::es) t) (hdb:(x==("__debug__" : Str))=false:=by decide) (he:Ce (e::es) X.env=(false,eval e X.env)::Ce es X.env:=by rfl) (hpl:(HB pos (Ce es X.env)).any (·.1)=false:=by rfl) :
  PE X (.Call (.Name x p) (e::es) [] pos) (Rh sp dvs E t):=by
 intro pins s σ H Q I h;refine RW<|lH I hg hm ?_ hdb
 refine PySem.W.callWith_K (h₀:=X.base) I.ok.mod.kin hk (DW (ha pos pins s σ H _ I h) fun us s1 ⟨vs,H1,I1,r,q⟩=>⟨I1.kIn,?_⟩) he hpl;exact Oa F hr hb hd hx I1 r q
theorem zbc (F:iW X.prog X.w X.K X.mg X.base CX k f fd ps sp)(hr:fP k X.A)(hg:Gl X x)(hm:X.mg x=Dn (.ref f))(hk:Lp X.K (.ref f)=true)(hb:Binds X.K fd ps ds)(hd:CJ dvs ds)(hx:Passes CX X E)
  (hdb:(x==("__debug__" : Str))=false:=by decide):PE X (.Call (.Name x p) [] [] pos) (Rh sp dvs E acD):=by
 intro pins s σ H Q I h;refine RW<|lH I hg hm ?_ hdb
 exact PySem.W.callWith_K0 I.kIn hk<|Oa (us:=[]) F hr hb hd hx I .nil h
structure Mk (K:Bs) (C f:Addr):Prop where
 makes:PySem.W.makesIn K C=true
 init:KJ K (.ref C) "__init__" = Dn (Dn (.ref f))
 fn:T3 K (.ref f)=true
 kp:Lp K (.ref C)=true
end
section
variable {X:Cx}{CX:Lw}{k:Nat}{f C:Addr}{fd:Ib}{ps ks:List Str}{sp:Sp}{E:XK}{x m:Str}{p pos apos kpos:Pos}{e o:Expr}{es:List Expr}{kws:List Q6}{te ta:TE}{t tk:TA}{nm:Option Str}
structure acp (K:Bs) (fd:Ib) (ps ks:List Str) (g:List JI->List JI->List JI) (gV:List V->List V->List V):Prop where
 to:∀ (s:kI) (us ws:List JI),K.In s.heap->(g us ws).length=ps.length->BindsTo s fd ⟨us,ks.zip ws⟩ (ps.zip (g us ws))
 rel:∀ {vs:List V} {us:List JI} {zs:List V} {ws:List JI},CJ vs us->CJ zs ws->CJ (gV vs zs) (g us ws)
variable {g:List JI->List JI->List JI}{gV:List V->List V->List V}
end
structure eX (N P:List Str) (sc:Scope):Prop where
 kind:sc.kind=.function
 co:sc.isCoroutine=false
 gen:sc.isGenerator=false
 nd:N.Nodup
 pre:N.take P.length=P
 par:∀ x∈P,sc.names.lookup x=Dn .local\/sc.names.lookup x=Dn .cell
 nofree:∀ y∈sc.names,y.2≠.free
theorem uz {Ke:Str->Option J8}{x:Str}:∀ {binds:List (Str×JI)} {m:Str->Option JI},(∀ v,(x,v)∉binds)->bindL Ke binds m x=m x
 | [],_,_=>rfl
 | (n,v)::r,m,h=>by
  unfold bindL;rw [uz fun w hw=>h w (Kw _ hw)];split
  ·have:x≠n:=by rintro rfl;exact h v LR
   simp [this]
  ·rfl
theorem uw {Ke:Str->Option J8}{x:Str}:∀ {binds:List (Str×JI)} {m:Str->Option JI},(∀ v,(x,v)∉binds)->bindC Ke binds m x=m x
 | [],_,_=>rfl
 | (n,v)::r,m,h=>by
  unfold bindC;rw [uw fun w hw=>h w (Kw _ hw)];split
  ·rfl
  ·have:x≠n:=by rintro rfl;exact h v LR
   simp [this]
theorem vD {Ke:Str->Option J8}{x:Str}{v:JI}:∀ {P:List Str} {vs:List JI} {i:Nat} {m:Str->Option JI},P.Nodup->P[i]?=Dn x->vs[i]?=Dn v->Ke x=Dn .local ->
  bindL Ke (P.zip vs) m x=Dn v
 | [],_,_,_,_,h,_,_=>by simp at h
 | _::_,[],_,_,_,_,h,_=>by simp at h
 | p::P,w::vs,0,m,nd,h1,h2,hk=>by
  simp at h1 h2;subst h1;subst h2;show bindL Ke ((p,w)::P.zip vs) m p=_;unfold bindL;rw [uz fun v hv=>(Lq.mp nd).1 (List.of_mem_zip hv).1,if_pos hk];simp
 | p::P,w::vs,i+1,m,nd,h1,h2,hk=>by
  show bindL Ke ((p,w)::P.zip vs) m x=_;unfold bindL;exact vD (i:=i) (Lq.mp nd).2 (by simpa using h1) (by simpa using h2) hk
theorem vY {Ke:Str->Option J8}{x:Str}{v:JI}:∀ {P:List Str} {vs:List JI} {i:Nat} {m:Str->Option JI},P.Nodup->P[i]?=Dn x->vs[i]?=Dn v->Ke x≠Dn .local ->
  bindC Ke (P.zip vs) m x=Dn v
 | [],_,_,_,_,h,_,_=>by simp at h
 | _::_,[],_,_,_,_,h,_=>by simp at h
 | p::P,w::vs,0,m,nd,h1,h2,hk=>by
  simp at h1 h2;subst h1;subst h2;show bindC Ke ((p,w)::P.zip vs) m p=_;unfold bindC;rw [uw fun v hv=>(Lq.mp nd).1 (List.of_mem_zip hv).1,if_neg hk];simp
 | p::P,w::vs,i+1,m,nd,h1,h2,hk=>by
  show bindC Ke ((p,w)::P.zip vs) m x=_;unfold bindC;exact vY (i:=i) (Lq.mp nd).2 (by simpa using h1) (by simpa using h2) hk
def start (N:List Str)(vs:List V):St:=vs.map Dn++Mz (N.length - vs.length) Go
def BX (CX:Lw)(P:CR)(w:CQ)(K:Bs)(mg:Str->Option JI)(base:Heap)(N:List Str)(qual:Str)(scope:Scope)(f:Addr)(cd:JI)(A:CT)(outer:List Env)(s:kI)(H:Hp)(E:XK):Cx where
 prog:=P
 w:=w
 K:=K
 mg:=mg
 base:=base
 A:=A.deeper (M4 qual scope s.heap.objs.size f cd)
 N:=N
 s₀:=s
 H₀:=H
 env:=M4 qual scope s.heap.objs.size f cd
 outer:=outer
 stack:=M4 qual scope s.heap.objs.size f cd::outer
 ex:=[]
 calm:=A.handled.isNone
 fn:=fun _=>true
 pn:=[]
 xe:=fun e s'=>Bu (Bx P w) (A.deeper (M4 qual scope s.heap.objs.size f cd)) (leaving (M4 qual scope s.heap.objs.size f cd) e) (fun _ s''=>CX outer H s E e s'') (fun e' s''=>CX outer H s E e' s'') s'
theorem Am {sc:Scope}{n:Nat}{x:Str}(h:sc.names.lookup x=Dn .cell):∃ c,(HX n sc.names []).lookup x=Dn c:=by
 have q:=PySem.W.cellsFrom_some sc.names n [] (.inl h);exact Option.isSome_iff_exists.mp q
theorem zaJ {CX:Lw}{P:CR}{w:CQ}{K:Bs}{mg:Str->Option JI}{base:Heap}{N ps:List Str}{qual:Str}{scope:Scope}{f:Addr}{cd:JI}{A:CT}{outer:List Env}{s s1:kI}{H:Hp}{E:XK}{us:List JI}{vs:List V}
  (S:eX N ps scope) (e0:Rp P w K mg base A outer s H) (hl:vs.length=ps.length) (r:CJ vs us)
  (x:InCallC s s.heap.objs.size (bindL (M4 qual scope s.heap.objs.size f cd).kindOf (ps.zip us) fun _=>Go) (HX (s.heap.objs.size+1) scope.names []) (bindC (M4 qual scope s.heap.objs.size f cd).kindOf (ps.zip us) fun _=>Go) s1) :
  BZ (BX CX P w K mg base N qual scope f cd A outer s H E) [] (start N vs) H s1:=by
 have hpl:ps.length<=N.length:=by have:=congrArg R0 S.pre;rw [Rg] at this;lia
 obtain ⟨h1,tk,rfl,hk⟩:=x.done;have noA:∀ b:Addr,b∉(BX CX P w K mg base N qual scope f cd A outer s H E).ex:=fun b z=>absurd (show b∈([]:List Addr) from z) (by simp)
 refine ⟨⟨e0.mod,S.kind,rfl,rfl,Dp _,fun y z c h1 h2=>?_,fun y hy=>?_,fun y c _ h=>?_,fun z=>Option.isNone_iff_eq_none.mp (show A.handled.isNone=true from z),e0.qt,Around.frames_deeper e0.frames,.inr ⟨rfl,rfl⟩,fun b z=>absurd z (noA b),e0.bs,e0.bsz,fun b _ _=>noA b,fun b z=>absurd z (noA b),e0.funs,e0.frf⟩,
  rfl,e0.bare,Un.kept hk,⟨_,x.toInCall.ns,fun i y v h1 h2 h3=>?_⟩,fun y c h=>⟨_,x.cell y c h⟩,e0.hok.fresh (Dp _),fun y c h=>?_,fun p hp=>absurd (show p∈([]:List (Addr×Obj)) from hp) (by simp),e0.hok.kept hk,?_⟩
 ·exact name_of_addr x.apart (QW h1)<|QW h2
 ·have hy:scope.names.lookup y=Dn .cell\/scope.names.lookup y=Dn .free:=hy;rcases hy with hy | hy
  ·exact Am hy
  ·exact absurd rfl<|S.nofree _<|QW hy
 ·exact S7<|x.above y c<|QW h
 ·have hi:i<vs.length:=by
   unfold start at h2;by_cases hi:i<vs.length
   ·exact hi
   ·rw [PB (by simpa using hi)] at h2;rw [VN] at h2;split at h2 <;> cases h2
  have ha:vs[i]?=Dn v:=by
   unfold start at h2;rw [MH (by simpa using hi),Ir] at h2;cases e:vs[i]? with
   | none=>rw [e] at h2;cases h2
   | some a=>rw [e] at h2;cases h2;rfl
  obtain ⟨u,hu,rv⟩:=r.get ha;have hp:ps[i]?=Dn y:=by
   rw [<-S.pre,List.getElem?_take_of_lt (by lia)];exact h1
  have ndP:ps.Nodup:=by rw [<-S.pre];exact S.nd.sublist (List.take_sublist _ _)
  refine ⟨u,rv,?_⟩;rcases S.par y (Q8 hp) with k | k
  ·exact .inl ⟨k,vD ndP hp hu k⟩
  ·obtain ⟨c,e⟩:=Am (n:=s.heap.objs.size+1) k;refine .inr ⟨.inl k,c,e,?_⟩;have q:=x.cell y c e;rw [vY ndP hp hu (by show scope.names.lookup y≠_;rw [k];decide)] at q;exact q
 ·exact e0.hok.fresh<|S7<|x.above y c<|QW h
 ·unfold start;show _=N.length;rw [Lr,Eh,List.length_replicate];lia
theorem Vo {CX:Lw}{P:CR}{w:CQ}{K:Bs}{mg:Str->Option JI}{base:Heap}{k:Nat}{f:Addr}{name qual:Str}{params:Arguments}{body:List Stmt}{scope:Scope}{dV kV doc pm cdv ct oc:JI}{an od:Option Addr}
  {osl:Array (Option JI)} {N ps:List Str} {sp:Sp} (lk:K.lookup f=Dn ⟨oc,od,.func (R8 name qual params body scope dV kV doc pm an cdv ct),osl⟩) (hcd:Tg K cdv qual=true) (S:eX N ps scope)
  (len:∀ vs H Q E,sp vs H Q E->vs.length=ps.length)
  (hbody:∀ (A:CT) (outer:List Env) (s:kI) (H:Hp) (vs:List V) (Q:VK) (E:XK),fP k (A.deeper (M4 qual scope s.heap.objs.size f cdv))->sp vs H Q E ->
   ∃ t,KQ (BX CX P w K mg base N qual scope f cdv A outer s H E) body t/\t { nx:=fun _ H'=>Q .non H',rt:=Q } (start N vs) H) :
  iW P w K mg base CX (k+1) f (R8 name qual params body scope dV kV doc pm an cdv ct) ps sp:=by
 refine ⟨len,fun A outer s H args us vs Q E hr e0 hb r hsp=>?_⟩;have hl:=len _ _ _ _ hsp;have KX:K.In s.heap:=e0.mod.kin.keeps fun b o e=>(e0.bs b o e).1
 have lim:s.heap.NoLimit:=e0.mod.nolimit.keeps fun b o e=>(e0.bs b o e).1
 have hkind:∀ y∈ps.zip us,scope.names.lookup y.1=Dn .local\/(scope.names.lookup y.1=Dn .cell/\((HX (s.heap.objs.size+1) scope.names []).lookup y.1).isSome=true):=fun ⟨n,v⟩ hy=>by
  rcases S.par n (List.of_mem_zip hy).1 with q | q
  ·exact .inl q
  ·exact .inr ⟨q,PySem.W.cellsFrom_some _ _ _<|.inl q⟩
 refine codeAny_call_function hr.depth (KX _ _ lk) rfl S.co S.gen rfl (PySem.W.codeRec_of KX hcd)<|hb _ _ _ _ ?_
 refine wpAny_newFunctionEnv_cells S.kind hkind fun env he s1 x=>?_;subst he;refine ⟨lim.keeps x.toInCall.keep,codeAny_func ?_⟩;obtain ⟨t,ht,hq⟩:=hbody A outer s H vs Q E (hr.deeper _) hsp;have I:BZ (BX CX P w K mg base N qual scope f cdv A outer s H E) [] (start N vs) H s1:=zaJ S e0 hl r x;refine Ge (ht [] s1 (start N vs) H _ I hq) (fun fl s' hs=>?_) fun e s' hs=>hs;have fin:∀ {σ':St} {H':Hp} {v:V} {u:JI},BZ (BX CX P w K mg base N qual scope f cdv A outer s H E) [] σ' H' s'->RelV v u->Q v H'->CE outer P w H s Q u s':=
  fun {σ' H' v u} J rv q=>⟨v,H',J.os,J.bare,J.base,J.hok,rv,q⟩
 cases fl with
 | ret u=>
  obtain ⟨v,σ',H',J,rv,q⟩:=hs;exact fin J rv q
 | next=>
  obtain ⟨σ',H',J,q⟩:=hs;exact fin (v:=V.non) (u:=Value.none) J rfl q
 | brk=>
  obtain ⟨_,_,_,q⟩:=hs;exact Ku q
 | cont=>
  obtain ⟨_,_,_,q⟩:=hs;exact Ku q
section
variable {X:Cx}{x:Str}{p pos:Pos}{e:Expr}{es:List Expr}{t:TA}{id T:String}{r:List V->Hp->VK->Prop}
def tCB (r:List V->Hp->VK->Prop)(t:TA):TE:=fun σ H Q=>t σ H fun vs H1=>r vs H1 Q
theorem zB (hc:m9 X (.builtin id) r)(hg:Gl X x)(hm:X.mg x=Go)(hv:Qo x=Dn (.builtin id))(ha:PA X (e::es) t)(hn:x ≠ "__name__":=by decide)(hdb:(x==("__debug__" : Str))=false:=by decide)
  (he:Ce (e::es) X.env=(false,eval e X.env)::Ce es X.env:=by rfl) (hpl:(HB pos (Ce es X.env)).any (·.1)=false:=by rfl):PE X (.Call (.Name x p) (e::es) [] pos) (tCB r t):=by
 intro pins s σ H Q I h;refine RW<|nZ I hg hm hv ?_ hn hdb
 exact PyProof.Rows.callWith_builtin1 (DW (ha pos pins s σ H _ I h) fun us s1 ⟨vs,H1,I1,r1,q1⟩=>hc pins s1 σ H1 vs us Q I1 r1 q1) he hpl
theorem vC (hc:m9 X (.type T) r)(hg:Gl X x)(hm:X.mg x=Go)(hv:Qo x=Dn (.type T))(ha:PA X (e::es) t)(hn:x ≠ "__name__":=by decide)(hdb:(x==("__debug__" : Str))=false:=by decide)
  (he:Ce (e::es) X.env=(false,eval e X.env)::Ce es X.env:=by rfl) (hpl:(HB pos (Ce es X.env)).any (·.1)=false:=by rfl):PE X (.Call (.Name x p) (e::es) [] pos) (tCB r t):=by
 intro pins s σ H Q I h;refine RW<|nZ I hg hm hv ?_ hn hdb
 exact Tv (DW (ha pos pins s σ H _ I h) fun us s1 ⟨vs,H1,I1,r1,q1⟩=>hc pins s1 σ H1 vs us Q I1 r1 q1) he hpl
end
end L2
namespace HT
open PySem PyProof.Rows
section
open PySem.SeqAt
open PySem.AutoSeq1 (wpAny_loadPart')
open PySem.MeetsSeq PySem.MeetsSeq2 PySem.MeetsSeq3
end
section
variable {prog:CR}{w:CQ}{A:CT}{E:JI->kI->Prop}{s:kI}
theorem PX {t b:Addr}{vs ws:List JI}{Q:JI->kI->Prop}(ht:IsTup s.heap t vs.toArray)(hb:IsTup s.heap b ws.toArray)(hv:vs≠[])
  (h1:ws=[]->Q (.ref t) s) (h2:ws≠[]->Q (.ref s.heap.objs.size) { s with heap:=s.heap.push { cls:=.type "tuple",data:=.seq (vs++ws).toArray } })
  (hsz:vs.length+ws.length<=Dk):Bu (Bx prog w) A (KH .Add (.ref t) (.ref b)) Q E s:=by
 obtain ⟨⟨cls,dd,data,sl⟩,ho,hc,n,hd⟩:=id ht;obtain ⟨⟨cls2,dd2,data2,sl2⟩,ho2,hc2,n2,hd2⟩:=id hb;simp only at hc hd hc2 hd2;subst hc hd hc2 hd2;have e:vs.toArray++ws.toArray=(vs++ws).toArray:=by simp
 by_cases hw:ws=[]
 ·exact concat_meets ⟨_,ho,rfl⟩ ⟨_,ho2,rfl⟩ noFill_tuple_add seq_tuple_add PySem.F.slot_tuple_add PySem.F.entry_tuple_add (PySem.F.args_tuple_add_2 _ _)
   (tuple_addW1 t b vs.toArray ws.toArray n n2 dd dd2 sl sl2 (by simpa using hv) (by simp [hw])) ⟨ho,ho2,h1 hw⟩
 ·refine concat_meets ⟨_,ho,rfl⟩ ⟨_,ho2,rfl⟩ noFill_tuple_add seq_tuple_add PySem.F.slot_tuple_add PySem.F.entry_tuple_add (PySem.F.args_tuple_add_2 _ _)
   (tuple_addW2 t b vs.toArray ws.toArray n n2 dd dd2 sl sl2 (by simpa using hv) (by simpa using hw) (by rw [Em,Em];exact hsz)) ⟨ho,ho2,?_⟩
  rw [e];exact h2 hw
def sIx (n d:Nat):Option Int->Nat
 | none=>d
 | some v=>if v<0 then (v+(n:Int)).toNat else min v.toNat n
theorem sW (n d:Nat):sIx n d Go=d:=rfl
theorem xT (n d k:Nat):sIx n d (Dn (k:Int))=min k n:=by
 show (if (k:Int)<0 then ((k:Int)+(n:Int)).toNat else min (k:Int).toNat n)=min k n;rw [if_neg (by lia),Int.toNat_natCast]
theorem Xu (n d:Nat)(hd:d<=n)(o:Option Int):sIx n d o<=n:=by
 cases o with
 | none=>exact hd
 | some v=>
  show (if v<0 then (v+(n:Int)).toNat else min v.toNat n)<=n;by_cases hv:v<0
  ·rw [if_pos hv];lia
  ·rw [if_neg hv];exact Nat.min_le_right _ _
theorem Hv (v:Int)(n d:Nat):(if v<0 then max (v+(n:Int)) 0 else min v (n:Int))=((sIx n d (Dn v):Nat):Int):=by
 show (if v<0 then max (v+(n:Int)) 0 else min v (n:Int))=(((if v<0 then (v+(n:Int)).toNat else min v.toNat n):Nat):Int);by_cases hv:v<0
 ·simp only [if_pos hv];lia
 ·simp only [if_neg hv];lia
theorem adz (lo hi:Option Int)(n:Nat):Builtin.Slice.sliceAdjust lo hi 1 (n:Int)=(((sIx n 0 lo:Nat):Int),((sIx n n hi:Nat):Int)):=by
 have h1:¬ ((1:Int)<0):=by lia
 unfold Builtin.Slice.sliceAdjust;simp only [h1,if_false];refine Jm ?_ ?_
 ·cases lo with
  | none=>rfl
  | some v=>exact Hv v n 0
 ·cases hi with
  | none=>rfl
  | some v=>exact Hv v n n
theorem adG (i j:Nat):Vb (i:Int) (j:Int) 1=j - i:=by
 unfold Vb;have h1:(1:Int)>0:=by lia
 simp only [h1,if_true,Int.ediv_one];split <;> lia
theorem rC {v:JI}{o:Option Int}{Q:Option Int->kI->Prop}(p:IsPart v o)(h:Q o s):Bu (Bx prog w) A (Builtin.Slice.slicePartIndex v) Q E s:=by
 cases p with
 | none=>exact slicePart_none h
 | int i t=>exact slicePart_int h
theorem gH {sl:Addr}{vl vu:JI}{lo hi:Option Int}{n:Nat}{Q:Int×Int×Nat->kI->Prop}(hs:s.heap.IsSliceOf sl vl vu .none)(pl:IsPart vl lo)(pu:IsPart vu hi)
  (h:Q (((sIx n 0 lo:Nat):Int),1,sIx n n hi - sIx n 0 lo) s):Bu (Bx prog w) A (Builtin.Slice.sliceApplied (.ref sl) (pure (n:Int))) Q E s:=by
 obtain ⟨os,hos,hcs,hds⟩:=id hs;unfold Builtin.Slice.sliceApplied Builtin.Slice.sliceFields;refine BL<|BL<|HI hos hds (x:=vl) rfl<|BL<|HI hos hds (x:=vu) rfl<|BL<|HI hos hds (x:=.none) rfl<|CP ?_
 refine BL<|slicePart_none ?_
 show Bu _ _ (if ((1:Int)==0)=true then _ else _) _ _ s;rw [if_neg (by decide)];refine BL<|rC pl<|BL<|rC pu<|BL<|CP ?_
 show Bu _ _ (match Builtin.Slice.sliceAdjust lo hi 1 (n:Int) with | (lo,hi)=>pure (lo,(1:Int),Vb lo hi 1)) _ _ s;rw [adz lo hi n];show Bu _ _ (pure (((sIx n 0 lo:Nat):Int),(1:Int),Vb ((sIx n 0 lo:Nat):Int) ((sIx n n hi:Nat):Int) 1)) _ _ s;rw [adG];exact CP h
theorem zbA (xs:Array JI)(i k:Nat):((Jo k).filterMap fun (m:Nat)=>xs[((i:Int)+(m:Int)*1).toNat]?).toArray=((xs.toList.drop i).take k).toArray:=by
 have e:(fun (m:Nat)=>xs[((i:Int)+(m:Int)*1).toNat]?)=fun m=>xs[i+m]?:=by
  funext m;have:((i:Int)+(m:Int)*1).toNat=i+m:=by lia
  rw [this]
 rw [e];have:=pick_run xs i k
 rw [List.filterMap_map] at this;have e2:((fun x=>xs[x]?) ∘ fun x=>i+x)=fun m=>xs[i+m]?:=rfl
 rw [e2] at this;rw [this]
theorem lQ {t sl:Addr}{items:Array JI}{vl vu:JI}{lo hi:Option Int}{Q:JI->kI->Prop}(ht:IsTup s.heap t items)(hs:s.heap.IsSliceOf sl vl vu .none)(pl:IsPart vl lo)(pu:IsPart vu hi)
  (hw:¬ (sIx items.size 0 lo=0/\sIx items.size items.size hi=items.size))
  (h:Q (.ref s.heap.objs.size) { s with heap:=s.heap.push { cls:=.type "tuple",data:=.seq ((items.toList.drop (sIx items.size 0 lo)).take (sIx items.size items.size hi - sIx items.size 0 lo)).toArray } })
  (hsz:items.size<=Dk):Bu (Bx prog w) A (getItem (.ref t) (.ref sl)) Q E s:=by
 have htake:sizeOk (.seq ((items.toList.drop (sIx items.size 0 lo)).take (sIx items.size items.size hi - sIx items.size 0 lo)).toArray):=by
  show ((items.toList.drop (sIx items.size 0 lo)).take (sIx items.size items.size hi - sIx items.size 0 lo)).toArray.size<=Dk;rw [Em,Rg,List.length_drop,Uj];lia
 have hj:sIx items.size items.size hi<=items.size:=Xu _ _ (Dp _) hi;obtain ⟨os,hos,hcs,hds⟩:=id hs;have hTs:s.TypeIs (.ref sl) "slice":=⟨os,hos,hcs⟩
 unfold getItem;try with_reducible refine JK ?_
 first | refine BL (CP ?_) | skip
 refine BL<|wpAny_sequenceKey ht.typeIs (by decide) ?_
 refine BL (RJ (name:=Qq "__getitem__") ht.typeIs Ri
  (QM Ri ht.typeIs entry_tuple_getitem ?_ (args_tuple_getitem _ _)))
 show Bu _ _ (Builtin.Tuple.tupleItemsOf (.ref t) >>= _) _ _ s;refine BL<|tupleItemsOf_ ht ?_
 refine BL<|wpAny_typeOf hTs ?_
 rw [if_pos (by decide)];refine BL<|gH hs pl pu ?_
 have hno:¬ ((((sIx items.size 0 lo:Nat):Int)==0&&(1:Int)==1&&(sIx items.size items.size hi - sIx items.size 0 lo)==items.size)=true):=by
  intro q;rw [Kf,Kf] at q;have q1:((sIx items.size 0 lo:Nat):Int)=0:=eq_of_beq q.1.1;have q2:sIx items.size items.size hi - sIx items.size 0 lo=items.size:=eq_of_beq q.2;exact hw ⟨by lia,by lia⟩
 show Bu _ _ (if (((sIx items.size 0 lo:Nat):Int)==0&&(1:Int)==1&&(sIx items.size items.size hi - sIx items.size 0 lo)==items.size)=true then _ else _) _ _ s;rw [if_neg hno,zbA];first
  | exact BL (m:=VF _) (ML (CP ⟨_,rfl,CP h⟩) htake)
  | exact BL (m:=VF _) (ML (BL (CP (CP ⟨_,rfl,CP h⟩))) htake)
  | exact BL (BL (m:=VF _) (ML (CP (CP ⟨_,rfl,CP h⟩)) htake))
  | exact BL (BL (m:=VF _) (ML (CP ⟨_,rfl,CP h⟩) htake))
end
end HT
namespace L2
open PySem PySem.Spec PyProof.Rows
abbrev TO:=St->Hp->(Option Int->Hp->Prop)->Prop
def PO (X:Cx)(e:Option Expr)(t:TO):Prop:=
 ∀ (pins:List (Addr×Obj)) (s:kI) (σ : St) (H:Hp) (Q:Option Int->Hp->Prop),BZ X pins σ H s->t σ H Q ->
  Bu (Bx X.prog X.w) X.A (evalPart e X.env) (fun u s'=>∃ o H',BZ X pins σ H' s'/\IsPart u o/\Q o H') X.xe s
def afB:TO:=fun _ H Q=>Q Go H
def aaE (t:TE):TO:=fun σ H Q=>t σ H fun x H1=>∃ i,x=.int i/\Q (Dn i) H1
section
variable {X:Cx}{e:Expr}{te:TE}{lo hi:Option Expr}{tl th:TO}{pos p2:Pos}
theorem aeE:PO X Go afB:=by
 intro pins s σ H Q I h;rw [evalPart_none];exact CP ⟨Go,H,I,.none,h⟩
theorem afD (h:PE X e te):PO X (Dn e) (aaE te):=by
 intro pins s σ H Q I hw;rw [evalPart_some];refine DW (h pins s σ H _ I hw) fun u s1 ⟨x,H1,I1,r1,q1⟩=>?_;obtain ⟨i,rfl,q⟩:=q1;obtain ⟨t,rfl⟩:=r1;exact ⟨Dn i,H1,I1,.int i t,q⟩
def QB (X:Cx)(r:V->Option Int->Option Int->Hp->VK->Prop):Prop:=
 ∀ (pins:List (Addr×Obj)) (s:kI) (σ : St) (H:Hp) (x:V) (v vl vu:JI) (lo hi:Option Int) (sl:Addr) (Q:VK),BZ X pins σ H s->RelV x v->s.heap.IsSliceOf sl vl vu .none->IsPart vl lo->IsPart vu hi->r x lo hi H Q ->
  ∃ T id,typeLookup (.type T) "__getitem__" = pure (Dn (.builtin id))/\s.TypeIs v T/\Bu (Bx X.prog X.w) X.A (getItem v (.ref sl)) (EP X pins σ Q) X.xe s
theorem QB.or {r r':V->Option Int->Option Int->Hp->VK->Prop}(h:QB X r)(h':QB X r'):QB X (fun x lo hi H Q=>r x lo hi H Q\/r' x lo hi H Q):=by
 intro pins s σ H x v vl vu lo hi sl Q I rx hs pl pu q;rcases q with q | q
 ·exact h pins s σ H x v vl vu lo hi sl Q I rx hs pl pu q
 ·exact h' pins s σ H x v vl vu lo hi sl Q I rx hs pl pu q
def tSl (r:V->Option Int->Option Int->Hp->VK->Prop)(te:TE)(tl th:TO):TE:=fun σ H Q=>te σ H fun x H1=>tl σ H1 fun l H2=>th σ H2 fun u H3=>r x l u H3 Q
theorem zbB {r:V->Option Int->Option Int->Hp->VK->Prop}(hr:QB X r)(he:PE X e te)(hl:PO X lo tl)(hu:PO X hi th):PE X (.Subscript e (.Slice lo hi Go p2) pos) (tSl r te tl th):=by
 intro pins s σ H Q I h;refine Subscript_<|DW (he pins s σ H _ I h) fun v s1 ⟨x,H1,I1,r1,q1⟩=>?_
 refine wpAny_Slice<|DW (hl pins s1 σ H1 _ I1 q1) fun vl s2 ⟨l,H2,I2,pl,q2⟩=>DW (hu pins s2 σ H2 _ I2 q2) fun vu s3 ⟨u,H3,I3,pu,q3⟩=>?_
 rw [evalPart_none];refine CP ?_;have I4:BZ X pins σ H3 { s3 with heap:=s3.heap.push { cls:=.type "slice",data:=.fields #[vl,vu,.none] } }:=I3.kept (t':=s3.toks) fun b ob q=>Dm _ q
 obtain ⟨T,id,hT,ht,hg⟩:=hr pins { s3 with heap:=s3.heap.push { cls:=.type "slice",data:=.fields #[vl,vu,.none] } } σ H3 x v vl vu l u s3.heap.objs.size Q I4 r1 (Heap.IsSliceOf.new ..) pl pu q3;show Bu (Bx X.prog X.w) X.A (subscriptTail e (.Slice lo hi Go p2) v (.ref s3.heap.objs.size)) (EP X pins σ Q) X.xe { s3 with heap:=s3.heap.push { cls:=.type "slice",data:=.fields #[vl,vu,.none] } };exact tail_any (ops:=[.ref s3.heap.objs.size,v]) ht hT hg<|by with_unfolding_all rfl
def Lh (xs:List V)(lo hi:Option Int):List V:=(xs.drop (HT.sIx xs.length 0 lo)).take (HT.sIx xs.length xs.length hi - HT.sIx xs.length 0 lo)
theorem o8 (xs:List V)(lo hi:Option Int):(Lh xs lo hi).length<=xs.length:=by
 unfold Lh;rw [Rg,List.length_drop];lia
def ade (K:Bs):V->Option Int->Option Int->Hp->VK->Prop:=fun x lo hi H Q=>∃ a xs,x=.ref a/\G7 K H a xs /\
 ¬ (HT.sIx xs.length 0 lo=0/\HT.sIx xs.length xs.length hi=xs.length)/\∀ p,H p=Go->Q (.ref p) (Cd H p (.tup (Lh xs lo hi)))
theorem Zm:QB X (ade X.K):=by
 intro pins s σ H x v vl vu lo hi sl Q I rx hs pl pu h;obtain ⟨a,xs,rfl,hx,hw,q⟩:=h;cases rx;obtain ⟨its,r,ht,hz⟩:=I.tuple hx;have hlen:its.toArray.size=xs.length:=by rw [Em];exact r.length.symm
 refine ⟨"tuple",_,Ri.lookup,ht.typeIs,?_⟩;refine HT.lQ ht hs pl pu (by rw [hlen];exact hw) ?_ (by rw [hlen];exact hz);rw [hlen];refine ⟨.ref s.heap.objs.size,_,I.laid (t':=s.toks) (o:=.tup (Lh xs lo hi)) (fun b ob q=>Dm _ q) (Dp _) ?_,rfl,q _<|I.hok.fresh<|Dp _⟩;exact ⟨GK (o8 xs lo hi) hz,_,(r.drop<|HT.sIx xs.length 0 lo).take (HT.sIx xs.length xs.length hi - HT.sIx xs.length 0 lo),Kz.new _ _⟩
def abC (K:Bs):R2:=fun x y H Q=>∃ a b xs ys,x=.ref a/\y=.ref b/\G7 K H a xs/\G7 K H b ys/\xs≠[]/\xs.length+ys.length<=Dk /\
 (ys=[]->Q (.ref a) H)/\(ys≠[]->∀ p,H p=Go->Q (.ref p) (Cd H p (.tup (xs++ys))))
theorem CJ.nil_iff {xs:List V}{us:List JI}(r:CJ xs us):us=[]↔xs=[]:=by
 cases r with
 | nil=>simp
 | cons _ _=>simp
theorem afo:Ho X (KH .Add) (abC X.K):=by
 intro pins s σ H x y v u Q I rx ry h;obtain ⟨a,b,xs,ys,rfl,rfl,ha,hb,hx,hz,q1,q2⟩:=h;cases rx;cases ry;obtain ⟨its,r1,p1,_⟩:=I.tuple ha;obtain ⟨its2,r2,p2,_⟩:=I.tuple hb;refine HT.PX p1 p2 (fun z=>hx<|r1.nil_iff.mp z) (fun z=>⟨.ref a,H,I,rfl,q1<|r2.nil_iff.mp z⟩) (fun z=>?_) (by rw [<-r1.length,<-r2.length];exact hz);refine ⟨.ref s.heap.objs.size,_,I.laid (t':=s.toks) (o:=.tup (xs++ys)) (fun b ob q=>Dm _ q) (Dp _) ?_,rfl,q2 (fun w=>z<|r2.nil_iff.mpr w) _<|I.hok.fresh<|Dp _⟩;exact ⟨by rw [Lr];exact hz,_,r1.append r2,Kz.new _ _⟩
end
def LI (n:Nat)(i:Int):Option Nat:=if 0<=i then (if i<n then Dn i.toNat else Go) else if -(n:Int)<=i then Dn (i+n).toNat else Go
def Ig {α : Type}(xs:List α)(i:Int):Option α:=(LI xs.length i).bind fun j=>xs[j]?
theorem DX {n:Nat}{i:Int}{j:Nat}(h:LI n i=Dn j):seqIndex? i n=Dn j/\j<n/\-(n:Int)<=i/\i<n:=by
 unfold LI at h;by_cases h0:0<=i
 ·rw [if_pos h0] at h;by_cases h1:i<n
  ·rw [if_pos h1] at h;have e:i.toNat=j:=Fj h;exact ⟨by rw [seqIndex_of h0 h1,e],by lia,by lia,h1⟩
  ·rw [if_neg h1] at h;cases h
 ·rw [if_neg h0] at h;by_cases h1:-(n:Int)<=i
  ·rw [if_pos h1] at h;have e:(i+n).toNat=j:=Fj h;exact ⟨by rw [seqIndex_neg (by lia) h1,e],by lia,h1,by lia⟩
  ·rw [if_neg h1] at h;cases h
theorem xZ {α : Type}{xs:List α}{i:Int}{v:α}(h:Ig xs i=Dn v):∃ j,seqIndex? i xs.length=Dn j/\xs[j]?=Dn v/\j<xs.length/\-(xs.length:Int)<=i/\i<xs.length:=by
 unfold Ig at h;cases e:LI xs.length i with
 | none=>rw [e] at h;cases h
 | some j=>
  rw [e] at h;obtain ⟨h1,h2,h3,h4⟩:=DX e;exact ⟨j,h1,h,h2,h3,h4⟩
theorem cu {α : Type}{xs:List α}{j:Nat}{v:α}(h:xs[j]?=Dn v):Ig xs (j:Int)=Dn v:=by
 have hj:j<xs.length:=(K8.mp h).1;have e:LI xs.length (j:Int)=Dn j:=by
  unfold LI;rw [if_pos (by lia),if_pos (by lia)];simp
 unfold Ig;rw [e];exact h
theorem zbh {α : Type}(xs:List α)(v:α):Ig (xs++[v]) (-1)=Dn v:=by
 have hl:(xs++[v]).length=xs.length+1:=by simp
 have e:LI (xs++[v]).length (-1)=Dn xs.length:=by
  unfold LI;rw [hl,if_neg (by decide),if_pos (by lia)];congr 1
  lia
 unfold Ig;rw [e];show (xs++[v])[xs.length]?=Dn v;simp
def yq (b:Expr):Prop:=∀ o i,subscripted b false o i=operate [o,i] (getItem o i)
def Qk (X:Cx)(r:R2):Prop:=
 ∀ (value slice:Expr) (pins:List (Addr×Obj)) (s:kI) (σ : St) (H:Hp) (x y:V) (v u:JI) (Q:VK),BZ X pins σ H s->RelV x v->RelV y u->r x y H Q ->
  subscripted slice false v u=operate [v,u] (getItem v u)->Bu (Bx X.prog X.w) X.A (subscriptTail value slice v u) (EP X pins σ Q) X.xe s
def MtR (X:Cx)(id:String)(r:V->List V->Hp->VK->Prop):Prop:=
 ∀ (pins:List (Addr×Obj)) (s:kI) (σ : St) (H:Hp) (x:V) (xs:List V) (v:JI) (us:List JI) (Q:VK),BZ X pins σ H s->RelV x v->CJ xs us->r x xs H Q ->
  Bu (Bx X.prog X.w) X.A (call (.builtin id) (v::us)) (EP X pins σ Q) X.xe s
section
variable {X:Cx}{a b:Expr}{ta tb:TE}{pos:Pos}
theorem Qk.or {r r':R2}(h:Qk X r)(h':Qk X r'):Qk X (fun x y H Q=>r x y H Q\/r' x y H Q):=by
 intro value slice pins s σ H x y v u Q I rx ry q hs;rcases q with q | q
 ·exact h value slice pins s σ H x y v u Q I rx ry q hs
 ·exact h' value slice pins s σ H x y v u Q I rx ry q hs
theorem aa7 {r:R2}(hr:Qk X r)(ha:PE X a ta)(hb:PE X b tb)(hs:yq b):PE X (.Subscript a b pos) (tOp r ta tb):=by
 intro pins s σ H Q I h;exact Subscript_<|aaV ha hb I h fun v u s2 x y H2 I2 rx ry q=>hr a b pins s2 σ H2 x y v u Q I2 rx ry q<|hs _ _
def abR (K:Bs):R2:=fun x y H Q=>∃ p xs i v,x=.ref p/\y=.int i/\Fl K H p xs/\Ig xs i=Dn v/\Q v H
def abT (K:Bs):R2:=fun x y H Q=>∃ p xs i v,x=.ref p/\y=.int i/\G7 K H p xs/\Ig xs i=Dn v/\Q v H
def acd:R2:=fun x y H Q=>∃ z i c,x=.str z/\y=.int i/\z.length<=Dk/\Ig z.cps.toList i=Dn c/\Q (.str ⟨#[c]⟩) H
theorem ahF:Qk X (abR X.K):=by
 intro value slice pins s σ H x y v u Q I rx ry h hs;obtain ⟨p,xs,i,z,rfl,rfl,hq,he,q⟩:=h;cases rx;obtain ⟨t,rfl⟩:=ry;obtain ⟨its,r,pl,hz⟩:=I.list hq;obtain ⟨j,h1,h2,h3,h4,h5⟩:=xZ he;obtain ⟨w,ew,rw'⟩:=r.get h2;have hl:=r.length;have hn:=mR;have fin:EP X pins σ Q w s:=⟨z,H,I,rw',q⟩
 by_cases h0:0<=i
 ·have hj:i.toNat=j:=by
   rw [seqIndex_of h0 h5] at h1;exact Fj h1
  exact item_listR pl.isList h0 (by lia) (by rw [hj];simpa using ew) fin hs
 ·have hj:(i+(its.toArray.size:Int)).toNat=j:=by
   rw [seqIndex_neg (by lia) h4] at h1;rw [Em,<-hl];exact Fj h1
  exact subscriptTail_builtinR (x:=w) pl.isList.typeIs slot_list_getitem.lookup
   (wpAny_getItem_list_neg (Q:=fun r s'=>r=w/\EP X pins σ Q r s') pl.isList (by lia) (by rw [Em] <;> lia) (by lia) (by rw [hj];simpa using ew) ⟨rfl,fin⟩) hs
theorem agM:Qk X (abT X.K):=by
 intro value slice pins s σ H x y v u Q I rx ry h hs;obtain ⟨p,xs,i,z,rfl,rfl,hq,he,q⟩:=h;cases rx;obtain ⟨t,rfl⟩:=ry;obtain ⟨its,r,pl,hz⟩:=I.tuple hq;obtain ⟨j,h1,h2,h3,h4,h5⟩:=xZ he;obtain ⟨w,ew,rw'⟩:=r.get h2;have hl:=r.length;have hn:=mR;have fin:EP X pins σ Q w s:=⟨z,H,I,rw',q⟩
 exact subscriptTail_builtinR (x:=w) pl.typeIs slot_tuple_getitem.lookup
  (getItem_tuple (j:=j) (Q:=fun r s'=>r=w/\EP X pins σ Q r s') pl (by lia) (by lia) (by rw [Em,<-hl];exact h1) (by simpa using ew) ⟨rfl,fin⟩) hs
theorem YM:Qk X acd:=by
 intro value slice pins s σ H x y v u Q I rx ry h hs;obtain ⟨z,i,c,rfl,rfl,hz,he,q⟩:=h;obtain ⟨t,rfl⟩:=rx;obtain ⟨t',rfl⟩:=ry;obtain ⟨j,h1,h2,h3,h4,h5⟩:=xZ he;have hl:z.cps.toList.length=z.length:=by simp [Str.length]
 rw [hl] at h1 h4 h5;have hn:=mR;exact tail_any (typeIs_str s z t) slot_str_getitem.lookup (getItem_str (c:=c) (by
  have e1:decide (i < -(2^63:Int))=false:=decide_eq_false (by lia);have e2:decide (i>=2^63)=false:=decide_eq_false (by lia);rw [e1,e2,Bool.or_false]) (by rw [h1];simpa using h2) ⟨.str ⟨#[c]⟩,H,I.tok _,⟨_,rfl⟩,q⟩) hs
def rIx (K:Bs):R2:=fun x y H Q=>abR K x y H Q\/abT K x y H Q\/acd x y H Q
theorem Vz:Qk X (rIx X.K):=ahF.or (agM.or YM)
theorem adZ (its:List JI)(n j:Nat)(u:JI):Obj.mapSeq (·.setIfInBounds j u) { cls:=.type "list",data:=.seq its.toArray n } = { cls:=.type "list",data:=.seq (its.set j u).toArray n }:=by
 simp [Obj.mapSeq]
theorem BZ.lst {pins:List (Addr×Obj)}{σ : St}{H:Hp}{s:kI}{p:Addr}{xs:List V}(I:BZ X pins σ H s)(h:H p=Dn (.lst xs)) :
  ∃ (its:List JI) (n:Nat),CJ xs its/\s.heap.get? p=Dn { cls:=.type "list",data:=.seq its.toArray n }/\xs.length<=Dk:=by
 obtain ⟨z,its,n,r,e⟩:=I.hok p _ h;exact ⟨its,n,r,e,z⟩
theorem BZ.lstUpd {pins:List (Addr×Obj)}{σ : St}{H:Hp}{s:kI}{p:Addr}{xs ys:List V}{its its':List JI}{n n':Nat}{f:Obj->Obj}(I:BZ X pins σ H s)(h:H p=Dn (.lst xs))
  (ho:s.heap.get? p=Dn { cls:=.type "list",data:=.seq its.toArray n }) (hf:f { cls:=.type "list",data:=.seq its.toArray n } = { cls:=.type "list",data:=.seq its'.toArray n' }) (r:CJ ys its') (hz:ys.length<=Dk) (t:Nat) :
  BZ X pins σ (Cd H p (.lst ys)) { s with heap:=s.heap.update p f,toks:=t }:=by
 have e:(s.heap.update p f).get? p=Dn { cls:=.type "list",data:=.seq its'.toArray n' }:=by
  rw [Lb f ho (by rw [hf] <;> rfl),hf]
 refine I.write (x:=p) (e:=p) (by rw [h];trivial) (.inl rfl) (fun b u hb q=>(Ld _ _<|Eu hb).trans q) ⟨_,e⟩ ?_;exact ⟨hz,its',n',r,e⟩
def YF:V->V->V->Hp->(Hp->Prop)->Prop:=fun o i v H Q=>∃ p xs k j,o=.ref p/\i=.int k/\H p=Dn (.lst xs)/\LI xs.length k=Dn j/\Q (Cd H p (.lst (xs.set j v)))
theorem set_list:aax X YF:=by
 intro pins s σ H o i v ov iv u Q I ro ri rv h;obtain ⟨p,xs,k,j,rfl,rfl,hp,hj,q⟩:=h;cases ro;obtain ⟨t,rfl⟩:=ri;obtain ⟨its,n,r,ho,hz⟩:=I.lst hp;obtain ⟨h1,h2,h3,h4⟩:=DX hj;have hl:=r.length;have hn:=mR;have I':BZ X pins σ (Cd H p (.lst (xs.set j v))) { s with heap:=s.heap.update p (Obj.mapSeq (·.setIfInBounds j u)) }:=
  I.lstUpd hp ho (adZ its n j u) (r.set rv j) (by rw [Tp];exact hz) s.toks
 by_cases h0:0<=k
 ·have hk:k.toNat=j:=by
   rw [seqIndex_of h0 h4] at h1;exact Fj h1
  exact PySem.W.ki_setAt ho h0 (by lia) (by rw [Em,<-hl];exact h4) (by rw [hk];exact ⟨_,I',q⟩)
 ·have hk:(k+(its.toArray.size:Int)).toNat=j:=by
   rw [seqIndex_neg (by lia) h3] at h1;rw [Em,<-hl];exact Fj h1
  exact PySem.W.ki_setBack ho (by lia) (by rw [Em,<-hl];exact h3) (by lia) (by rw [hk];exact ⟨_,I',q⟩)
theorem uX (lo hi:Option Int)(n:Nat):(Ro lo hi Go n).1=((HT.sIx n 0 lo:Nat):Int)/\(Ro lo hi Go n).2.1=((HT.sIx n n hi:Nat):Int)/\(Ro lo hi Go n).2.2=1:=by
 refine ⟨?_,?_,rfl⟩
 ·cases lo with
  | none=>simp [Ro,HT.sIx]
  | some i=>
   simp only [Ro,HT.sIx,Option.getD_none,show (1:Int)>0 by decide,if_true];by_cases h:i<0
   ·simp only [h,if_true] <;> lia
   ·simp only [h,if_false] <;> lia
 ·cases hi with
  | none=>simp [Ro,HT.sIx]
  | some i=>
   simp only [Ro,HT.sIx,Option.getD_none,show (1:Int)>0 by decide,if_true];by_cases h:i<0
   ·simp only [h,if_true] <;> lia
   ·simp only [h,if_false] <;> lia
theorem sX (its:List JI)(lo hi:Option Int):slicePick its.toArray lo hi Go=((its.drop (HT.sIx its.length 0 lo)).take (HT.sIx its.length its.length hi - HT.sIx its.length 0 lo)).toArray:=by
 obtain ⟨h1,h2,h3⟩:=uX lo hi its.toArray.size;unfold slicePick;rw [h1,h2,h3];simp only [sliceRange_one,pick_run,Em] <;> rfl
def ado (K:Bs):V->Option Int->Option Int->Hp->VK->Prop:=fun x lo hi H Q=>∃ a xs,x=.ref a/\Fl K H a xs/\∀ p,H p=Go->Q (.ref p) (Cd H p (.lst (Lh xs lo hi)))
theorem agJ:QB X (ado X.K):=by
 intro pins s σ H x v vl vu lo hi sl Q I rx hs pl pu h;obtain ⟨a,xs,rfl,hx,q⟩:=h;cases rx;obtain ⟨its,r,ht,hz⟩:=I.list hx;have hlen:=r.length;refine ⟨"list",_,slot_list_getitem.lookup,ht.isList.typeIs,?_⟩;refine wpAny_getItem_list_slice ht.isList hs pl pu .none (by simp) ?_ (by rw [Em] <;> lia);rw [sX,<-hlen];refine ⟨.ref s.heap.objs.size,_,I.laid (t':=s.toks) (o:=.lst (Lh xs lo hi)) (fun b ob q=>Dm _ q) (Dp _) ?_,rfl,q _<|I.hok.fresh<|Dp _⟩;exact ⟨GK (o8 xs lo hi) hz,_,0,(r.drop<|HT.sIx xs.length 0 lo).take (HT.sIx xs.length xs.length hi - HT.sIx xs.length 0 lo),HD _ rfl⟩
def Hz:V->Bool
 | .non=>true
 | .bl _=>true
 | .int _=>true
 | .str _=>true
 | _=>false
def eqV:V->V->Bool
 | .non,.non=>true
 | .bl a,.bl b=>a==b
 | .bl a,.int b=>(if a then 1 else 0)==b
 | .int a,.bl b=>a==(if b then 1 else 0)
 | .int a,.int b=>a==b
 | .str a,.str b=>a==b
 | _,_=>false
theorem Xc {A:CT}{s:kI}{y x:V}{u v:JI}(ry:RelV y u)(rx:RelV x v)(fy:Hz y=true)(fx:Hz x=true):SQ A s u v (eqV y x):=by
 cases y with
 | non=>
  cases ry;cases x with
  | non=>cases rx;exact SeqAt.EqAt.same _
  | bl b=>cases rx;exact SeqAt.EqAt.none_bool b
  | int b=>obtain ⟨t,rfl⟩:=rx;exact SeqAt.EqAt.none_int b t
  | str b=>obtain ⟨t,rfl⟩:=rx;exact SeqAt.EqAt.none_str b t
  | _=>exact absurd (show false=true from fx) Hi
 | bl a=>
  cases ry;cases x with
  | non=>cases rx;exact SeqAt.EqAt.bool_none a
  | bl b=>cases rx;exact SeqAt.EqAt.bool_bool a b
  | int b=>obtain ⟨t,rfl⟩:=rx;exact SeqAt.EqAt.bool_int a b t
  | str b=>obtain ⟨t,rfl⟩:=rx;exact SeqAt.EqAt.bool_str a b t
  | _=>exact absurd (show false=true from fx) Hi
 | int a=>
  obtain ⟨t',rfl⟩:=ry;cases x with
  | non=>cases rx;exact SeqAt.EqAt.int_none a t'
  | bl b=>cases rx;exact SeqAt.EqAt.int_bool a t' b
  | int b=>obtain ⟨t,rfl⟩:=rx;exact SeqAt.EqAt.int_int a t' b t
  | str b=>obtain ⟨t,rfl⟩:=rx;exact SeqAt.EqAt.int_str a t' b t
  | _=>exact absurd (show false=true from fx) Hi
 | str a=>
  obtain ⟨t',rfl⟩:=ry;cases x with
  | non=>cases rx;exact SeqAt.EqAt.str_none a t'
  | bl b=>cases rx;exact SeqAt.EqAt.str_bool a t' b
  | int b=>obtain ⟨t,rfl⟩:=rx;exact SeqAt.EqAt.str_int a t' b t
  | str b=>obtain ⟨t,rfl⟩:=rx;exact SeqAt.EqAt.str_str a t' b t
  | _=>exact absurd (show false=true from fx) Hi
 | _=>exact absurd (show false=true from fy) Hi
theorem vh:m9 X (.builtin "len") (fun xs H Q=>∃ p ys,xs=[.ref p]/\(Fl X.K H p ys\/G7 X.K H p ys)/\Q (.int ys.length) H):=by
 intro pins s σ H xs us Q I r h;obtain ⟨p,ys,rfl,hq,q⟩:=h;obtain ⟨u,rfl,rx⟩:=vals1 r;cases rx;have hn:=mR;rcases hq with hq | hq
 ·obtain ⟨its,r',pl,hz⟩:=I.list hq;have hlen:=r'.length;exact Calls.call_len_list pl.isList (by simp only [Em] <;> lia) ⟨.int ys.length,H,I.tok _,⟨s.toks+1,by rw [Em,hlen]⟩,q⟩
 ·obtain ⟨its,r',pl,hz⟩:=I.tuple hq;have hlen:=r'.length;exact len_tuple pl (by simp only [Em] <;> lia) ⟨.int ys.length,H,I.tok _,⟨s.toks+1,by rw [Em,hlen]⟩,q⟩
theorem vP:m9 X (.type "list") (fun xs H Q=>∃ p ys,xs=[.ref p]/\(Fl X.K H p ys\/G7 X.K H p ys)/\∀ l,H l=Go->Q (.ref l) (Cd H l (.lst ys))):=by
 intro pins s σ H xs us Q I r h;obtain ⟨p,ys,rfl,hq,q⟩:=h;obtain ⟨u,rfl,rx⟩:=vals1 r;cases rx;have fin:∀ (its:List JI),CJ ys its->ys.length<=Dk->∀ (h':Heap) (c':Nat),(∀ b o',s.heap.get? b=Dn o'->h'.get? b=Dn o') ->
   h'.get? s.heap.objs.size=Dn { cls:=.type "list",dict:=Go,data:=.seq its.toArray c',slots:=#[] }->EP X pins σ Q (.ref s.heap.objs.size) { s with heap:=h' }:=fun its r' hz h' c' kp e=>
  ⟨.ref s.heap.objs.size,_,I.laid (t':=s.toks) kp (Dp _) (show gJ X.prog X.w _ h' _ (.lst ys) from ⟨hz,its,c',r',e⟩),rfl,q _ (I.hok.fresh (Dp _))⟩
 rcases hq with hq | hq
 ·obtain ⟨its,r',pl,hz⟩:=I.list hq;have hlen:=r'.length;obtain ⟨o,ho,hc,n,hd⟩:=pl.isList;exact call_list_seq p (.inl rfl) ho hc hd (fun h' c' kp e=>fin its r' hz h' c' kp e) (by simp only [Em] <;> lia)
 ·obtain ⟨its,r',pl,hz⟩:=I.tuple hq;have hlen:=r'.length;obtain ⟨o,ho,hc,n,hd⟩:=pl;exact call_list_seq p (.inr rfl) ho hc hd (fun h' c' kp e=>fin its r' hz h' c' kp e) (by simp only [Em] <;> lia)
theorem rM:m9 X (.type "tuple") (fun xs H Q=>∃ p ys,xs=[.ref p]/\((Fl X.K H p ys/\∀ l,H l=Go->Q (.ref l) (Cd H l (.tup ys)))\/(G7 X.K H p ys/\Q (.ref p) H))):=by
 intro pins s σ H xs us Q I r h;obtain ⟨p,ys,rfl,h⟩:=h;obtain ⟨u,rfl,rx⟩:=vals1 r;cases rx;rcases h with ⟨hq,q⟩ | ⟨hq,q⟩
 ·obtain ⟨its,r',pl,hz⟩:=I.list hq;have hlen:=r'.length;refine call_tuple_list pl.isList (fun h' kp=>?_) (by simp only [Em] <;> lia);have I1:BZ X pins σ H { s with heap:=h' }:=I.kept (t':=s.toks) kp;have I2:BZ X pins σ (Cd H h'.objs.size (.tup ys)) { s with heap:=h'.push { cls:=.type "tuple",data:=.seq its.toArray } }:=
   I1.laid (t':=s.toks) (fun b o e=>Dm _ e) (Dp _) (show gJ X.prog X.w _ _ _ (.tup ys) from ⟨hz,its,r',Kz.new _ _⟩)
  exact ⟨.ref h'.objs.size,_,I2,rfl,q _<|I1.hok.fresh<|Dp _⟩
 ·obtain ⟨its,r',pl,hz⟩:=I.tuple hq;exact call_tuple_same pl ⟨.ref p,H,I,rfl,q⟩
def tyV (K:Bs)(T:String)(x:V)(H:Hp):Prop:=match x with
 | .str _=>T = "str"
 | .int _=>T = "int"
 | .ref p=>(T = "list"/\∃ xs,Fl K H p xs)\/(T = "tuple"/\∃ o,K.lookup p=Dn o/\o.cls=.type "tuple"/\o.dict=Go) \/
   (T = "dict"/\((∃ kvs,H p=Dn (.dK kvs))\/∃ kvs,H p=Dn (.dT kvs)))\/(T = "set"/\∃ S n,H p=Dn (.set S n))
 | _=>False
theorem Vd {pins:List (Addr×Obj)}{σ : St}{H:Hp}{s:kI}{T:String}{x:V}{v:JI}(I:BZ X pins σ H s)(r:RelV x v)(ty:tyV X.K T x H) :
  s.TypeIs v T/\∀ a,v=.ref a->∃ ob,s.heap.get? a=Dn ob/\ob.dict=Go:=by
 cases x with
 | str z=>
  obtain ⟨t,rfl⟩:=r;cases (show T = "str" from ty)
  exact ⟨typeIs_str s z t,fun _ e=>nomatch e⟩
 | int i=>
  obtain ⟨t,rfl⟩:=r;cases (show T = "int" from ty)
  exact ⟨typeIs_int s i t,fun _ e=>nomatch e⟩
 | ref p=>
  cases r;rcases ty with ⟨rfl,xs,hq⟩ | ⟨rfl,o,hk,hc,hd⟩ | ⟨rfl,hk⟩ | ⟨rfl,S,n,hk⟩
  ·obtain ⟨its,_,pl,_⟩:=I.list hq;refine ⟨pl.isList.typeIs,fun a e=>?_⟩;cases e;obtain ⟨o,n,e,c,hd,_⟩:=pl;exact ⟨o,e,hd⟩
  ·refine ⟨⟨o,I.kIn p o hk,hc⟩,fun a e=>?_⟩;cases e;exact ⟨o,I.kIn _ o hk,hd⟩
  ·have z:∃ o,s.heap.get? p=Dn o/\o.ExactDict:=by
    rcases hk with ⟨kvs,hk⟩ | ⟨kvs,hk⟩
    ·obtain ⟨_,_,_,_,o,_,_,e,ex,_⟩:=I.hok p _ hk;exact ⟨o,e,ex⟩
    ·obtain ⟨_,_,_,_,o,_,_,e,ex,_⟩:=I.hok p _ hk;exact ⟨o,e,ex⟩
   obtain ⟨o,e,ex⟩:=z;refine ⟨⟨o,e,ex.1⟩,fun a e2=>?_⟩;cases e2;exact ⟨o,e,ex.2.1⟩
  ·obtain ⟨o,_,_,_,e,ex,_⟩:=I.hok p _ hk;refine ⟨⟨o,e,ex.1⟩,fun a e2=>?_⟩;cases e2;exact ⟨o,e,ex.2.1⟩
 | _=>exact Ku ty
def tBM (K:Bs)(T:String)(r:V->List V->Hp->VK->Prop)(to:TE)(t:TA):TE:=fun σ H Q=>to σ H fun x H1=>tyV K T x H1/\t σ H1 fun xs H2=>r x xs H2 Q
variable {o e:Expr}{es:List Expr}{to:TE}{t:TA}{name:Str}{apos cpos:Pos}{T id:String}{r:V->List V->Hp->VK->Prop}
theorem aaR (pa:PlainAttrs T)(slot:Slot T name id)(hty:typeOf (.builtin id)=pure (.type "method_descriptor"))(hm:MtR X id r)(ho:PE X o to)(ha:PA X (e::es) t)
  (hbase:Sq o name X.env (eval o X.env)=eval o X.env:=by rfl)
  (hfew:((HB cpos (Ce (e::es) X.env)).all (fun x=>!x.1)&&(backToKw cpos (keywordEach [] X.env)).all (fun x=>x.1.isSome)
   && decide ((e::es).length+([]:List Q6).length+(if ([]:List Q6).isEmpty then 0 else 1)<30))=true:=by rfl)
  (hline:(apos.endLine==cpos.line)=true:=by rfl) (hs:Ce (e::es) X.env=(false,eval e X.env)::Ce es X.env:=by rfl) (hplain:(HB cpos (Ce es X.env)).any (·.1)=false:=by rfl) :
  PE X (.Call (.Attribute o name apos) (e::es) [] cpos) (tBM X.K T r to t):=by
 intro pins s σ H Q I h;refine wpAny_Call_method_late hbase hfew hline rfl<|DW (ho pins s σ H _ I h) fun v s1 ⟨x,H1,I1,r1,ty,q1⟩=>?_
 obtain ⟨h1,h2⟩:=Vd I1 r1 ty;refine ⟨T,id,pa,slot,hty,h1,h2,?_⟩;have hA:=ha cpos pins s1 σ H1 _ I1 q1;rw [hs] at hA |-
 refine Calls.callWith_builtin (by show (false||(HB cpos<|Ce es X.env).any (·.1))=false;rw [hplain] <;> rfl)<|Calls.evalArgs_plain ?_
 exact DW hA fun us s2 ⟨vs,H2,I2,r2,q2⟩=>hm pins s2 σ H2 x vs v us Q I2 r1 r2 q2
/- xs.append(e), list.index on a module's tuple .. are MtR facts of 06m -/
end
def MtM (X:Cx)(id:String)(r:V->List V->Hp->VK->Prop):Prop:=
 ∀ (pins:List (Addr×Obj)) (s:kI) (σ : St) (H:Hp) (x:V) (xs:List V) (v:JI) (us:List JI) (Q:VK),BZ X pins σ H s->RelV x v->CJ xs us->r x xs H Q ->
  Bu (Bx X.prog X.w) X.A (call (.builtin id) (v::us)) (EP X pins σ Q) X.xe s
theorem CJ.one:∀ {x:V} {us:List JI},CJ [x] us->∃ u,us=[u]/\RelV x u
 | _,_,.cons r .nil=>⟨_,rfl,r⟩
section
variable {X:Cx}{pins:List (Addr×Obj)}{σ : St}{H:Hp}{s:kI}{l b:Addr}{xs ys zs:List V}
theorem BZ.lset {its its':List JI}{n:Nat}{f:Array JI->Array JI}{t':Nat}(I:BZ X pins σ H s)(hH:H l=Dn (.lst xs))
  (e:s.heap.get? l=Dn { cls:=.type "list",data:=.seq its.toArray n }) (hf:f its.toArray=its'.toArray) (hv:CJ ys its') (hz:ys.length<=Dk) :
  BZ X pins σ (Cd H l (.lst ys)) { s with heap:=s.heap.update l (Obj.mapSeq f),toks:=t' }:=by
 have q:=PySem.IsL.update e f;rw [hf] at q;refine I.write (x:=l) (e:=l) (by rw [hH];exact trivial) (.inl rfl) (fun b' u hb hu=>(Ld s.heap (Obj.mapSeq f)<|Eu hb).trans hu) ⟨_,q⟩ ?_;exact ⟨hz,its',_,hv,q⟩
theorem BZ.lnew {its:List JI}{t':Nat}(I:BZ X pins σ H s)(hv:CJ ys its)(hz:ys.length<=Dk) :
  BZ X pins σ (Cd H s.heap.objs.size (.lst ys)) { s with heap:=s.heap.push { cls:=.type "list",data:=.seq its.toArray },toks:=t' }:=
 I.laid (fun _ _ q=>Dm _ q) (Dp _) ⟨hz,its,0,hv,HD _ rfl⟩
theorem BZ.fresh (I:BZ X pins σ H s):H s.heap.objs.size=Go:=I.hok.fresh (Dp _)
theorem BZ.lstM (I:BZ X pins σ H s)(hH:H l=Dn (.lst xs)):xs.length<=Dk/\∃ (its:List JI) (n:Nat),CJ xs its/\xs.length=its.length/\s.heap.get? l=Dn { cls:=.type "list",data:=.seq its.toArray n }:=by
 obtain ⟨z,its,n,r,e⟩:=I.hok l _ hH;exact ⟨z,its,n,r,r.length,e⟩
theorem zbu {n:Nat}(h:n<=Dk):Builtin.List.listTooLong n=false:=by
 unfold Builtin.List.listTooLong;exact decide_eq_false<|by lia
end
section
variable {X:Cx}
def Ju:V->List V->Hp->VK->Prop:=fun x vs H Q=>∃ l xs y,x=.ref l/\vs=[y]/\H l=Dn (.lst xs)/\xs.length<Dk/\Q .non (Cd H l (.lst (xs++[y])))
theorem uF:MtM X "list.append" Ju:=by
 intro pins s σ H x vs v us Q I rx rv h;obtain ⟨l,xs,y,rfl,rfl,hH,hz,q⟩:=h;cases rx;obtain ⟨u,rfl,ru⟩:=rv.one;obtain ⟨z,its,n,r,hl,e⟩:=I.lstM hH;refine call_meets F.slot_list_append ⟨_,e,rfl⟩ F.entry_list_append (F.args_list_append_2 _ _) (PySem.list_append l its.toArray n u (by rw [Em];lia)) ⟨e,?_⟩;refine ⟨.non,_,I.lset (its':=its++[u]) hH e (by simp) (r.append<|.cons ru .nil) ?_,rfl,q⟩;rw [Lr,List.length_singleton];lia
def JH:V->List V->Hp->VK->Prop:=fun x vs H Q=>∃ l b xs zs,x=.ref l/\vs=[.ref b]/\H l=Dn (.lst xs)/\H b=Dn (.lst zs)/\xs.length+zs.length<=Dk/\Q .non (Cd H l (.lst (xs++zs)))
theorem zay:MtM X "list.extend" JH:=by
 intro pins s σ H x vs v us Q I rx rv h;obtain ⟨l,b,xs,zs,rfl,rfl,hH,hB,hz,q⟩:=h;cases rx;obtain ⟨u,rfl,ru⟩:=rv.one;cases ru;obtain ⟨z,its,n,r,hl,e⟩:=I.lstM hH;obtain ⟨z2,its2,n2,r2,hl2,e2⟩:=I.lstM hB;have hsz:its.toArray.size+its2.toArray.size<=Dk:=by rw [Em,Em];lia
 have hlong:¬ (!its.toArray.isEmpty&&Builtin.List.listTooLong (its.toArray.size+its2.toArray.size))=true:=by
  rw [zbu hsz,Ua];exact Hi
 refine call_meets F.slot_list_extend ⟨_,e,rfl⟩ F.entry_list_extend (F.args_list_extend_2 _ _)
  (AutoSeq1.list_extend_list_list_0 l its.toArray n b its2.toArray n2 hlong (by rw [Em];lia) (by lia)) ⟨e,e2,?_⟩
 refine ⟨.non,_,I.lset (its':=its++its2) hH e (by simp) (r.append r2) ?_,rfl,q⟩;rw [Lr];lia
def adk:R2:=fun x y H Q=>∃ l b xs zs,x=.ref l/\y=.ref b/\H l=Dn (.lst xs)/\H b=Dn (.lst zs)/\xs.length+zs.length<=Dk/\∀ p,H p=Go->Q (.ref p) (Cd H p (.lst (xs++zs)))
theorem Wd:Ho X (KH .Add) adk:=by
 intro pins s σ H x y v u Q I rx ry h;obtain ⟨l,b,xs,zs,rfl,rfl,hH,hB,hz,q⟩:=h;cases rx;cases ry;obtain ⟨z,its,n,r,hl,e⟩:=I.lstM hH;obtain ⟨z2,its2,n2,r2,hl2,e2⟩:=I.lstM hB;refine PySem.P.add_list e e2 ?_ (by rw [Em,Em];lia);have ea:its.toArray++its2.toArray=(its++its2).toArray:=by simp
 rw [ea];exact ⟨.ref _,_,I.lnew (t':=s.toks) (r.append r2) (by rw [Lr];lia),rfl,q _ I.fresh⟩
end
section
variable {prog:CR}{w:CQ}{A:CT}{E:JI->kI->Prop}{s:kI}
end
section
variable {X:Cx}
end
end L2
namespace Att
open PySem PySem.W PySem.Calls PyProof.Rows
theorem oV {P:Params}{h:Heap}:∀ (ns:List Int) (vs:List JI),WellAll P h vs (ns.map WData.int)->IntsAre vs ns:=by
 intro ns;induction ns with
 | nil=>
  intro vs w;rw [List.map_nil] at w;cases w;exact .nil
 | cons n ns ih=>
  intro vs w;rw [K7] at w;cases w with
  | cons a b=>
   cases a;exact .cons _ _<|ih _ b
theorem zba {l:OpenLaw}{n:Nat}(hn:l.most=Dn n){P:Params}{h:Heap}{args:List WData}{vals:List JI}
  (hpre:l.row.toRowW.claim.pre args=true) (hwl:WellAll P h vals args) :
  ∃ a vs ns,vals=[Value.ref a]/\args=[WData.list (ns.map WData.int)]/\h.get? a=Dn { cls:=.type "list",data:=.seq vs.toArray }/\IntsAre vs ns/\ns.length<=n:=by
 have hsh:WShape.hasAll [] args [.list .int]=true:=(pre_splitW hpre).1;have hc:l.pre.holds [] { args:=args }=true:=(pre_splitW hpre).2;obtain ⟨d,r,rfl,h1,h2⟩:=hasAllW_cons hsh;obtain rfl:=hasAllW_nil h2;obtain ⟨xs,rfl,h3⟩:=hasW_list h1;obtain ⟨ns,rfl⟩:=items_int h3;have hlen:ns.length<=n:=by
  unfold OpenLaw.pre at hc;have h4:(WTm.not (.lt (.lit (.int (n:Int))) (.len (.arg 0)))).holds [] { args:=[.list (ns.map .int)] }=true:=by
   have h4:=(holds_andW hc).1;rw [hn] at h4;exact h4
  have h5:=condW_of h4 (w_not (w_lt w_lit (w_len_list (w_arg rfl))));rw [Eh] at h5;refine Nat.le_of_not_lt fun q=>?_;have q':(n:Int)<((ns.length:Nat):Int):=by lia
  first
   | (rw [decide_eq_true q'] at h5;exact absurd h5 (by decide))
   | (simp at h5;lia)
 cases hwl with
 | cons w1 w2=>
  cases w2;cases w1 with
  | list ho hall=>exact ⟨_,_,ns,rfl,rfl,ho,oV ns _ hall,hlen⟩
theorem zaF (l:OpenLaw)(args:List WData):l.row.toRowW.claim.post args (.bool true) args=true:=
 postW_of (r:=l.row.toRowW) (X:=(true==true))
  (show WShape.has [] (.bool true) .bool=true by first | rfl | decide | simp [WShape.has,WShape.arms,WShape.armsAll])
  (show (WTm.eq .res (.lit (.bool true))).value [] { args:=args,res:=Dn (.bool true),after:=args }=Dn (.bool (true==true)) from w_eq_bool (w_res rfl) w_lit) rfl
theorem xG {l:OpenLaw}{n:Nat}{q:CR}{loose:List Str}{XP:(Str->Option JI)->Heap->Prop}{YP:CQ->Heap->Prop}{d:DefRec}
  (hn:l.most=Dn n) (hdf:d.params.defaults=[])
  (call:∀ (w:CQ) (s₀ s₁ : kI) (mg mb:Str->Option JI) (fa:Addr) (o:Obj) (pm cd doc:JI) (a:Addr) (vs:List JI) (ns:List Int),
   Ground q loose [] XP w s₀ mg mb s₁.heap->YP w s₁.heap ->
   s₁.heap.get? fa=Dn o->o.data=.func (docDef d.name d.params d.body d.scope pm cd doc)->s₁.heap.CodeRec cd d.name->mg d.name=Dn (.ref fa) ->
   s₁.heap.get? a=Dn { cls:=.type "list",data:=.seq vs.toArray }->IntsAre vs ns->ns.length<=n->s₁.gens = #[] ->
   Mi (Bx l.prog w) callerA (.call (.ref fa) ⟨[.ref a],[]⟩) (fun r s'=>r=.ok (.ret (.bool true))/\OldK s₁.heap s'.heap/\s'.os=s₁.os/\Q0 s'.gens) s₁) :
  WalkO q loose XP YP l.row.toRowW d [] (fun f vs=>PySem.call f vs):=by
 intro w s₀ s₁ mg mb G Y fa o pm cd doc dV kV ho hd hcd hD hmg hg args vals as hpre hlay hrd hwl hlo;obtain rfl:dV=.none:=Dflts.none hD hdf;obtain rfl:kV=.none:=Dflts.noKw hD;obtain ⟨a,vs,ns,rfl,rfl,hobj,hints,hlen⟩:=zba hn hpre hwl;refine enter_call<|RT (call w s₀ s₁ mg mb fa o pm cd doc a vs ns G Y ho (fd_plain hd) hcd hmg hobj hints hlen hg) fun r s' hq=>?_
 obtain ⟨rfl,h2,h3,h4⟩:=hq;exact ⟨.inl ⟨.bool true,.bool true,[],rfl,fun _=>rfl,.bool true,zaF l _,fun _=>⟨List.Pairwise.nil,fun _ hm=>(nomatch hm)⟩⟩,h2,h3,h4⟩
section
variable {prog:CR}{w:CQ}{A:CT}{E:JI->kI->Prop}{s:kI}{K:Frag}
def ledger (h:Heap)(L d:Addr):List (Addr×Obj):=(Jo h.objs.size).filterMap fun a=>if a=L\/a=d then Go else (h.get? a).map fun o=>(a,o)
end
end Att
namespace L2
open PySem PySem.Spec PyProof.Rows
theorem uN:∀ {vs:List JI} {ns:List Int},IntsAre vs ns->CJ (ns.map V.int) vs
 | _,_,.nil=>.nil
 | _,_,.cons n t h=>.cons ⟨t,rfl⟩ (uN h)
def Only (H:Hp):Prop:=∀ b,H b=Go\/∃ o xs,H b=Dn (.frz o (.lst xs))
theorem afe {P:CR}{w:CQ}{K:Bs}{mg mb:Str->Option JI}{CX:Lw}{k:Nat}{fa a:Addr}{fd:Ib}{x:Str}{sp:Sp}{s₁ : kI}{vs:List JI}{ns:List Int}
  (KX:K.In s₁.heap) (hns:s₁.heap.Ns Fg mg) (hb:s₁.heap.Ns builtinsNs mb) (hbb:∀ x:Str,x ≠ "__name__"->mb x=Qo x) (hlim:s₁.heap.NoLimit) (hg:s₁.gens = #[])
  (ha:s₁.heap.get? a=Dn { cls:=.type "list",data:=.seq vs.toArray }) (hi:IntsAre vs ns) (hl:ns.length<=Dk) (hr:fP k callerA)
  (F:∀ base:Heap,K.In base->base.Ns Fg mg->iW P w K mg base CX k fa fd [x] sp) (hbind:∀ (s:kI) (u:JI),BindsTo s fd ⟨[u],[]⟩ [(x,u)])
  (hsp:∀ H:Hp,Only H->Fl K H a (ns.map V.int)->sp [.ref a] H (fun v _=>v=.bl true) fun _ _ _=>False)
  (hCX:∀ H e s',CX [] H s₁ (fun _ _ _=>False) e s'->False) :
  Mi (Bx P w) callerA (.call (.ref fa) ⟨[.ref a],[]⟩) (fun r s'=>r=.ok (.ret (.bool true))/\OldK s₁.heap s'.heap/\s'.os=s₁.os/\Q0 s'.gens) s₁:=by
 have rv:=uN hi;have lenV:=hi.length
 -- from an abstract heap in which nothing but the script may be tracked
 have core:∀ H:Hp,Only H->Fl K H a (ns.map V.int)->HS P w H s₁.heap->(∀ b,H b≠Go->b=a)->(H a≠Go->K.lookup a=Go) ->
   Mi (Bx P w) callerA (.call (.ref fa) ⟨[.ref a],[]⟩) (fun r s'=>r=.ok (.ret (.bool true))/\OldK s₁.heap s'.heap/\s'.os=s₁.os/\Q0 s'.gens) s₁:=by
  intro H hO hS hok hA hK;have base_of:∀ {b:Addr} {o:Obj},s₁.heap.get? b=Dn o->H b=Go->(Ky s₁.heap H).get? b=Dn o:=fun e n=>zbs e n
  have noA:∀ {b:Addr} {o:Obj} {es:Array DictEntry} {ep:Nat},s₁.heap.get? b=Dn o->o.data=.dict es ep->H b=Go:=fun {b o es ep} e d=>by
   cases q:H b with
   | none=>rfl
   | some u=>
    have e':b=a:=hA b (by rw [q];simp);subst e';rw [ha] at e;cases e;have d':Data.seq vs.toArray _=Data.dict es ep:=d;cases d'
  have nsK:∀ {b:Addr} {m:Str->Option JI},s₁.heap.Ns b m->(Ky s₁.heap H).Ns b m:=fun {b m} ⟨o,es,ep,e,d,r⟩=>⟨o,es,ep,base_of e (noA e d),d,r⟩
  have hKb:K.In (Ky s₁.heap H):=fun b o e=>base_of (KX b o e) (by
   cases q:H b with
   | none=>rfl
   | some u=>
    have e':b=a:=hA b (by rw [q];simp);subst e';rw [hK (by rw [q];simp)] at e;cases e)
  have hM:Mod K mg (Ky s₁.heap H):=⟨hKb,nsK hns,⟨mb,nsK hb,hbb⟩,let ⟨mc,h1,h2⟩:=hlim;⟨mc,nsK h1,h2⟩⟩
  have e0:Rp P w K mg (Ky s₁.heap H) callerA [] s₁ H:=⟨rfl,hM,fun b o e=>ahf e,Nat.le_of_eq (aec _ _),trivial,fun b hb=>absurd (show b∈([]:List Addr) from hb) (by simp),hok,.of_eq hg,fun v e=>(nomatch e)⟩
  refine RT ((F _ hKb<|nsK hns).run callerA [] s₁ H ⟨[.ref a],[]⟩ [.ref a] [.ref a] _ _ hr e0 (hbind s₁<|.ref a) (.cons rfl .nil) (hsp H hO hS)) fun r s' h=>?_;cases r with
  | error e=>exact (hCX H e s' h).elim
  | ok fl=>
   cases fl with
   | next=>exact Ku h
   | brk=>exact Ku h
   | cont=>exact Ku h
   | ret u=>
    obtain ⟨v,H',os,bare,un,hok',r',q⟩:=h;have q':v=.bl true:=q;subst q';obtain rfl:u=Value.bool true:=r';refine ⟨rfl,OldK.of_keep fun b o e=>?_,os,bare⟩;cases q:H b with
    | none=>exact un.keep b o e q (by intro z;exact absurd (show b∈([]:List Addr) from z) (by simp)) (by simp)
    | some u=>
     rcases hO b with z | ⟨ob,xs,z⟩
     ·rw [q] at z;cases z
     ·have z2:=un.frzs b ob _ z;obtain ⟨e1,_⟩:=hok b _ z;obtain ⟨e2,_⟩:=hok' b _ z2;rw [e] at e1;cases e1;exact e2
 cases hk:K.lookup a with
 | some o=>
  -- the script is one of the module's own objects
  have e:=KX a o hk;rw [ha] at e;cases e;refine core (fun _=>Go) (fun _=>.inl rfl) (.inr ⟨_,vs.toArray,_,hk,rfl,rfl,rfl,by rw [Em,lenV];exact hl,by simpa using rv⟩) (fun b u z=>by have z':(Go:Option HO)=Dn u:=z;cases z') (fun b z=>absurd rfl z) fun z=>absurd rfl z
 | none=>
  refine core (fun b=>if b=a then Dn (.frz { cls:=.type "list",data:=.seq vs.toArray } (.lst<|ns.map V.int)) else Go) (fun b=>?_) (.inl<|.inr ⟨{ cls:=.type "list",data:=.seq vs.toArray },if_pos rfl⟩) (fun b u z=>?_) (fun b z=>?_) fun _=>hk
  ·by_cases hb:b=a
   ·exact .inr ⟨_,_,if_pos hb⟩
   ·exact .inl<|if_neg hb
  ·by_cases hb:b=a
   ·have z':=(if_pos hb).symm.trans z;cases z'
    subst hb;exact ⟨ha,by rw [Eh];exact hl,vs,_,rv,ha⟩
   ·have z':=(if_neg hb).symm.trans z;cases z'
  ·by_cases hb:b=a
   ·exact hb
   ·exact absurd (if_neg hb) z
theorem En {l:PySem.W.OpenLaw}{n k:Nat}{q:CR}{loose:List Str}{XP:(Str->Option JI)->Heap->Prop}{YP:CQ->Heap->Prop}{d:DefRec}{K:Params->Bs}{CX:CQ->Lw}{sp:CQ->Sp}{x:Str}
  (hn:l.most=Dn n) (hn2:n<=Dk) (hdf:d.params.defaults=[]) (hr:fP k callerA)
  (hY:∀ (w:CQ) (h:Heap),YP w h->(K w.params).In h)
  (F:∀ (w:CQ) (mg:Str->Option JI) (fa:Addr) (h:Heap),(K w.params).In h->h.Ns Fg mg->mg d.name=Dn (.ref fa) ->
   ∃ fd:Ib,(∀ (s:kI) (u:JI),BindsTo s fd ⟨[u],[]⟩ [(x,u)]) /\
    ∀ base:Heap,(K w.params).In base->base.Ns Fg mg->iW l.prog w (K w.params) mg base (CX w) k fa fd [x] (sp w))
  (hsp:∀ (w:CQ) (H:Hp) (a:Addr) (ns:List Int),ns.length<=n->Only H->Fl (K w.params) H a (ns.map V.int)->sp w [.ref a] H (fun v _=>v=.bl true) fun _ _ _=>False)
  (hCX:∀ (w:CQ) (H:Hp) (s:kI) (e:JI) (s':kI),CX w [] H s (fun _ _ _=>False) e s'->False) :
  PySem.W.WalkO q loose XP YP l.row.toRowW d [] (fun f vs=>PySem.call f vs):=by
 refine Att.xG hn hdf fun w s₀ s₁ mg mb fa o pm cd doc a vs ns G Y ho hd hcd hmg hobj hints hlen hg=>?_;have KX:=hY w _ Y;obtain ⟨fd,hb,hF⟩:=F w mg fa _ KX G.T.g hmg;exact afe KX G.T.g G.T.b G.T.builtins G.T.nolimit hg hobj hints (GK hlen hn2) hr hF hb (fun H hO hS=>hsp w H a ns hlen hO hS) fun H e s'=>hCX w H s₁ e s'
end L2
/- THE LAST THEOREM (shape; LID, My.* are yours):
   My.Adr: a structure of the addresses that your layer names (classes,functions);My.Txt K t: a structure (Prop) of the equations over K;
   My.txt_mk:{K} {implicit addresses ..} (e1:nsIn K Fg "law" = Dn (Dn (.ref f))) (e2:K.lookup f=Dn ⟨oc,od,.func (fnOf "law" "law" params body scope dV kV doc pm an cdv ct),sl⟩) (e3:codeIn K cdv "law" = true) .. : ∃ t,My.Txt K t
theorem PySem.Challenge.cw_LID_holds : PySem.Challenge.rw_LID.Holds := by
 w_on;o_law;k_head;(case hw=>w_witness2)
 k_fill
 refine L2.En (l:=PySem.Challenge.rw_LID) (n:=63) (k:=40) (x := "script") (CX:=fun w=>..) (sp:=fun _=>My.sp_law) rfl (by decide) rfl ⟨rfl,by decide,by decide⟩ (fun w h Y=>PySem.W.kIn_of Y) ?F ?S ?C
 case F=>
  intro w mg fa h KX G hmg;have T:∃ t,My.Txt (L2.KOf KX) t:=by
   dsimp only [L2.KOf]                          -- K must stand as «<heap const> w.params» for k_is;refine' My.txt_mk ?e1 ?e2 ?e3 ..
   (case e1=>PySem.W.k_is)                    -- in the order: a name -> its address -> its object -> its parts
   (case e2=>PySem.W.k_is)
   ..
  obtain ⟨t,T⟩:=T;have e0:=hmg.symm.trans (MF KX G T.law);cases e0                                       -- fa is the law's own address
  exact ⟨_,fun s u=>.of_eq rfl,fun base kb nb=>My.law_fn T kb nb⟩     -- if «.of_eq rfl» comes too early: refine' ⟨_,?b,fun base kb nb=>My.law_fn T kb nb⟩;exact fun s u=>.of_eq rfl
 case S=>exact fun w H a ns hl hO hS=>..
 case C=>exact ..
(the tactic k_is has no namespace: write k_is) -/
namespace L2
open PySem PySem.Spec PyProof.Rows
def jF (s:Stmt):Arguments:=match s with
 | .FunctionDef _ a _ _ _ _ _ _ _ _=>a
 | _=>{ posonlyargs:=[],args:=[],vararg:=Go,kwonlyargs:=[],kw_defaults:=[],kwarg:=Go,defaults:=[] }
def cL (s:Stmt):List Stmt:=match s with
 | .FunctionDef _ _ b _ _ _ _ _ _ _=>b
 | _=>[]
def aQ (s:Stmt):Scope:=match s with
 | .FunctionDef _ _ _ _ _ _ sc _ _ _=>sc
 | _=>{ kind:=.function,names:=[],isGenerator:=false,isCoroutine:=false }
abbrev Jj:Lw:=fun _ _ _ _ _ _=>False
abbrev E0:XK:=fun _ _ _=>False
theorem QV {X:Cx}:Passes Jj X E0:=fun _ _ _ _ _ _ _ h=>h.elim
structure Pj (K:Bs) (x qual:Str) (st:Stmt) (f:Addr) (fd:Ib):Prop where
 ex:∃ (oc:JI) (od:Option Addr) (kV doc pm:JI) (an:Option Addr) (cdv ct:JI) (osl:Array (Option JI)),
  fd=R8 x qual (jF st) (cL st) (aQ st) .none kV doc pm an cdv ct/\K.lookup f=Dn ⟨oc,od,.func fd,osl⟩/\Tg K cdv qual=true
 kp:Lp K (.ref f)=true
section
variable {P:CR}{w:CQ}{K:Bs}{mg:Str->Option JI}{base:Heap}
theorem Pj.ok {x qual:Str}{st:Stmt}{f:Addr}{fd:Ib}{N ps:List Str}{k:Nat}{sp:Sp}(F:Pj K x qual st f fd)(S:eX N ps (aQ st))(len:∀ vs H Q E,sp vs H Q E->vs.length=ps.length)
  (hbody:∀ (cdv:JI) (A:CT) (outer:List Env) (s:kI) (H:Hp) (vs:List V) (Q:VK) (E:XK),fP k (A.deeper (M4 qual (aQ st) s.heap.objs.size f cdv))->sp vs H Q E ->
   ∃ t,KQ (BX Jj P w K mg base N qual (aQ st) f cdv A outer s H E).nox (cL st) t/\t { nx:=fun _ H'=>Q .non H',rt:=Q } (start N vs) H):iW P w K mg base Jj (k+1) f fd ps sp:=by
 obtain ⟨oc,od,kV,doc,pm,an,cdv,ct,osl,rfl,lk,hcd⟩:=F.ex;refine Vo lk hcd S len fun A outer s H vs Q E hr hsp=>?_;obtain ⟨t,h,q⟩:=hbody cdv A outer s H vs Q E hr hsp;exact ⟨t,h.nox,q⟩
theorem Pj.binds {x qual:Str}{st:Stmt}{f:Addr}{fd:Ib}{ps:List Str}(F:Pj K x qual st f fd)
  (h:∀ (kV doc pm:JI) (an:Option Addr) (cdv ct:JI) (us:List JI),us.length=ps.length->bindArgs (R8 x qual (jF st) (cL st) (aQ st) .none kV doc pm an cdv ct) ⟨us,[]⟩=pure (ps.zip us)):Binds K fd ps []:=by
 obtain ⟨oc,od,kV,doc,pm,an,cdv,ct,osl,rfl,lk,hcd⟩:=F.ex;exact .all<|h kV doc pm an cdv ct
theorem zV {x qual:Str}{st:Stmt}{f:Addr}{oc:JI}{od an:Option Addr}{osl:Array (Option JI)}{kV doc pm cdv ct:JI}(l:K.lookup f=Dn ⟨oc,od,.func (R8 x qual (jF st) (cL st) (aQ st) .none kV doc pm an cdv ct),osl⟩)
  (c:Tg K cdv qual=true) (k:Lp K (.ref f)=true):Pj K x qual st f (R8 x qual (jF st) (cL st) (aQ st) .none kV doc pm an cdv ct):=⟨⟨oc,od,kV,doc,pm,an,cdv,ct,osl,rfl,l,c⟩,k⟩
end
section
variable {X:Cx}
theorem pv (i:Nat){x:Str}{pos:Pos}(hN:X.N[i]?=Dn x:=by rfl)(hv:Vis X.env.scope x:=by first | exact Or.inl rfl | exact Or.inr (Or.inl rfl) | exact Or.inr (Or.inr rfl))(hd:(x==("__debug__" : Str))=false:=by decide)
  (hcd:(x==("__classdict__" : Str))=false:=by decide):PE X (.Name x pos) (Zr i):=XQ hN hv hd hcd
end
def QG (env:Env):List (Str×J8)->List (Str×Addr)->List (Str×Addr)
 | [],cs=>cs
 | (n,k)::r,cs=>QG env r (if (k==NameKind.free)=true then (n,(env.cells.lookup n).getD 0)::cs else cs)
def NT (scope:Scope)(env:Env):List (Str×Addr):=QG env scope.names []
theorem sV {env:Env}{p:Str×Addr}:∀ (l:List (Str×J8)) (cs:List (Str×Addr)),p∈QG env l cs->p∈cs\/((p.1,NameKind.free)∈l/\p.2=(env.cells.lookup p.1).getD 0)
 | [],cs,h=>.inl h
 | (n,k)::r,cs,h=>by
  rcases sV r _ h with h | ⟨h1,h2⟩
  ·by_cases hk:(k==NameKind.free)=true
   ·rw [if_pos hk] at h;rcases Cr.mp h with rfl | h
    ·have e:k=NameKind.free:=by simpa using hk
     subst e;exact .inr ⟨LR,rfl⟩
    ·exact .inl h
   ·rw [if_neg hk] at h;exact .inl h
  ·exact .inr ⟨Kw _ h1,h2⟩
theorem zO {env:Env}{x:Str}:∀ (l:List (Str×J8)) (cs:List (Str×Addr)),((x,NameKind.free)∈l\/∃ c,(x,c)∈cs)->∃ c,(x,c)∈QG env l cs
 | [],cs,h=>by
  rcases h with h | h
  ·exact absurd h<|by simp
  ·exact h
 | (n,k)::r,cs,h=>by
  refine zO r _ ?_;rcases h with h | ⟨c,h⟩
  ·rcases Cr.mp h with e | h
   ·injection e with e1 e2
    subst e1;subst e2;exact .inr ⟨_,by rw [if_pos<|by rfl];exact LR⟩
   ·exact .inl h
  ·refine .inr ⟨c,?_⟩;by_cases hk:(k==NameKind.free)=true
   ·rw [if_pos hk];exact Kw _ h
   ·rw [if_neg hk];exact h
theorem gq {x:Str}{c:Addr}:∀ {l:List (Str×Addr)},(x,c)∈l->∃ c',l.lookup x=Dn c'
 | [],h=>absurd h (by simp)
 | (n,d)::r,h=>by
  by_cases e:x=n
  ·subst e;exact ⟨d,by simp [Jc]⟩
  ·rcases Cr.mp h with q | q
   ·injection q with q1 _
    exact absurd q1 e
   ·obtain ⟨c',h'⟩:=gq q;refine ⟨c',?_⟩;have e':(x==n)=false:=beq_eq_false_iff_ne.mpr e;rw [Jc,e'];exact h'
theorem HY {scope:Scope}{env:Env}(h:∀ y∈scope.names,y.2=NameKind.free->∃ c,env.cells.lookup y.1=Dn c):closureFor scope env=pure (NT scope env):=by
 unfold closureFor NT;have key:∀ (l:List (Str×J8)) (cs:List (Str×Addr)),(∀ y∈l,y.2=NameKind.free->∃ c,env.cells.lookup y.1=Dn c) ->
   (forIn l cs (fun (x:Str×J8) (cs:List (Str×Addr))=>(if (x.2==NameKind.free)=true then cellOf env x.1 >>= fun c=>pure (ForInStep.yield ((x.1,c)::cs)) else pure (ForInStep.yield cs):Sem (ForInStep (List (Str×Addr))))))=pure (QG env l cs):=by
  intro l;induction l with
  | nil=>intro cs _;rfl
  | cons x r ih=>
   intro cs hl;obtain ⟨n,k⟩:=x;rw [Tn];have hr:∀ y∈r,y.2=NameKind.free->∃ c,env.cells.lookup y.1=Dn c:=fun y hy=>hl y (Kw _ hy)
   by_cases hk:(k==NameKind.free)=true
   ·obtain ⟨c,hc⟩:=hl (n,k) LR (by simpa using hk);have hc':env.cells.lookup n=Dn c:=hc;have e1:cellOf env n=pure c:=by unfold cellOf;rw [hc']
    simp only [hk,if_true,e1,pure_bind];rw [ih _ hr];simp only [QG,hk,if_true,hc',Us]
   ·simp only [hk,if_false,pure_bind,Kv];rw [ih _ hr];simp only [QG,hk,if_false,Kv]
 have q:=key scope.names [] h
 simpa using q
theorem gQ {y:Str}{c:Addr}:∀ {names:List (Str×J8)} {n:Nat} {acc:List (Str×Addr)},(y,c)∈HX n names acc↔(y,c)∈acc\/(y,c)∈HX n names []
 | [],n,acc=>by simp [HX]
 | (name,kind)::r,n,acc=>by
  unfold HX;split
  ·rw [gQ (acc:=(name,n)::acc),gQ (acc:=[(name,n)])];simp only [Cr,Dl,or_false];exact ⟨fun h=>h.elim (fun h=>h.elim (fun h=>.inr<|.inl h) .inl) fun h=>.inr<|.inr h,fun h=>h.elim (fun h=>.inl<|.inr h) fun h=>h.elim (fun h=>.inl<|.inl h) .inr⟩
  ·exact gQ
theorem yJ {y:Str}{c:Addr}:∀ {names:List (Str×J8)} {n:Nat},(y,c)∈HX n names []->(y,NameKind.cell)∈names
 | [],n,h=>by simp [HX] at h
 | (name,kind)::r,n,h=>by
  unfold HX at h;split at h
  ·rename_i hk;rcases gQ.mp h with q | q
   ·have hk':kind=.cell:=by simpa using hk
    simp only [Cr,Dl,or_false,Td] at q;rw [q.1,hk'];exact LR
   ·exact Kw _<|yJ q
  ·exact Kw _<|yJ h
theorem G8 {y:Str}:∀ {names:List (Str×J8)} {n:Nat},(y,NameKind.cell)∈names->∃ c,(y,c)∈HX n names []
 | [],n,h=>by simp at h
 | (name,kind)::r,n,h=>by
  unfold HX;rcases Cr.mp h with q | q
  ·cases q;rw [if_pos (by rfl)];exact ⟨n,gQ.mpr<|.inl LR⟩
  ·split
   ·obtain ⟨c,hc⟩:=G8 (n:=n+1) q;exact ⟨c,gQ.mpr<|.inr hc⟩
   ·exact G8 q
theorem W8 {h:Heap}{names:List (Str×J8)}{y:Str}{c:Addr}(e:(y,c)∈HX h.objs.size names []):(pushCells h names).IsCell c Go/\h.objs.size<=c:=
 (cellsFrom_ok names h h.objs.size [] ⟨fun _ _ z=>by simp at z,List.Pairwise.nil⟩ (Dp _)).empty y c e
theorem afu {n:Nat}{names:List (Str×J8)}{y z:Str}{c:Addr}(e:(y,c)∈HX n names [])(e':(z,c)∈HX n names []):y=z:=by
 have key:∀ (k:Nat),∃ h:Heap,h.objs.size=k:=fun k=>by
  induction k with
  | zero=>exact ⟨{ (default:Heap) with objs:=#[] },rfl⟩
  | succ k ih=>
   obtain ⟨h,e⟩:=ih;exact ⟨h.push { cls:=.type "cell",data:=.cell Go },by rw [Q7,e]⟩
 obtain ⟨h,rfl⟩:=key n;exact name_of_addr (cellsFrom_ok names h h.objs.size [] ⟨fun _ _ z=>by simp at z,List.Pairwise.nil⟩<|Dp _).apart e e'
theorem afp {M:Model}{A:CT}{E:JI->kI->Prop}{s:kI}{scope:Scope}{globals:Addr}{closure:List (Str×Addr)}{qual:Str}{func:Option Addr}{code:JI}{ar:Env}{builtins:Addr}{Q:Env->kI->Prop}
  (hQ:Q { scope:=scope,locals:=s.heap.objs.size,globals:=globals,cells:=HX (s.heap.objs.size+1) scope.names closure,qual:=qual,func:=func,code:=ar.code,frame:=ar.frame,builtins:=ar.builtins } { s with heap:=pushCells (s.heap.push { cls:=.type "dict",data:=.dict #[] }) scope.names }) :
  Bu M A (newFunctionEnv scope globals closure [] qual func code (Dn ar) builtins) Q E s:=by
 simp only [newFunctionEnv,Option.isSome_some,if_true];refine BL<|wpAny_alloc ?_
 refine BL<|wpAny_layCells _ (fun name kind cells=>by cases hkc:kind==NameKind.cell <;> simp [hkc]) _ _ _ _ ?_
 rw [show ({ s with heap:=s.heap.push { cls:=.type "dict",data:=.dict #[] } }:kI).heap.objs.size=s.heap.objs.size+1 from Q7 ..];rw [Ub];exact BL<|CP<|CP hQ
def blk (X:Cx)(scope:Scope)(N':List Str)(C:Addr)(s:kI)(H:Hp)(ex:List Addr):Cx where
 prog:=X.prog
 w:=X.w
 K:=X.K
 mg:=X.mg
 base:=X.base
 A:=X.A
 N:=N'
 s₀:=s
 H₀:=H
 env:=compEnvC scope (HX (C+1) scope.names (NT scope X.env)) C X.env
 outer:=X.stack
 stack:=X.stack
 ex:=ex
 fn:=fun y=>decide (scope.names.lookup y=Dn .cell)
 calm:=X.calm
 pn:=[]
 xe:=fun _ _=>False
structure gP (X:Cx) (scope:Scope) (x:List Str) (ix:List Nat):Prop where
 kind:scope.kind=.function
 own:∀ y∈x,scope.names.lookup y=Dn .local\/scope.names.lookup y=Dn .cell
 names:∀ y∈scope.names,scope.names.lookup y.1=Dn y.2
 free:∀ y∈scope.names,y.2=.free->X.env.scope.names.lookup y.1=Dn .cell\/X.env.scope.names.lookup y.1=Dn .free
 ixs:∀ i∈ix,scope.names.lookup (X.N.getD i "")=Dn .free
 nd:(x++ix.map fun i=>X.N.getD i "").Nodup
def yP:List Str->Bool
 | []=>true
 | x::r=>!(r.contains x)&&yP r
def abN (sc:Scope)(N:List Str)(scope:Scope)(x:List Str)(ix:List Nat):Bool:=
 decide (scope.kind=.function)&&x.all (fun y=>decide (scope.names.lookup y=Dn .local)||decide (scope.names.lookup y=Dn .cell)) &&
 scope.names.all (fun y=>decide (scope.names.lookup y.1=Dn y.2)) &&
 scope.names.all (fun y=>!decide (y.2=.free)||decide (sc.names.lookup y.1=Dn .cell)||decide (sc.names.lookup y.1=Dn .free)) &&
 ix.all (fun i=>decide (scope.names.lookup (N.getD i "")=Dn .free))&&yP (x++ix.map fun i=>N.getD i "")
theorem vA:∀ {l:List Str},yP l=true->l.Nodup
 | [],_=>List.nodup_nil
 | x::r,h=>by
  unfold yP at h;rw [Kf] at h;refine Lq.mpr ⟨fun hm=>?_,vA h.2⟩;have:r.contains x=true:=List.contains_iff_mem.mpr hm
  rw [this] at h;exact absurd h.1<|by decide
theorem cZ {X:Cx}{scope:Scope}{x:List Str}{ix:List Nat}(h:abN X.env.scope X.N scope x ix=true):gP X scope x ix:=by
 unfold abN at h;simp only [Kf,QS,decide_eq_true_eq,Bool.or_eq_true,TY,decide_eq_false_iff_not] at h;obtain ⟨⟨⟨⟨⟨h1,h3⟩,h4⟩,h5⟩,h6⟩,h7⟩:=h;refine ⟨h1,fun y hy=>h3 y hy,fun y hy=>h4 y hy,fun y hy hk=>?_,fun i hi=>h6 i hi,vA h7⟩
 ·rcases h5 y hy with (q | q) | q
  ·exact absurd hk q
  ·exact .inl q
  ·exact .inr q
def Hy (ix:List Nat)(σ : St):St:=ix.map fun i=>(σ[i]?).getD Go
abbrev gC (X:Cx)(x:List Str)(ix:List Nat):List Str:=x++ix.map fun i=>X.N.getD i ""
theorem fj {scope:Scope}{env:Env}{x:Str}:∀ {names:List (Str×J8)} {k:J8},
  (names.map fun (p:Str×J8)=>if (p.2==NameKind.free&&env.scope.kind==.function&&env.kindOf p.1==Dn .cell)=true then (p.1,NameKind.cell) else (p.1,p.2)).lookup x=Dn k ->
  names.lookup x=Dn k\/(k=.cell/\names.lookup x=Dn .free)
 | [],k,h=>by simp at h
 | (n,k')::r,k,h=>by
  rw [K7] at h;cases hx:x==n with
  | true=>
   by_cases hc:(k'==NameKind.free&&env.scope.kind==.function&&env.kindOf n==Dn .cell)=true
   ·rw [if_pos hc] at h;simp only [Jc,hx] at h;have hk:k'=.free:=by
     have:=(Bool.and_eq_true_iff.mp (Bool.and_eq_true_iff.mp hc).1).1
     simpa using this
    subst hk;cases h;exact .inr ⟨rfl,by simp [Jc,hx]⟩
   ·rw [if_neg hc] at h;simp only [Jc,hx] at h;cases h;exact .inl<|by simp [Jc,hx]
  | false=>
   have h':(r.map fun (p:Str×J8)=>if (p.2==NameKind.free&&env.scope.kind==.function&&env.kindOf p.1==Dn .cell)=true then (p.1,NameKind.cell) else (p.1,p.2)).lookup x=Dn k:=by
    by_cases hc:(k'==NameKind.free&&env.scope.kind==.function&&env.kindOf n==Dn .cell)=true
    ·rw [if_pos hc] at h;simpa only [Jc,hx] using h
    ·rw [if_neg hc] at h;simpa only [Jc,hx] using h
   rcases fj (scope:=scope) (env:=env) h' with q | ⟨q1,q2⟩
   ·exact .inl<|by simpa only [Jc,hx] using q
   ·exact .inr ⟨q1,by simpa only [Jc,hx] using q2⟩
theorem mH {env:Env}{x:Str}:∀ {names:List (Str×J8)},names.lookup x=Dn .free ->
  (names.map fun (p:Str×J8)=>if (p.2==NameKind.free&&env.scope.kind==.function&&env.kindOf p.1==Dn .cell)=true then (p.1,NameKind.cell) else (p.1,p.2)).lookup x=Dn .cell \/
  (names.map fun (p:Str×J8)=>if (p.2==NameKind.free&&env.scope.kind==.function&&env.kindOf p.1==Dn .cell)=true then (p.1,NameKind.cell) else (p.1,p.2)).lookup x=Dn .free
 | [],h=>by simp at h
 | (n,k')::r,h=>by
  rw [K7];cases hx:x==n with
  | true=>
   simp only [Jc,hx] at h;cases h;by_cases hc:(NameKind.free==NameKind.free&&env.scope.kind==.function&&env.kindOf n==Dn .cell)=true
   ·rw [if_pos hc];exact .inl (by simp [Jc,hx])
   ·rw [if_neg hc];exact .inr (by simp [Jc,hx])
  | false=>
   have h':r.lookup x=Dn .free:=by simpa only [Jc,hx] using h
   have ih:=mH (env:=env) h';by_cases hc:(k'==NameKind.free&&env.scope.kind==.function&&env.kindOf n==Dn .cell)=true
   ·rw [if_pos hc];simpa only [Jc,hx] using ih
   ·rw [if_neg hc];simpa only [Jc,hx] using ih
theorem mQ {env:Env}{x:Str}:∀ {names:List (Str×J8)},names.lookup x=Dn .cell ->
  (names.map fun (p:Str×J8)=>if (p.2==NameKind.free&&env.scope.kind==.function&&env.kindOf p.1==Dn .cell)=true then (p.1,NameKind.cell) else (p.1,p.2)).lookup x=Dn .cell
 | [],h=>by simp at h
 | (n,k')::r,h=>by
  rw [K7];cases hx:x==n with
  | true=>
   simp only [Jc,hx] at h;cases h;rw [if_neg (by simp)];simp [Jc,hx]
  | false=>
   have ih:=mQ (env:=env) (show r.lookup x=Dn .cell by simpa only [Jc,hx] using h);split
   ·simpa only [Jc,hx] using ih
   ·simpa only [Jc,hx] using ih
section
variable {X:Cx}{pins:List (Addr×Obj)}{σ : St}{H:Hp}{s:kI}{scope:Scope}{x:List Str}{ix:List Nat}{C:Addr}{fp:List Addr}
theorem Ie (B:gP X scope x ix){y:Str}(hy:y∈x):Loc (relabel scope X.env) y/\(decide (scope.names.lookup y=Dn .cell)=true\/(relabel scope X.env).names.lookup y=Dn .local):=by
 rcases B.own y hy with q | q
 ·have:=lookup_relabel_local (env:=X.env) q
  exact ⟨.inl this,.inr this⟩
 ·exact ⟨.inr<|mQ (env:=X.env) q,.inl<|decide_eq_true q⟩
theorem tH (I:BZ X pins σ H s)(B:gP X scope x ix):∀ y∈scope.names,y.2=NameKind.free->∃ c,X.env.cells.lookup y.1=Dn c:=fun y hy hk=>I.ok.has y.1 (B.free y hy hk)
theorem Wj (I:BZ X pins σ H s)(B:gP X scope x ix){y:Str}{c:Addr}(h:(y,c)∈NT scope X.env):X.env.cells.lookup y=Dn c:=by
 rcases sV scope.names [] h with q | ⟨q1,q2⟩
 ·exact absurd q<|by simp
 ·obtain ⟨c',e⟩:=tH I B _ q1 rfl;have e':X.env.cells.lookup y=Dn c':=e;have q2':c=(X.env.cells.lookup y).getD 0:=q2;rw [e',Us] at q2';rw [e',q2']
theorem mX (I:BZ X pins σ H s)(B:gP X scope x ix){y:Str}{c:Addr}(h:(HX (C+1) scope.names (NT scope X.env)).lookup y=Dn c):X.env.cells.lookup y=Dn c\/(y,c)∈HX (C+1) scope.names []:=
 (gQ.mp (QW h)).imp_left (Wj I B)
theorem DK {n:Nat}{names:List (Str×J8)}{y:Str}{c:Addr}(e:(y,c)∈HX n names []):n<=c:=by
 have key:∀ (names:List (Str×J8)) (n:Nat),(y,c)∈HX n names []->n<=c:=by
  intro names;induction names with
  | nil=>intro n h;simp [HX] at h
  | cons a r ih=>
   intro n h;obtain ⟨name,kind⟩:=a;unfold HX at h;split at h
   ·rcases gQ.mp h with q | q
    ·simp only [Cr,Dl,or_false,Td] at q;exact Nat.le_of_eq q.2.symm
    ·exact GK (Qz n)<|ih (n+1) q
   ·exact ih n h
 exact key names n e
theorem aha (B:gP X scope x ix){y:Str}{c:Addr}(hf:scope.names.lookup y=Dn .free)(h:(y,c)∈HX (C+1) scope.names []):False:=by
 have:=B.names _ (yJ h)
 simp only at this;rw [hf] at this;cases this
theorem zm {y:Str}(h:scope.names.lookup y=Dn .free\/scope.names.lookup y=Dn .cell):∃ c,(HX (C+1) scope.names (NT scope X.env)).lookup y=Dn c:=by
 rcases h with h | h
 ·obtain ⟨c,hc⟩:=zO (env:=X.env) scope.names [] (.inl (QW h));exact gq<|gQ.mpr<|.inl hc
 ·obtain ⟨c,hc⟩:=G8 (n:=C+1) (QW h);exact gq<|gQ.mpr<|.inr hc
theorem Wi (I:BZ X pins σ H s)(B:gP X scope x ix)(hC:s.heap.objs.size<=C)(hf:∀ b∈fp,BP X pins H b)(ho:∀ b∈fp,∃ o,s.heap.get? b=Dn o) :
  (blk X scope (gC X x ix) C s H fp).Ok where
 mod:=I.ok.mod
 kind:=B.kind
 glob:=I.ok.glob
 blt:=I.ok.blt
 above:=hC
 inj:=fun y z c h1 h2=>by
  have far:∀ {y z:Str},X.env.cells.lookup y=Dn c->(z,c)∈HX (C+1) scope.names []->False:=fun {y z} e q=>by
   obtain ⟨v,w⟩:=I.cell y c e;exact absurd (GP w.lt<|GK (GK hC<|Qz C)<|DK q)<|KZ _
  rcases mX I B h1 with q1 | q1
  ·rcases mX I B h2 with q2 | q2
   ·exact I.ok.inj y z c q1 q2
   ·exact (far q1 q2).elim
  ·rcases mX I B h2 with q2 | q2
   ·exact (far q2 q1).elim
   ·exact afu q1 q2
 has:=fun y hy=>by
  have hy':(relabel scope X.env).names.lookup y=Dn .cell\/(relabel scope X.env).names.lookup y=Dn .free:=hy;rcases hy' with q | q
  ·rcases fj (scope:=scope) (env:=X.env) q with r | ⟨_,r⟩
   ·exact zm<|.inr r
   ·exact zm<|.inl r
  ·rcases fj (scope:=scope) (env:=X.env) q with r | ⟨r,_⟩
   ·exact zm<|.inl r
   ·cases r
 cab:=fun y c hf h=>by
  have hf':scope.names.lookup y=Dn .cell:=of_decide_eq_true hf;rcases gQ.mp (QW h) with q | q
  ·rcases sV scope.names [] q with q | ⟨q1,_⟩
   ·exact absurd q<|by simp
   ·have:=B.names _ q1
    simp only at this;rw [hf'] at this;cases this
  ·exact GK (GK hC<|Qz C)<|DK q
 hd:=I.ok.hd
 qt:=I.qt0
 frames:=I.ok.frames
 stk:=.inl rfl
 exf:=fun b hb=>by
  obtain ⟨o,e⟩:=ho b hb;refine ⟨Gf<|GP (Dj e) hC,fun y c h=>?_⟩;rcases mX I B h with q | q
  ·exact (hf b hb).2.2.2.2.1 y c q
  ·intro z;rw [z] at q;exact absurd (GP (Dj e)<|GK (GK hC<|Qz C)<|DK q)<|KZ _
 bs:=I.bs
 bsz:=GK I.ok.bsz I.sz
 noex:=fun b o e hb=>by
  rcases (hf b hb).2.2.2.1 with q | q
  ·exact I.ok.noex b o e q
  ·exact absurd (GP (Dj e)<|GK I.ok.bsz q)<|KZ _
 exfs:=fun b hb z=>by
  obtain ⟨_,h1,h2,_⟩:=hf b hb;rcases Cr.mp (I.stkSub b z) with e | e
  ·exact h1 e
  ·exact h2 e
 funs:=I.stack
 frf:=I.stkFree
theorem agQ {D:Addr}{h1:Heap}{tk:Nat}{m:Str->Option JI}(I:BZ X pins σ H s)(B:gP X scope x ix)(ok:(blk X scope (gC X x ix) C s H fp).Ok)
  (hD:D=s.heap.objs.size) (k:∀ b o,s.heap.get? b=Dn o->h1.get? b=Dn o) (hl:h1.get? D=Dn { cls:=.type "list",data:=.seq #[] }) (hns:h1.Ns C m) (hCD:C≠D) (hC:s.heap.objs.size<=C) (hce:∀ y c,(y,c)∈HX (C+1) scope.names []->h1.IsCell c Go) :
  BZ (blk X scope (gC X x ix) C s H fp) [] (Mz x.length Go++Hy ix σ) (Cd H D (.lst [])) { s with heap:=h1,toks:=tk } where
 ok:=ok
 os:=rfl
 bare:=I.bare
 base:=Un.laid k (by rw [hD];exact Dp _) (I.hok.fresh (by rw [hD];exact Dp _))
 loc:=by
  refine ⟨m,hns,fun i y v e1 e2 e3=>?_⟩;by_cases hix:i<x.length
  ·rw [MH (by simpa using hix),VN,if_pos hix] at e2;cases e2
  ·rw [PB (by simpa using hix),List.length_replicate] at e2;have e1':(ix.map fun i=>X.N.getD i "")[i - x.length]?=Dn y:=by
    have z:(x++ix.map fun i=>X.N.getD i "")[i]?=Dn y:=e1
    rwa [PB (by simpa using hix)] at z
   generalize i - x.length=j at e1' e2;unfold Hy at e2;rw [Ir] at e1' e2;cases hj:ix[j]? with
   | none=>rw [hj] at e2;cases e2
   | some i'=>
    rw [hj] at e1' e2;simp only [Option.map_some,Option.some.injEq] at e1' e2;have hi:σ[i']?=Dn (Dn v):=by
     cases q:σ[i']? with
     | none=>rw [q] at e2;cases e2
     | some z=>rw [q] at e2;exact congrArg Dn e2
    have hlt:i'<X.N.length:=by
     have:=(K8.mp hi).1
     rw [I.len] at this;exact this
    have hn:X.N[i']?=Dn y:=by
     rw [S9,KN hlt,Us] at e1';rw [KN hlt,e1']
    have hfree:scope.names.lookup y=Dn .free:=by
     have:=B.ixs i' (Q8 hj)
     rw [e1'] at this;exact this
    have kx:=B.free _ (QW hfree) rfl;have vis:Vis X.env.scope y:=by
     rcases kx with q | q
     ·exact .inr<|.inl q
     ·exact .inr<|.inr q
    obtain ⟨m',_,hl'⟩:=I.loc;obtain ⟨u,r,lk⟩:=hl' i' y v hn hi vis;refine ⟨u,r,?_⟩;rcases lk with ⟨q,_⟩ | ⟨_,c,hc,hcell⟩
    ·have q':X.env.scope.names.lookup y=Dn .local:=q;rcases kx with z | z <;> (rw [q'] at z;cases z)
    ·obtain ⟨c',hc'⟩:=zm (X:=X) (C:=C) (.inl hfree);have e:=(mX I B hc').resolve_right fun z=>aha B hfree z
     rw [hc] at e;cases e;refine .inr ⟨mH (env:=X.env) hfree,c,hc',?_⟩;obtain ⟨o,ho,hd⟩:=hcell;exact ⟨o,k c o ho,hd⟩
 cell:=fun y c h=>by
  rcases mX I B h with q | q
  ·obtain ⟨v,o,ho,hd⟩:=I.cell y c q;exact ⟨v,o,k c o ho,hd⟩
  ·exact ⟨Go,hce y c q⟩
 free:=by
  show Cd H D (.lst []) C=Go;rw [aH hCD];exact I.hok.fresh hC
 freeC:=fun y c h=>by
  show Cd H D (.lst []) c=Go;rcases mX I B h with q | q
  ·obtain ⟨v,o,ho,hd⟩:=I.cell y c q;rw [aH (by rw [hD];exact Gf (Dj ho))];exact I.freeC y c q
  ·have g:s.heap.objs.size<c:=GP (Nat.lt_succ_of_le hC) (DK q);rw [aH (by rw [hD];exact Lk g)];exact I.hok.fresh<|S7 g
 pin:=fun p hp=>absurd (show p∈([]:List (Addr×Obj)) from hp) (by simp)
 hok:=I.hok.laid k (by rw [hD];exact Dp _) ⟨O8 _,[],0,.nil,hl⟩
 len:=by
  show (Mz x.length Go++Hy ix σ).length=(gC X x ix).length;simp [Hy]
theorem JR {σ':St}{H':Hp}{s':kI}{h':Heap}{p':List (Addr×Obj)}(I:BZ X pins σ H s)(hC:s.heap.objs.size<=C)(hf:∀ b∈fp,BP X pins H b)(J:BZ (blk X scope (gC X x ix) C s H fp) p' σ' H' s')
  (hs:Kh C s'.heap h'):BZ X pins σ H' { s' with heap:=h' }:=by
 have I1:BZ X pins σ H' s':=I.call' (ch:=fp) J.os J.base J.hok J.bare fun b hb=>⟨(hf b hb).2.2.2.1,(hf b hb).2.1,(hf b hb).2.2.2.2.1,(hf b hb).2.2.2.2.2⟩
 refine I1.turned (it:=C) (t':=s'.toks) (fun b o hb e=>(hs.2 b hb).trans e) J.free (Lk<|GP I.lt hC) (.inr<|GK I.sz hC) (fun y c e z=>?_)<|fun p hp z=>?_
 ·obtain ⟨v,q⟩:=I.cell y c e;exact absurd (GP q.lt (by rw [z];exact hC))<|KZ _
 ·exact absurd (GP (Dj (I.pin p hp).1) (by rw [z];exact hC))<|KZ _
end
def UJ (X:Cx)(ifs:List Expr)(t:TT):Prop:=
 ∀ (pins:List (Addr×Obj)) (s:kI) (σ : St) (H:Hp) (Q:Bool->Hp->Prop),BZ X pins σ H s->t σ H Q ->
  Bu (Bx X.prog X.w) X.A (forIn ifs true fun c r=>if r=true then do let ok <-isTrue c X.env (eval c X.env);pure (ForInStep.yield ok) else pure (ForInStep.yield r)) (TP X pins σ Q) X.xe s
def ac0:TT:=fun _ H Q=>Q true H
theorem agZ {X:Cx}:UJ X [] ac0:=fun _ _ _ H _ I h=>CP ⟨H,I,h⟩
theorem afs {X:Cx}{c:Expr}{t:TT}(h:PT X c t):UJ X [c] t:=fun pins s σ H Q I hq=>by
 rw [Tn];refine BL ?_;rw [if_pos rfl];refine BL<|DW (h pins s σ H Q I hq) fun b s1 q=>CP ?_
 exact CP q
def aal (n:Nat)(own:V->Hp->List V->Prop)(ix:List Nat)(tt:TT)(te:TE)(σ : St)(Q:VK)(J:It)(H1:Hp)(D:Addr):Prop:=∃ W:Nat->Nat->List V->Hp->Prop,(∃ m,W 0 m [] (Cd H1 D (.lst [])))/\∀ i m ys H,W i m ys H->H D=Dn (.lst ys) ->
 (J.stop i H/\Q (.ref D) H)\/(J.go i H/\ys.length<Dk/\∀ x H',J.yld i H x H'->∃ vs,own x H' vs/\vs.length=n/\tt (vs.map Dn++Hy ix σ) H' fun b H2=>
  if b=true then te (vs.map Dn++Hy ix σ) H2 (fun v H3=>H3 D=Dn (.lst ys)/\∃ m',m'<m/\W (i+1) m' (ys++[v]) (Cd H3 D (.lst (ys++[v]))))
  else H2 D=Dn (.lst ys)/\∃ m',m'<m/\W (i+1) m' ys H2)
def wLC (n:Nat)(own:V->Hp->List V->Prop)(ix:List Nat)(tt:TT)(te:TE)(σ : St)(Q:VK)(J:It)(H1:Hp):Prop:=∀ D,H1 D=Go->aal n own ix tt te σ Q J H1 D
def tLC (n:Nat)(own:V->Hp->List V->Prop)(ix:List Nat)(wi:TI)(tt:TT)(te:TE):TE:=fun σ H Q=>wi σ H fun J H1=>wLC n own ix tt te σ Q J H1
def RG (n:Nat)(own:V->Hp->List V->Prop):TG:=fun v σ H N=>∃ vs,own v H vs/\vs.length=n/\N (vs.map Dn++σ.drop n) H
theorem afb {P:CR}{w:CQ}{A:CT}{R:Result->kI->Prop}{s:kI}{elt target iter:Expr}{ifs:List Expr}{scope:Scope}{pos:Pos}{it acc:JI}{env:Env}(Iv:Nat->kI->Prop)
  (turn:∀ n s,Iv n s->Bu (Bx P w) A (LK it) (fun r s₁=>match r with
   | none=>R (.ok .next) s₁
   | some v=>Bu (Bx P w) A (letOwnedTupleGo target it v) (fun _ t₁=>Bu (Bx P w) A (assign target env v) (fun _ s₂=>
     Bu (Bx P w) A (forIn ifs true fun c r=>if r=true then do let ok <-isTrue c env (eval c env);pure (ForInStep.yield ok) else pure (ForInStep.yield r)) (fun ok s₃=>
      if ok=true then Bu (Bx P w) A (eval elt env) (fun x s₄=>
       Bu (Bx P w) A (call (.builtin "list.append") [acc,x]) (fun _ s₅=>∃ m,m<n/\Iv m s₅) (notedBy (Bx P w) A env fun e s'=>R (.error e) s') s₄) (notedBy (Bx P w) A env fun e s'=>R (.error e) s') s₃
      else ∃ m,m<n/\Iv m s₃) (notedBy (Bx P w) A env fun e s'=>R (.error e) s') s₂) (notedBy (Bx P w) A env fun e s'=>R (.error e) s') t₁) (notedBy (Bx P w) A env fun e s'=>R (.error e) s') s₁) (notedBy (Bx P w) A env fun e s'=>R (.error e) s') s)
  (n:Nat) (h:Iv n s):Mi (Bx P w) A (.compLoop (.ListComp elt [⟨target,iter,ifs,0⟩] scope pos) 0 it acc env) R s:=by
 refine codeAny_loop rfl Iv (fun n s hI=>?_) n h;show Bu _ A ((compTurn (.ListComp elt [⟨target,iter,ifs,0⟩] scope pos) 0 it acc env).onRaise (fun x=>do noteFrame x env;theTreesLotGoes x)) _ _ s;refine wpAny_noted ?_;rw [compTurn_list];refine BL<|RQ<|BL<|Ge (turn n s hI) (fun r s₁ k₁=>?_) fun _ _ z=>z
 cases r with
 | none=>exact CP k₁
 | some v=>
  refine BL<|Ge k₁ (fun _ t₁ k₂=>BL<|Ge k₂ (fun _ s₂ k₃=>BL<|Ge k₃ (fun ok s₃ k₄=>?_) fun _ _ z=>z) fun _ _ z=>z) fun _ _ z=>z
  cases ok with
  | false=>exact CP ⟨rfl,k₄⟩
  | true=>exact BL (BL (Ge k₄ (fun x s₄ k₅=>BL (Ge k₅ (fun _ s₅ k₆=>CP (CP ⟨rfl,k₆⟩)) fun _ _ z=>z)) fun _ _ z=>z))
section
variable {X:Cx}{scope:Scope}{x:List Str}{ix:List Nat}{elt iter tg:Expr}{ifs:List Expr}{px pos:Pos}{wi:TI}{tt:TT}{te:TE}{own:V->Hp->List V->Prop}
theorem Ip {pins:List (Addr×Obj)}{σ : St}{s₂ : kI}{H2:Hp}{it:Addr}{fp:List Addr}{tn:Nat->Heap->Prop}{J:It}{Q:VK}{E:JI->kI->Prop}{RR:JI->Addr->Result->kI->Prop}
  (hc:J.cm=true->X.calm=true) (B:gP X scope x ix) (hg:∀ C s H fp,PG (blk X scope (gC X x ix) C s H fp) tg (RG x.length own)) (ht:∀ C s H fp,UJ (blk X scope (gC X x ix) C s H fp) ifs tt) (he:∀ C s H fp,PE (blk X scope (gC X x ix) C s H fp) elt te)
  (I2:BZ X pins σ H2 s₂) (T:Turn X.prog X.w X.K tg J fp it tn) (st2:tn 0 s₂.heap) (f2:∀ b∈fp,BP X pins H2 b) (hq:wLC x.length own ix tt te σ Q J H2)
  (hRR:∀ D C s' σ' H' p',s₂.heap.objs.size<=C->BZ (blk X scope (gC X x ix) C s₂ H2 fp) p' σ' H' s'->Q (.ref D) H'->RR (.ref D) C (.ok .next) s') :
  Bu (Bx X.prog X.w) X.A (newList []) (fun acc s₃=>Bu (Bx X.prog X.w) X.A (newFunctionEnv scope X.env.globals (NT scope X.env) [] X.env.qual Go .none (Dn X.env)) (fun cenv s₄=>
   Mi (Bx X.prog X.w) X.A (.compStart (.ListComp elt [⟨tg,iter,ifs,0⟩] scope pos) 0 (.ref it) acc { cenv with scope:=relabel scope X.env }) (RR acc cenv.locals) s₄) E s₃) E s₂:=by
 refine ML<|afp ?_
 dsimp only;generalize hH2:s₂.heap.push { cls:=.type "list",dict:=Go,data:=.seq ([]:List JI).toArray }=HH;generalize hh1:pushCells (HH.push { cls:=.type "dict",data:=.dict #[] }) scope.names=h₁;have hns₁ : h₁.Ns HH.objs.size (fun _=>Go):=by
  obtain ⟨o,es,ep,ho,r⟩:=Heap.Ns.new HH (.type "dict");exact ⟨o,es,ep,by rw [<-hh1];exact pushCells_keeps _ _ _ _ ho,r⟩
 have hkeep:∀ b o,HH.get? b=Dn o->h₁.get? b=Dn o:=fun b o e=>by rw [<-hh1];exact pushCells_keeps _ _ _ _ (Dm _ e)
 have hce:∀ y c,(y,c)∈HX (HH.objs.size+1) scope.names []->h₁.IsCell c Go:=fun y c e=>by
  rw [<-hh1];exact (W8 (h:=HH.push { cls:=.type "dict",data:=.dict #[] }) (by rw [Q7];exact e)).1
 have hC:HH.objs.size=s₂.heap.objs.size+1:=by rw [<-hH2,Q7]
 have hDC:s₂.heap.objs.size≠HH.objs.size:=by rw [hC];exact Gf (Nat.lt_succ_self _)
 have hCle:s₂.heap.objs.size<=HH.objs.size:=by rw [hC];exact Qz _
 have old:∀ b o,s₂.heap.get? b=Dn o->h₁.get? b=Dn o:=fun b o e=>hkeep b o (hH2 ▸ Dm _ e)
 have hacc:h₁.get? s₂.heap.objs.size=Dn { cls:=.type "list",data:=.seq #[] }:=hkeep _ _ (hH2 ▸ HD _ rfl);have hob:∀ b∈fp,∃ o,s₂.heap.get? b=Dn o:=fun b hb=>let ⟨o,e,_⟩:=T.obj 0 _ st2 b hb;⟨o,e⟩
 have ok:=Wi (C:=HH.objs.size) I2 B hCle f2 hob;obtain ⟨W,⟨m0,w0⟩,turn⟩:=hq s₂.heap.objs.size (I2.hok.fresh (Dp _))
 -- the iterator's records, in the block
 have stat:∀ {H':Hp},(∀ b∈fp,H' b=Go)->∀ b∈fp,BP (blk X scope (gC X x ix) HH.objs.size s₂ H2 fp) [] H' b:=fun {H'} hn b hb=>by
  obtain ⟨o,e⟩:=hob b hb;obtain ⟨_,g1,g2,g3,g4,g5⟩:=f2 b hb;refine ⟨hn b hb,Gf<|GP (Dj e) hCle,fun z=>?_,.inl hb,fun y c h=>?_,fun p hp=>absurd (show p∈([]:List (Addr×Obj)) from hp)<|by simp⟩
  ·rcases Cr.mp (I2.stkSub b z) with q | q
   ·exact g1 q
   ·exact g2 q
  ·rcases mX I2 B h with q | q
   ·exact g4 y c q
   ·intro z;rw [z] at q;exact absurd (GP (Dj e)<|GK (GK hCle<|Qz _)<|DK q)<|KZ _
 have loop:∀ s₃ : kI,s₃ = { s₂ with heap:=h₁ } ->
   Mi (Bx X.prog X.w) X.A (.compLoop (.ListComp elt [⟨tg,iter,ifs,0⟩] scope pos) 0 (.ref it) (.ref s₂.heap.objs.size) (compEnvC scope (HX (HH.objs.size+1) scope.names (NT scope X.env)) HH.objs.size X.env))
    (RR (.ref s₂.heap.objs.size) HH.objs.size) s₃:=by
  rintro s₃ rfl;have J0:=agQ (fp:=fp) (C:=HH.objs.size) (tk:=s₂.toks) I2 B ok rfl old hacc hns₁ (Eu hDC) hCle hce;have fr0:∀ b∈fp,Cd H2 s₂.heap.objs.size (.lst []) b=Go:=fun b hb=>by
   obtain ⟨o,e⟩:=hob b hb;rw [aH (Gf (Dj e))];exact (f2 b hb).1
  refine afb (fun k s'=>∃ i ys H',BZ (blk X scope (gC X x ix) HH.objs.size s₂ H2 fp) [] (Mz x.length Go++Hy ix σ) H' s'/\tn i s'.heap/\(∀ b∈fp,H' b=Go)/\H' s₂.heap.objs.size=Dn (.lst ys)/\W i k ys H') ?_ m0
   ⟨0,[],_,J0,T.keep 0 _ _ st2 (fun b _ o e=>old b o e),fr0,aU,w0⟩
  rintro n s₄ ⟨i,ys,H4,I4,st4,fr4,hD4,w4⟩;rcases turn i n ys H4 w4 hD4 with ⟨stop,qn⟩ | ⟨go,hz,step⟩
  ·refine DW (T.done (blk X scope (gC X x ix) HH.objs.size s₂ H2 fp) rfl rfl rfl hc i [] s₄ _ H4 _ I4 (stat fr4) st4 stop) fun r s5 ⟨hr,I5⟩=>?_;subst hr;exact hRR _ _ s5 _ H4 [] hCle I5 qn
  ·refine DW (T.item (blk X scope (gC X x ix) HH.objs.size s₂ H2 fp) rfl rfl rfl hc i [] s₄ _ H4 _ I4 (stat fr4) st4 go) fun r s5 ⟨u,hr,h5⟩=>?_;subst hr;refine Ge h5 (fun _ s6 ⟨xv,H6,I6,r6,y6,st6,fr6⟩=>?_) fun _ _ z=>z;have I6':=I6.pinned (stat fr6) (T.obj _ _ st6);obtain ⟨vs,hov,hvl,q7⟩:=step xv H6 y6;have fgt:∀ {σ9:St} {H9:Hp} {s9:kI} {p9:List (Addr×Obj)},σ9.length=x.length->BZ (blk X scope (gC X x ix) HH.objs.size s₂ H2 fp) p9 (σ9++Hy ix σ) H9 s9->BZ (blk X scope (gC X x ix) HH.objs.size s₂ H2 fp) p9 (Mz x.length Go++Hy ix σ) H9 s9:=fun {σ9 H9 s9 p9} hl I9=>
    I9.weak (by simp [hl]) fun k v e=>by
     by_cases hk:k<x.length
     ·rw [MH (by simpa using hk),VN,if_pos hk] at e;cases e
     ·rw [PB (by simpa using hk),List.length_replicate] at e;rw [PB (by rw [hl];lia),hl];exact e
   refine Ge (hg _ _ _ _ _ s6 _ H6 xv u (fun σ9 H9=>σ9=vs.map Dn++(Mz x.length (Go:Option V)++Hy ix σ).drop x.length/\H9=H6) I6' r6 ⟨vs,hov,hvl,rfl,rfl⟩) (fun _ s7 ⟨σ7,H7,I7,e7,e8⟩=>?_) fun _ _ z=>z.elim;subst e7 e8;rw [List.drop_left' (by simp)] at I7;have hml:(vs.map Dn).length=x.length:=by rw [Eh];exact hvl
   refine Ge (ht _ _ _ _ _ s7 _ H7 _ I7 q7) (fun b s8 ⟨H8,I8,q8⟩=>?_) fun _ _ z=>z.elim;have pinned:∀ {H9:Hp} {s9:kI} {σ9:St},BZ (blk X scope (gC X x ix) HH.objs.size s₂ H2 fp) ([]++ug fp s6.heap) σ9 H9 s9->tn (i+1) s9.heap/\∀ b∈fp,H9 b=Go:=fun {H9 s9 σ9} I9=>by
    refine ⟨T.keep _ _ _ st6 fun b hb o e=>(I9.pin (b,o)<|Qg _<|Qg _<|iJ hb e).1,fun b hb=>?_⟩;obtain ⟨o,e,d⟩:=T.obj _ _ st6 b hb;exact (I9.pin (b,o)<|Qg _<|Qg _<|iJ hb e).2.1
   cases b with
   | false=>
    rw [if_neg Hi] at q8 |-
    obtain ⟨hD8,m',hm,w8⟩:=q8;obtain ⟨t8,f8⟩:=pinned I8;exact ⟨m',hm,i+1,ys,H8,fgt hml I8.unpinned,t8,f8,hD8,w8⟩
   | true=>
    rw [if_pos rfl] at q8 |-
    refine Ge (he _ _ _ _ _ s8 _ H8 _ I8 q8) (fun u9 s9 ⟨v9,H9,I9,r9,hD9,m',hm,w9⟩=>?_) fun _ _ z=>z.elim;refine Ge (uF (X:=blk X scope (gC X x ix) HH.objs.size s₂ H2 fp) _ s9 _ H9 (.ref s₂.heap.objs.size) [v9] _ [u9] (fun _ H'=>H'=Cd H9 s₂.heap.objs.size (.lst<|ys++[v9])) I9 rfl (.cons r9 .nil) ⟨_,ys,v9,rfl,rfl,hD9,hz,rfl⟩) (fun _ s10 ⟨_,H10,I10,_,e10⟩=>?_) fun _ _ z=>z.elim;subst e10;obtain ⟨t10,f10⟩:=pinned I10;exact ⟨m',hm,i+1,ys++[v9],_,fgt hml I10.unpinned,t10,f10,aU,w9⟩
 exact codeAny_compStart_list (loop _ rfl)<|T.self _ 0 _ _ _ (T.keep 0 _ _ st2<|fun b _ o e=>old b o e)<|loop _ rfl
theorem aau (ix:List Nat)(hc:X.calm=true)(B:gP X scope x ix)(hg:∀ C s H fp,PG (blk X scope (gC X x ix) C s H fp) tg (RG x.length own))(hi:PI X tg iter wi)(ht:∀ C s H fp,UJ (blk X scope (gC X x ix) C s H fp) ifs tt)(he:∀ C s H fp,PE (blk X scope (gC X x ix) C s H fp) elt te)
  (hs:∀ v,R6 iter X.env v=pure v:=by intro _;rfl):PE X (.ListComp elt [⟨tg,iter,ifs,0⟩] scope pos) (tLC x.length own ix wi tt te):=by
 intro pins s σ H Q I h;rw [eval_ListComp];refine wpAny_comprehension_free (use:=Go) rfl hs (HY<|tH I B) B.kind (fun y hy hk=>by rw [B.names y hy,hk]) ?_;refine DW (hi pins s σ H _ I h) fun v s1 h1=>DW h1 fun itv s2 h2=>?_;obtain ⟨it,fp,tn,J,H2,e,I2,T,st2,f2,hq⟩:=h2;subst e;refine Ip (RR:=fun acc C=>compPost (Bx X.prog X.w) X.A X.xe Go (EP X pins σ Q) acc C) (fun _=>hc) B hg ht he I2 T st2 f2 hq fun D C s' σ' H' p' hC I' q'=>?_;obtain ⟨m,hn,_⟩:=I'.loc;exact ⟨m,hn,fun h' hs'=>⟨.ref D,H',JR I2 hC f2 I' hs',rfl,q'⟩⟩
theorem aa3 (ix:List Nat){i:Nat}{y:Str}{py spos:Pos}(hN:X.N.Nodup)(hi':X.N[i]?=Dn y)(hy:Loc X.env.scope y)(hc:X.calm=true)(B:gP X scope x ix)(hg:∀ C s H fp,PG (blk X scope (gC X x ix) C s H fp) tg (RG x.length own))(hi:PI X tg iter wi)
  (ht:∀ C s H fp,UJ (blk X scope (gC X x ix) C s H fp) ifs tt) (he:∀ C s H fp,PE (blk X scope (gC X x ix) C s H fp) elt te)
  (hsw:QC (.ListComp elt [⟨tg,iter,ifs,0⟩] scope pos) (Dn (.Name y py)) spos.line X.env=pure true:=by rfl)
  (hf:X.fn y=true\/X.env.scope.names.lookup y=Dn .local:=by first | exact .inl rfl | exact .inr rfl | assumption)
  (hs:∀ v,R6 iter X.env v=pure v:=by intro _;rfl):PS X (.Assign [.Name y py] (.ListComp elt [⟨tg,iter,ifs,0⟩] scope pos) spos) (XF (tLC x.length own ix wi tt te) (GC i)):=by
 intro pins s σ H D I h;rw [exec_Assign_Name_used _ _ _ _ hsw];refine BL<|RQ<|BL ?_
 show Bu _ X.A (do let _ <-comprehension (.ListComp elt [⟨tg,iter,ifs,0⟩] scope pos) scope X.env _ (newList []) false (eval iter X.env) (Dn (assign (.Name y py) X.env))) _ _ s;refine BL<|Ge (wpAny_comprehension_free (use:=Dn (assign (.Name y py) X.env)) (Q:=fun _ s'=>SP X pins D .next s') rfl hs (HY<|tH I B) B.kind (fun y hy hk=>by rw [B.names y hy,hk]) ?_) (fun _ s' hq=>CP<|CP hq) fun _ _ e=>e
 refine DW (hi pins s σ H _ I h) fun v s1 h1=>DW h1 fun itv s2 h2=>?_;obtain ⟨it,fp,tn,J,H2,e,I2,T,st2,f2,hq⟩:=h2;subst e;refine Ip (RR:=fun acc C=>compPost (Bx X.prog X.w) X.A X.xe (Dn<|assign (.Name y py) X.env) (fun _ s'=>SP X pins D .next s') acc C) (fun _=>hc) B hg ht he I2 T st2 f2 hq fun D' C s' σ' H' p' hC I' q'=>?_;obtain ⟨m,hn,_⟩:=I'.loc;have I3:BZ X pins σ H' s':=JR (h':=s'.heap) I2 hC f2 I' (.refl ..);show Bu _ X.A (assign (.Name y py) X.env (.ref D')) _ _ s';have cneC:∀ z c,X.env.cells.lookup z=Dn c->c≠C:=fun z c e q=>by
  obtain ⟨v,w⟩:=I2.cell z c e;exact absurd (GP w.lt (by rw [q];exact hC))<|KZ _
 have lneC:X.env.locals≠C:=Gf (GP I2.lt hC);refine wpAny_assign_Name<|uL (v:=.ref D') I3 hN hi' hy rfl (fun s'' I'' hsb=>?_) hf
 obtain ⟨a,hsb,ha⟩:=hsb;have haC:C≠a:=by
  rcases ha with rfl | ha
  ·exact Eu lneC
  ·exact Eu<|cneC _ _ ha
 refine ⟨m,hn.sameBut hsb haC,fun h' hs'=>⟨_,H',?_,q'⟩⟩;refine I''.turned (it:=C) (t':=s''.toks) (fun b o hb e=>(hs'.2 b hb).trans e) I'.free (Eu lneC) (.inr<|GK I2.sz hC) cneC<|fun p hp z=>?_
 exact absurd (GP (Dj (I2.pin p hp).1) (by rw [z];exact hC))<|KZ _
end
def Sm (n:Nat)(i:Int):Prop:=i.natAbs<2^n
theorem Sm.bits {n:Nat}{i:Int}(h:Sm n i):Builtin.Int.intBits i<=n:=by
 unfold Builtin.Int.intBits;by_cases e:i=0
 ·subst e;exact O8 _
 ·have e':(i==0)=false:=beq_eq_false_iff_ne.mpr e;rw [e'];have h0:i.natAbs≠0:=by lia
  have:=(Nat.log2_lt h0).mpr h
  simp only [Kv,if_false];lia
theorem Sm.mono {m n:Nat}{i:Int}(h:Sm m i)(hmn:m<=n):Sm n i:=GP h (Nat.pow_le_pow_right (by decide) hmn)
theorem Sm.mul {m n:Nat}{i j:Int}(h:Sm m i)(h':Sm n j):Sm (m+n) (i*j):=by
 unfold Sm at *;rw [U8,Nat.pow_add];by_cases e:j.natAbs=0
 ·rw [e,Nat.mul_zero];exact Nat.mul_pos (Nat.pow_pos<|by decide)<|Nat.pow_pos<|by decide
 ·exact GP (Nat.mul_lt_mul_of_pos_right h<|Nat.pos_of_ne_zero e)<|Nat.mul_le_mul_left _<|S7 h'
theorem Sm.add {m n:Nat}{i j:Int}(h:Sm m i)(h':Sm n j):Sm (max m n+1) (i+j):=by
 have h1:=h.mono (Nat.le_max_left m n);have h2:=h'.mono (Nat.le_max_right m n);unfold Sm at *;rw [Nat.pow_succ];lia
theorem Sm.neg {n:Nat}{i:Int}(h:Sm n i):Sm n (-i):=by unfold Sm at *;rw [Int.natAbs_neg];exact h
theorem Sm.sub {m n:Nat}{i j:Int}(h:Sm m i)(h':Sm n j):Sm (max m n+1) (i - j):=by
 rw [Int.sub_eq_add_neg];exact h.add h'.neg
theorem Sm.zero {n:Nat}:Sm n 0:=Nat.pow_pos (by decide)
theorem MK {n:Nat}{i:Int}(h1:-(2^n:Int)<i)(h2:i<(2^n:Int)):Sm n i:=by
 unfold Sm;have e:((2^n:Nat):Int)=(2:Int)^n:=by simp
 lia
theorem Sm.le {n:Nat}{i j:Int}(h:Sm n i)(hj:j.natAbs<=i.natAbs):Sm n j:=SN hj h
def fC (i j:Int):Prop:=∃ m n,m<=1000000/\n<=1000000/\Sm m i/\Sm n j
theorem fC.ok {i j:Int}(h:fC i j):IntMulOk i j:=by
 obtain ⟨m,n,hm,hn,h1,h2⟩:=h;have e:(2:Nat)^20=1048576:=by decide
 exact .of_bits (by have:=h1.bits;lia) (by have:=h2.bits;lia)
def Oe (_ j:Int):Prop:=j≠0/\∃ n,n<=8000/\Sm n j
theorem ahE {n:Nat}{j:Int}(hn:n<=8000)(h:Sm n j):j.natAbs.log2<9000:=by
 by_cases e:j.natAbs=0
 ·rw [e];decide
 ·have:=(Nat.log2_lt e).mpr h
  lia
section
variable {X:Cx}
theorem agn:Ho X (KH .Mult) (rI fC fun i j=>.int (i*j)):=opI fun _ _ _ _ _ _ _ hc q=>mul_int q hc.ok
theorem adK:Ho X (KH .FloorDiv) (rI Oe fun i j=>.int (i.fdiv j)):=opI fun i j _ _ _ _ _ hc q=>by
 obtain ⟨h1,n,hn,h2⟩:=hc;exact floordiv_int h1 q<|.inl<|PyProof.noPylong_of_log2<|ahE hn h2
theorem pH:∀ {bs:List Bool} {its:List JI} {i:Nat} {v:JI},CJ (bs.map V.bl) its->its[i]?=Dn v->∃ b,bs[i]?=Dn b/\v=.bool b
 | [],_,_,_,.nil,e=>by simp at e
 | b::bs,_,0,_,.cons r _,e=>by simp at e;subst e;exact ⟨b,rfl,r⟩
 | _::bs,_,i+1,v,.cons _ t,e=>by
  obtain ⟨b,h1,h2⟩:=pH (i:=i) (v:=v) t (by simpa using e);exact ⟨b,by simpa using h1,h2⟩
theorem zai:∀ (bs:List Bool),((Jo bs.length).all fun i=>(bs[i]?).getD true)=bs.all id:=fun bs=>by
 rw [Bool.eq_iff_iff,QS,QS];constructor
 ·intro h b hb;obtain ⟨i,hi,rfl⟩:=List.mem_iff_getElem.mp hb;have:=h i (Mw.mpr hi)
  simpa [hi] using this
 ·intro h i hi;have hi':=Mw.mp hi;have:=h bs[i] (Uh hi')
  simpa [hi'] using this
theorem aeh (hc:X.calm=true):m9 X (.builtin "all") (fun xs H Q=>∃ (p:Addr) (bs:List Bool),xs=[.ref p]/\Fl X.K H p (bs.map V.bl)/\Q (.bl (bs.all id)) H):=by
 intro pins s σ H xs us Q I r h;obtain ⟨p,bs,rfl,hS,q⟩:=h;obtain ⟨u,rfl,ru⟩:=vals1 r;cases ru;obtain ⟨its,rv,pl,hz⟩:=I.list hS;have hlen:its.length=bs.length:=by rw [<-rv.length,Eh]
 have hl:=pl.isList;have hlt:p<s.heap.objs.size:=by obtain ⟨_,e,_⟩:=hl;exact Dj e
 refine call_all_walk<|TQ hl ?_
 refine ⟨s.heap.objs.size,[s.heap.objs.size,p],[s.heap.objs.size],its.toArray.size,_,_,fun i=>(bs[i]?).getD true,rfl,Walks.list (A:=X.A.in1) (I.ok.hd hc) _ p (Gf hlt) its.toArray,
  ⟨⟨_,HD _ rfl,rfl,rfl⟩,hl.push _⟩,fun i v s' Q' E' hP hQ=>?_,fun h' tk hk=>?_⟩
 ·obtain ⟨b,e,rfl⟩:=pH rv (by simpa using hP);simp only [e,Us] at hQ;exact TV hQ
 ·have e:((Jo its.toArray.size).all fun i=>(bs[i]?).getD true)=bs.all id:=by
   rw [Em,hlen];exact zai bs
  rw [e];refine ⟨.bl<|bs.all id,H,I.kept (h':=h') (t':=tk)<|fun b x e=>?_,rfl,q⟩;exact hk b x (fun hm=>by rw [La.mp hm] at e;exact KZ _ (Dj e))<|Dm _ e
end
inductive W where
 | non | bl (b:Bool) | int (i:Int) | str (x:Str) | ty (n:String) | tup (ws:List W) | lst (ws:List W) | loc (n:Nat) | kls (ws:List W) | exc (n:Str)
 | exa (n:Str) (ws:List W)
 | fnv (f:Addr) (i:Nat)
inductive Cell where
 | lst (ws:List W) | obj (C:Addr) (fs:List (Str×W)) | dct (kvs:List (Key×W))
 | dtt (kvs:List (List Int×W))
structure Gh where
 nx:Nat
 c:Nat->Option Cell
structure Mu where
 f:Nat->Option Addr
 hid:Addr->Prop
def ada (K:Bs)(p:Addr)(xs:List V):Prop:=
 ∃ (o:Obj) (its:Array JI) (n:Nat),K.lookup p=Dn o/\o.cls=.type "list"/\o.dict=Go/\o.data=.seq its n/\its.size<=Dk/\CJ xs its.toList
def Frz (H:Hp)(μ : Mu)(p:Addr)(xs:List V):Prop:=H p=Dn (.lst xs)/\(∀ n,μ.f n≠Dn p)/\¬ μ.hid p
def Frk (K:Bs)(H:Hp)(p:Addr)(xs:List V):Prop:=(∃ o,H p=Dn (.frz o (.lst xs)))\/ada K p xs
theorem Frz.sq {K:Bs}{H:Hp}{μ : Mu}{p:Addr}{xs:List V}(h:Frz H μ p xs):Fl K H p xs:=.inl (.inl h.1)
theorem Frk.sq {K:Bs}{H:Hp}{p:Addr}{xs:List V}(h:Frk K H p xs):Fl K H p xs:=by
 rcases h with h | h
 ·exact .inl<|.inr h
 ·exact .inr h
def J6:List JI:=[.type "ValueError",.type "Exception",.type "BaseException",.type "object"]
def kW (K:Bs)(C:Addr)(n:Str):Bool:=Gs K Fg n==Dn (Dn (.ref C))&&Ud K (.ref C)==Dn (.type "type")&&match Ra K C with
 | some cd=>cd.name==n&&cd.mro.contains (.type "BaseException")
 | none=>false
def j6 (K:Bs)(C:Addr)(n:Str):Bool:=kW K C n&&(match Ra K C with
 | some cd=>(match cd.mro with
  | [.ref C',.ref R,a,b,c,d]=>C'==C&&[a,b,c,d]==J6&&Gs K Fg "EaselError"==Dn (Dn (.ref R))&&(Ra K R).any (fun c=>c.name==("EaselError" : Str))
  | _=>false)
 | none=>false)&&KJ K (.ref C) "__getattribute__"==Dn (Dn (.builtin "BaseException.__getattribute__"))&&KJ K (.ref C) "__getattr__"==Dn Go&&KJ K (.ref C) "__class__"==Dn (Dn (.builtin "object.__class__"))&&PySem.W.specialIn K (.builtin "object.__class__") "__get__"==Dn (Dn (.builtin "getset_descriptor.__get__"))
 && PySem.W.takesIn K (.builtin "object.__class__")==Dn true
def wF (n:Str):List Str:=if n = "Apart" then ["word", "places"] else ["at"]
def Uo (K:Bs)(C:Addr)(n:Str):Bool:=j6 K C n&&PySem.W.hasDictIn K C&&(wF n).all fun f=>KJ K (.ref C) f==Dn Go
def Xoa (K:Bs)(o:Obj)(n:Str)(dd:Addr):Prop:=∃ C,o.cls=.ref C/\o.dict=Dn dd/\PySem.W.notCls o=true/\Uo K C n=true
def Xob (K:Bs)(o:Obj)(n:Str):Prop:=∃ C,o.cls=.ref C/\o.dict=Go/\PySem.W.notCls o=true/\j6 K C n=true
mutual
def Bo (K:Bs)(H:Hp)(μ : Mu):W->V->Prop
 | .non,v=>v=.non
 | .bl b,v=>v=.bl b
 | .int i,v=>v=.int i
 | .str x,v=>v=.str x
 | .ty n,v=>v=.ty n
 | .tup ws,v=>∃ p xs,v=.ref p/\G7 K H p xs/\aN K H μ ws xs
 | .lst ws,v=>∃ p xs,v=.ref p/\Frz H μ p xs/\aN K H μ ws xs
 | .kls ws,v=>∃ p xs,v=.ref p/\Frk K H p xs/\aN K H μ ws xs
 | .loc n,v=>∃ p,v=.ref p/\μ.f n=Dn p
 | .exc n,v=>∃ p o u,v=.ref p/\H p=Dn (.frz o u)/\Xob K o n
 | .exa n ws,v=>∃ p o u dd ns xs,v=.ref p/\H p=Dn (.frz o u)/\Xoa K o n dd/\H dd=Dn (.xd (List.zip ns xs))/\ns=wF n/\ns.length=xs.length/\aN K H μ ws xs
 | .fnv f _,v=>v=.ref f
def aN (K:Bs)(H:Hp)(μ : Mu):List W->List V->Prop
 | [],xs=>xs=[]
 | w::ws,xs=>∃ v vs,xs=v::vs/\Bo K H μ w v/\aN K H μ ws vs
end
section
variable {K:Bs}{H H' H1 H2:Hp}{μ μ' μ1 μ2:Mu}{h h':Gh}{w:W}{ws:List W}{v:V}{xs:List V}
theorem aN.len:∀ {ws:List W} {xs:List V},aN K H μ ws xs->ws.length=xs.length
 | [],xs,h=>by
  have e:xs=[]:=by rw [aN] at h;exact h
  rw [e];rfl
 | w::ws,xs,h=>by
  rw [aN] at h;obtain ⟨v,vs,e,_,h⟩:=h;rw [e,Jb,Jb,aN.len h]
theorem aN.get:∀ {ws:List W} {xs:List V} {i:Nat} {w:W},aN K H μ ws xs->ws[i]?=Dn w->∃ v,xs[i]?=Dn v/\Bo K H μ w v
 | [],_,_,_,_,e=>by simp at e
 | a::ws,xs,0,w,h,e=>by
  rw [aN] at h;obtain ⟨v,vs,e1,r,_⟩:=h;simp at e;subst e;subst e1;exact ⟨v,rfl,r⟩
 | a::ws,xs,i+1,w,h,e=>by
  rw [aN] at h;obtain ⟨v,vs,e1,_,h⟩:=h;subst e1;obtain ⟨u,h1,h2⟩:=aN.get (i:=i) (w:=w) h (by simpa using e);exact ⟨u,by simpa using h1,h2⟩
theorem aN.nil:aN K H μ [] []:=by rw [aN]
theorem aN.cons (r:Bo K H μ w v)(h:aN K H μ ws xs):aN K H μ (w::ws) (v::xs):=by
 rw [aN];exact ⟨v,xs,rfl,r,h⟩
theorem aN.append:∀ {ws:List W} {xs:List V} {us:List W} {ys:List V},aN K H μ ws xs->aN K H μ us ys->aN K H μ (ws++us) (xs++ys)
 | [],xs,us,ys,h,g=>by
  rw [aN] at h;subst h;exact g
 | w::ws,xs,us,ys,h,g=>by
  rw [aN] at h;obtain ⟨v,vs,e,r,h⟩:=h;subst e;exact aN.cons r<|aN.append h g
theorem aN.one (r:Bo K H μ w v):aN K H μ [w] [v]:=aN.cons r aN.nil
theorem aN.set (r:Bo K H μ w v):∀ {ws:List W} {xs:List V} (i:Nat),aN K H μ ws xs->aN K H μ (ws.set i w) (xs.set i v)
 | [],xs,i,h=>by rw [aN] at h;subst h;exact aN.nil
 | a::ws,xs,0,h=>by
  rw [aN] at h;obtain ⟨u,vs,e,_,h⟩:=h;subst e;exact aN.cons r h
 | a::ws,xs,i+1,h=>by
  rw [aN] at h;obtain ⟨u,vs,e,q,h⟩:=h;subst e;exact aN.cons q<|aN.set r i h
theorem aN.take:∀ {ws:List W} {xs:List V} (n:Nat),aN K H μ ws xs->aN K H μ (ws.take n) (xs.take n)
 | _,_,0,_=>by simp only [List.take_zero];exact aN.nil
 | [],xs,n+1,h=>by rw [aN] at h;subst h;exact aN.nil
 | a::ws,xs,n+1,h=>by
  rw [aN] at h;obtain ⟨u,vs,e,q,h⟩:=h;subst e;exact aN.cons q<|aN.take n h
theorem aN.drop:∀ {ws:List W} {xs:List V} (n:Nat),aN K H μ ws xs->aN K H μ (ws.drop n) (xs.drop n)
 | _,_,0,h=>h
 | [],xs,n+1,h=>by rw [aN] at h;subst h;exact aN.nil
 | a::ws,xs,n+1,h=>by
  rw [aN] at h;obtain ⟨u,vs,e,q,h⟩:=h;subst e;exact aN.drop n h
structure Ex0 (K:Bs) (H:Hp) (μ : Mu) (H':Hp) (μ':Mu):Prop where
 t:∀ p xs,G7 K H p xs->G7 K H' p xs
 l:∀ p xs,Frz H μ p xs->Frz H' μ' p xs
 k:∀ p xs,Frk K H p xs->Frk K H' p xs
 m:∀ n p,μ.f n=Dn p->μ'.f n=Dn p
 x:∀ p o u,H p=Dn (.frz o u)->H' p=Dn (.frz o u)
 y:∀ p fs,H p=Dn (.xd fs)->H' p=Dn (.xd fs)
structure Ex (K:Bs) (H:Hp) (μ : Mu) (H':Hp) (μ':Mu):Prop extends Ex0 K H μ H' μ' where
 o:∀ p u,μ.hid p->H p=Dn u->μ'.hid p/\H' p=Dn u
mutual
theorem Bo.ex (e:Ex0 K H μ H' μ'):∀ {w:W} {v:V},Bo K H μ w v->Bo K H' μ' w v
 | .non,_,h=>by rw [Bo] at h |-;exact h
 | .bl _,_,h=>by rw [Bo] at h |-;exact h
 | .int _,_,h=>by rw [Bo] at h |-;exact h
 | .str _,_,h=>by rw [Bo] at h |-;exact h
 | .ty _,_,h=>by rw [Bo] at h |-;exact h
 | .tup ws,_,h=>by
  rw [Bo] at h |-
  obtain ⟨p,xs,e1,hs,hr⟩:=h;exact ⟨p,xs,e1,e.t _ _ hs,aN.ex e hr⟩
 | .lst ws,_,h=>by
  rw [Bo] at h |-
  obtain ⟨p,xs,e1,hs,hr⟩:=h;exact ⟨p,xs,e1,e.l _ _ hs,aN.ex e hr⟩
 | .kls ws,_,h=>by
  rw [Bo] at h |-
  obtain ⟨p,xs,e1,hs,hr⟩:=h;exact ⟨p,xs,e1,e.k _ _ hs,aN.ex e hr⟩
 | .loc n,_,h=>by
  rw [Bo] at h |-
  obtain ⟨p,e1,hm⟩:=h;exact ⟨p,e1,e.m _ _ hm⟩
 | .exc n,_,h=>by
  rw [Bo] at h |-
  obtain ⟨p,o,u,e1,hm,hx⟩:=h;exact ⟨p,o,u,e1,e.x _ _ _ hm,hx⟩
 | .exa n ws,_,h=>by
  rw [Bo] at h |-
  obtain ⟨p,o,u,dd,ns,xs,e1,hm,hx,hd,e2,e3,hr⟩:=h;exact ⟨p,o,u,dd,ns,xs,e1,e.x _ _ _ hm,hx,e.y _ _ hd,e2,e3,aN.ex e hr⟩
 | .fnv _ _,_,h=>by rw [Bo] at h |-;exact h
theorem aN.ex (e:Ex0 K H μ H' μ'):∀ {ws:List W} {xs:List V},aN K H μ ws xs->aN K H' μ' ws xs
 | [],_,h=>by rw [aN] at h |-;exact h
 | w::ws,_,h=>by
  rw [aN] at h |-
  obtain ⟨v,vs,e1,r,h⟩:=h;exact ⟨v,vs,e1,Bo.ex e r,aN.ex e h⟩
end
structure Ei (K:Bs) (H:Hp) (μ : Mu) (H':Hp) (μ':Mu):Prop where
 r:∀ w v,Bo K H μ w v->Bo K H' μ' w v
 o:∀ p u,μ.hid p->H p=Dn u->μ'.hid p/\H' p=Dn u
theorem Ei.refl:Ei K H μ H μ:=⟨fun _ _ h=>h,fun _ _ h g=>⟨h,g⟩⟩
theorem Ei.trans (a:Ei K H μ H1 μ1)(b:Ei K H1 μ1 H2 μ2):Ei K H μ H2 μ2:=
 ⟨fun w v h=>b.r w v (a.r w v h),fun p u h g=>let ⟨h1,g1⟩:=a.o p u h g;b.o p u h1 g1⟩
theorem Ex.ext (e:Ex K H μ H' μ'):Ei K H μ H' μ':=⟨fun _ _ h=>Bo.ex e.toEx0 h,e.o⟩
theorem Ei.s (e:Ei K H μ H' μ'):∀ {ws:List W} {xs:List V},aN K H μ ws xs->aN K H' μ' ws xs
 | [],_,h=>by rw [aN] at h |-;exact h
 | w::ws,_,h=>by
  rw [aN] at h |-
  obtain ⟨v,vs,e1,r,h⟩:=h;exact ⟨v,vs,e1,e.r _ _ r,Ei.s e h⟩
def ZR:Option HO->Prop
 | some (.lst _)=>True
 | some (.dK _)=>True
 | some (.ins _ _ _)=>True
 | some (.ext _)=>True
 | _=>False
def J3 {κ : Type}(K:Bs)(H:Hp)(μ : Mu):List (κ×W)->List (κ×V)->Prop:=Qt fun (p:κ×W) (q:κ×V)=>p.1=q.1/\Bo K H μ p.2 q.2
def acN (x:List Int×Addr×JI):DictEntry:=⟨reduceHash (Builtin.Tuple.tupleHashOf (x.1.map hashInt)),.ref x.2.1,x.2.2⟩
def acH (a:Addr)(xs:List (List Int×Addr×JI))(h:Heap):Prop:=xs.length<=Dk/\(a==sysModules)=false/\(xs.map (·.1)).Nodup/\∃ o es ep,h.get? a=Dn o/\o.ExactDict/\o.data=.dict es ep/\es.toList=xs.map acN
def rB (K:Bs)(H:Hp)(μ : Mu)(p:Addr):Cell->Prop
 | .lst ws=>∃ xs,H p=Dn (.lst xs)/\aN K H μ ws xs
 | .obj C fs=>∃ dx fvs,H p=Dn (.ins C dx fvs)/\J3 K H μ fs fvs
 | .dct kvs=>∃ kvv,H p=Dn (.dK kvv)/\J3 K H μ kvs kvv
 | .dtt kvs=>∃ xs vs,H p=Dn (.ext (acH p xs))/\kvs.map (·.1)=xs.map (·.1)/\CJ vs (xs.map (·.2.2))/\aN K H μ (kvs.map fun x=>W.tup (x.1.map W.int)) (xs.map fun x=>V.ref x.2.1)/\aN K H μ (kvs.map (·.2)) vs
structure Ci (K:Bs) (μ : Mu) (H:Hp) (h:Gh):Prop where
 inj:∀ m n p,μ.f m=Dn p->μ.f n=Dn p->m=n
 dom:∀ n p,μ.f n=Dn p->n<h.nx
 trk:∀ n p,μ.f n=Dn p->ZR (H p)
 cel:∀ n c,h.c n=Dn c->∃ p,μ.f n=Dn p/\rB K H μ p c
 hd:∀ p,μ.hid p->(∃ xs,H p=Dn (.lst xs))/\∀ n,μ.f n≠Dn p
theorem rB.ext {p:Addr}{c:Cell}(e:Ei K H μ H' μ')(hp:H' p=H p)(x:rB K H μ p c):rB K H' μ' p c:=by
 cases c with
 | lst ws=>obtain ⟨xs,a,b⟩:=x;exact ⟨xs,hp.trans a,e.s b⟩
 | obj C fs=>obtain ⟨dx,fvs,a,b⟩:=x;exact ⟨dx,fvs,hp.trans a,Paired.mapP b fun _ _ z=>⟨z.1,e.r _ _ z.2⟩⟩
 | dct kvs=>obtain ⟨kvv,a,b⟩:=x;exact ⟨kvv,hp.trans a,Paired.mapP b fun _ _ z=>⟨z.1,e.r _ _ z.2⟩⟩
 | dtt kvs=>obtain ⟨xs,vs,a,b,c,d,f⟩:=x;exact ⟨xs,vs,hp.trans a,b,c,e.s d,e.s f⟩
theorem Rd.laid {p q:Addr}{o u:HO}(hp:H p=Go)(r:Rd H q u):Rd (Cd H p o) q u:=by
 have ne:q≠p:=by
  rcases r with r | ⟨_,r⟩
  ·exact aO r hp
  ·exact aO r hp
 unfold Rd;rw [aH ne];exact r
theorem Ex.laid {p:Addr}{o:HO}(hp:H p=Go):Ex K H μ (Cd H p o) μ where
 t:=fun q xs h=>by
  rcases h with h | h
  ·exact .inl<|h.laid hp
  ·exact .inr h
 l:=fun q xs h=>⟨by rw [aH (aO h.1 hp)];exact h.1,h.2⟩
 k:=fun q xs h=>by
  rcases h with ⟨o',h⟩ | h
  ·exact .inl ⟨o',by rw [aH<|aO h hp];exact h⟩
  ·exact .inr h
 m:=fun _ _ h=>h
 x:=fun q o' u e=>by rw [aH (aO e hp)];exact e
 y:=fun q fs e=>by rw [aH (aO e hp)];exact e
 o:=fun q u z e=>⟨z,by rw [aH (aO e hp)];exact e⟩
theorem Ci.laid {p:Addr}{o:HO}(R:Ci K μ H h)(hp:H p=Go):Ci K μ (Cd H p o) h where
 inj:=R.inj
 dom:=R.dom
 trk:=fun n q e=>by
  have:=R.trk n q e
  have ne:q≠p:=fun z=>by subst z;rw [hp] at this;exact this
  rw [aH ne];exact this
 cel:=fun n c e=>by
  obtain ⟨q,e1,x⟩:=R.cel n c e;have:=R.trk n q e1
  have ne:q≠p:=fun z=>by subst z;rw [hp] at this;exact this
  exact ⟨q,e1,x.ext (Ex.laid hp).ext (aH ne)⟩
 hd:=fun q z=>by
  obtain ⟨⟨xs,e⟩,g⟩:=R.hd q z;exact ⟨⟨xs,by rw [aH<|aO e hp];exact e⟩,g⟩
theorem Bo.tupNew {p:Addr}(hp:H p=Go)(r:aN K H μ ws xs):Bo K (Cd H p (.tup xs)) μ (.tup ws) (.ref p):=by
 rw [Bo];exact ⟨p,xs,rfl,G7.of aU,(Ex.laid hp).ext.s r⟩
theorem Bo.lstNew {p:Addr}(R:Ci K μ H h)(hp:H p=Go)(r:aN K H μ ws xs):Bo K (Cd H p (.lst xs)) μ (.lst ws) (.ref p):=by
 rw [Bo];refine ⟨p,xs,rfl,⟨aU,fun n e=>?_,fun z=>?_⟩,(Ex.laid hp).ext.s r⟩
 ·have:=R.trk n p e
  rw [hp] at this;exact this
 ·obtain ⟨⟨xs,e⟩,_⟩:=R.hd p z;rw [hp] at e;cases e
def Mu.put (μ : Mu)(n:Nat)(p:Addr):Mu:=⟨fun m=>if m=n then Dn p else μ.f m,μ.hid⟩
theorem Mu.put_same {n:Nat}{p:Addr}:(μ.put n p).f n=Dn p:=by show (if n=n then Dn p else μ.f n)=_;rw [if_pos rfl]
theorem Mu.put_ne {m n:Nat}{p:Addr}(e:m≠n):(μ.put n p).f m = μ.f m:=by show (if m=n then Dn p else μ.f m)=_;rw [if_neg e]
def Gh.new (h:Gh)(c:Cell):Gh:=⟨h.nx+1,fun m=>if m=h.nx then Dn c else h.c m⟩
def Gh.set (h:Gh)(n:Nat)(c:Cell):Gh:=⟨h.nx,fun m=>if m=n then Dn c else h.c m⟩
theorem Ci.dead (R:Ci K μ H h){n:Nat}(hn:h.nx<=n):μ.f n=Go:=by
 cases e:μ.f n with
 | none=>rfl
 | some p=>exact absurd (R.dom n p e) (by lia)
theorem Ex.newCell {p:Addr}{o:HO}(R:Ci K μ H h)(hp:H p=Go):Ex K H μ (Cd H p o) (μ.put h.nx p) where
 t:=fun q xs z=>(Ex.laid (μ:=μ) hp).t q xs z
 l:=fun q xs z=>by
  have nq:=aO z.1 hp;refine ⟨by rw [aH nq];exact z.1,fun n e=>?_,z.2.2⟩;by_cases hn:n=h.nx
  ·subst hn;rw [Mu.put_same] at e;exact nq (Fj e).symm
  ·rw [Mu.put_ne hn] at e;exact z.2.1 n e
 k:=fun q xs z=>(Ex.laid (μ:=μ) hp).k q xs z
 m:=fun n q e=>by
  have hn:n≠h.nx:=fun z=>by subst z;rw [R.dead (Dp _)] at e;cases e
  rw [Mu.put_ne hn];exact e
 x:=fun q o' u e=>by rw [aH (aO e hp)];exact e
 y:=fun q fs e=>by rw [aH (aO e hp)];exact e
 o:=fun q u z e=>⟨z,by rw [aH (aO e hp)];exact e⟩
theorem Ci.newCell {p:Addr}{o:HO}{c:Cell}(R:Ci K μ H h)(hp:H p=Go)(mo:ZR (Dn o))(ck:rB K (Cd H p o) (μ.put h.nx p) p c):Ci K (μ.put h.nx p) (Cd H p o) (h.new c) where
 inj:=fun m n q em en=>by
  by_cases hm:m=h.nx
  ·by_cases hn:n=h.nx
   ·rw [hm,hn]
   ·rw [hm,Mu.put_same] at em;rw [Mu.put_ne hn] at en;have e:p=q:=Fj em;subst e;have:=R.trk n _ en
    rw [hp] at this;exact this.elim
  ·rw [Mu.put_ne hm] at em;by_cases hn:n=h.nx
   ·rw [hn,Mu.put_same] at en;have e:p=q:=Fj en;subst e;have:=R.trk m _ em
    rw [hp] at this;exact this.elim
   ·rw [Mu.put_ne hn] at en;exact R.inj m n q em en
 dom:=fun n q e=>by
  show n<h.nx+1;by_cases hn:n=h.nx
  ·lia
  ·rw [Mu.put_ne hn] at e;have:=R.dom n q e
   lia
 trk:=fun n q e=>by
  by_cases hn:n=h.nx
  ·rw [hn,Mu.put_same] at e;have e:p=q:=Fj e;subst e;rw [aU];exact mo
  ·rw [Mu.put_ne hn] at e;have:=R.trk n q e
   have ne:q≠p:=fun z=>by subst z;rw [hp] at this;exact this
   rw [aH ne];exact this
 cel:=fun n d e=>by
  have e:(if n=h.nx then Dn c else h.c n)=Dn d:=e;by_cases hn:n=h.nx
  ·rw [if_pos hn] at e;have e:c=d:=Fj e;subst e;exact ⟨p,by rw [hn,Mu.put_same],ck⟩
  ·rw [if_neg hn] at e;obtain ⟨q,e1,x⟩:=R.cel n d e;have:=R.trk n q e1
   have ne:q≠p:=fun z=>by subst z;rw [hp] at this;exact this
   exact ⟨q,by rw [Mu.put_ne hn];exact e1,x.ext (Ex.newCell R hp).ext (aH ne)⟩
 hd:=fun q z=>by
  obtain ⟨⟨xs,e⟩,g⟩:=R.hd q z;have ne:=aO e hp;refine ⟨⟨xs,by rw [aH ne];exact e⟩,fun n en=>?_⟩;by_cases hn:n=h.nx
  ·rw [hn,Mu.put_same] at en;exact ne (Fj en).symm
  ·rw [Mu.put_ne hn] at en;exact g n en
theorem Rd.kept {p q:Addr}{o u:HO}(mo:ZR (H p))(r:Rd H q u)(hn:q≠p):Rd (Cd H p o) q u:=by
 unfold Rd;rw [aH hn];exact r
theorem Ex.write {n:Nat}{p:Addr}{o:HO}(R:Ci K μ H h)(hn:μ.f n=Dn p):Ex K H μ (Cd H p o) μ where
 t:=fun q xs z=>by
  rcases z with z | z
  ·refine .inl<|z.kept (R.trk n p hn) fun e=>?_
   subst e;have:=R.trk n q hn
   rcases z with r | ⟨_,r⟩ <;> rw [r] at this <;> exact this
  ·exact .inr z
 l:=fun q xs z=>⟨by rw [aH (fun e=>z.2.1 n (by rw [e];exact hn))];exact z.1,z.2⟩
 k:=fun q xs z=>by
  rcases z with ⟨o',z⟩ | z
  ·refine .inl ⟨o',?_⟩;rw [aH (fun e=>?_)]
   ·exact z
   ·subst e;have:=R.trk n q hn
    rw [z] at this;exact this
  ·exact .inr z
 m:=fun _ _ e=>e
 x:=fun q o' u e=>by
  rw [aH (fun y=>?_)]
  ·exact e
  ·subst y;have:=R.trk n q hn
   rw [e] at this;exact this
 y:=fun q fs e=>by
  rw [aH (fun y=>?_)]
  ·exact e
  ·subst y;have:=R.trk n q hn
   rw [e] at this;exact this
 o:=fun q u z e=>⟨z,by rw [aH (fun y=>(R.hd q z).2 n (by rw [y];exact hn))];exact e⟩
theorem Ci.write {n:Nat}{p:Addr}{o:HO}{c:Cell}(R:Ci K μ H h)(hn:μ.f n=Dn p)(mo:ZR (Dn o))(ck:rB K (Cd H p o) μ p c):Ci K μ (Cd H p o) (h.set n c) where
 inj:=R.inj
 dom:=R.dom
 trk:=fun m q e=>by
  by_cases z:q=p
  ·subst z;rw [aU];exact mo
  ·rw [aH z];exact R.trk m q e
 cel:=fun m d e=>by
  have e:(if m=n then Dn c else h.c m)=Dn d:=e;by_cases hm:m=n
  ·rw [if_pos hm] at e;have e:c=d:=Fj e;subst e;exact ⟨p,by rw [hm];exact hn,ck⟩
  ·rw [if_neg hm] at e;obtain ⟨q,e1,x⟩:=R.cel m d e;have ne:q≠p:=fun z=>by subst z;exact hm (R.inj m n q e1 hn)
   exact ⟨q,e1,x.ext (Ex.write R hn).ext (aH ne)⟩
 hd:=fun q z=>by
  obtain ⟨⟨xs,e⟩,g⟩:=R.hd q z;exact ⟨⟨xs,by rw [aH<|fun y=>g n (by rw [y];exact hn)];exact e⟩,g⟩
mutual
def Lo (k:Nat):W->Prop
 | .tup ws=>Iu k ws
 | .lst ws=>Iu k ws
 | .kls ws=>Iu k ws
 | .exa _ ws=>Iu k ws
 | .loc n=>n<k
 | _=>True
def Iu (k:Nat):List W->Prop
 | []=>True
 | w::ws=>Lo k w/\Iu k ws
end
mutual
theorem Bo.lo {k:Nat}(hd:∀ n p,μ.f n=Dn p->n<k):∀ {w:W} {v:V},Bo K H μ w v->Lo k w
 | .non,_,_=>by rw [Lo] <;> first | trivial | (intros;contradiction)
 | .bl _,_,_=>by rw [Lo] <;> first | trivial | (intros;contradiction)
 | .int _,_,_=>by rw [Lo] <;> first | trivial | (intros;contradiction)
 | .str _,_,_=>by rw [Lo] <;> first | trivial | (intros;contradiction)
 | .ty _,_,_=>by rw [Lo] <;> first | trivial | (intros;contradiction)
 | .exc _,_,_=>by rw [Lo] <;> first | trivial | (intros;contradiction)
 | .fnv _ _,_,_=>by rw [Lo] <;> first | trivial | (intros;contradiction)
 | .exa _ ws,_,h=>by
  rw [Bo] at h;obtain ⟨_,_,_,_,_,_,_,_,_,_,_,_,hr⟩:=h;rw [Lo];exact aN.lo hd hr
 | .tup ws,_,h=>by
  rw [Bo] at h;obtain ⟨p,xs,_,_,hr⟩:=h;rw [Lo];exact aN.lo hd hr
 | .lst ws,_,h=>by
  rw [Bo] at h;obtain ⟨p,xs,_,_,hr⟩:=h;rw [Lo];exact aN.lo hd hr
 | .kls ws,_,h=>by
  rw [Bo] at h;obtain ⟨p,xs,_,_,hr⟩:=h;rw [Lo];exact aN.lo hd hr
 | .loc n,_,h=>by
  rw [Bo] at h;obtain ⟨p,_,hm⟩:=h;rw [Lo];exact hd n p hm
theorem aN.lo {k:Nat}(hd:∀ n p,μ.f n=Dn p->n<k):∀ {ws:List W} {xs:List V},aN K H μ ws xs->Iu k ws
 | [],_,_=>by rw [Iu];trivial
 | w::ws,_,h=>by
  rw [aN] at h;obtain ⟨v,vs,_,r,h⟩:=h;rw [Iu];exact ⟨Bo.lo hd r,aN.lo hd h⟩
end
def Mu.cut (μ : Mu)(k:Nat):Mu:=⟨fun n=>if n<k then μ.f n else Go,μ.hid⟩
theorem Mu.cut_some {k n:Nat}{p:Addr}(e:(μ.cut k).f n=Dn p):n<k/\μ.f n=Dn p:=by
 have e:(if n<k then μ.f n else Go)=Dn p:=e;by_cases hn:n<k
 ·rw [if_pos hn] at e;exact ⟨hn,e⟩
 ·rw [if_neg hn] at e;cases e
mutual
theorem Bo.cut {k:Nat}:∀ {w:W} {v:V},Bo K H μ w v->Lo k w->Bo K H (μ.cut k) w v
 | .non,_,h,_=>by rw [Bo] at h |-;exact h
 | .bl _,_,h,_=>by rw [Bo] at h |-;exact h
 | .int _,_,h,_=>by rw [Bo] at h |-;exact h
 | .str _,_,h,_=>by rw [Bo] at h |-;exact h
 | .ty _,_,h,_=>by rw [Bo] at h |-;exact h
 | .exc _,_,h,_=>by rw [Bo] at h |-;exact h
 | .fnv _ _,_,h,_=>by rw [Bo] at h |-;exact h
 | .exa _ ws,_,h,l=>by
  rw [Bo] at h |-
  rw [Lo] at l;obtain ⟨p,o,u,dd,ns,xs,e1,hm,hx,hd,e2,e3,hr⟩:=h;exact ⟨p,o,u,dd,ns,xs,e1,hm,hx,hd,e2,e3,aN.cut hr l⟩
 | .tup ws,_,h,l=>by
  rw [Bo] at h |-
  rw [Lo] at l;obtain ⟨p,xs,e1,hs,hr⟩:=h;exact ⟨p,xs,e1,hs,aN.cut hr l⟩
 | .lst ws,_,h,l=>by
  rw [Bo] at h |-
  rw [Lo] at l;obtain ⟨p,xs,e1,hs,hr⟩:=h;exact ⟨p,xs,e1,⟨hs.1,fun n e=>hs.2.1 n (Mu.cut_some e).2,hs.2.2⟩,aN.cut hr l⟩
 | .kls ws,_,h,l=>by
  rw [Bo] at h |-
  rw [Lo] at l;obtain ⟨p,xs,e1,hs,hr⟩:=h;exact ⟨p,xs,e1,hs,aN.cut hr l⟩
 | .loc n,_,h,l=>by
  rw [Bo] at h |-
  rw [Lo] at l;obtain ⟨p,e1,hm⟩:=h;refine ⟨p,e1,?_⟩;show (if n<k then μ.f n else Go)=Dn p;rw [if_pos l];exact hm
theorem aN.cut {k:Nat}:∀ {ws:List W} {xs:List V},aN K H μ ws xs->Iu k ws->aN K H (μ.cut k) ws xs
 | [],_,h,_=>by rw [aN] at h |-;exact h
 | w::ws,_,h,l=>by
  rw [aN] at h |-
  rw [Iu] at l;obtain ⟨v,vs,e1,r,h⟩:=h;exact ⟨v,vs,e1,Bo.cut r l.1,aN.cut h l.2⟩
end
end
section
variable {K:Bs}{H H' H1 H2:Hp}{μ μ' μ1 μ2:Mu}{h h':Gh}{w:W}{ws:List W}{v:V}{xs ys:List V}{p:Addr}
def Mu.hide (μ : Mu)(p:Addr):Mu:=⟨μ.f,fun q=>q=p\/μ.hid q⟩
def Mu.unhide (μ : Mu)(p:Addr):Mu:=⟨μ.f,fun q=>q≠p/\μ.hid q⟩
structure Uz (p:Addr) (K:Bs) (H:Hp) (μ : Mu) (H':Hp) (μ':Mu):Prop where
 r:∀ w v,Bo K H μ w v->Bo K H' μ' w v
 o:∀ q u,q≠p->μ.hid q->H q=Dn u->μ'.hid q/\H' q=Dn u
theorem Ei.x (a:Ei K H μ H1 μ1)(hp:¬ μ.hid p)(b:Uz p K H1 μ1 H2 μ2):Ei K H μ H2 μ2:=
 ⟨fun w v z=>b.r w v (a.r w v z),fun q u z e=>let ⟨z1,e1⟩:=a.o q u z e;b.o q u (fun y=>hp (by rw [<-y];exact z)) z1 e1⟩
theorem Ei.hide {o:HO}(hp:H p=Go):Ei K H μ (Cd H p o) (μ.hide p):=Ex.ext {
 t:=fun q xs z=>(Ex.laid (μ:=μ) hp).t q xs z
 l:=fun q xs z=>by
  have nq:=aO z.1 hp;refine ⟨by rw [aH nq];exact z.1,z.2.1,fun y=>?_⟩;rcases y with y | y
  ·exact nq y
  ·exact z.2.2 y
 k:=fun q xs z=>(Ex.laid (μ:=μ) hp).k q xs z
 m:=fun _ _ e=>e
 x:=fun q o' u e=>by rw [aH (aO e hp)];exact e
 y:=fun q fs e=>by rw [aH (aO e hp)];exact e
 o:=fun q u z e=>⟨.inr z,by rw [aH (aO e hp)];exact e⟩ }
theorem Ci.nohid (R:Ci K μ H h)(hp:H p=Go):¬ μ.hid p:=fun z=>by
 obtain ⟨⟨xs,e⟩,_⟩:=R.hd p z;rw [hp] at e;cases e
theorem Ci.hide (R:Ci K μ H h)(hp:H p=Go):Ci K (μ.hide p) (Cd H p (.lst xs)) h where
 inj:=R.inj
 dom:=R.dom
 trk:=(R.laid hp).trk
 cel:=fun n c e=>by
  obtain ⟨q,e1,x⟩:=R.cel n c e;have:=R.trk n q e1
  have ne:q≠p:=fun z=>by subst z;rw [hp] at this;exact this
  exact ⟨q,e1,x.ext (Ei.hide hp)<|aH ne⟩
 hd:=fun q z=>by
  rcases z with z | z
  ·subst z;refine ⟨⟨xs,aU⟩,fun n e=>?_⟩;have:=R.trk n q e
   rw [hp] at this;exact this
  ·exact (R.laid (o:=.lst xs) hp).hd q z
theorem Ex0.grow (R:Ci K μ H h)(hp:μ.hid p):Ex0 K H μ (Cd H p (.lst ys)) μ where
 t:=fun q xs z=>by
  rcases z with z | z
  ·refine .inl ?_;unfold Rd;rw [aH (fun y=>?_)]
   ·exact z
   ·subst y;obtain ⟨⟨xs',e⟩,_⟩:=R.hd q hp;rcases z with r | ⟨_,r⟩ <;> rw [e] at r <;> cases r
  ·exact .inr z
 l:=fun q xs z=>⟨by rw [aH (fun y=>z.2.2 (by rw [y];exact hp))];exact z.1,z.2⟩
 k:=fun q xs z=>by
  rcases z with ⟨o',z⟩ | z
  ·refine .inl ⟨o',?_⟩;rw [aH (fun y=>?_)]
   ·exact z
   ·subst y;obtain ⟨⟨xs',e⟩,_⟩:=R.hd q hp;rw [e] at z;cases z
  ·exact .inr z
 m:=fun _ _ e=>e
 x:=fun q o' u e=>by
  rw [aH (fun y=>?_)]
  ·exact e
  ·subst y;obtain ⟨⟨xs',e'⟩,_⟩:=R.hd q hp;rw [e'] at e;cases e
 y:=fun q fs e=>by
  rw [aH (fun y=>?_)]
  ·exact e
  ·subst y;obtain ⟨⟨xs',e'⟩,_⟩:=R.hd q hp;rw [e'] at e;cases e
theorem Uz.grow (R:Ci K μ H h)(hp:μ.hid p):Uz p K H μ (Cd H p (.lst ys)) μ:=
 ⟨fun _ _ z=>Bo.ex (Ex0.grow R hp) z,fun q u ne z e=>⟨z,by rw [aH ne];exact e⟩⟩
theorem Ci.grow (R:Ci K μ H h)(hp:μ.hid p):Ci K μ (Cd H p (.lst ys)) h where
 inj:=R.inj
 dom:=R.dom
 trk:=fun n q e=>by
  have ne:q≠p:=fun z=>(R.hd p hp).2 n (by rw [<-z];exact e)
  rw [aH ne];exact R.trk n q e
 cel:=fun n c e=>by
  obtain ⟨q,e1,x⟩:=R.cel n c e;have ne:q≠p:=fun z=>(R.hd p hp).2 n (by rw [<-z];exact e1)
  refine ⟨q,e1,?_⟩;cases c with
  | lst ws=>obtain ⟨xs,a,b⟩:=x;exact ⟨xs,(aH ne).trans a,aN.ex (Ex0.grow R hp) b⟩
  | obj C fs=>obtain ⟨dx,fvs,a,b⟩:=x;exact ⟨dx,fvs,(aH ne).trans a,Paired.mapP b fun _ _ z=>⟨z.1,Bo.ex (Ex0.grow R hp) z.2⟩⟩
  | dct kvs=>obtain ⟨kvv,a,b⟩:=x;exact ⟨kvv,(aH ne).trans a,Paired.mapP b fun _ _ z=>⟨z.1,Bo.ex (Ex0.grow R hp) z.2⟩⟩
  | dtt kvs=>obtain ⟨xs,vs,a,b,c,d,f⟩:=x;exact ⟨xs,vs,(aH ne).trans a,b,c,aN.ex (Ex0.grow R hp) d,aN.ex (Ex0.grow R hp) f⟩
 hd:=fun q z=>by
  by_cases e:q=p
  ·subst e;exact ⟨⟨ys,aU⟩,(R.hd q hp).2⟩
  ·rw [aH e];exact R.hd q z
theorem Ex0.unhide:Ex0 K H μ H (μ.unhide p) where
 t:=fun _ _ z=>z
 l:=fun q xs z=>⟨z.1,z.2.1,fun y=>z.2.2 y.2⟩
 k:=fun _ _ z=>z
 m:=fun _ _ e=>e
 x:=fun _ _ _ e=>e
 y:=fun _ _ e=>e
theorem Uz.unhide:Uz p K H μ H (μ.unhide p):=⟨fun _ _ z=>Bo.ex Ex0.unhide z,fun q u ne z e=>⟨⟨ne,z⟩,e⟩⟩
theorem Ci.unhide (R:Ci K μ H h):Ci K (μ.unhide p) H h where
 inj:=R.inj
 dom:=R.dom
 trk:=R.trk
 cel:=fun n c e=>by
  obtain ⟨q,e1,x⟩:=R.cel n c e;refine ⟨q,e1,?_⟩;cases c with
  | lst ws=>obtain ⟨xs,a,b⟩:=x;exact ⟨xs,a,aN.ex Ex0.unhide b⟩
  | obj C fs=>obtain ⟨dx,fvs,a,b⟩:=x;exact ⟨dx,fvs,a,Paired.mapP b fun _ _ z=>⟨z.1,Bo.ex Ex0.unhide z.2⟩⟩
  | dct kvs=>obtain ⟨kvv,a,b⟩:=x;exact ⟨kvv,a,Paired.mapP b fun _ _ z=>⟨z.1,Bo.ex Ex0.unhide z.2⟩⟩
  | dtt kvs=>obtain ⟨xs,vs,a,b,c,d,f⟩:=x;exact ⟨xs,vs,a,b,c,aN.ex Ex0.unhide d,aN.ex Ex0.unhide f⟩
 hd:=fun q z=>R.hd q z.2
theorem Bo.built (R:Ci K μ H h)(hp:μ.hid p)(e:H p=Dn (.lst xs))(r:aN K H μ ws xs):Bo K H (μ.unhide p) (.lst ws) (.ref p):=by
 rw [Bo];exact ⟨p,xs,rfl,⟨e,(R.hd p hp).2,fun z=>z.1 rfl⟩,aN.ex Ex0.unhide r⟩
end
abbrev Sw:=List (Option W)
abbrev WK:=W->Gh->Prop
abbrev ME:=Sw->Gh->WK->Prop
abbrev MT:=Sw->Gh->(Bool->Gh->Prop)->Prop
abbrev MA:=Sw->Gh->(List W->Gh->Prop)->Prop
structure bA where
 nx:Sw->Gh->Prop
 rt:WK
 bk:Sw->Gh->Prop:=fun _ _=>False
 ct:Sw->Gh->Prop:=fun _ _=>False
abbrev MS:=bA->Sw->Gh->Prop
abbrev MG:=W->Sw->Gh->(Sw->Gh->Prop)->Prop
abbrev Mf:=List W->Sw->Gh->(Sw->Gh->Prop)->Prop
structure Xw where
 cls:Str
 fs:List (Str×W)
abbrev CK:=Xw->Gh->Prop
abbrev BK:=List W->Gh->WK->CK->Prop
def EF:CK:=fun _ _=>False
structure Slots (K:Bs) (H:Hp) (μ : Mu) (σw:Sw) (σ : St):Prop where
 len:σw.length = σ.length
 get:∀ (i:Nat) (w:W),σw[i]?=Dn (Dn w)->∃ v,σ[i]?=Dn (Dn v)/\Bo K H μ w v
inductive DQ (K:Bs) (H:Hp) (μ : Mu) (Q:WK) (v:V) (H':Hp):Prop where
 | mk (μ':Mu) (w:W) (h':Gh) (e:Ei K H μ H' μ') (R:Ci K μ' H' h') (r:Bo K H' μ' w v) (q:Q w h'):DQ K H μ Q v H'
inductive DB (K:Bs) (H:Hp) (μ : Mu) (Q:Bool->Gh->Prop) (b:Bool) (H':Hp):Prop where
 | mk (μ':Mu) (h':Gh) (e:Ei K H μ H' μ') (R:Ci K μ' H' h') (q:Q b h'):DB K H μ Q b H'
inductive DA (K:Bs) (H:Hp) (μ : Mu) (Q:List W->Gh->Prop) (vs:List V) (H':Hp):Prop where
 | mk (μ':Mu) (ws:List W) (h':Gh) (e:Ei K H μ H' μ') (R:Ci K μ' H' h') (r:aN K H' μ' ws vs) (q:Q ws h'):DA K H μ Q vs H'
inductive DN (K:Bs) (H:Hp) (μ : Mu) (N:Sw->Gh->Prop) (σ':St) (H':Hp):Prop where
 | mk (μ':Mu) (σw':Sw) (h':Gh) (e:Ei K H μ H' μ') (R:Ci K μ' H' h') (S:Slots K H' μ' σw' σ') (q:N σw' h'):DN K H μ N σ' H'
section
variable {K:Bs}{H H' H1 H2:Hp}{μ μ' μ1 μ2:Mu}{h h' h1:Gh}{w:W}{v:V}{σ : St}{σw:Sw}
theorem Slots.ext (S:Slots K H μ σw σ)(e:Ei K H μ H' μ'):Slots K H' μ' σw σ:=⟨S.len,fun i w q=>let ⟨v,a,b⟩:=S.get i w q;⟨v,a,e.r _ _ b⟩⟩
theorem Slots.set (S:Slots K H μ σw σ)(r:Bo K H μ w v)(i:Nat):Slots K H μ (σw.set i (Dn w)) (σ.set i (Dn v)):=by
 refine ⟨by rw [Tp,Tp,S.len],fun j u q=>?_⟩;rw [List.getElem?_set] at q |-
 by_cases hij:i=j
 ·rw [if_pos hij] at q |-
  by_cases hl:i < σw.length
  ·rw [if_pos hl] at q;rw [if_pos (by rw [<-S.len];exact hl)];have e:w=u:=by injection q with q;injection q
   subst e;exact ⟨v,rfl,r⟩
  ·rw [if_neg hl] at q;cases q
 ·rw [if_neg hij] at q |-
  exact S.get j u q
theorem DQ.trans {Q:WK}(e:Ei K H μ H1 μ1)(q:DQ K H1 μ1 Q v H'):DQ K H μ Q v H':=let ⟨μ',w,h',a,b,c,d⟩:=q;⟨μ',w,h',e.trans a,b,c,d⟩
theorem DB.trans {Q:Bool->Gh->Prop}{b:Bool}(e:Ei K H μ H1 μ1)(q:DB K H1 μ1 Q b H'):DB K H μ Q b H':=let ⟨μ',h',a,b,c⟩:=q;⟨μ',h',e.trans a,b,c⟩
theorem DN.trans {N:Sw->Gh->Prop}{σ':St}(e:Ei K H μ H1 μ1)(q:DN K H1 μ1 N σ' H'):DN K H μ N σ' H':=let ⟨μ',w,h',a,b,c,d⟩:=q;⟨μ',w,h',e.trans a,b,c,d⟩
end
inductive tD (K:Bs) (m:ME) (σ : St) (H:Hp) (Q:VK):Prop where
 | mk (μ : Mu) (h:Gh) (σw:Sw) (Qw:WK) (R:Ci K μ H h) (S:Slots K H μ σw σ) (x:m σw h Qw) (k:∀ v H',DQ K H μ Qw v H'->Q v H'):tD K m σ H Q
inductive tDT (K:Bs) (m:MT) (σ : St) (H:Hp) (Q:Bool->Hp->Prop):Prop where
 | mk (μ : Mu) (h:Gh) (σw:Sw) (Qw:Bool->Gh->Prop) (R:Ci K μ H h) (S:Slots K H μ σw σ) (x:m σw h Qw) (k:∀ b H',DB K H μ Qw b H'->Q b H'):tDT K m σ H Q
inductive tDA (K:Bs) (m:MA) (σ : St) (H:Hp) (Q:List V->Hp->Prop):Prop where
 | mk (μ : Mu) (h:Gh) (σw:Sw) (Qw:List W->Gh->Prop) (R:Ci K μ H h) (S:Slots K H μ σw σ) (x:m σw h Qw) (k:∀ vs H',DA K H μ Qw vs H'->Q vs H'):tDA K m σ H Q
inductive tDG (K:Bs) (g:MG) (v:V) (σ : St) (H:Hp) (N:St->Hp->Prop):Prop where
 | mk (μ : Mu) (h:Gh) (σw:Sw) (w:W) (Nw:Sw->Gh->Prop) (R:Ci K μ H h) (S:Slots K H μ σw σ) (r:Bo K H μ w v) (x:g w σw h Nw) (k:∀ σ' H',DN K H μ Nw σ' H'->N σ' H'):tDG K g v σ H N
inductive ab9 (K:Bs) (g:Mf) (vs:List V) (σ : St) (H:Hp) (N:St->Hp->Prop):Prop where
 | mk (μ : Mu) (h:Gh) (σw:Sw) (ws:List W) (Nw:Sw->Gh->Prop) (R:Ci K μ H h) (S:Slots K H μ σw σ) (r:aN K H μ ws vs) (x:g ws σw h Nw) (k:∀ σ' H',DN K H μ Nw σ' H'->N σ' H'):ab9 K g vs σ H N
structure uE (K:Bs) (H:Hp) (μ : Mu) (Dw:bA) (D:Ends):Prop where
 nx:∀ σ' H',DN K H μ Dw.nx σ' H'->D.nx σ' H'
 rt:∀ v H',DQ K H μ Dw.rt v H'->D.rt v H'
 bk:∀ σ' H',DN K H μ Dw.bk σ' H'->D.bk σ' H'
 ct:∀ σ' H',DN K H μ Dw.ct σ' H'->D.ct σ' H'
inductive tDS (K:Bs) (m:MS) (D:Ends) (σ : St) (H:Hp):Prop where
 | mk (μ : Mu) (h:Gh) (σw:Sw) (Dw:bA) (R:Ci K μ H h) (S:Slots K H μ σw σ) (x:m Dw σw h) (k:uE K H μ Dw D):tDS K m D σ H
theorem uE.trans {K:Bs}{H H1:Hp}{μ μ1:Mu}{Dw:bA}{D:Ends}(k:uE K H μ Dw D)(e:Ei K H μ H1 μ1):uE K H1 μ1 Dw D:=
 ⟨fun _ _ q=>k.nx _ _ (q.trans e),fun _ _ q=>k.rt _ _ (q.trans e),fun _ _ q=>k.bk _ _ (q.trans e),fun _ _ q=>k.ct _ _ (q.trans e)⟩
section
variable {X:Cx}{e:Expr}{es:List Expr}{st:Stmt}{sts:List Stmt}
theorem PE.of {t t':TE}(h:PE X e t)(k:∀ σ H Q,t' σ H Q->t σ H Q):PE X e t':=fun pins s σ H Q I q=>h pins s σ H Q I (k σ H Q q)
theorem PT.of {t t':TT}(h:PT X e t)(k:∀ σ H Q,t' σ H Q->t σ H Q):PT X e t':=fun pins s σ H Q I q=>h pins s σ H Q I (k σ H Q q)
theorem PW.of {t t':TT}(h:PW X e t)(k:∀ σ H Q,t' σ H Q->t σ H Q):PW X e t':=fun wh pins s σ H Q I q=>h wh pins s σ H Q I (k σ H Q q)
theorem PA.of {t t':TA}(h:PA X es t)(k:∀ σ H Q,t' σ H Q->t σ H Q):PA X es t':=fun pos pins s σ H Q I q=>h pos pins s σ H Q I (k σ H Q q)
theorem PG.of {t t':TG}(h:PG X e t)(k:∀ v σ H Q,t' v σ H Q->t v σ H Q):PG X e t':=fun pins s σ H v u Q I r q=>h pins s σ H v u Q I r (k v σ H Q q)
theorem Qj.of {t t':Q9}(h:Qj X es t)(k:∀ v σ H Q,t' v σ H Q->t v σ H Q):Qj X es t':=fun pins s σ H v u Q I r q=>h pins s σ H v u Q I r (k v σ H Q q)
theorem PS.of {t t':TS}(h:PS X st t)(k:∀ D σ H,t' D σ H->t D σ H):PS X st t':=fun pins s σ H D I q=>h pins s σ H D I (k D σ H q)
theorem KQ.of {t t':TS}(h:KQ X sts t)(k:∀ D σ H,t' D σ H->t D σ H):KQ X sts t':=fun pins s σ H D I q=>h pins s σ H D I (k D σ H q)
end
abbrev DE (X:Cx)(e:Expr)(m:ME):Prop:=PE X e (tD X.K m)
abbrev DT (X:Cx)(e:Expr)(m:MT):Prop:=PT X e (tDT X.K m)
abbrev DWt (X:Cx)(e:Expr)(m:MT):Prop:=PW X e (tDT X.K m)
abbrev Hr (X:Cx)(es:List Expr)(m:MA):Prop:=PA X es (tDA X.K m)
abbrev DG (X:Cx)(e:Expr)(m:MG):Prop:=PG X e (tDG X.K m)
abbrev ZL (X:Cx)(es:List Expr)(m:Mf):Prop:=Qj X es (ab9 X.K m)
abbrev DS (X:Cx)(st:Stmt)(m:MS):Prop:=PS X st (tDS X.K m)
abbrev Pr (X:Cx)(st:List Stmt)(m:MS):Prop:=KQ X st (tDS X.K m)
section
variable {X:Cx}{e a b c:Expr}{ma mb mc:ME}{pos:Pos}
def aq (i:Nat):ME:=fun σ h Q=>match σ[i]? with
 | some (Dn w)=>Q w h
 | _=>False
def mC (w:W):ME:=fun _ h Q=>Q w h
theorem dv (i:Nat)(he:PE X e (Zr i)):DE X e (aq i):=he.of fun σ H Q ⟨μ,h,σw,Qw,R,S,m,k⟩=>by
 unfold aq at m;cases q:σw[i]? with
 | none=>rw [q] at m;exact m.elim
 | some o=>
  rw [q] at m;cases o with
  | none=>exact m.elim
  | some w=>
   obtain ⟨v,h1,h2⟩:=S.get i w q;exact ⟨v,h1,k _ _ ⟨μ,w,h,.refl,R,h2,m⟩⟩
theorem dc {w:W}{v:V}(he:PE X e (tC v))(r:∀ H μ,Bo X.K H μ w v):DE X e (mC w):=he.of fun σ H Q ⟨μ,h,σw,Qw,R,S,m,k⟩=>k _ _ ⟨μ,w,h,.refl,R,r H μ,m⟩
theorem ao {i:Int}{j pos}:DE X (.Constant (.int i) j pos) (mC (.int i)):=dc ahd fun _ _=>by rw [Bo]
theorem Ca {i:Bool}{j pos}:DE X (.Constant (.bool i) j pos) (mC (.bl i)):=dc aat fun _ _=>by rw [Bo]
theorem O7 {j pos}:DE X (.Constant .none j pos) (mC .non):=dc WW fun _ _=>by rw [Bo]
theorem cF {i:Str}{j pos}:DE X (.Constant (.str i) j pos) (mC (.str i)):=dc afr fun _ _=>by rw [Bo]
abbrev M2:=W->W->Gh->WK->Prop
def AP (r:M2)(ma mb:ME):ME:=fun σ h Q=>ma σ h fun x h1=>mb σ h1 fun y h2=>r x y h2 Q
def acr (K:Bs)(r:R2)(mr:M2):Prop:=∀ {H:Hp} {μ : Mu} {h:Gh} {x y:V} {wx wy:W} {Qw:WK} {Q:VK},Ci K μ H h->Bo K H μ wx x->Bo K H μ wy y->mr wx wy h Qw ->
 (∀ v H',DQ K H μ Qw v H'->Q v H')->r x y H Q
theorem two {K:Bs}{σ : St}{H:Hp}{Q:VK}{mr:M2}{R2':V->V->Hp->Prop}(h:tD K (AP mr ma mb) σ H Q)
  (k:∀ {H2:Hp} {μ2:Mu} {h2:Gh} {x y:V} {wx wy:W} {Qw:WK},Ci K μ2 H2 h2->Bo K H2 μ2 wx x->Bo K H2 μ2 wy y->mr wx wy h2 Qw->(∀ v H',DQ K H2 μ2 Qw v H'->Q v H')->R2' x y H2) :
  tD K ma σ H fun x H1=>tD K mb σ H1 fun y H2=>R2' x y H2:=by
 obtain ⟨μ,g,σw,Qw,R,S,m,q⟩:=h;refine ⟨μ,g,σw,_,R,S,m,fun x H1 ⟨μ1,wx,h1,e1,R1,r1,m1⟩=>?_⟩;refine ⟨μ1,h1,σw,_,R1,S.ext e1,m1,fun y H2 ⟨μ2,wy,h2,e2,R2,r2,m2⟩=>?_⟩;exact k R2 (e2.r _ _ r1) r2 m2 fun v H' z=>q _ _<|(z.trans e2).trans e1
def Ka (X:Cx)(f:JI->JI->Sem JI)(mr:M2):Prop:=∃ r,Ho X f r/\acr X.K r mr
theorem aX {op:Operator}{mr:M2}(ho:Ka X (KH op) mr)(ha:DE X a ma)(hb:DE X b mb):DE X (.BinOp a op b pos) (AP mr ma mb):=by
 obtain ⟨r,o,s⟩:=ho;exact (aaP o ha hb).of fun σ H Q h=>two h fun R r1 r2 m k=>s R r1 r2 m k
theorem aaA {op:CmpOp}{mr:M2}(ho:Ka X (KY op) mr)(ha:DE X a ma)(hb:DE X b mb)(hm:RN op b=false):DE X (.Compare a [op] [b] pos) (AP mr ma mb):=by
 obtain ⟨r,o,s⟩:=ho;exact (afi o ha hb hm).of fun σ H Q h=>two h fun R r1 r2 m k=>s R r1 r2 m k
def bC (m:ME):MT:=fun σ h Q=>m σ h fun w h1=>match w with
 | .bl c=>Q c h1
 | _=>False
theorem agf {K:Bs}{σ : St}{H:Hp}{m:ME}{Q:Bool->Hp->Prop}(h:tDT K (bC m) σ H Q):tD K m σ H fun x H'=>∃ k,x=.bl k/\Q k H':=by
 obtain ⟨μ,g,σw,Qw,R,S,mm,q⟩:=h;refine ⟨μ,g,σw,_,R,S,mm,fun v H' ⟨μ1,w,h1,e1,R1,r1,m1⟩=>?_⟩;cases w with
 | bl c=>rw [Bo] at r1;exact ⟨c,r1,q _ _ ⟨μ1,h1,e1,R1,m1⟩⟩
 | _=>exact m1.elim
theorem OD {op:CmpOp}{mr:M2}(ho:Ka X (KY op) mr)(ha:DE X a ma)(hb:DE X b mb)(hm:RN op b=false):DT X (.Compare a [op] [b] pos) (bC (AP mr ma mb)):=by
 obtain ⟨r,o,s⟩:=ho;exact (agY o ha hb hm).of fun σ H Q h=>two (agf h) fun R r1 r2 m k=>s R r1 r2 m k
def El (c:Bool)(a b:Prop):Prop:=match c with
 | true=>a
 | false=>b
def br (c:Bool)(a b:Prop):Prop:=(c=true->a)/\(c=false->b)
theorem qM {c:Bool}{a b:Prop}(e:c=true)(x:a):br c a b:=⟨fun _=>x,fun z=>by rw [e] at z;cases z⟩
theorem dj {c:Bool}{a b:Prop}(e:c=false)(x:b):br c a b:=⟨fun z=>(by rw [e] at z;cases z),fun _=>x⟩
theorem J4 {c:Prop} [Decidable c] {a b:Prop} (x:c->a) (y:¬ c->b):br (decide c) a b:=⟨fun e=>x (of_decide_eq_true e),fun e=>y (of_decide_eq_false e)⟩
def aaL (t u:MT):MT:=fun σ h Q=>t σ h fun c h1=>br c (u σ h1 Q) (Q false h1)
def mOr (t u:MT):MT:=fun σ h Q=>t σ h fun c h1=>br c (Q true h1) (u σ h1 Q)
def Ol (t:MT):MT:=fun σ h Q=>t σ h fun c h1=>Q (!c) h1
variable {tA tB':MT}{rest:List Expr}
theorem afw (ha:DT X a tA):DWt X (.BoolOp .And [a] pos) tA:=aeA ha
theorem yQ (ha:DT X a tA):DWt X (.BoolOp .Or [a] pos) tA:=Yj ha
theorem X5 (ha:DT X a tA)(hb:DWt X (.BoolOp .And (b::rest) pos) tB'):DWt X (.BoolOp .And (a::b::rest) pos) (aaL tA tB'):=(WM ha hb).of fun σ H Q ⟨μ,g,σw,Qw,R,S,m,q⟩=>by
 refine ⟨μ,g,σw,_,R,S,m,fun c H1 ⟨μ1,h1,e1,R1,m1⟩=>?_⟩;cases c with
 | true=>
  rw [if_pos rfl];exact ⟨μ1,h1,σw,_,R1,S.ext e1,m1.1 rfl,fun b H' z=>q _ _<|z.trans e1⟩
 | false=>
  rw [if_neg Hi];exact q _ _ ⟨μ1,h1,e1,R1,m1.2 rfl⟩
theorem GD (ha:DT X a tA)(hb:DWt X (.BoolOp .Or (b::rest) pos) tB'):DWt X (.BoolOp .Or (a::b::rest) pos) (mOr tA tB'):=(abv ha hb).of fun σ H Q ⟨μ,g,σw,Qw,R,S,m,q⟩=>by
 refine ⟨μ,g,σw,_,R,S,m,fun c H1 ⟨μ1,h1,e1,R1,m1⟩=>?_⟩;cases c with
 | true=>
  rw [if_pos rfl];exact q _ _ ⟨μ1,h1,e1,R1,m1.1 rfl⟩
 | false=>
  rw [if_neg Hi];exact ⟨μ1,h1,σw,_,R1,S.ext e1,m1.2 rfl,fun b H' z=>q _ _<|z.trans e1⟩
theorem qZ (ha:DT X a tA):DT X (.UnaryOp .Not a pos) (Ol tA):=(Wq ha).of fun σ H Q ⟨μ,g,σw,Qw,R,S,m,q⟩=>
 ⟨μ,g,σw,_,R,S,m,fun c H1 ⟨μ1,h1,e1,R1,m1⟩=>q _ _ ⟨μ1,h1,e1,R1,m1⟩⟩
def Uc (a b:ME):ME:=fun σ h Q=>a σ h fun x h1=>match x with
 | .bl true=>b σ h1 Q
 | .bl false=>Q (.bl false) h1
 | _=>False
def acV (a b:ME):ME:=fun σ h Q=>a σ h fun x h1=>match x with
 | .bl false=>b σ h1 Q
 | .bl true=>Q (.bl true) h1
 | _=>False
def Sy (a:ME):ME:=fun σ h Q=>a σ h fun x h1=>match x with
 | .bl c=>Q (.bl (!c)) h1
 | _=>False
theorem abd {op}(h:DE X a ma):DE X (.BoolOp op [a] pos) ma:=XH h
theorem abt (ha:DE X a ma)(hb:DE X (.BoolOp .And (b::rest) pos) mb):DE X (.BoolOp .And (a::b::rest) pos) (Uc ma mb):=(Y6 ha hb).of fun σ H Q ⟨μ,g,σw,Qw,R,S,m,q⟩=>by
 refine ⟨μ,g,σw,_,R,S,m,fun v H1 ⟨μ1,w,h1,e1,R1,r1,m1⟩=>?_⟩;cases w with
 | bl c=>
  rw [Bo] at r1;refine ⟨c,r1,?_⟩;cases c with
  | true=>rw [if_pos rfl];exact ⟨μ1,h1,σw,_,R1,S.ext e1,m1,fun b H' z=>q _ _ (z.trans e1)⟩
  | false=>rw [if_neg Hi];exact q _ _ ⟨μ1,.bl false,h1,e1,R1,by rw [Bo],m1⟩
 | _=>exact m1.elim
theorem aa9 (ha:DE X a ma):DE X (.UnaryOp .Not a pos) (Sy ma):=(Xy ha).of fun σ H Q ⟨μ,g,σw,Qw,R,S,m,q⟩=>by
 refine ⟨μ,g,σw,_,R,S,m,fun v H1 ⟨μ1,w,h1,e1,R1,r1,m1⟩=>?_⟩;cases w with
 | bl c=>rw [Bo] at r1;exact ⟨c,r1,q _ _ ⟨μ1,.bl (!c),h1,e1,R1,by rw [Bo],m1⟩⟩
 | _=>exact m1.elim
def mIf (t:MT)(a b:ME):ME:=fun σ h Q=>t σ h fun c h1=>br c (a σ h1 Q) (b σ h1 Q)
theorem ab5 (hc:DT X c tA)(ha:DE X a ma)(hb:DE X b mb):DE X (.IfExp c a b pos) (mIf tA ma mb):=(zbn hc ha hb).of fun σ H Q ⟨μ,g,σw,Qw,R,S,m,q⟩=>by
 refine ⟨μ,g,σw,_,R,S,m,fun c H1 ⟨μ1,h1,e1,R1,m1⟩=>?_⟩;cases c with
 | true=>
  rw [if_pos rfl];exact ⟨μ1,h1,σw,_,R1,S.ext e1,m1.1 rfl,fun b H' z=>q _ _<|z.trans e1⟩
 | false=>
  rw [if_neg Hi];exact ⟨μ1,h1,σw,_,R1,S.ext e1,m1.2 rfl,fun b H' z=>q _ _<|z.trans e1⟩
def mUn (r:W->Gh->WK->Prop)(a:ME):ME:=fun σ h Q=>a σ h fun x h1=>r x h1 Q
def U5:W->Gh->WK->Prop:=fun x h Q=>match x with
 | .int i=>Q (.int (-i)) h
 | _=>False
theorem Mx (ha:DE X a ma):DE X (.UnaryOp .USub a pos) (mUn U5 ma):=(Z4 W4 ha).of fun σ H Q ⟨μ,g,σw,Qw,R,S,m,q⟩=>by
 refine ⟨μ,g,σw,_,R,S,m,fun v H1 ⟨μ1,w,h1,e1,R1,r1,m1⟩=>?_⟩;cases w with
 | int i=>rw [Bo] at r1;exact ⟨i,r1,q _ _ ⟨μ1,.int (-i),h1,e1,R1,by rw [Bo],m1⟩⟩
 | _=>exact m1.elim
def aJ:MA:=fun _ h Q=>Q [] h
def aj (a:ME)(r:MA):MA:=fun σ h Q=>a σ h fun x h1=>r σ h1 fun xs h2=>Q (x::xs) h2
variable {es:List Expr}{mr:MA}
theorem fD:Hr X [] aJ:=FZ.of fun σ H Q ⟨μ,g,σw,Qw,R,S,m,q⟩=>q _ _ ⟨μ,[],g,.refl,R,.nil,m⟩
theorem cV (ha:DE X e ma)(hr:Hr X es mr)(hs:Ce (e::es) X.env=(false,eval e X.env)::Ce es X.env:=by rfl):Hr X (e::es) (aj ma mr):=(yx ha hr hs).of fun σ H Q ⟨μ,g,σw,Qw,R,S,m,q⟩=>by
 refine ⟨μ,g,σw,_,R,S,m,fun v H1 ⟨μ1,w,h1,e1,R1,r1,m1⟩=>?_⟩;refine ⟨μ1,h1,σw,_,R1,S.ext e1,m1,fun vs H2 ⟨μ2,ws,h2,e2,R2,r2,m2⟩=>?_⟩;exact q _ _ ⟨μ2,w::ws,h2,e1.trans e2,R2,.cons (e2.r _ _ r1) r2,m2⟩
def jc (n:Nat)(P:Prop):Prop:=El (Nat.ble n 1000) P (n<=Dk/\P)
theorem jc.ok {n:Nat}{P:Prop}(h:jc n P):n<=Dk/\P:=by
 unfold jc at h;cases e:Nat.ble n 1000 with
 | true=>rw [e] at h;exact ⟨GK (Gq e) (by decide),h⟩
 | false=>rw [e] at h;exact h
theorem jc.mk {n:Nat}{P:Prop}(hn:n<=Dk)(h:P):jc n P:=by
 unfold jc;cases e:Nat.ble n 1000 with
 | true=>exact h
 | false=>exact ⟨hn,h⟩
def mJ (t:MA):ME:=fun σ h Q=>t σ h fun ws h1=>jc ws.length (Q (.tup ws) h1)
def Ac (t:MA):ME:=fun σ h Q=>t σ h fun ws h1=>jc ws.length (Q (.lst ws) h1)
def sY (t:MA):ME:=fun σ h Q=>t σ h fun ws h1=>jc ws.length (Q (.loc h1.nx) (h1.new (.lst ws)))
theorem dX {x1}(h:Hr X es mr):DE X (.Tuple es x1 pos) (mJ mr):=(Xq h).of fun σ H Q ⟨μ,g,σw,Qw,R,S,m,q⟩=>
 ⟨μ,g,σw,_,R,S,m,fun vs H1 ⟨μ1,ws,h1,e1,R1,r1,sz⟩=>⟨by rw [<-r1.len];exact sz.ok.1,fun p hp=>q _ _ ⟨μ1,.tup ws,h1,e1.trans (Ex.laid hp).ext,R1.laid hp,.tupNew hp r1,sz.ok.2⟩⟩⟩
theorem nu (h:Hr X es mr):DE X (.List es pos) (Ac mr):=(N8 h).of fun σ H Q ⟨μ,g,σw,Qw,R,S,m,q⟩=>
 ⟨μ,g,σw,_,R,S,m,fun vs H1 ⟨μ1,ws,h1,e1,R1,r1,sz⟩=>⟨by rw [<-r1.len];exact sz.ok.1,fun p hp=>q _ _ ⟨μ1,.lst ws,h1,e1.trans (Ex.laid hp).ext,R1.laid hp,.lstNew R1 hp r1,sz.ok.2⟩⟩⟩
theorem Xl {K:Bs}{H:Hp}{μ : Mu}{h:Gh}{p:Addr}{ws:List W}{xs:List V}(R:Ci K μ H h)(hp:H p=Go)(r:aN K H μ ws xs) :
  Ci K (μ.put h.nx p) (Cd H p (.lst xs)) (h.new (.lst ws)):=R.newCell hp trivial ⟨xs,aU,(Ex.newCell R hp).ext.s r⟩
theorem vJ (h:Hr X es mr):DE X (.List es pos) (sY mr):=(N8 h).of fun σ H Q ⟨μ,g,σw,Qw,R,S,m,q⟩=>
 ⟨μ,g,σw,_,R,S,m,fun vs H1 ⟨μ1,ws,h1,e1,R1,r1,sz⟩=>⟨by rw [<-r1.len];exact sz.ok.1,fun p hp=>q _ _ ⟨μ1.put h1.nx p,.loc h1.nx,h1.new (.lst ws),e1.trans (Ex.newCell R1 hp).ext,Xl R1 hp r1,by rw [Bo];exact ⟨p,rfl,Mu.put_same⟩,sz.ok.2⟩⟩⟩
inductive lift (K:Bs) (ms:BK) (vs:List V) (H:Hp) (Q:VK) (E:XK):Prop where
 | mk (μ : Mu) (h:Gh) (ws:List W) (Qw:WK) (R:Ci K μ H h) (r:aN K H μ ws vs) (x:ms ws h Qw EF) (k:∀ v H',DQ K H μ Qw v H'->Q v H'):lift K ms vs H Q E
def aG (ms:BK)(E:CK)(ma:MA):ME:=fun σ h Q=>ma σ h fun ws h1=>ms ws h1 Q E
theorem call_of {K:Bs}{σ : St}{H:Hp}{Q:VK}{E:XK}{ms:BK}{ma:MA}(h:tD K (aG ms EF ma) σ H Q):Rh (lift K ms) [] E (tDA K ma) σ H Q:=by
 obtain ⟨μ,g,σw,Qw,R,S,m,q⟩:=h;refine ⟨μ,g,σw,_,R,S,m,fun vs H1 ⟨μ1,ws,h1,e1,R1,r1,m1⟩=>?_⟩;show lift K ms (vs++[]) H1 Q E;rw [Ue];exact ⟨μ1,h1,ws,Qw,R1,r1,m1,fun v H' z=>q _ _<|z.trans e1⟩
theorem Wn {k:Nat}{f:Addr}{fd:Ib}{ps:List Str}{ms:BK}{x:Str}{p:Pos}(F:iW X.prog X.w X.K X.mg X.base Jj k f fd ps (lift X.K ms))(hr:fP k X.A)(hg:Gl X x)(hm:X.mg x=Dn (.ref f))(hk:Lp X.K (.ref f)=true)
  (hb:Binds X.K fd ps []) (ha:Hr X (e::es) mr) (hdb:(x==("__debug__" : Str))=false:=by decide) (he:Ce (e::es) X.env=(false,eval e X.env)::Ce es X.env:=by rfl) (hpl:(HB pos (Ce es X.env)).any (·.1)=false:=by rfl) :
  DE X (.Call (.Name x p) (e::es) [] pos) (aG ms EF mr):=(agW F hr hg hm hk hb .nil QV ha hdb he hpl).of fun _ _ _ h=>call_of h
theorem agA {k:Nat}{f:Addr}{fd:Ib}{ps:List Str}{ms:BK}{x:Str}{p:Pos}(F:iW X.prog X.w X.K X.mg X.base Jj k f fd ps (lift X.K ms))(hr:fP k X.A)(hg:Gl X x)(hm:X.mg x=Dn (.ref f))(hk:Lp X.K (.ref f)=true)
  (hb:Binds X.K fd ps []) (hdb:(x==("__debug__" : Str))=false:=by decide):DE X (.Call (.Name x p) [] [] pos) (aG ms EF aJ):=(zbc F hr hg hm hk hb .nil QV hdb).of fun σ H Q ⟨μ,g,σw,Qw,R,S,m,q⟩=>
 ⟨μ,g,[],Qw,R,.nil,m,q⟩
def ZP (h:Gh)(w:W):Option Bool:=match w with
 | .non=>Dn false
 | .bl b=>Dn b
 | .int i=>Dn (i != 0)
 | .tup ws=>Dn (!ws.isEmpty)
 | .lst ws=>Dn (!ws.isEmpty)
 | .kls ws=>Dn (!ws.isEmpty)
 | .loc n=>(match h.c n with
  | some (.lst ws)=>Dn (!ws.isEmpty)
  | _=>Go)
 | _=>Go
def yp (m:ME):MT:=fun σ h Q=>m σ h fun w h1=>match ZP h1 w with
 | some b=>Q b h1
 | none=>False
theorem aN.emp {K:Bs}{H:Hp}{μ : Mu}{ws:List W}{xs:List V}(r:aN K H μ ws xs):ws.isEmpty=xs.isEmpty:=by
 have:=r.len
 cases ws <;> cases xs <;> first | rfl | cases this
theorem fG (he:DE X e ma)(h:∀ whole,isTrue e X.env whole=(do let v <-whole;standAt e.pos;QJ [v] (truthy v)):=by intro _;rfl):DT X e (yp ma):=(agS he h).of fun σ H Q ⟨μ,g,σw,Qw,R,S,m,q⟩=>by
 refine ⟨μ,g,σw,_,R,S,m,fun v H1 ⟨μ1,w,h1,e1,R1,r1,m1⟩=>?_⟩;split at m1
 ·rename_i b eb;refine ⟨b,?_,q _ _ ⟨μ1,h1,e1,R1,m1⟩⟩;cases w with
  | non=>rw [Bo] at r1;subst r1;cases eb;rfl
  | bl c=>rw [Bo] at r1;subst r1;cases eb;rfl
  | int c=>rw [Bo] at r1;subst r1;cases eb;rfl
  | tup ws=>
   rw [Bo] at r1;obtain ⟨p,xs,ev,hs,rs⟩:=r1;subst ev;cases eb;exact .inr<|.inl ⟨xs,hs,by rw [rs.emp]⟩
  | lst ws=>
   rw [Bo] at r1;obtain ⟨p,xs,ev,hs,rs⟩:=r1;subst ev;cases eb;exact .inl ⟨xs,hs.sq,by rw [rs.emp]⟩
  | kls ws=>
   rw [Bo] at r1;obtain ⟨p,xs,ev,hs,rs⟩:=r1;subst ev;cases eb;exact .inl ⟨xs,hs.sq,by rw [rs.emp]⟩
  | loc n=>
   rw [Bo] at r1;obtain ⟨p,ev,hm⟩:=r1;subst ev;unfold ZP at eb;dsimp only at eb;cases ec:h1.c n with
   | none=>rw [ec] at eb;cases eb
   | some cl=>
    rw [ec] at eb;cases cl with
    | lst ws=>
     cases eb;obtain ⟨p',hm',xs,hx,rs⟩:=R1.cel n _ ec;have ep:p'=p:=by rw [hm] at hm';exact (Fj hm').symm
     subst ep;exact .inl ⟨xs,.of hx,by rw [rs.emp]⟩
    | _=>cases eb
  | _=>cases eb
 ·exact m1.elim
abbrev MC:=List W->Gh->WK->Prop
def Fv (r:MC)(ma:MA):ME:=fun σ h Q=>ma σ h fun ws h1=>r ws h1 Q
def ach (K:Bs)(r:List V->Hp->VK->Prop)(mr:MC):Prop:=∀ {H:Hp} {μ : Mu} {h:Gh} {vs:List V} {ws:List W} {Qw:WK} {Q:VK},Ci K μ H h->aN K H μ ws vs->mr ws h Qw->(∀ v H',DQ K H μ Qw v H'->Q v H')->r vs H Q
def pR (X:Cx)(f:JI)(mr:MC):Prop:=∃ r,m9 X f r/\ach X.K r mr
theorem U7 {K:Bs}{σ : St}{H:Hp}{Q:VK}{r:List V->Hp->VK->Prop}{mc:MC}{ma:MA}(s:ach K r mc)(h:tD K (Fv mc ma) σ H Q):tCB r (tDA K ma) σ H Q:=by
 obtain ⟨μ,g,σw,Qw,R,S,m,q⟩:=h;exact ⟨μ,g,σw,_,R,S,m,fun vs H1 ⟨μ1,ws,h1,e1,R1,r1,m1⟩=>s R1 r1 m1 fun v H' z=>q _ _<|z.trans e1⟩
theorem zbO {x:Str}{p:Pos}{id:String}{mc:MC}(hc:pR X (.builtin id) mc)(hg:Gl X x)(hm:X.mg x=Go)(hv:Qo x=Dn (.builtin id))(ha:Hr X (e::es) mr)(hn:x ≠ "__name__":=by decide)(hdb:(x==("__debug__" : Str))=false:=by decide)
  (he:Ce (e::es) X.env=(false,eval e X.env)::Ce es X.env:=by rfl) (hpl:(HB pos (Ce es X.env)).any (·.1)=false:=by rfl):DE X (.Call (.Name x p) (e::es) [] pos) (Fv mc mr):=by
 obtain ⟨r,c,s⟩:=hc;exact (zB c hg hm hv ha hn hdb he hpl).of fun _ _ _ h=>U7 s h
theorem rW {x:Str}{p:Pos}{T:String}{mc:MC}(hc:pR X (.type T) mc)(hg:Gl X x)(hm:X.mg x=Go)(hv:Qo x=Dn (.type T))(ha:Hr X (e::es) mr)(hn:x ≠ "__name__":=by decide)(hdb:(x==("__debug__" : Str))=false:=by decide)
  (he:Ce (e::es) X.env=(false,eval e X.env)::Ce es X.env:=by rfl) (hpl:(HB pos (Ce es X.env)).any (·.1)=false:=by rfl):DE X (.Call (.Name x p) (e::es) [] pos) (Fv mc mr):=by
 obtain ⟨r,c,s⟩:=hc;exact (vC c hg hm hv ha hn hdb he hpl).of fun _ _ _ h=>U7 s h
end
section
variable {X:Cx}{e a b c tg:Expr}{ma mb mc:ME}{pos:Pos}{es:List Expr}
def BW (i:Nat):MG:=fun w σ h N=>N (σ.set i (Dn w)) h
theorem xJ {i:Nat}(hg:PG X e (GC i)):DG X e (BW i):=hg.of fun v σ H N ⟨μ,h,σw,w,Nw,R,S,r,m,k⟩=>k _ _ ⟨μ,σw.set i (Dn w),h,.refl,R,S.set r i,m⟩
def Wf:Mf:=fun ws σ h N=>match ws with
 | []=>N σ h
 | _=>False
def qy (g:MG)(r:Mf):Mf:=fun ws σ h N=>match ws with
 | w::ws'=>g w σ h fun σ1 h1=>r ws' σ1 h1 N
 | []=>False
theorem yH:ZL X [] Wf:=JV.of fun vs σ H N ⟨μ,h,σw,ws,Nw,R,S,r,m,k⟩=>by
 cases ws with
 | nil=>rw [aN] at r;exact ⟨r,k _ _ ⟨μ,σw,h,.refl,R,S,m⟩⟩
 | cons w ws=>exact m.elim
theorem d8 {g:MG}{u:Mf}(h1:DG X e g)(h2:ZL X es u)(hs:(Jr (e::es) X.env).map (·.2)=assign e X.env::(Jr es X.env).map (·.2):=by rfl):ZL X (e::es) (qy g u):=(tW h1 h2 hs).of fun vs σ H N ⟨μ,h,σw,ws,Nw,R,S,r,m,k⟩=>by
 cases ws with
 | nil=>exact m.elim
 | cons w ws=>
  rw [aN] at r;obtain ⟨v,vr,ev,r1,r2⟩:=r;refine ⟨v,vr,ev,μ,h,σw,w,_,R,S,r1,m,fun σ1 H1 ⟨μ1,σw1,h1,e1,R1,S1,m1⟩=>?_⟩;exact ⟨μ1,h1,σw1,ws,_,R1,S1,e1.s r2,m1,fun σ2 H2 z=>k _ _<|z.trans e1⟩
def acu (n:Nat)(g:Mf):MG:=fun w σ h N=>match w with
 | .tup ws=>El (KD ws.length n) (g ws σ h N) False
 | _=>False
abbrev Xn:=W->W->W->Gh->(Gh->Prop)->Prop
def Nb (K:Bs)(t:WD)(ms:Xn):Prop:=∀ {H:Hp} {μ : Mu} {h:Gh} {o i v:V} {wo wi w:W} {Nw:Gh->Prop} {N:Hp->Prop},Ci K μ H h->Bo K H μ wo o->Bo K H μ wi i->Bo K H μ w v->ms wo wi w h Nw ->
 (∀ H',(∃ μ' h',Ei K H μ H' μ'/\Ci K μ' H' h'/\Nw h')->N H')->t o i v H N
def Vg (mo mi:ME)(ms:Xn):MG:=fun w σ h N=>mo σ h fun o h1=>mi σ h1 fun i h2=>ms o i w h2 fun h3=>N σ h3
theorem JL {o i:Expr}{mo mi:ME}{t:WD}{ms:Xn}(ho:DE X o mo)(hi:DE X i mi)(hs:aax X t)(hm:Nb X.K t ms)
  (ha:∀ v,assign (.Subscript o i pos) X.env v=(do
   let ov <-QJ [v] (eval o X.env)
   let iv <-QJ [v,ov] (eval i X.env)
   standAt pos
   QJ [v,ov,iv] (setItem ov iv v)
   release [v,ov,iv] []):=by intro _;rfl):DG X (.Subscript o i pos) (Vg mo mi ms):=
 (Yq ho hi hs ha).of fun v σ H N ⟨μ,h,σw,w,Nw,R,S,r,m,k⟩=>by
  refine ⟨μ,h,σw,_,R,S,m,fun o H1 ⟨μ1,wo,h1,e1,R1,r1,m1⟩=>?_⟩;refine ⟨μ1,h1,σw,_,R1,S.ext e1,m1,fun i H2 ⟨μ2,wi,h2,e2,R2,r2,m2⟩=>?_⟩;refine hm R2 (e2.r _ _ r1) r2 (e2.r _ _<|e1.r _ _ r) m2 fun H3 ⟨μ3,h3,e3,R3,m3⟩=>?_;exact k _ _ ⟨μ3,σw,h3,(e1.trans e2).trans e3,R3,S.ext<|(e1.trans e2).trans e3,m3⟩
def CZ:Xn:=fun o i w h N=>match o,i with
 | .loc n,.int k=>(match h.c n with
  | some (.lst ws)=>(match LI ws.length k with
   | some j=>N (h.set n (.lst (ws.set j w)))
   | none=>False)
  | _=>False)
 | _,_=>False
theorem Ci.lstAt {K:Bs}{μ : Mu}{H:Hp}{h:Gh}{n:Nat}{ws:List W}(R:Ci K μ H h)(e:h.c n=Dn (.lst ws)):∃ p xs,μ.f n=Dn p/\H p=Dn (.lst xs)/\aN K H μ ws xs:=by
 obtain ⟨p,e1,xs,e2,r⟩:=R.cel n _ e;exact ⟨p,xs,e1,e2,r⟩
theorem rY {K:Bs}:Nb K YF CZ:=by
 intro H μ h o i v wo wi w Nw N R ro ri r m k;cases wo with
 | loc n=>
  cases wi with
  | int z=>
   rw [Bo] at ro;rw [Bo] at ri;obtain ⟨p,eo,hp⟩:=ro;unfold CZ at m;dsimp only at m;cases ec:h.c n with
   | none=>rw [ec] at m;exact m.elim
   | some cl=>
    rw [ec] at m;cases cl with
    | lst ws=>
     dsimp only at m;obtain ⟨p',xs,hp',hx,rs⟩:=R.lstAt ec;have ep:p'=p:=by rw [hp] at hp';exact (Fj hp').symm
     subst ep;cases ej:LI ws.length z with
     | none=>rw [ej] at m;exact m.elim
     | some j=>
      rw [ej] at m;refine ⟨p',xs,z,j,eo,ri,hx,by rw [<-rs.len];exact ej,k _ ⟨μ,_,(Ex.write R hp).ext,R.write hp trivial ?_,m⟩⟩;exact ⟨_,aU,aN.set ((Ex.write R hp).ext.r _ _ r) j<|(Ex.write R hp).ext.s rs⟩
    | _=>exact m.elim
  | _=>exact m.elim
 | _=>exact m.elim
variable {st:Stmt}{rest body:List Stmt}{m1 m2:MS}{t:MT}
def bG:MS:=fun D σ h=>D.nx σ h
def aZ (m u:MS):MS:=fun D σ h=>m { D with nx:=u D } σ h
theorem bf:Pr X [] bG:=afS.of fun D σ H ⟨μ,h,σw,Dw,R,S,m,k⟩=>k.nx _ _ ⟨μ,σw,h,.refl,R,S,m⟩
theorem aB (h1:DS X st m1):Pr X [st] m1:=wO h1
theorem aA (h1:DS X st m1)(h2:Pr X rest m2):Pr X (st::rest) (aZ m1 m2):=(zL h1 h2).of fun D σ H ⟨μ,h,σw,Dw,R,S,m,k⟩=>by
 refine ⟨μ,h,σw,_,R,S,m,?_,k.rt,k.bk,k.ct⟩;intro σ' H' ⟨μ1,σw1,h1,e1,R1,S1,m1⟩;exact ⟨μ1,h1,σw1,Dw,R1,S1,m1,k.trans e1⟩
def Gx:MS:=fun D σ h=>D.ct σ h
theorem oU:DS X (.Continue pos) Gx:=xr.of fun D σ H ⟨μ,h,σw,Dw,R,S,m,k⟩=>k.ct _ _ ⟨μ,σw,h,.refl,R,S,m⟩
def uI (m:ME):MS:=fun D σ h=>m σ h fun _ h1=>D.nx σ h1
theorem yr (he:DE X e ma)(hs:QC e Go pos.line X.env=pure false:=by rfl):DS X (.Expr e pos) (uI ma):=(JN he hs).of fun D σ H ⟨μ,h,σw,Dw,R,S,m,k⟩=>
 ⟨μ,h,σw,_,R,S,m,fun v H1 ⟨μ1,w,h1,e1,R1,_,m1⟩=>k.nx _ _ ⟨μ1,σw,h1,e1,R1,S.ext e1,m1⟩⟩
def bI (m:ME):MS:=fun D σ h=>m σ h D.rt
theorem aL (he:DE X e ma):DS X (.Return (Dn e) pos) (bI ma):=(M7 he).of fun D σ H ⟨μ,h,σw,Dw,R,S,m,k⟩=>⟨μ,h,σw,_,R,S,m,k.rt⟩
def dY (t:MT)(a b:MS):MS:=fun D σ h=>t σ h fun c h1=>br c (a D σ h1) (b D σ h1)
theorem cU {a b:List Stmt}(hc:DT X c t)(ha:Pr X a m1)(hb:Pr X b m2):DS X (.If c a b pos) (dY t m1 m2):=(X6 hc ha hb).of fun D σ H ⟨μ,h,σw,Dw,R,S,m,k⟩=>by
 refine ⟨μ,h,σw,_,R,S,m,fun b H1 ⟨μ1,h1,e1,R1,q⟩=>?_⟩;cases b with
 | true=>rw [if_pos rfl];exact ⟨μ1,h1,σw,Dw,R1,S.ext e1,q.1 rfl,k.trans e1⟩
 | false=>rw [if_neg Hi];exact ⟨μ1,h1,σw,Dw,R1,S.ext e1,q.2 rfl,k.trans e1⟩
def jk (x:Str)(E:CK):MS:=fun _ _ h=>E ⟨x,[]⟩ h
def bQ (m:ME)(g:MG):MS:=fun D σ h=>m σ h fun w h1=>g w σ h1 D.nx
theorem WT {K:Bs}{σ : St}{H:Hp}{D:Ends}{m:ME}{g:MG}(q:tDS K (bQ m g) D σ H):XF (tD K m) (tDG K g) D σ H:=by
 obtain ⟨μ,h,σw,Dw,R,S,m,k⟩:=q;exact ⟨μ,h,σw,_,R,S,m,fun v H1 ⟨μ1,w,h1,e1,R1,r1,m1⟩=>⟨μ1,h1,σw,w,_,R1,S.ext e1,r1,m1,fun σ' H' z=>k.nx _ _<|z.trans e1⟩⟩
theorem uV {g:MG}(he:DE X e ma)(hg:DG X tg g)(hs:swapsWithSole [tg] e pos.line X.env=pure false:=by rfl)(hw:swappedStores [tg] e X.env=pure Go:=by rfl)
  (h1:(Jr [tg] X.env).map (·.2)=[assign tg X.env]:=by rfl):DS X (.Assign [tg] e pos) (bQ ma g):=(YT he hg hs hw h1).of fun _ _ _ q=>WT q
theorem Nu {K:Bs}{σ : St}{H:Hp}{D:Ends}{m:ME}{t:TE}{i:Nat}(ht:∀ σ H Q,tD K m σ H Q->t σ H Q)(q:tDS K (bQ m (BW i)) D σ H):XF t (GC i) D σ H:=by
 obtain ⟨μ,h,σw,Dw,R,S,m,k⟩:=q;exact ht _ _ _ ⟨μ,h,σw,_,R,S,m,fun v H1 ⟨μ1,w,h1,e1,R1,r1,m1⟩=>k.nx _ _ ⟨μ1,σw.set i<|some w,h1,e1,R1,(S.ext e1).set r1 i,m1⟩⟩
theorem Nx {i:Nat}{x:Str}{pos':Pos}(hN:X.N.Nodup)(hi:X.N[i]?=Dn x)(hx:Loc X.env.scope x)(he:DE X e ma)(hs:QC e (Dn (.Name x pos')) pos.line X.env=pure false:=by rfl)
  (hf:X.fn x=true\/X.env.scope.names.lookup x=Dn .local:=by first | exact .inl rfl | exact .inr rfl | assumption) :
  DS X (.Assign [.Name x pos'] e pos) (bQ ma (BW i)):=(O2 hN hi hx he hs hf).of fun _ _ _ q=>Nu (fun _ _ _ z=>z) q
def aaG (i j:Nat)(ta:MA):MS:=fun D σ h=>ta σ h fun ws h1=>match ws with
 | [v,w]=>D.nx ((σ.set i (Dn v)).set j (Dn w)) h1
 | _=>False
theorem aeb {i j:Nat}{ta:MA}(hp:PS X st (aci i j (tDA X.K ta))):DS X st (aaG i j ta):=hp.of fun D σ H ⟨μ,h,σw,Dw,R,S,m,k⟩=>by
 refine ⟨μ,h,σw,_,R,S,m,fun vs H1 ⟨μ1,ws,h1,e1,R1,r1,m1⟩=>?_⟩;split at m1
 ·rename_i a b;rw [aN] at r1;obtain ⟨v,vr,ev,ra,r2⟩:=r1;rw [aN] at r2;obtain ⟨v',vr',ev',rb,r3⟩:=r2;rw [aN] at r3;subst r3;subst ev';subst ev;exact ⟨v,v',rfl,k.nx _ _ ⟨μ1,_,h1,e1,R1,((S.ext e1).set ra i).set rb j,m1⟩⟩
 ·exact m1.elim
def Ar (t:MT)(b:MS):MS:=fun D σ h=>∃ Wm:Nat->Sw->Gh->Prop,(∃ m,Wm m σ h)/\∀ m σ h,Wm m σ h ->
 t σ h fun c h1=>br c (b { D with nx:=fun σ' h'=>∃ m',m'<m/\Wm m' σ' h',ct:=fun σ' h'=>∃ m',m'<m/\Wm m' σ' h',bk:=D.nx } σ h1) (D.nx σ h1)
theorem Bh {body:List Stmt}{pos:Pos}(hp:Ux (Bx X.prog X.w) X.A X.env X.xe)(hc:DT X c t)(hb:Pr X body m1):DS X (.While c body [] pos) (Ar t m1):=(aeQ hp hc hb).of fun D σ H ⟨μ,h,σw,Dw,R,S,m,k⟩=>by
 obtain ⟨Wm,⟨m0,w0⟩,turn⟩:=m;refine ⟨fun n σ' H'=>DN X.K H μ (Wm n) σ' H',⟨m0,μ,σw,h,.refl,R,S,w0⟩,fun n σ1 H1 ⟨μ1,σw1,h1,e1,R1,S1,w1⟩=>?_⟩;refine ⟨μ1,h1,σw1,_,R1,S1,turn n σw1 h1 w1,fun b H2 ⟨μ2,h2,e2,R2,q⟩=>?_⟩;have e12:=e1.trans e2;cases b with
 | true=>
  dsimp only;rw [if_pos rfl];refine ⟨fun σ' H'=>∃ m',m'<n/\DN X.K H μ (Wm m') σ' H',fun _ _ z=>z,μ2,h2,σw1,_,R2,S1.ext e2,q.1 rfl,?_⟩;have again:∀ (σ':St) (H':Hp),DN X.K H2 μ2 (fun σ' h'=>∃ m',m'<n/\Wm m' σ' h') σ' H'->∃ m',m'<n/\DN X.K H μ (Wm m') σ' H':=fun σ' H' ⟨μ3,σw3,h3,e3,R3,S3,m',hm,w3⟩=>
   ⟨m',hm,μ3,σw3,h3,e12.trans e3,R3,S3,w3⟩
  exact ⟨again,fun v H' z=>k.rt _ _<|z.trans e12,fun σ' H' z=>k.nx _ _<|z.trans e12,again⟩
 | false=>
  dsimp only;rw [if_neg Hi];exact k.nx _ _ ⟨μ2,σw1,h2,e12,R2,S1.ext e2,q.2 rfl⟩
structure Src where
 ws:List W
 cell:Option (Nat×List W)
def Src.chk (s:Src)(h:Gh):Prop:=match s.cell with
 | none=>True
 | some n=>h.c n.1=Dn (.lst n.2)
abbrev MI:=Sw->Gh->(Src->Gh->Prop)->Prop
def UG (K:Bs)(J:It)(src:Src)(H:Hp)(μ : Mu):Prop:=∀ {H2:Hp} {μ2:Mu} {h2:Gh} {i:Nat},Ei K H μ H2 μ2->Ci K μ2 H2 h2->src.chk h2 ->
 (∀ w,src.ws[i]?=Dn w->J.go i H2/\∀ x H3,J.yld i H2 x H3->∃ μ3,Ei K H2 μ2 H3 μ3/\Ci K μ3 H3 h2/\Bo K H3 μ3 w x)/\(src.ws.length<=i->J.stop i H2)
inductive DI (K:Bs) (H:Hp) (μ : Mu) (Rw:Src->Gh->Prop) (J:It) (H':Hp):Prop where
 | mk (μ':Mu) (src:Src) (h':Gh) (e:Ei K H μ H' μ') (R:Ci K μ' H' h') (o:UG K J src H' μ') (q:Rw src h'):DI K H μ Rw J H'
inductive tDI (K:Bs) (mi:MI) (σ : St) (H:Hp) (R:It->Hp->Prop):Prop where
 | mk (μ : Mu) (h:Gh) (σw:Sw) (Rw:Src->Gh->Prop) (q:Ci K μ H h) (S:Slots K H μ σw σ) (x:mi σw h Rw) (k:∀ J H',DI K H μ Rw J H'->R J H'):tDI K mi σ H R
abbrev Mg (X:Cx)(tg iter:Expr)(mi:MI):Prop:=PI X tg iter (tDI X.K mi)
theorem PI.of {iter:Expr}{t t':TI}(h:PI X tg iter t)(k:∀ σ H R,t' σ H R->t σ H R):PI X tg iter t':=fun pins s σ H R I q=>h pins s σ H R I (k σ H R q)
def dW (h:Gh):W->Option (List W)
 | .lst ws=>Dn ws
 | .kls ws=>Dn ws
 | .loc n=>(match h.c n with
  | some (.lst ws)=>Dn ws
  | _=>Go)
 | _=>Go
def view (h:Gh):W->Option (List W)
 | .tup ws=>Dn ws
 | .lst ws=>Dn ws
 | .kls ws=>Dn ws
 | .loc n=>dW h (.loc n)
 | _=>Go
def uf (h:Gh):W->Option Src
 | .tup ws=>Dn ⟨ws,Go⟩
 | .lst ws=>Dn ⟨ws,Go⟩
 | .kls ws=>Dn ⟨ws,Go⟩
 | .loc n=>(match h.c n with
  | some (.lst ws)=>Dn ⟨ws,Dn (n,ws)⟩
  | _=>Go)
 | _=>Go
theorem afJ {K:Bs}{H:Hp}{μ : Mu}{p:Addr}{ws:List W}(r:Bo K H μ (.lst ws) (.ref p)):UG K (Itl K p) ⟨ws,Go⟩ H μ:=by
 intro H2 μ2 h2 i e R2 _;have r2:=e.r _ _ r;rw [Bo] at r2;obtain ⟨q,xs,eq,hf,rs⟩:=r2;cases eq;refine ⟨fun w ew=>?_,fun hl=>⟨xs,hf.sq,by rw [<-rs.len];exact hl⟩⟩;obtain ⟨v,ev,rv⟩:=rs.get ew;refine ⟨⟨xs,v,hf.sq,ev⟩,fun x H3 ⟨e3,y⟩=>?_⟩;subst e3;have:=y xs hf.sq
 rw [ev] at this;cases this;exact ⟨μ2,.refl,R2,rv⟩
theorem afc {K:Bs}{H:Hp}{μ : Mu}{p:Addr}{ws:List W}(r:Bo K H μ (.kls ws) (.ref p)):UG K (Itl K p) ⟨ws,Go⟩ H μ:=by
 intro H2 μ2 h2 i e R2 _;have r2:=e.r _ _ r;rw [Bo] at r2;obtain ⟨q,xs,eq,hf,rs⟩:=r2;cases eq;refine ⟨fun w ew=>?_,fun hl=>⟨xs,hf.sq,by rw [<-rs.len];exact hl⟩⟩;obtain ⟨v,ev,rv⟩:=rs.get ew;refine ⟨⟨xs,v,hf.sq,ev⟩,fun x H3 ⟨e3,y⟩=>?_⟩;subst e3;have:=y xs hf.sq
 rw [ev] at this;cases this;exact ⟨μ2,.refl,R2,rv⟩
theorem adU {K:Bs}{H:Hp}{μ : Mu}{p:Addr}{n:Nat}{ws:List W}(r:Bo K H μ (.loc n) (.ref p)):UG K (Itl K p) ⟨ws,Dn (n,ws)⟩ H μ:=by
 intro H2 μ2 h2 i e R2 ck;have r2:=e.r _ _ r;rw [Bo] at r2;obtain ⟨q,eq,hm⟩:=r2;cases eq;obtain ⟨p',xs,hm',hx,rs⟩:=R2.lstAt (show h2.c n=Dn (.lst ws) from ck);have ep:p'=p:=by rw [hm] at hm';exact (Fj hm').symm
 subst ep;refine ⟨fun w ew=>?_,fun hl=>⟨xs,.of hx,by rw [<-rs.len];exact hl⟩⟩;obtain ⟨v,ev,rv⟩:=rs.get ew;refine ⟨⟨xs,v,.of hx,ev⟩,fun x H3 ⟨e3,y⟩=>?_⟩;subst e3;have:=y xs (.of hx)
 rw [ev] at this;cases this;exact ⟨μ2,.refl,R2,rv⟩
theorem afm {K:Bs}{H:Hp}{μ : Mu}{p:Addr}{ws:List W}(r:Bo K H μ (.tup ws) (.ref p)):UG K (Itt K p) ⟨ws,Go⟩ H μ:=by
 intro H2 μ2 h2 i e R2 _;have r2:=e.r _ _ r;rw [Bo] at r2;obtain ⟨q,xs,eq,hf,rs⟩:=r2;cases eq;refine ⟨fun w ew=>?_,fun hl=>⟨xs,hf,by rw [<-rs.len];exact hl⟩⟩;obtain ⟨v,ev,rv⟩:=rs.get ew;refine ⟨⟨xs,v,hf,ev⟩,fun x H3 ⟨e3,y⟩=>?_⟩;subst e3;have:=y xs hf
 rw [ev] at this;cases this;exact ⟨μ2,.refl,R2,rv⟩
def acZ (K:Bs)(tl:TE):TI:=fun σ H R=>tl σ H fun x H1=>(∃ a,x=.ref a/\(∃ xs,Fl K H1 a xs)/\R (Itl K a) H1)\/(∃ a,x=.ref a/\(∃ xs,G7 K H1 a xs)/\R (Itt K a) H1)
theorem XD {l:Expr}{tl:TE}(hl:PE X l tl):PI X tg l (acZ X.K tl):=by
 intro pins s σ H R I h;refine DW (hl pins s σ H _ I h) fun v s1 ⟨x,H1,I1,r1,q1⟩=>?_;rcases q1 with ⟨a,e,⟨xs,hq⟩,q⟩ | ⟨a,e,⟨xs,hq⟩,q⟩
 ·subst e;cases r1;obtain ⟨its,rv,p,hz⟩:=I1.list hq;refine TQ p.isList ?_;refine ⟨s1.heap.objs.size,[s1.heap.objs.size],_,_,H1,rfl,I1.kept (t':=s1.toks) fun b o e=>Dm _ e,zaB a _,⟨_,HD _ rfl,rfl,rfl⟩,fun b hb=>?_,q⟩;have e:b=s1.heap.objs.size:=by simpa using hb
  subst e;exact I1.fpOk (Dp _)<|I1.hok.fresh<|Dp _
 ·subst e;cases r1;obtain ⟨its,rv,p,hz⟩:=I1.tuple hq;refine wpAny_pyIter_tuple (show s1.heap.IsTuple a its.toArray from p) ?_;refine ⟨s1.heap.objs.size,[s1.heap.objs.size],_,_,H1,rfl,I1.kept (t':=s1.toks) fun b o e=>Dm _ e,zan a _,⟨_,HD _ rfl,rfl,rfl⟩,fun b hb=>?_,q⟩;have e:b=s1.heap.objs.size:=by simpa using hb
  subst e;exact I1.fpOk (Dp _)<|I1.hok.fresh<|Dp _
def GF (m:ME):MI:=fun σ h R=>m σ h fun w h1=>match uf h1 w with
 | some s=>R s h1
 | none=>False
theorem cY {l:Expr}(hl:DE X l ma):Mg X tg l (GF ma):=PI.of (XD hl) fun σ H Q ⟨μ,h,σw,Rw,R,S,m,k⟩=>by
 refine ⟨μ,h,σw,_,R,S,m,fun v H1 ⟨μ1,w,h1,e1,R1,r1,m1⟩=>?_⟩;cases w with
 | tup ws=>
  have r1':=r1;rw [Bo] at r1;obtain ⟨p,xs,ev,hs,_⟩:=r1;subst ev;exact .inr ⟨p,rfl,⟨xs,hs⟩,k _ _ ⟨μ1,⟨ws,Go⟩,h1,e1,R1,afm r1',m1⟩⟩
 | lst ws=>
  have r1':=r1;rw [Bo] at r1;obtain ⟨p,xs,ev,hs,_⟩:=r1;subst ev;exact .inl ⟨p,rfl,⟨xs,hs.sq⟩,k _ _ ⟨μ1,⟨ws,Go⟩,h1,e1,R1,afJ r1',m1⟩⟩
 | kls ws=>
  have r1':=r1;rw [Bo] at r1;obtain ⟨p,xs,ev,hs,_⟩:=r1;subst ev;exact .inl ⟨p,rfl,⟨xs,hs.sq⟩,k _ _ ⟨μ1,⟨ws,Go⟩,h1,e1,R1,afc r1',m1⟩⟩
 | loc n=>
  have r1':=r1;rw [Bo] at r1;obtain ⟨p,ev,hm⟩:=r1;subst ev;unfold uf at m1;dsimp only at m1;cases ec:h1.c n with
  | none=>rw [ec] at m1;exact m1.elim
  | some cl=>
   rw [ec] at m1;cases cl with
   | lst ws=>
    obtain ⟨p',xs,hm',hx,rs⟩:=R1.lstAt ec;have ep:p'=p:=by rw [hm] at hm';exact (Fj hm').symm
    subst ep;exact .inl ⟨p',rfl,⟨xs,.of hx⟩,k _ _ ⟨μ1,⟨ws,Dn (n,ws)⟩,h1,e1,R1,adU r1',m1⟩⟩
   | _=>exact m1.elim
 | _=>exact m1.elim
def wC (lo:Int)(n:Nat):List W:=(Jo n).map fun (k:Nat)=>.int (lo+(k:Int))
theorem Ox {K:Bs}{H:Hp}{μ : Mu}{lo:Int}{n:Nat}:UG K (Itr lo n) ⟨wC lo n,Go⟩ H μ:=by
 intro H2 μ2 h2 i e R2 _;refine ⟨fun w ew=>?_,fun hl=>?_⟩
 ·have hi:i<n:=by
   have:=(K8.mp ew).1
   simpa [wC] using this
  have ew':w=.int (lo+(i:Int)):=by
   unfold wC at ew;rw [Ir,List.getElem?_range hi] at ew;exact (Fj ew).symm
  subst ew';refine ⟨hi,fun x H3 ⟨e3,y⟩=>?_⟩;subst e3;exact ⟨μ2,.refl,R2,by rw [Bo];exact y⟩
 ·have:n<=i:=by simpa [wC] using hl
  exact this
def wB (j:Int)(P:Prop):Prop:=El (decide (-1000<=j)&&decide (j<=1000)) P ((-(2^62)<=j/\j<2^62)/\P)
theorem wB.ok {j:Int}{P:Prop}(h:wB j P):(-(2^62)<=j/\j<2^62)/\P:=by
 unfold wB at h;cases e:(decide (-1000<=j)&&decide (j<=1000)) with
 | true=>
  rw [e] at h;rw [Kf,decide_eq_true_iff,decide_eq_true_iff] at e;exact ⟨⟨by lia,by lia⟩,h⟩
 | false=>rw [e] at h;exact h
theorem wB.mk {j:Int}{P:Prop}(h1:-(2^62)<=j)(h2:j<2^62)(h:P):wB j P:=by
 unfold wB;cases e:(decide (-1000<=j)&&decide (j<=1000)) with
 | true=>exact h
 | false=>exact ⟨⟨h1,h2⟩,h⟩
def jE (ma:MA):MI:=fun σ h R=>ma σ h fun ws h1=>match ws with
 | [.int j]=>wB j (R ⟨wC 0 j.toNat,Go⟩ h1)
 | _=>False
def Cu (ma:MA):MI:=fun σ h R=>ma σ h fun ws h1=>match ws with
 | [.int i,.int j]=>wB i (wB j (R ⟨wC i (j - i).toNat,Go⟩ h1))
 | _=>False
theorem zaN {a:Expr}{mr:MA}{p pos:Pos}(hg:Gl X "range")(hm:X.mg "range" = Go)(ha:Hr X [a] mr)(hs:Ce [a] X.env=[(false,eval a X.env)]:=by rfl):Mg X tg (.Call (.Name "range" p) [a] [] pos) (jE mr):=
 PI.of (zaG hg hm ha hs) fun σ H Q ⟨μ,h,σw,Rw,R,S,m,k⟩=>by
  refine ⟨μ,h,σw,_,R,S,m,fun vs H1 ⟨μ1,ws,h1,e1,R1,r1,m1⟩=>?_⟩;split at m1
  ·rename_i j;rw [aN] at r1;obtain ⟨v,vr,ev,ra,r1⟩:=r1;rw [aN] at r1;rw [Bo] at ra;subst ev r1 ra;exact ⟨j,rfl,m1.ok.1.1,m1.ok.1.2,k _ _ ⟨μ1,_,h1,e1,R1,Ox,m1.ok.2⟩⟩
  ·exact m1.elim
theorem vX {a b:Expr}{mr:MA}{p pos:Pos}(hg:Gl X "range")(hm:X.mg "range" = Go)(ha:Hr X [a,b] mr)(hs:Ce [a,b] X.env=[(false,eval a X.env),(false,eval b X.env)]:=by rfl)(hs2:Ce [b] X.env=[(false,eval b X.env)]:=by rfl) :
  Mg X tg (.Call (.Name "range" p) [a,b] [] pos) (Cu mr):=
 PI.of (zaM hg hm ha hs hs2) fun σ H Q ⟨μ,h,σw,Rw,R,S,m,k⟩=>by
  refine ⟨μ,h,σw,_,R,S,m,fun vs H1 ⟨μ1,ws,h1,e1,R1,r1,m1⟩=>?_⟩;split at m1
  ·rename_i i j;rw [aN] at r1;obtain ⟨v,vr,ev,ra,r1⟩:=r1;rw [aN] at r1;obtain ⟨v',vr',ev',rb,r1⟩:=r1;rw [aN] at r1;rw [Bo] at ra rb;subst ev ev' r1 ra rb;exact ⟨i,j,rfl,⟨m1.ok.1.1,m1.ok.1.2,m1.ok.2.ok.1.1,m1.ok.2.ok.1.2⟩,k _ _ ⟨μ1,_,h1,e1,R1,Ox,m1.ok.2.ok.2⟩⟩
  ·exact m1.elim
def Src.go (s:Src)(h:Gh)(P:Prop):Prop:=match s.cell with
 | none=>P
 | some n=>h.c n.1=Dn (.lst n.2)/\P
theorem Src.go_ok {s:Src}{h:Gh}{P:Prop}(x:s.go h P):s.chk h/\P:=by
 unfold Src.go at x;unfold Src.chk;cases e:s.cell with
 | none=>rw [e] at x;exact ⟨trivial,x⟩
 | some n=>rw [e] at x;exact x
def cT (s:Src)(g:MG)(b:MS)(D:bA):List W->Sw->Gh->Prop
 | [],σ,h=>s.go h (D.nx σ h)
 | w::r,σ,h=>s.go h (g w σ h fun σ1 h1=>b { D with nx:=cT s g b D r,ct:=cT s g b D r,bk:=D.nx } σ1 h1)
def qX (mi:MI)(g:MG)(b:MS):MS:=fun D σ h=>mi σ h fun s h1=>cT s g b D s.ws σ h1
theorem gY {iter:Expr}{body:List Stmt}{mi:MI}{g:MG}{mb0:MS}{pos:Pos}(hp:Ux (Bx X.prog X.w) X.A X.env X.xe)(hc:X.calm=true)(hi:Mg X tg iter mi)(hg:DG X tg g)(hb:Pr X body mb0)
  (hs:∀ x,R6 iter X.env x=pure x:=by intro _;rfl):DS X (.For tg iter body [] pos) (qX mi g mb0):=(NQ hp hc hi hg hb hs).of fun D σ H ⟨μ,h,σw,Dw,R,S,m,k⟩=>by
 refine ⟨μ,h,σw,_,R,S,m,fun J H1 ⟨μ1,src,h1,e1,R1,ok,m1⟩=>?_⟩;refine ⟨fun i n σ' H'=>n=src.ws.length - i/\i<=src.ws.length/\DN X.K H1 μ1 (cT src g mb0 Dw<|src.ws.drop i) σ' H',⟨src.ws.length,by simp,O8 _,μ1,σw,h1,.refl,R1,S.ext e1,by rw [Rq];exact m1⟩,?_⟩;rintro i n σ2 H2 ⟨hn,hle,μ2,σw2,h2,e2,R2,S2,m2⟩;by_cases hlt:i<src.ws.length
 ·rw [VB hlt] at m2;obtain ⟨ck,m2⟩:=Src.go_ok m2;obtain ⟨hgo,hy⟩:=(ok e2 R2 ck).1 src.ws[i] (KN hlt);refine .inr ⟨hgo,fun σ' H'=>DN X.K H2 μ2 (cT src g mb0 Dw<|src.ws.drop<|i+1) σ' H',fun σ' H' z=>⟨src.ws.length - (i+1),by lia,rfl,hlt,z.trans e2⟩,fun x H3 y=>?_⟩;obtain ⟨μ3,e3,R3,rx⟩:=hy x H3 y;refine ⟨μ3,h2,σw2,src.ws[i],_,R3,S2.ext e3,rx,m2,fun σ4 H4 ⟨μ4,σw4,h4,e4,R4,S4,m4⟩=>?_⟩;have e24:=e3.trans e4;have e14:=(e1.trans e2).trans e24;exact ⟨μ4,h4,σw4,_,R4,S4,m4,fun σ' H' z=>z.trans e24,fun v H' z=>k.rt _ _<|z.trans e14,fun σ' H' z=>k.nx _ _<|z.trans e14,fun σ' H' z=>z.trans e24⟩
 ·have ei:i=src.ws.length:=by lia
  subst ei;rw [List.drop_length] at m2;obtain ⟨ck,m2⟩:=Src.go_ok m2;exact .inl ⟨(ok e2 R2 ck).2 (Dp _),k.nx _ _ ⟨μ2,σw2,h2,e1.trans e2,R2,S2,m2⟩⟩
def nF (ix:List Nat)(σ : Sw):Sw:=ix.map fun i=>(σ[i]?).getD Go
theorem Slots.blk {K:Bs}{H:Hp}{μ : Mu}{σw:Sw}{σ : St}{ix:List Nat}(S:Slots K H μ σw σ):∀ {ws:List W} {vs:List V},aN K H μ ws vs->Slots K H μ (ws.map Dn++nF ix σw) (vs.map Dn++Hy ix σ):=by
 intro ws vs r;have hl:=r.len;refine ⟨by simp [nF,Hy,hl],fun i u q=>?_⟩;by_cases hi:i<ws.length
 ·rw [MH (by simpa using hi),Ir] at q;have q':ws[i]?=Dn u:=by
   cases e:ws[i]? with
   | none=>rw [e] at q;cases q
   | some a=>rw [e] at q;simpa using q
  obtain ⟨v,hv,rv⟩:=r.get q';refine ⟨v,?_,rv⟩;rw [MH (by rw [Eh];lia),Ir,hv];rfl
 ·rw [PB (by simpa using hi),Eh] at q;rw [PB (by rw [Eh];lia),Eh,<-hl];generalize i - ws.length=i at q |-
  unfold nF at q;unfold Hy;rw [Ir] at q |-
  cases e:ix[i]? with
  | none=>rw [e] at q;cases q
  | some j=>
   rw [e] at q;cases e2:σw[j]? with
   | none=>simp [e2] at q
   | some o=>
    have eo:o=Dn u:=by simpa [e2] using q
    subst eo;obtain ⟨v',h1,h2⟩:=S.get j u e2;exact ⟨v',by simp [h1],h2⟩
def kY:MT:=fun _ h Q=>Q true h
def lZ (s:Src)(own:W->Option (List W))(ix:List Nat)(tt:MT)(te:ME)(σ : Sw)(Q:WK):List W->List W->Gh->Prop
 | [],acc,h=>s.go h (Q (.lst acc) h)
 | w::r,acc,h=>s.go h (match own w with
  | some vs=>tt (vs.map Dn++nF ix σ) h fun c h1=>El c (te (vs.map Dn++nF ix σ) h1 fun v h2=>lZ s own ix tt te σ Q r (acc++[v]) h2) (lZ s own ix tt te σ Q r acc h1)
  | none=>False)
def Er (own:W->Option (List W))(ix:List Nat)(mi:MI)(tt:MT)(te:ME):ME:=fun σ h Q=>mi σ h fun s h1=>jc s.ws.length (lZ s own ix tt te σ Q s.ws [] h1)
def Fw (K:Bs)(n:Nat)(own:V->Hp->List V->Prop)(ow:W->Option (List W)):Prop:=∀ {H:Hp} {μ : Mu} {w:W} {v:V} {ws:List W},Bo K H μ w v->ow w=Dn ws->∃ vs,own v H vs/\vs.length=n/\aN K H μ ws vs
def Gk (w:W):Option (List W):=Dn [w]
def owT (n:Nat)(w:W):Option (List W):=match w with
 | .tup ws=>(match KD ws.length n with
  | true=>Dn ws
  | false=>Go)
 | _=>Go
def ov1:V->Hp->List V->Prop:=fun v _ vs=>vs=[v]
def ovT (K:Bs):V->Hp->List V->Prop:=fun v H vs=>∃ a,v=.ref a/\G7 K H a vs
theorem Cp {K:Bs}:Fw K 1 ov1 Gk:=by
 intro H μ w v ws r e;cases (show Dn [w]=Dn ws from e)
 exact ⟨[v],rfl,rfl,.one r⟩
theorem YH {K:Bs}{n:Nat}:Fw K n (ovT K) (owT n):=by
 intro H μ w v ws r e;cases w with
 | tup us=>
  unfold owT at e;dsimp only at e;cases en:KD us.length n with
  | false=>rw [en] at e;cases e
  | true=>
   rw [en] at e;cases (show Dn us=Dn ws from e)
   rw [Bo] at r;obtain ⟨p,xs,ev,hs,rs⟩:=r;exact ⟨xs,⟨p,ev,hs⟩,by rw [<-rs.len];exact Uq en,rs⟩
 | _=>cases e
abbrev VL (X:Cx)(ifs:List Expr)(m:MT):Prop:=UJ X ifs (tDT X.K m)
theorem lO:VL X [] kY:=fun pins s σ H Q I ⟨μ,h,σw,Qw,R,S,m,k⟩=>agZ pins s σ H Q I (k _ _ ⟨μ,h,.refl,R,m⟩)
theorem tO (h:DT X c t):VL X [c] t:=afs h
theorem Vm {K:Bs}{σ : St}{H:Hp}{Q:VK}{n:Nat}{own:V->Hp->List V->Prop}{ow:W->Option (List W)}{ix:List Nat}{mi:MI}{tt:MT}{te:ME}(oo:Fw K n own ow)(q:tD K (Er ow ix mi tt te) σ H Q):tLC n own ix (tDI K mi) (tDT K tt) (tD K te) σ H Q:=by
 obtain ⟨μ,h,σw,Qw,R,S,m,k⟩:=q;refine ⟨μ,h,σw,_,R,S,m,fun J H1 ⟨μ1,src,h1,e1,R1,ok,hz0⟩=>?_⟩;obtain ⟨hz,m1⟩:=hz0.ok;intro D hD;have nD:=R1.nohid hD;have hD1:Ei K H1 μ1 (Cd H1 D (.lst [])) (μ1.hide D):=Ei.hide hD;refine ⟨fun i n ys H'=>n=src.ws.length - i/\i<=src.ws.length/\ys.length<=i/\H' D=Dn (.lst ys)/\∃ μ' acc h',Ei K H1 μ1 H' μ'/\Ci K μ' H' h'/\μ'.hid D/\aN K H' μ' acc ys/\lZ src ow ix tt te σw Qw (src.ws.drop i) acc h',
  ⟨src.ws.length,by simp,O8 _,Dp _,aU,μ1.hide D,[],h1,hD1,R1.hide hD,.inl rfl,.nil,by rw [Rq];exact m1⟩,?_⟩
 rintro i n' ys H2 ⟨hn,hle,hys,hH2,μ2,acc,h2,e2,R2,hid2,ra,m2⟩ _;by_cases hlt:i<src.ws.length
 ·rw [VB hlt] at m2;obtain ⟨ck,m2⟩:=Src.go_ok m2;obtain ⟨hgo,hy⟩:=(ok e2 R2 ck).1 src.ws[i] (KN hlt);refine .inr ⟨hgo,by lia,fun x H3 y=>?_⟩;obtain ⟨μ3,e3,R3,rx⟩:=hy x H3 y;have e13:=e2.trans e3;cases eo:ow src.ws[i] with
  | none=>rw [eo] at m2;exact m2.elim
  | some us=>
   rw [eo] at m2;obtain ⟨vs,hov,hvl,rvs⟩:=oo rx eo;have S3:=(S.ext (e1.trans e13)).blk (ix:=ix) rvs;refine ⟨vs,hov,hvl,μ3,h2,_,_,R3,S3,m2,fun b H4 ⟨μ4,h4,e4,R4,m4⟩=>?_⟩;have e24:=e3.trans e4;obtain ⟨hid4,hH4⟩:=e24.o D _ hid2 hH2;cases b with
   | false=>
    dsimp only;rw [if_neg Hi];exact ⟨hH4,src.ws.length - (i+1),by lia,rfl,hlt,by lia,hH4,μ4,acc,h4,e2.trans e24,R4,hid4,e24.s ra,m4⟩
   | true=>
    dsimp only;rw [if_pos rfl];refine ⟨μ4,h4,_,_,R4,S3.ext e4,m4,fun v H5 ⟨μ5,w5,h5,e5,R5,r5,m5⟩=>?_⟩;have e25:=e24.trans e5;obtain ⟨hid5,hH5⟩:=e25.o D _ hid2 hH2;have g:=Uz.grow (ys:=ys++[v]) R5 hid5;have rs:aN K (Cd H5 D (.lst (ys++[v]))) μ5 (acc++[w5]) (ys++[v]):=aN.ex (Ex0.grow R5 hid5) (aN.append (e25.s ra) (aN.one r5));exact ⟨hH5,src.ws.length - (i+1),by lia,rfl,hlt,by rw [Lr];simp;lia,aU,μ5,acc++[w5],h5,(e2.trans e25).x nD g,R5.grow hid5,hid5,rs,m5⟩
 ·have ei:i=src.ws.length:=by lia
  subst ei;rw [List.drop_length] at m2;obtain ⟨ck,m2⟩:=Src.go_ok m2;exact .inl ⟨(ok e2 R2 ck).2 (Dp _),k _ _ ⟨μ2.unhide D,.lst acc,h2,e1.trans<|e2.x nD .unhide,R2.unhide,Bo.built R2 hid2 hH2 ra,m2⟩⟩
variable {scope:Scope}{x:Str}{xs:List Str}{ix:List Nat}{elt iter:Expr}{ifs:List Expr}{px:Pos}{mi:MI}{tt:MT}{te:ME}
theorem BR (B:gP X scope [x] ix)(C:Addr)(s:kI)(H:Hp)(fp:List Addr):PG (blk X scope (gC X [x] ix) C s H fp) (.Name x px) (RG 1 ov1):=by
 obtain ⟨o1,o2⟩:=Ie B (y:=x) (by simp);intro pins s' σ H' v u Q I r ⟨vs,hv,hl,q⟩;cases hv;refine lG (X:=blk X scope (gC X [x] ix) C s H fp) (i:=0) B.nd rfl o1 o2 pins s' σ H' v u Q I r ?_;have hlen:σ.length=(gC X [x] ix).length:=I.len;cases σ with
 | nil=>simp at hlen
 | cons o σ=>exact q
theorem X3 {y:Str}{py pt:Pos}{kt:Nat}(hc:X.calm=true)(B:gP X scope [x,y] ix)(C:Addr)(s:kI)(H:Hp)(fp:List Addr)
  (h1:∀ env,(Jr [.Name x px,.Name y py] env).map (·.2)=assign (.Name x px) env::(Jr [.Name y py] env).map (·.2):=by intro _;rfl)
  (h2:∀ env,(Jr [.Name y py] env).map (·.2)=assign (.Name y py) env::(Jr [] env).map (·.2):=by intro _;rfl)
  (h3:∀ env,(Jr [.Name x px,.Name y py] env).length=2:=by intro _;rfl) (h4:∀ env,(Jr [.Name x px,.Name y py] env).findIdx? (·.1)=Go:=by intro _;rfl) :
  PG (blk X scope (gC X [x,y] ix) C s H fp) (.Tuple [.Name x px,.Name y py] kt pt) (RG 2 (ovT X.K)):=by
 obtain ⟨o1,u1⟩:=Ie B (y:=x) (by simp);obtain ⟨o2,u2⟩:=Ie B (y:=y) (by simp);intro pins s' σ H' v u Q I r ⟨vs,⟨a,ea,ha⟩,hl,q⟩;have hlen:σ.length=(gC X [x,y] ix).length:=I.len;refine Za (X:=blk X scope (gC X [x,y] ix) C s H fp) (n:=2) hc (tW (lG (i:=0) B.nd rfl o1 u1) (tW (lG (i:=1) B.nd rfl o2 u2) JV<|h2 _)<|h1 _) (h3 _) (h4 _) pins s' σ H' v u Q I r ?_;refine ⟨a,vs,ea,ha,hl,?_⟩;match vs,hl,q with
 | [v1,v2],_,q=>
  match σ,hlen,q with
  | [],hlen,_=>simp at hlen
  | [_],hlen,_=>simp at hlen
  | _::_::σ,_,q=>exact ⟨v1,[v2],rfl,v2,[],rfl,rfl,q⟩
theorem aaF {own:V->Hp->List V->Prop}{ow:W->Option (List W)}(ix:List Nat)(hc:X.calm=true)(B:gP X scope xs ix)(oo:Fw X.K xs.length own ow)(hg:∀ C s H fp,PG (blk X scope (gC X xs ix) C s H fp) tg (RG xs.length own))(hi:Mg X tg iter mi)
  (ht:∀ C s H fp,VL (blk X scope (gC X xs ix) C s H fp) ifs tt) (he:∀ C s H fp,DE (blk X scope (gC X xs ix) C s H fp) elt te)
  (hs:∀ v,R6 iter X.env v=pure v:=by intro _;rfl):DE X (.ListComp elt [⟨tg,iter,ifs,0⟩] scope pos) (Er ow ix mi tt te):=(aau ix hc B hg hi ht he hs).of fun _ _ _ q=>Vm oo q
theorem Fx {own:V->Hp->List V->Prop}{ow:W->Option (List W)}(ix:List Nat){i:Nat}{y:Str}{py spos:Pos}(hN:X.N.Nodup)(hi':X.N[i]?=Dn y)(hy:Loc X.env.scope y)(hc:X.calm=true)(B:gP X scope xs ix)(oo:Fw X.K xs.length own ow)
  (hg:∀ C s H fp,PG (blk X scope (gC X xs ix) C s H fp) tg (RG xs.length own)) (hi:Mg X tg iter mi)
  (ht:∀ C s H fp,VL (blk X scope (gC X xs ix) C s H fp) ifs tt) (he:∀ C s H fp,DE (blk X scope (gC X xs ix) C s H fp) elt te)
  (hsw:QC (.ListComp elt [⟨tg,iter,ifs,0⟩] scope pos) (Dn (.Name y py)) spos.line X.env=pure true:=by rfl)
  (hf:X.fn y=true\/X.env.scope.names.lookup y=Dn .local:=by first | exact .inl rfl | exact .inr rfl | assumption)
  (hs:∀ v,R6 iter X.env v=pure v:=by intro _;rfl):DS X (.Assign [.Name y py] (.ListComp elt [⟨tg,iter,ifs,0⟩] scope pos) spos) (bQ (Er ow ix mi tt te) (BW i)):=
 (aa3 ix hN hi' hy hc B hg hi ht he hsw hf hs).of fun _ _ _ q=>Nu (fun _ _ _ z=>Vm oo z) q
theorem Z9 {κ : Type}{K:Bs}{H0 H:Hp}{μ0 μ : Mu}{k:Nat}(hd:∀ n p,μ0.f n=Dn p->n<k):∀ {fs:List (κ×W)} {f0 fv:List (κ×V)},J3 K H0 μ0 fs f0->J3 K H μ fs fv->J3 K H (μ.cut k) fs fv
 | [],_,_,_,.nil=>.nil
 | _::_,_,_,.cons a b,.cons c d=>.cons ⟨c.1,Bo.cut c.2 (Bo.lo hd a.2)⟩ (Z9 hd b d)
def vU (pure:Bool)(h:Gh)(w:W)(h':Gh)(Q:WK):Prop:=match pure with
 | false=>Q w h'
 | true=>(∀ n c,n<h.nx->h.c n=Dn c->h'.c n=Dn c)/\((Lo h.nx w/\Q w h)\/∃ n ws,w=.loc n/\h.nx<=n/\h'.c n=Dn (.lst ws)/\Iu h.nx ws/\Q (.lst ws) h)
def Dc (n N:Nat)(pure:Bool)(body:CK->MS):BK:=fun ws h Q E=>El (KD ws.length n)
 (body E { nx:=fun _ h'=>vU pure h .non h' Q,rt:=fun w h'=>vU pure h w h' Q } (ws.map Dn++Mz (N - ws.length) Go) h) False
theorem yK {n N:Nat}{pure:Bool}{body:CK->MS}{ws:List W}{h:Gh}{Q:WK}{E:CK}(x:Dc n N pure body ws h Q E):ws.length=n /\
  body E { nx:=fun _ h'=>vU pure h .non h' Q,rt:=fun w h'=>vU pure h w h' Q } (ws.map Dn++Mz (N - ws.length) Go) h:=by
 unfold Dc at x;cases e:KD ws.length n with
 | true=>rw [e] at x;exact ⟨Uq e,x⟩
 | false=>rw [e] at x;exact (show False from x).elim
theorem Ci.cut {K:Bs}{H H':Hp}{μ μ':Mu}{h h':Gh}(R:Ci K μ H h)(R':Ci K μ' H' h')(e:Ei K H μ H' μ')(hc:∀ n c,h.c n=Dn c->h'.c n=Dn c):Ci K (μ'.cut h.nx) H' h where
 inj:=fun m n p a b=>R'.inj m n p (Mu.cut_some a).2 (Mu.cut_some b).2
 dom:=fun n p a=>(Mu.cut_some a).1
 trk:=fun n p a=>R'.trk n p (Mu.cut_some a).2
 cel:=fun n c a=>by
  obtain ⟨p0,m0,x0⟩:=R.cel n c a;obtain ⟨p,m,x⟩:=R'.cel n c (hc n c a);have hn:=R.dom n p0 m0;refine ⟨p,by show (if n<h.nx then μ'.f n else Go)=Dn p;rw [if_pos hn];exact m,?_⟩;cases c with
  | lst ws=>
   obtain ⟨xs0,_,r0⟩:=x0;obtain ⟨xs,hx,r⟩:=x;exact ⟨xs,hx,aN.cut r<|aN.lo R.dom r0⟩
  | obj C fs=>
   obtain ⟨dx0,f0,_,r0⟩:=x0;obtain ⟨dx,fv,hx,r⟩:=x;exact ⟨dx,fv,hx,Z9 R.dom r0 r⟩
  | dct kvs=>
   obtain ⟨f0,_,r0⟩:=x0;obtain ⟨fv,hx,r⟩:=x;exact ⟨fv,hx,Z9 R.dom r0 r⟩
  | dtt kvs=>
   obtain ⟨_,_,_,_,_,d0,f0⟩:=x0;obtain ⟨xs,vs,a,b,c,d,f⟩:=x;exact ⟨xs,vs,a,b,c,aN.cut d<|aN.lo R.dom d0,aN.cut f<|aN.lo R.dom f0⟩
 hd:=fun p z=>⟨(R'.hd p z).1,fun n a=>(R'.hd p z).2 n (Mu.cut_some a).2⟩
theorem Ei.cut {K:Bs}{H H':Hp}{μ μ':Mu}{h:Gh}(R:Ci K μ H h)(e:Ei K H μ H' μ'):Ei K H μ H' (μ'.cut h.nx):=
 ⟨fun w v r=>Bo.cut (e.r w v r) (Bo.lo R.dom r),fun p u z a=>e.o p u z a⟩
theorem tQ {K:Bs}{H H':Hp}{μ μ':Mu}{h h':Gh}{w:W}{v:V}{Q:WK}{pure:Bool}(R:Ci K μ H h)(e:Ei K H μ H' μ')(R':Ci K μ' H' h')(r:Bo K H' μ' w v)(x:vU pure h w h' Q):DQ K H μ Q v H':=by
 cases pure with
 | false=>exact ⟨μ',w,h',e,R',r,x⟩
 | true=>
  obtain ⟨hc0,⟨lo,q⟩ | ⟨n,ws,ew,hn,ec,lo,q⟩⟩:=x;all_goals have hc:∀ n c,h.c n=Dn c->h'.c n=Dn c:=fun n c a=>hc0 n c (let ⟨p,m,_⟩:=R.cel n c a;R.dom n p m) a
  ·exact ⟨μ'.cut h.nx,w,h,e.cut R,R.cut R' e hc,Bo.cut r lo,q⟩
  ·subst ew;refine ⟨μ'.cut h.nx,.lst ws,h,e.cut R,R.cut R' e hc,?_,q⟩;rw [Bo] at r;rw [Bo];obtain ⟨p,ev,hm⟩:=r;obtain ⟨p',xs,hm',hx,rs⟩:=R'.lstAt ec;have ep:p'=p:=by rw [hm] at hm';exact (Fj hm').symm
   subst ep;refine ⟨p',xs,ev,⟨hx,fun m a=>?_,fun z=>(R'.hd p' z).2 n hm⟩,aN.cut rs lo⟩;obtain ⟨a1,a2⟩:=Mu.cut_some a;have:=R'.inj m n p' a2 hm
   lia
theorem pA {K:Bs}{H:Hp}{μ : Mu}{N:List Str}:∀ {ws:List W} {vs:List V},aN K H μ ws vs->Slots K H μ (ws.map Dn++Mz (N.length - ws.length) Go) (start N vs):=by
 intro ws vs r;have hl:=r.len;refine ⟨by simp [start,hl],fun i w q=>?_⟩;by_cases hi:i<ws.length
 ·rw [MH (by simpa using hi),Ir] at q;have q':ws[i]?=Dn w:=by
   cases e:ws[i]? with
   | none=>rw [e] at q;cases q
   | some a=>rw [e] at q;simpa using q
  obtain ⟨v,hv,rv⟩:=r.get q';refine ⟨v,?_,rv⟩;unfold start;rw [MH (by rw [Eh];lia),Ir,hv];rfl
 ·rw [PB (by simpa using hi),VN] at q;split at q <;> cases q
theorem ab3 {P:CR}{w:CQ}{K:Bs}{mg:Str->Option JI}{base:Heap}{x qual:Str}{st:Stmt}{f:Addr}{fd:Ib}{N ps:List Str}{k:Nat}{pure:Bool}{body:CK->MS}(F:Pj K x qual st f fd)(S:eX N ps (aQ st))
  (hb:∀ (cdv:JI) (A:CT) (outer:List Env) (s:kI) (H:Hp) (E:XK),fP k (A.deeper (M4 qual (aQ st) s.heap.objs.size f cdv)) ->
   Pr (BX Jj P w K mg base N qual (aQ st) f cdv A outer s H E).nox (cL st) (body EF)):iW P w K mg base Jj (k+1) f fd ps (lift K (Dc ps.length N.length pure body)):=by
 refine F.ok S (fun vs H Q E ⟨μ,h,ws,Qw,R,r,m,k⟩=>by rw [<-r.len];exact (yK m).1)<|fun cdv A outer s H vs Q E hr ⟨μ,h,ws,Qw,R,r,m0,k⟩=>?_
 obtain ⟨hl,m⟩:=yK m0;refine ⟨_,hb cdv A outer s H E hr,μ,h,_,_,R,pA r,m,?_,?_,?_,?_⟩
 ·rintro σ' H' ⟨μ1,σw1,h1,e1,R1,S1,m1⟩;exact k _ _<|tQ (w:=.non) R e1 R1 (by rw [Bo]) m1
 ·rintro v H' ⟨μ1,w1,h1,e1,R1,r1,m1⟩;exact k _ _<|tQ R e1 R1 r1 m1
 ·rintro σ' H' ⟨μ1,σw1,h1,e1,R1,S1,m1⟩;exact m1.elim
 ·rintro σ' H' ⟨μ1,σw1,h1,e1,R1,S1,m1⟩;exact m1.elim
end
section
variable {X:Cx}{K:Bs}
theorem DQ.int {H:Hp}{μ : Mu}{h:Gh}{i:Int}{Q:WK}(R:Ci K μ H h)(q:Q (.int i) h):DQ K H μ Q (.int i) H:=⟨μ,.int i,h,.refl,R,by rw [Bo],q⟩
theorem DQ.bl {H:Hp}{μ : Mu}{h:Gh}{i:Bool}{Q:WK}(R:Ci K μ H h)(q:Q (.bl i) h):DQ K H μ Q (.bl i) H:=⟨μ,.bl i,h,.refl,R,by rw [Bo],q⟩
def adC (C:Int->Int->Prop)(g:Int->Int->Int):M2:=fun x y h Q=>match x,y with
 | .int i,.int j=>C i j/\Q (.int (g i j)) h
 | _,_=>False
def ux:M2:=fun x y h Q=>match x,y with
 | .int i,.int j=>Q (.int (i - j)) h
 | _,_=>False
theorem jR:Ka X (KH .Sub) ux:=⟨_,afW,by
 intro H μ h x y wx wy Qw Q R rx ry m k;unfold ux at m;split at m
 ·rw [Bo] at rx ry;exact ⟨_,_,rx,ry,k _ _<|.int R m⟩
 ·exact m.elim⟩
def cI:M2:=fun x y h Q=>match x,y with
 | .int i,.int j=>fC i j/\Q (.int (i*j)) h
 | _,_=>False
theorem bx:Ka X (KH .Mult) cI:=⟨_,agn,by
 intro H μ h x y wx wy Qw Q R rx ry m k;unfold cI at m;split at m
 ·rw [Bo] at rx ry;exact ⟨_,_,rx,ry,m.1,k _ _<|.int R m.2⟩
 ·exact m.elim⟩
def JW:M2:=fun x y h Q=>match x,y with
 | .int i,.int j=>Oe i j/\Q (.int (i.fdiv j)) h
 | _,_=>False
theorem HN:Ka X (KH .FloorDiv) JW:=⟨_,adK,by
 intro H μ h x y wx wy Qw Q R rx ry m k;unfold JW at m;split at m
 ·rw [Bo] at rx ry;exact ⟨_,_,rx,ry,m.1,k _ _<|.int R m.2⟩
 ·exact m.elim⟩
def J1:M2:=fun x y h Q=>match x,y with
 | .int i,.int j=>j≠0/\Q (.int (i.fmod j)) h
 | _,_=>False
theorem yt:Ka X (KH .Mod) J1:=⟨_,agw,by
 intro H μ h x y wx wy Qw Q R rx ry m k;unfold J1 at m;split at m
 ·rw [Bo] at rx ry;exact ⟨_,_,rx,ry,m.1,k _ _<|.int R m.2⟩
 ·exact m.elim⟩
def abG:M2:=fun x y h Q=>match x,y with
 | .int i,.int j=>acf i j/\Q (.int (i^j.toNat)) h
 | _,_=>False
theorem aa8:Ka X (KH .Pow) abG:=⟨_,Y9,by
 intro H μ h x y wx wy Qw Q R rx ry m k;unfold abG at m;split at m
 ·rw [Bo] at rx ry;exact ⟨_,_,rx,ry,m.1,k _ _<|.int R m.2⟩
 ·exact m.elim⟩
def kLt:M2:=fun x y h Q=>match x,y with
 | .int i,.int j=>Q (.bl (decide (i<j))) h
 | _,_=>False
theorem U0:Ka X (KY .Lt) kLt:=⟨_,abu,by
 intro H μ h x y wx wy Qw Q R rx ry m k;unfold kLt at m;split at m
 ·rw [Bo] at rx ry;exact ⟨_,_,rx,ry,k _ _<|.bl R m⟩
 ·exact m.elim⟩
def Qn:M2:=fun x y h Q=>match x,y with
 | .int i,.int j=>Q (.bl (decide (j<i))) h
 | _,_=>False
theorem ZM:Ka X (KY .Gt) Qn:=⟨_,abk,by
 intro H μ h x y wx wy Qw Q R rx ry m k;unfold Qn at m;split at m
 ·rw [Bo] at rx ry;exact ⟨_,_,rx,ry,k _ _<|.bl R m⟩
 ·exact m.elim⟩
def kGe:M2:=fun x y h Q=>match x,y with
 | .int i,.int j=>Q (.bl (decide (j<=i))) h
 | _,_=>False
theorem ac6:Ka X (KY .GtE) kGe:=⟨_,ZX,by
 intro H μ h x y wx wy Qw Q R rx ry m k;unfold kGe at m;split at m
 ·rw [Bo] at rx ry;exact ⟨_,_,rx,ry,k _ _<|.bl R m⟩
 ·exact m.elim⟩
theorem aN.ne_nil {H:Hp}{μ : Mu}{ws:List W}{xs:List V}(r:aN K H μ ws xs):xs=[]↔ws=[]:=by
 have:=r.len
 constructor
 ·intro e;subst e;exact V3 this
 ·intro e;subst e;exact V3 this.symm
def Bw:M2:=fun x y h Q=>match y with
 | .int i=>(match view h x with
  | some ws=>(match Ig ws i with
   | some w=>Q w h
   | none=>False)
  | none=>False)
 | _=>False
theorem aN.at {H:Hp}{μ : Mu}{ws:List W}{xs:List V}{i:Int}{w:W}(r:aN K H μ ws xs)(e:Ig ws i=Dn w):∃ v,Ig xs i=Dn v/\Bo K H μ w v:=by
 unfold Ig at e |-
 rw [<-r.len];cases q:LI ws.length i with
 | none=>rw [q] at e;cases e
 | some j=>rw [q] at e;exact r.get e
theorem dg {H:Hp}{μ : Mu}{h:Gh}{w:W}{v:V}{ws:List W}(R:Ci K μ H h)(r:Bo K H μ w v)(e:dW h w=Dn ws):∃ p xs,v=.ref p/\Fl K H p xs/\aN K H μ ws xs:=by
 cases w with
 | lst us=>
  rw [Bo] at r;obtain ⟨p,xs,ev,hs,rs⟩:=r;cases (show Dn us=Dn ws from e)
  exact ⟨p,xs,ev,hs.sq,rs⟩
 | kls us=>
  rw [Bo] at r;obtain ⟨p,xs,ev,hs,rs⟩:=r;cases (show Dn us=Dn ws from e)
  exact ⟨p,xs,ev,hs.sq,rs⟩
 | loc n=>
  rw [Bo] at r;obtain ⟨p,ev,hm⟩:=r;unfold dW at e;dsimp only at e;cases ec:h.c n with
  | none=>rw [ec] at e;cases e
  | some cl=>
   rw [ec] at e;cases cl with
   | lst us=>
    cases (show Dn us=Dn ws from e)
    obtain ⟨p',xs,hm',hx,rs⟩:=R.lstAt ec;have ep:p'=p:=by rw [hm] at hm';exact (Fj hm').symm
    subst ep;exact ⟨p',xs,ev,.of hx,rs⟩
   | _=>cases e
 | _=>cases e
theorem wY {H:Hp}{μ : Mu}{h:Gh}{w:W}{v:V}{ws:List W}(R:Ci K μ H h)(r:Bo K H μ w v)(e:view h w=Dn ws):∃ p xs,v=.ref p/\(Fl K H p xs\/G7 K H p xs)/\aN K H μ ws xs:=by
 cases w with
 | tup us=>
  rw [Bo] at r;obtain ⟨p,xs,ev,hs,rs⟩:=r;cases (show Dn us=Dn ws from e)
  exact ⟨p,xs,ev,.inr hs,rs⟩
 | lst us=>
  obtain ⟨p,xs,ev,hs,rs⟩:=dg (ws:=ws) R r e;exact ⟨p,xs,ev,.inl hs,rs⟩
 | kls us=>
  obtain ⟨p,xs,ev,hs,rs⟩:=dg (ws:=ws) R r e;exact ⟨p,xs,ev,.inl hs,rs⟩
 | loc n=>
  obtain ⟨p,xs,ev,hs,rs⟩:=dg (ws:=ws) R r e;exact ⟨p,xs,ev,.inl hs,rs⟩
 | _=>cases e
theorem afH:acr K (rIx K) Bw:=by
 intro H μ h x y wx wy Qw Q R rx ry m k;unfold Bw at m;split at m
 ·rename_i i;split at m
  ·rename_i ws ev;split at m
   ·rename_i w ew;obtain ⟨p,xs,ex,hs,rs⟩:=wY R rx ev;obtain ⟨v,hv,rv⟩:=rs.at ew;rw [Bo] at ry;have fin:=k _ _ ⟨μ,w,h,.refl,R,rv,m⟩;rcases hs with hs | hs
    ·exact .inl ⟨p,xs,i,v,ex,ry,hs,hv,fin⟩
    ·exact .inr<|.inl ⟨p,xs,i,v,ex,ry,hs,hv,fin⟩
   ·exact m.elim
  ·exact m.elim
 ·exact m.elim
theorem aaY {a b:Expr}{ma mb:ME}{pos:Pos}(ha:DE X a ma)(hb:DE X b mb)(hs:yq b):DE X (.Subscript a b pos) (AP Bw ma mb):=(aa7 Vz ha hb hs).of fun σ H Q h=>two h fun R r1 r2 m k=>afH R r1 r2 m k
abbrev MO:=Sw->Gh->(Option Int->Gh->Prop)->Prop
def tDO (K:Bs)(m:MO):TO:=fun σ H Q=>∃ μ h σw Qw,Ci K μ H h/\Slots K H μ σw σ/\m σw h Qw/\∀ o H',(∃ μ' h',Ei K H μ H' μ'/\Ci K μ' H' h'/\Qw o h')->Q o H'
abbrev DO (X:Cx)(e:Option Expr)(m:MO):Prop:=PO X e (tDO X.K m)
theorem PO.of {e:Option Expr}{t t':TO}(h:PO X e t)(k:∀ σ H Q,t' σ H Q->t σ H Q):PO X e t':=by
 unfold PO at h |-
 intros
 apply h <;> first | assumption | (apply k;assumption)
def dG:MO:=fun _ h Q=>Q Go h
def fY (m:ME):MO:=fun σ h Q=>m σ h fun w h1=>match w with
 | .int i=>Q (Dn i) h1
 | _=>False
theorem fU:DO X Go dG:=PO.of aeE fun σ H Q ⟨μ,h,σw,Qw,R,S,m,k⟩=>k _ _ ⟨μ,h,.refl,R,m⟩
theorem bV {e:Expr}{ma:ME}(he:DE X e ma):DO X (Dn e) (fY ma):=PO.of (afD he) fun σ H Q ⟨μ,h,σw,Qw,R,S,m,k⟩=>by
 refine ⟨μ,h,σw,_,R,S,m,fun v H1 ⟨μ1,w,h1,e1,R1,r1,m1⟩=>?_⟩;split at m1
 ·rw [Bo] at r1;exact ⟨_,r1,k _ _ ⟨μ1,h1,e1,R1,m1⟩⟩
 ·exact m1.elim
def vO (xs:List W)(lo hi:Option Int):List W:=(xs.drop (HT.sIx xs.length 0 lo)).take (HT.sIx xs.length xs.length hi - HT.sIx xs.length 0 lo)
def LC (r:W->Option Int->Option Int->Gh->WK->Prop)(m:ME)(l u:MO):ME:=fun σ h Q=>m σ h fun x h1=>l σ h1 fun lo h2=>u σ h2 fun hi h3=>r x lo hi h3 Q
theorem aN.cutv {H:Hp}{μ : Mu}{ws:List W}{xs:List V}(r:aN K H μ ws xs)(lo hi:Option Int):aN K H μ (vO ws lo hi) (Lh xs lo hi):=by
 unfold vO Lh;rw [<-r.len];exact (r.drop _).take _
end
mutual
def Cq:W->W->Bool
 | .non,.non=>true
 | .bl a,.bl b=>a==b
 | .bl a,.int b=>(if a then 1 else 0)==b
 | .int a,.bl b=>a==(if b then 1 else 0)
 | .int a,.int b=>a==b
 | .str a,.str b=>a==b
 | .tup a,.tup b=>jG a b
 | .lst a,.lst b=>jG a b
 | _,_=>false
def jG:List W->List W->Bool
 | [],[]=>true
 | a::as,b::bs=>Cq a b&&jG as bs
 | _,_=>false
end
def Dq:Nat->W->Bool
 | _,.non=>true
 | _,.bl _=>true
 | _,.int _=>true
 | _,.str _=>true
 | n+1,.tup ws=>ws.all (Dq n)
 | n+1,.lst ws=>ws.all (Dq n)
 | _,_=>false
mutual
def Dt (K:Bs)(H:Hp):W->V->Prop
 | .non,v=>v=.non
 | .bl b,v=>v=.bl b
 | .int i,v=>v=.int i
 | .str x,v=>v=.str x
 | .tup ws,v=>∃ p xs,v=.ref p/\G7 K H p xs/\Gn K H ws xs
 | .lst ws,v=>∃ p xs,v=.ref p/\Fl K H p xs/\Gn K H ws xs
 | .ty _,_=>False
 | .kls _,_=>False
 | .loc _,_=>False
 | .exc _,_=>False
 | .exa _ _,_=>False
 | .fnv _ _,_=>False
def Gn (K:Bs)(H:Hp):List W->List V->Prop
 | [],xs=>xs=[]
 | w::ws,xs=>∃ v vs,xs=v::vs/\Dt K H w v/\Gn K H ws vs
end
section
variable {X:Cx}{K:Bs}{H:Hp}{μ : Mu}{h:Gh}
theorem Gn.len:∀ {ws:List W} {xs:List V},Gn K H ws xs->ws.length=xs.length
 | [],xs,h=>by
  have e:xs=[]:=by rw [Gn] at h;exact h
  rw [e];rfl
 | w::ws,xs,h=>by
  rw [Gn] at h;obtain ⟨v,vs,e,_,h⟩:=h;rw [e,Jb,Jb,Gn.len h]
theorem Gn.get:∀ {ws:List W} {xs:List V} {i:Nat} {w:W},Gn K H ws xs->ws[i]?=Dn w->∃ v,xs[i]?=Dn v/\Dt K H w v
 | [],_,_,_,_,e=>by simp at e
 | a::ws,xs,0,w,h,e=>by
  rw [Gn] at h;obtain ⟨v,vs,e1,r,_⟩:=h;simp at e;subst e;subst e1;exact ⟨v,rfl,r⟩
 | a::ws,xs,i+1,w,h,e=>by
  rw [Gn] at h;obtain ⟨v,vs,e1,_,h⟩:=h;subst e1;obtain ⟨u,h1,h2⟩:=Gn.get (i:=i) (w:=w) h (by simpa using e);exact ⟨u,by simpa using h1,h2⟩
theorem zu {n:Nat}(one:∀ {w:W} {v:V},Bo K H μ w v->Dq n w=true->Dt K H w v):∀ {ws:List W} {xs:List V},aN K H μ ws xs->ws.all (Dq n)=true->Gn K H ws xs
 | [],_,h,_=>by rw [aN] at h;rw [Gn];exact h
 | w::ws,_,h,p=>by
  rw [aN] at h;rw [Gn];obtain ⟨v,vs,e,r,h⟩:=h;rw [List.all_cons,Kf] at p;exact ⟨v,vs,e,one r p.1,zu one h p.2⟩
theorem Yz:∀ (n:Nat) {w:W} {v:V},Bo K H μ w v->Dq n w=true->Dt K H w v:=by
 intro n;induction n with
 | zero=>
  intro w v r p;cases w with
  | non=>rw [Bo] at r;rw [Dt];exact r
  | bl _=>rw [Bo] at r;rw [Dt];exact r
  | int _=>rw [Bo] at r;rw [Dt];exact r
  | str _=>rw [Bo] at r;rw [Dt];exact r
  | _=>simp [Dq] at p
 | succ n ih=>
  intro w v r p;cases w with
  | non=>rw [Bo] at r;rw [Dt];exact r
  | bl _=>rw [Bo] at r;rw [Dt];exact r
  | int _=>rw [Bo] at r;rw [Dt];exact r
  | str _=>rw [Bo] at r;rw [Dt];exact r
  | tup ws=>
   rw [Bo] at r;rw [Dt];obtain ⟨p',xs,e,hs,rs⟩:=r;exact ⟨p',xs,e,hs,zu ih rs<|by simpa [Dq] using p⟩
  | lst ws=>
   rw [Bo] at r;rw [Dt];obtain ⟨p',xs,e,hs,rs⟩:=r;exact ⟨p',xs,e,hs.sq,zu ih rs<|by simpa [Dq] using p⟩
  | _=>simp [Dq] at p
theorem rQ:∀ {a b:List W},a.length≠b.length->jG a b=false
 | [],[],h=>absurd rfl h
 | [],_::_,_=>by simp [jG]
 | _::_,[],_=>by simp [jG]
 | a::as,b::bs,h=>by
  rw [jG,rQ (a:=as) (b:=bs) (by simpa using h),Ua]
def Y4 (a b:List W)(j:Nat):Bool:=Cq (a.getD j .non) (b.getD j .non)
theorem tL:∀ {a b:List W},a.length=b.length->(Jo a.length).all (Y4 a b)=jG a b
 | [],[],_=>by simp [jG]
 | [],_::_,h=>by simp at h
 | _::_,[],h=>by simp at h
 | a::as,b::bs,h=>by
  rw [jG,<-tL (a:=as) (b:=bs) (by simpa using h),Jb,List.range_succ_eq_map,List.all_cons,List.all_map];rfl
mutual
theorem Az {pins:List (Addr×Obj)}{s:kI}{σ : St}(I:BZ X pins σ H s):∀ {w u:W} {v:V},Dt X.K H w v->Dt X.K H u v->Cq w u=true
 | .non,u,v,h,g=>by rw [Dt] at h;subst h;cases u <;> rw [Dt] at g <;> first | rfl | exact g.elim | (obtain ⟨_,_,g,_⟩:=g;cases g;done) | (cases g;done)
 | .bl b,u,v,h,g=>by rw [Dt] at h;subst h;cases u <;> rw [Dt] at g <;> first | (injection g with g;simp [Cq,g];done) | exact g.elim | (obtain ⟨_,_,g,_⟩:=g;cases g;done) | (cases g;done)
 | .int b,u,v,h,g=>by rw [Dt] at h;subst h;cases u <;> rw [Dt] at g <;> first | (injection g with g;simp [Cq,g];done) | exact g.elim | (obtain ⟨_,_,g,_⟩:=g;cases g;done) | (cases g;done)
 | .str b,u,v,h,g=>by rw [Dt] at h;subst h;cases u <;> rw [Dt] at g <;> first | (injection g with g;simp [Cq,g];done) | exact g.elim | (obtain ⟨_,_,g,_⟩:=g;cases g;done) | (cases g;done)
 | .tup ws,u,v,h,g=>by
  rw [Dt] at h;obtain ⟨p,xs,e,hs,ds⟩:=h;subst e;cases u with
  | tup us=>
   rw [Dt] at g;obtain ⟨p',xs',e',hs',ds'⟩:=g;cases e'
   have:=I.tuple_inj hs hs'
   subst this;rw [Cq];exact ql I ds ds'
  | lst us=>
   rw [Dt] at g;obtain ⟨p',xs',e',hs',ds'⟩:=g;cases e'
   obtain ⟨_,_,t,_⟩:=I.tuple hs;obtain ⟨_,_,l,_⟩:=I.list hs';exact absurd rfl<|VJ l.isList<|show s.heap.IsTuple _ _ from t
  | ty _=>rw [Dt] at g;exact g.elim
  | loc _=>rw [Dt] at g;exact g.elim
  | kls _=>rw [Dt] at g;exact g.elim
  | _=>rw [Dt] at g;cases g
 | .lst ws,u,v,h,g=>by
  rw [Dt] at h;obtain ⟨p,xs,e,hs,ds⟩:=h;subst e;cases u with
  | lst us=>
   rw [Dt] at g;obtain ⟨p',xs',e',hs',ds'⟩:=g;cases e'
   have:=I.list_inj hs hs'
   subst this;rw [Cq];exact ql I ds ds'
  | tup us=>
   rw [Dt] at g;obtain ⟨p',xs',e',hs',ds'⟩:=g;cases e'
   obtain ⟨_,_,t,_⟩:=I.tuple hs';obtain ⟨_,_,l,_⟩:=I.list hs;exact absurd rfl<|VJ l.isList<|show s.heap.IsTuple _ _ from t
  | ty _=>rw [Dt] at g;exact g.elim
  | loc _=>rw [Dt] at g;exact g.elim
  | kls _=>rw [Dt] at g;exact g.elim
  | _=>rw [Dt] at g;cases g
 | .ty _,_,_,h,_=>by rw [Dt] at h;exact h.elim
 | .loc _,_,_,h,_=>by rw [Dt] at h;exact h.elim
 | .exc _,_,_,h,_=>by rw [Dt] at h;exact h.elim
 | .exa _ _,_,_,h,_=>by rw [Dt] at h;exact h.elim
 | .kls _,_,_,h,_=>by rw [Dt] at h;exact h.elim
theorem ql {pins:List (Addr×Obj)}{s:kI}{σ : St}(I:BZ X pins σ H s):∀ {ws us:List W} {vs:List V},Gn X.K H ws vs->Gn X.K H us vs->jG ws us=true
 | [],us,vs,h,g=>by
  rw [Gn] at h;subst h;cases us with
  | nil=>rfl
  | cons _ _=>rw [Gn] at g;obtain ⟨_,_,g,_⟩:=g;cases g
 | w::ws,us,vs,h,g=>by
  rw [Gn] at h;obtain ⟨v,vs',e,h1,h2⟩:=h;subst e;cases us with
  | nil=>rw [Gn] at g;cases g
  | cons u us=>
   rw [Gn] at g;obtain ⟨v',vs'',e',g1,g2⟩:=g;cases e'
   rw [jG,Az I h1 g1,ql I h2 g2];rfl
end
theorem in1_units {A:CT}:A.in1.units=A.units+1:=rfl
theorem aeC {n:Nat}{ws:List W}(h:Dq n (.lst ws)=true):∃ m,n=m+1/\ws.all (Dq m)=true:=by
 cases n with
 | zero=>simp [Dq] at h
 | succ m=>exact ⟨m,rfl,by simpa [Dq] using h⟩
theorem yS {s:kI}{A:CT}{n:Nat}{ws us:List W}{xs ys:List V}{its jts:List JI}(d1:Gn K H ws xs)(d2:Gn K H us ys)(p1:ws.all (Dq n)=true)(p2:us.all (Dq n)=true)(r1:CJ xs its)(r2:CJ ys jts)
  (one:∀ {w u:W} {v x:V} {a b:JI},Dt K H w v->Dt K H u x->Dq n w=true->Dq n u=true->RelV v a->RelV x b->SQ A s a b (Cq w u)) :
  ∀ j (h1:j<its.toArray.size) (h2:j<jts.toArray.size),SQ A s its.toArray[j] jts.toArray[j] (Y4 ws us j):=by
 intro j h1 h2;have l1:j<ws.length:=by rw [d1.len,r1.length];simpa using h1
 have l2:j<us.length:=by rw [d2.len,r2.length];simpa using h2
 obtain ⟨v,ev,dv⟩:=d1.get (KN l1);obtain ⟨x,ex,dx⟩:=d2.get (KN l2);obtain ⟨a,ea,ra⟩:=r1.get ev;obtain ⟨b,eb,rb⟩:=r2.get ex;have ea':its.toArray[j]=a:=by simpa using (K8.mp ea).2
 have eb':jts.toArray[j]=b:=by simpa using (K8.mp eb).2
 have e:Y4 ws us j=Cq ws[j] us[j]:=by
  unfold Y4;rw [S9,S9,KN l1,KN l2];rfl
 rw [ea',eb',e];exact one dv dx (QS.mp p1 _<|Uh l1) (QS.mp p2 _<|Uh l2) ra rb
theorem size_of {ws:List W}{xs:List V}{its:List JI}(d:Gn K H ws xs)(r:CJ xs its):its.toArray.size=ws.length:=by
 rw [d.len,r.length];simp
theorem agr {ws us:List W}:((Jo (min ws.length us.length)).all (Y4 ws us)&&ws.length==us.length)=jG ws us:=by
 by_cases e:ws.length=us.length
 ·rw [<-e,Nat.min_self,tL e];simp
 ·rw [rQ e];have e2:(ws.length==us.length)=false:=beq_eq_false_iff_ne.mpr e;rw [e2,Ua]
inductive Kd (s:kI):W->JI->Prop where
 | non:Kd s .non .none
 | bl (b:Bool):Kd s (.bl b) (.bool b)
 | int (i:Int) (t:Tok):Kd s (.int i) (.int i t)
 | str (x:Str) (t:Tok):Kd s (.str x) (.str x t)
 | tup (ws:List W) {p:Addr} {its:Array JI} (q:s.heap.IsTuple p its):Kd s (.tup ws) (.ref p)
 | lst (ws:List W) {p:Addr} {its:Array JI} (q:s.heap.IsList p its):Kd s (.lst ws) (.ref p)
theorem uD {pins:List (Addr×Obj)}{s:kI}{σ : St}(I:BZ X pins σ H s){w:W}{v:V}{a:JI}(d:Dt X.K H w v)(r:RelV v a):Kd s w a:=by
 cases w with
 | non=>rw [Dt] at d;subst d;cases r;exact .non
 | bl b=>rw [Dt] at d;subst d;cases r;exact .bl b
 | int b=>rw [Dt] at d;subst d;obtain ⟨t,rfl⟩:=r;exact .int b t
 | str b=>rw [Dt] at d;subst d;obtain ⟨t,rfl⟩:=r;exact .str b t
 | tup ws=>rw [Dt] at d;obtain ⟨p,xs,e,hs,_⟩:=d;subst e;cases r;obtain ⟨its,_,q,_⟩:=I.tuple hs;exact .tup ws q
 | lst ws=>rw [Dt] at d;obtain ⟨p,xs,e,hs,_⟩:=d;subst e;cases r;obtain ⟨its,_,q,_⟩:=I.list hs;exact .lst ws q.isList
 | _=>rw [Dt] at d;exact d.elim
def sq1:W->Bool
 | .tup _=>true
 | .lst _=>true
 | _=>false
def pX:W->W->Bool
 | .tup _,.tup _=>true
 | .lst _,.lst _=>true
 | _,_=>false
def Zy (w u:W):Bool:=!(sq1 w||sq1 u)
open SeqAt.EqAt in
theorem NP {s:kI}{A:CT}{w u:W}{a b:JI}(hu:A.units<J7)(k1:Kd s w a)(k2:Kd s u b)(h:pX w u=false)(f:Zy w u=false):SQ A s a b (Cq w u):=by
 cases k1 <;> cases k2 <;> try (first | (cases h;done) | (cases f;done))
 ·apply none_tuple <;> assumption
 ·apply none_list <;> assumption
 ·apply bool_tuple <;> assumption
 ·apply bool_list <;> assumption
 ·apply int_tuple <;> assumption
 ·apply int_list <;> assumption
 ·apply str_tuple <;> assumption
 ·apply str_list <;> assumption
 ·apply tuple_none <;> assumption
 ·apply tuple_bool <;> assumption
 ·apply tuple_int <;> assumption
 ·apply tuple_str <;> assumption
 ·apply tuple_list <;> assumption
 ·apply list_none <;> assumption
 ·apply list_bool <;> assumption
 ·apply list_int <;> assumption
 ·apply list_str <;> assumption
 ·apply list_tuple <;> assumption
open SeqAt.RcAt in
theorem afZ {s:kI}{A:CT}{w u:W}{a b:JI}(hu:A.units<J7)(k1:Kd s w a)(k2:Kd s u b)(h:pX w u=false):SeqAt.RcAt A s a b (Cq w u):=by
 cases k1 <;> cases k2 <;> try (first | (cases h;done))
 ·apply none_none <;> assumption
 ·apply none_bool <;> assumption
 ·apply none_int <;> assumption
 ·apply none_str <;> assumption
 ·apply none_tuple <;> assumption
 ·apply none_list <;> assumption
 ·apply bool_none <;> assumption
 ·apply bool_bool <;> assumption
 ·apply bool_int <;> assumption
 ·apply bool_str <;> assumption
 ·apply bool_tuple <;> assumption
 ·apply bool_list <;> assumption
 ·apply int_none <;> assumption
 ·apply int_bool <;> assumption
 ·apply int_int <;> assumption
 ·apply int_str <;> assumption
 ·apply int_tuple <;> assumption
 ·apply int_list <;> assumption
 ·apply str_none <;> assumption
 ·apply str_bool <;> assumption
 ·apply str_int <;> assumption
 ·apply str_str <;> assumption
 ·apply str_tuple <;> assumption
 ·apply str_list <;> assumption
 ·apply tuple_none <;> assumption
 ·apply tuple_bool <;> assumption
 ·apply tuple_int <;> assumption
 ·apply tuple_str <;> assumption
 ·apply tuple_list <;> assumption
 ·apply list_none <;> assumption
 ·apply list_bool <;> assumption
 ·apply list_int <;> assumption
 ·apply list_str <;> assumption
 ·apply list_tuple <;> assumption
open SeqAt.RcNeAt in
theorem Ws {s:kI}{A:CT}{w u:W}{a b:JI}(hu:A.units<J7)(k1:Kd s w a)(k2:Kd s u b)(h:pX w u=false):SeqAt.RcNeAt A s a b (!Cq w u):=by
 cases k1 <;> cases k2 <;> try (first | (cases h;done))
 ·apply none_none <;> assumption
 ·apply none_bool <;> assumption
 ·apply none_int <;> assumption
 ·apply none_str <;> assumption
 ·apply none_tuple <;> assumption
 ·apply none_list <;> assumption
 ·apply bool_none <;> assumption
 ·apply bool_bool <;> assumption
 ·apply bool_int <;> assumption
 ·apply bool_str <;> assumption
 ·apply bool_tuple <;> assumption
 ·apply bool_list <;> assumption
 ·apply int_none <;> assumption
 ·apply int_bool <;> assumption
 ·apply int_int <;> assumption
 ·apply int_str <;> assumption
 ·apply int_tuple <;> assumption
 ·apply int_list <;> assumption
 ·apply str_none <;> assumption
 ·apply str_bool <;> assumption
 ·apply str_int <;> assumption
 ·apply str_str <;> assumption
 ·apply str_tuple <;> assumption
 ·apply str_list <;> assumption
 ·apply tuple_none <;> assumption
 ·apply tuple_bool <;> assumption
 ·apply tuple_int <;> assumption
 ·apply tuple_str <;> assumption
 ·apply tuple_list <;> assumption
 ·apply list_none <;> assumption
 ·apply list_bool <;> assumption
 ·apply list_int <;> assumption
 ·apply list_str <;> assumption
 ·apply list_tuple <;> assumption
theorem vg:∀ {w u:W},pX w u=true->(∃ ws us,w=.tup ws/\u=.tup us)\/∃ ws us,w=.lst ws/\u=.lst us
 | .tup ws,.tup us,_=>.inl ⟨ws,us,rfl,rfl⟩
 | .lst ws,.lst us,_=>.inr ⟨ws,us,rfl,rfl⟩
def wV:V->W
 | .bl b=>.bl b
 | .int b=>.int b
 | .str b=>.str b
 | _=>.non
theorem Z7 {v x:V}(h:Hz v=true)(g:Hz x=true):Cq (wV v) (wV x)=eqV v x:=by
 cases v <;> first | (cases h;done) | (cases x <;> first | (cases g;done) | rfl)
theorem N6 {w:W}{v:V}(d:Dt K H w v)(h:sq1 w=false):Hz v=true/\w=wV v:=by
 cases w with
 | tup _=>cases h
 | lst _=>cases h
 | non=>rw [Dt] at d;subst d;exact ⟨rfl,rfl⟩
 | bl _=>rw [Dt] at d;subst d;exact ⟨rfl,rfl⟩
 | int _=>rw [Dt] at d;subst d;exact ⟨rfl,rfl⟩
 | str _=>rw [Dt] at d;subst d;exact ⟨rfl,rfl⟩
 | _=>rw [Dt] at d;exact d.elim
theorem M6 {s:kI}{A:CT}{w u:W}{v x:V}{a b:JI}(dw:Dt K H w v)(du:Dt K H u x)(hf:Zy w u=true)(ra:RelV v a)(rb:RelV x b):SQ A s a b (Cq w u):=by
 have hf:=Bool.or_eq_false_iff.mp (Eq.mp (TY _) hf);have ⟨f1,e1⟩:=N6 dw hf.1;have ⟨f2,e2⟩:=N6 du hf.2;rw [e1,e2,Z7 f1 f2];exact Xc ra rb f1 f2
theorem Ow {pins:List (Addr×Obj)}{s:kI}{σ : St}(I:BZ X pins σ H s){n:Nat}{A:CT}{w u:W}{v x:V}{a b:JI}(ih:∀ {w u:W} {v x:V} {a b:JI},Dt X.K H w v->Dt X.K H u x->Dq n w=true->Dq n u=true->RelV v a->RelV x b->SQ A.in1 s a b (Cq w u))(hu:A.units<J7)(h2:pX w u=true)(dw:Dt X.K H w v)(du:Dt X.K H u x)(pw:Dq (n+1) w=true)(pu:Dq (n+1) u=true)(ra:RelV v a)(rb:RelV x b):∃ p q,v=.ref p/\x=.ref q/\a=.ref p/\b=.ref q/\SeqAt.RcAt A s a b (Cq w u)/\SeqAt.RcNeAt A s a b (!Cq w u):=by
 rcases vg h2 with ⟨ws,us,rfl,rfl⟩ | ⟨ws,us,rfl,rfl⟩ <;> rw [Dt] at dw du <;> obtain ⟨p,xs1,rfl,hs1,ds1⟩:=dw <;> obtain ⟨q,xs2,rfl,hs2,ds2⟩:=du <;> cases ra <;> cases rb <;> refine ⟨p,q,rfl,rfl,rfl,rfl,?_⟩ <;> rw [Cq] <;> rw [Dq] at pw pu
 ·obtain ⟨its1,rv1,q1,_⟩:=I.tuple hs1;obtain ⟨its2,rv2,q2,_⟩:=I.tuple hs2;have it:=yS ds1 ds2 pw pu rv1 rv2 ih;rw [<-agr,<-size_of ds1 rv1,<-size_of ds2 rv2];exact ⟨.tuples q1 q2 hu it,.tuples q1 q2 hu it⟩
 ·obtain ⟨its1,rv1,q1,_⟩:=I.list hs1;obtain ⟨its2,rv2,q2,_⟩:=I.list hs2;by_cases hl:ws.length=us.length
  ·have it:=yS ds1 ds2 pw pu rv1 rv2 ih;have e:its1.toArray.size=its2.toArray.size:=by rw [size_of ds1 rv1,size_of ds2 rv2,hl]
   rw [<-tL hl,<-size_of ds1 rv1];exact ⟨.lists q1.isList q2.isList e hu it,.lists q1.isList q2.isList e hu it⟩
  ·rw [rQ hl];have e:(its1.toArray.size != its2.toArray.size)=true:=by rw [size_of ds1 rv1,size_of ds2 rv2];exact bne_iff_ne.mpr hl
   exact ⟨.lists_lengths q1.isList q2.isList e hu,.lists_lengths q1.isList q2.isList e hu⟩
theorem JD {w u:W}(h:pX w u=true):∀ {n:Nat},Dq n w=true->∃ m,n=m+1
 | 0,p=>by rcases vg h with ⟨_,_,rfl,_⟩ | ⟨_,_,rfl,_⟩ <;> cases p
 | m+1,_=>⟨m,rfl⟩
theorem ZW {pins:List (Addr×Obj)}{s:kI}{σ : St}(I:BZ X pins σ H s):∀ (n:Nat) {A:CT} {w u:W} {v x:V} {a b:JI},A.units+n<J7->Dt X.K H w v->Dt X.K H u x->Dq n w=true->Dq n u=true->RelV v a->RelV x b->SQ A s a b (Cq w u):=by
 intro n;induction n with
 | zero=>
  intro A w u v x a b hu dw du pw pu ra rb;by_cases hf:Zy w u=true
  ·exact M6 dw du hf ra rb
  by_cases h2:pX w u=true
  ·obtain ⟨m,e⟩:=JD h2 pw;cases e
  ·exact NP hu (uD I dw ra) (uD I du rb) (T8 _ ▸ h2)<|T8 _ ▸ hf
 | succ n ih=>
  intro A w u v x a b hu dw du pw pu ra rb;by_cases hf:Zy w u=true
  ·exact M6 dw du hf ra rb
  by_cases h2:pX w u=true
  ·have hu':=SN (Nat.le_add_right _ _) hu;obtain ⟨p,q,rfl,rfl,rfl,rfl,z,_⟩:=Ow I (ih (A:=A.in1) (by rw [in1_units,Nat.add_assoc,Nat.add_comm 1];exact hu)) hu' h2 dw du pw pu ra rb;by_cases hp:p=q
   ·subst hp;rw [Az I dw du];exact SeqAt.EqAt.same _
   ·exact SeqAt.EqAt.of_refs hp z
  ·exact NP (SN (Nat.le_add_right _ _) hu) (uD I dw ra) (uD I du rb) (T8 _ ▸ h2)<|T8 _ ▸ hf
theorem rcN {pins:List (Addr×Obj)}{s:kI}{σ : St}(I:BZ X pins σ H s){m:Nat}{A:CT}{w u:W}{v x:V}{a b:JI}{p:Prop}(hu:A.units+(m+1)<J7)(hu':A.units<J7)(h2:pX w u=true)(dw:Dt X.K H w v)(du:Dt X.K H u x)(pw:Dq (m+1) w=true)(pu:Dq (m+1) u=true)(ra:RelV v a)(rb:RelV x b)(f:SeqAt.RcAt A s a b (Cq w u)/\SeqAt.RcNeAt A s a b (!Cq w u)->p):p:=by
 obtain ⟨_,_,_,_,_,_,z⟩:=Ow I (ZW I m (A:=A.in1) (by rw [in1_units,Nat.add_assoc,Nat.add_comm 1];exact hu)) hu' h2 dw du pw pu ra rb;exact f z
theorem aai {pins:List (Addr×Obj)}{s:kI}{σ : St}(I:BZ X pins σ H s)(n:Nat){A:CT}{w u:W}{v x:V}{a b:JI}(hu:A.units+n<J7)(dw:Dt X.K H w v)(du:Dt X.K H u x)(pw:Dq n w=true)(pu:Dq n u=true)(ra:RelV v a)(rb:RelV x b):SeqAt.RcAt A s a b (Cq w u):=by
 have hu':=SN (Nat.le_add_right _ _) hu;by_cases h2:pX w u=true
 ·obtain ⟨m,rfl⟩:=JD h2 pw;exact rcN I hu hu' h2 dw du pw pu ra rb (·.1)
 ·exact afZ hu' (uD I dw ra) (uD I du rb)<|T8 _ ▸ h2
theorem afQ {pins:List (Addr×Obj)}{s:kI}{σ : St}(I:BZ X pins σ H s)(n:Nat){A:CT}{w u:W}{v x:V}{a b:JI}(hu:A.units+n<J7)(dw:Dt X.K H w v)(du:Dt X.K H u x)(pw:Dq n w=true)(pu:Dq n u=true)(ra:RelV v a)(rb:RelV x b):SeqAt.RcNeAt A s a b (!Cq w u):=by
 have hu':=SN (Nat.le_add_right _ _) hu;by_cases h2:pX w u=true
 ·obtain ⟨m,rfl⟩:=JD h2 pw;exact rcN I hu hu' h2 dw du pw pu ra rb (·.2)
 ·exact Ws hu' (uD I dw ra) (uD I du rb)<|T8 _ ▸ h2
def Df (h:Gh):W->Option W
 | .loc n=>(match h.c n with
  | some (.lst ws)=>Dn (.lst ws)
  | _=>Go)
 | w=>Dn w
theorem rZ {w d:W}{v:V}{n:Nat}(R:Ci K μ H h)(r:Bo K H μ w v)(e:Df h w=Dn d)(p:Dq n d=true):Dt K H d v:=by
 have other:Df h w=Dn w->Dt K H d v:=fun z=>by
  rw [z] at e;cases e;exact Yz n r p
 cases w with
 | loc m=>
  unfold Df at e;dsimp only at e;cases ec:h.c m with
  | none=>rw [ec] at e;cases e
  | some cl=>
   rw [ec] at e;cases cl with
   | lst us=>
    cases (show Dn (W.lst us)=Dn d from e)
    obtain ⟨p',xs,hm',hx,rs⟩:=R.lstAt ec;rw [Bo] at r;obtain ⟨q,ev,hm⟩:=r;have ep:p'=q:=by rw [hm] at hm';exact (Fj hm').symm
    subst ep;obtain ⟨k,rfl,p⟩:=aeC p;rw [Dt];exact ⟨p',xs,ev,.of hx,zu (Yz k) rs p⟩
   | _=>cases e
 | _=>exact other rfl
def ab4 (K:Bs)(neg:Bool):R2:=fun x y H Q=>∃ w u,Dt K H w x/\Dt K H u y/\Dq 30 w=true/\Dq 30 u=true/\Q (.bl (if neg then !Cq w u else Cq w u)) H
theorem Yc (hu:X.A.units+30<J7):Ho X (KY .Eq) (ab4 X.K false):=by
 intro pins s σ H x y v u Q I rx ry ⟨w,w',d1,d2,p1,p2,q⟩;exact aai I 30 hu d1 d2 p1 p2 rx ry X.prog X.w X.xe _<|yM I q rfl
theorem Yl (hu:X.A.units+30<J7):Ho X (KY .NotEq) (ab4 X.K true):=by
 intro pins s σ H x y v u Q I rx ry ⟨w,w',d1,d2,p1,p2,q⟩;exact afQ I 30 hu d1 d2 p1 p2 rx ry X.prog X.w X.xe _<|yM I q rfl
def Ez:M2:=fun x y h Q=>match Df h x,Df h y with
 | some a,Dn b=>El (Dq 30 a&&Dq 30 b) (Q (.bl (Cq a b)) h) False
 | _,_=>False
def HW:M2:=fun x y h Q=>match Df h x,Df h y with
 | some a,Dn b=>El (Dq 30 a&&Dq 30 b) (Q (.bl (!Cq a b)) h) False
 | _,_=>False
theorem lD (hu:X.A.units+30<J7):Ka X (KY .Eq) Ez:=⟨_,Yc hu,by
 intro H μ h x y wx wy Qw Q R rx ry m k;unfold Ez at m;split at m
 ·rename_i a b ea eb;cases hp:(Dq 30 a&&Dq 30 b) with
  | true=>
   rw [hp] at m;rw [Kf] at hp;exact ⟨a,b,rZ R rx ea hp.1,rZ R ry eb hp.2,hp.1,hp.2,k _ _<|.bl R m⟩
  | false=>rw [hp] at m;exact (show False from m).elim
 ·exact m.elim⟩
theorem yR (hu:X.A.units+30<J7):Ka X (KY .NotEq) HW:=⟨_,Yl hu,by
 intro H μ h x y wx wy Qw Q R rx ry m k;unfold HW at m;split at m
 ·rename_i a b ea eb;cases hp:(Dq 30 a&&Dq 30 b) with
  | true=>
   rw [hp] at m;rw [Kf] at hp;exact ⟨a,b,rZ R rx ea hp.1,rZ R ry eb hp.2,hp.1,hp.2,k _ _<|.bl R m⟩
  | false=>rw [hp] at m;exact (show False from m).elim
 ·exact m.elim⟩
theorem abQ {A:CT}{k:Nat}(hr:fP k A):A.units+30<J7:=by have:=hr.units;lia
end
section
variable {X:Cx}{K:Bs}
theorem jz {H:Hp}{μ : Mu}{w:W}{vs:List V}(r:aN K H μ [w] vs):∃ v,vs=[v]/\Bo K H μ w v:=by
 rw [aN] at r;obtain ⟨v,vr,ev,ra,r⟩:=r;rw [aN] at r;subst r;exact ⟨v,ev,ra⟩
theorem Z8 {H:Hp}{μ : Mu}{w u:W}{vs:List V}(r:aN K H μ [w,u] vs):∃ v x,vs=[v,x]/\Bo K H μ w v/\Bo K H μ u x:=by
 rw [aN] at r;obtain ⟨v,vr,ev,ra,r⟩:=r;obtain ⟨x,e,rb⟩:=jz r;subst e;exact ⟨v,x,ev,ra,rb⟩
theorem fC.of {i j:Int}{m n:Nat}(hi:Sm m i)(hj:Sm n j)(hm:m<=1000000)(hn:n<=1000000):fC i j:=⟨m,n,hm,hn,hi,hj⟩
theorem Sm.lit {i:Int}(h:Nat.ble (i.natAbs+1) (2^64)=true):Sm 64 i:=by
 have:=Gq h
 unfold Sm;lia
def HF:MC:=fun ws h Q=>match ws with
 | [w]=>(match view h w with
  | some xs=>Q (.int (xs.length:Int)) h
  | none=>False)
 | _=>False
theorem tZ:pR X (.builtin "len") HF:=⟨_,vh,by
 intro H μ h vs ws Qw Q R r m k;unfold HF at m;split at m
 ·split at m
  ·rename_i w _ xs ev;obtain ⟨v,e,rv⟩:=jz r;obtain ⟨p,ys,ex,hs,rs⟩:=wY R rv ev;subst e ex;exact ⟨p,ys,rfl,hs,by rw [<-rs.len];exact k _ _ (.int R m)⟩
  ·exact m.elim
 ·exact m.elim⟩
def JX:MC:=fun ws h Q=>match ws with
 | [.int i]=>Q (.int (if i<0 then -i else i)) h
 | _=>False
theorem Bq:pR X (.builtin "abs") JX:=⟨_,aez,by
 intro H μ h vs ws Qw Q R r m k;unfold JX at m;split at m
 ·obtain ⟨v,e,rv⟩:=jz r;rw [Bo] at rv;subst e rv;exact ⟨_,rfl,k _ _<|.int R m⟩
 ·exact m.elim⟩
def Jk:List W->Option (List Bool)
 | []=>Dn []
 | .bl b::ws=>(Jk ws).map (b::·)
 | _=>Go
theorem wM {H:Hp}{μ : Mu}:∀ {ws:List W} {xs:List V} {bs:List Bool},aN K H μ ws xs->Jk ws=Dn bs->xs=bs.map V.bl
 | [],xs,bs,r,e=>by
  rw [aN] at r;cases (show Dn []=Dn bs from e)
  exact r
 | w::ws,xs,bs,r,e=>by
  rw [aN] at r;obtain ⟨v,vr,ev,ra,r⟩:=r;cases w with
  | bl b=>
   rw [Bo] at ra;rw [Jk] at e;cases q:Jk ws with
   | none=>rw [q] at e;cases e
   | some cs=>
    rw [q] at e;cases (show Dn (b::cs)=Dn bs from e)
    rw [ev,ra,wM r q];rfl
  | _=>cases e
def Vt:MC:=fun ws h Q=>match ws with
 | [w]=>(match dW h w with
  | some us=>(match Jk us with
   | some bs=>Q (.bl (bs.all id)) h
   | none=>False)
  | none=>False)
 | _=>False
theorem aaZ (hc:X.calm=true):pR X (.builtin "all") Vt:=⟨_,aeh hc,by
 intro H μ h vs ws Qw Q R r m k;unfold Vt at m;split at m
 ·split at m
  ·split at m
   ·rename_i w _ us ev _ bs eb;obtain ⟨v,e,rv⟩:=jz r;obtain ⟨p,ys,ex,hs,rs⟩:=dg R rv ev;subst e ex;exact ⟨p,bs,rfl,by rw [<-wM rs eb];exact hs,k _ _<|.bl R m⟩
   ·exact m.elim
  ·exact m.elim
 ·exact m.elim⟩
def acs (h:Gh)(w:W)(T:String):Option Bool:=match w with
 | .int _=>if T = "int" then Dn true else if T = "bool"\/T = "tuple"\/T = "list" then Dn false else Go
 | .bl _=>if T = "int"\/T = "bool" then Dn true else if T = "tuple"\/T = "list" then Dn false else Go
 | .str _=>if T = "int"\/T = "bool"\/T = "tuple"\/T = "list" then Dn false else Go
 | .non=>if T = "int"\/T = "bool"\/T = "tuple"\/T = "list" then Dn false else Go
 | .tup _=>if T = "tuple" then Dn true else if T = "int"\/T = "bool"\/T = "list" then Dn false else Go
 | w=>(match dW h w with
  | some _=>if T = "list" then Dn true else if T = "int"\/T = "bool"\/T = "tuple" then Dn false else Go
  | none=>Go)
def acz:MC:=fun ws h Q=>match ws with
 | [w,.ty T]=>(match acs h w T with
  | some b=>Q (.bl b) h
  | none=>False)
 | _=>False
def uH:MC:=fun ws h Q=>match ws with
 | [.tup us]=>Q (.tup us) h
 | [w]=>(match dW h w with
  | some us=>Q (.tup us) h
  | none=>False)
 | _=>False
theorem Hh:pR X (.type "tuple") uH:=⟨_,rM,by
 intro H μ h vs ws Qw Q R r m k;unfold uH at m;split at m
 ·obtain ⟨v,e,rv⟩:=jz r;have rv':=rv;rw [Bo] at rv;obtain ⟨p,xs,ex,hs,rs⟩:=rv;subst e ex;exact ⟨p,xs,rfl,.inr ⟨hs,k _ _ ⟨μ,_,h,.refl,R,rv',m⟩⟩⟩
 ·split at m
  ·rename_i w _ _ us ev;obtain ⟨v,e,rv⟩:=jz r;obtain ⟨p,ys,ex,hs,rs⟩:=dg R rv ev;subst e ex;exact ⟨p,ys,rfl,.inl ⟨hs,fun l hl=>k _ _ ⟨μ,_,h,(Ex.laid hl).ext,R.laid hl,.tupNew hl rs,m⟩⟩⟩
  ·exact m.elim
 ·exact m.elim⟩
def qD:MC:=fun ws h Q=>match ws with
 | [w]=>(match view h w with
  | some us=>Q (.lst us) h
  | none=>False)
 | _=>False
theorem oh:pR X (.type "list") qD:=⟨_,vP,by
 intro H μ h vs ws Qw Q R r m k;unfold qD at m;split at m
 ·split at m
  ·rename_i w _ xs ev;obtain ⟨v,e,rv⟩:=jz r;obtain ⟨p,ys,ex,hs,rs⟩:=wY R rv ev;subst e ex;exact ⟨p,ys,rfl,hs,fun l hl=>k _ _ ⟨μ,_,h,(Ex.laid hl).ext,R.laid hl,.lstNew R hl rs,m⟩⟩
  ·exact m.elim
 ·exact m.elim⟩
abbrev MM:=W->List W->Gh->WK->Prop
def abD (K:Bs)(r:V->List V->Hp->VK->Prop)(mr:MM):Prop:=∀ {H:Hp} {μ : Mu} {h:Gh} {x:V} {vs:List V} {wx:W} {ws:List W} {Qw:WK} {Q:VK},Ci K μ H h->Bo K H μ wx x->aN K H μ ws vs->mr wx ws h Qw->(∀ v H',DQ K H μ Qw v H'->Q v H')->r x vs H Q
def Dg (h:Gh)(w:W)(P:Prop):Prop:=match w with
 | .loc n=>(match h.c n with
  | some (.lst _)=>P
  | _=>False)
 | _=>False
theorem zH {H:Hp}{μ : Mu}{h:Gh}{w:W}{v:V}{P:Prop}(R:Ci K μ H h)(r:Bo K H μ w v)(e:Dg h w P):tyV K "list" v H/\P:=by
 unfold Dg at e;split at e
 ·split at e
  ·rename_i n _ ws ec;rw [Bo] at r;obtain ⟨p,ev,hm⟩:=r;obtain ⟨p',xs,hm',hx,rs⟩:=R.lstAt ec;have ep:p'=p:=by rw [hm] at hm';exact (Fj hm').symm
   subst ep ev;exact ⟨.inl ⟨rfl,xs,.of hx⟩,e⟩
  ·exact e.elim
 ·exact e.elim
def Ov (r:MM)(mo:ME)(ma:MA):ME:=fun σ h Q=>mo σ h fun x h1=>Dg h1 x (ma σ h1 fun xs h2=>r x xs h2 Q)
variable {o e:Expr}{es:List Expr}{mo:ME}{ma:MA}{name:Str}{apos cpos:Pos}{id:String}{r:V->List V->Hp->VK->Prop}{mr:MM}
theorem ace (slot:Slot "list" name id)(hty:typeOf (.builtin id)=pure (.type "method_descriptor"))(hm:MtR X id r)(hs:abD X.K r mr)(ho:DE X o mo)(ha:Hr X (e::es) ma)
  (hbase:Sq o name X.env (eval o X.env)=eval o X.env:=by rfl)
  (hfew:((HB cpos (Ce (e::es) X.env)).all (fun x=>!x.1)&&(backToKw cpos (keywordEach [] X.env)).all (fun x=>x.1.isSome)
   && decide ((e::es).length+([]:List Q6).length+(if ([]:List Q6).isEmpty then 0 else 1)<30))=true:=by rfl)
  (hline:(apos.endLine==cpos.line)=true:=by rfl) (hst:Ce (e::es) X.env=(false,eval e X.env)::Ce es X.env:=by rfl) (hplain:(HB cpos (Ce es X.env)).any (·.1)=false:=by rfl) :
  DE X (.Call (.Attribute o name apos) (e::es) [] cpos) (Ov mr mo ma):=(aaR PySem.F.plainAttrs_list slot hty hm ho ha hbase hfew hline hst hplain).of fun σ H Q ⟨μ,h,σw,Qw,R,S,m,k⟩=>by
 refine ⟨μ,h,σw,_,R,S,m,fun v H1 ⟨μ1,w,h1,e1,R1,r1,il⟩=>⟨(zH R1 r1 il).1,?_⟩⟩;have m1:=(zH R1 r1 il).2;exact ⟨μ1,h1,σw,_,R1,S.ext e1,m1,fun vs H2 ⟨μ2,ws,h2,e2,R2,r2,m2⟩=>hs R2 (e2.r _ _ r1) r2 m2 fun v H' z=>k _ _<|(z.trans e2).trans e1⟩
def jq:MM:=fun x ws h Q=>match x,ws with
 | .loc n,[w]=>(match h.c n with
  | some (.lst us)=>us.length<Dk/\Q .non (h.set n (.lst (us++[w])))
  | _=>False)
 | _,_=>False
theorem Qi {H:Hp}{μ : Mu}{h:Gh}{n:Nat}{v:V}{us:List W}(R:Ci K μ H h)(r:Bo K H μ (.loc n) v)(ec:h.c n=Dn (.lst us)):∃ p xs,v=.ref p/\μ.f n=Dn p/\H p=Dn (.lst xs)/\aN K H μ us xs:=by
 rw [Bo] at r;obtain ⟨p,ev,hm⟩:=r;obtain ⟨p',xs,hm',hx,rs⟩:=R.lstAt ec;have ep:p'=p:=by rw [hm] at hm';exact (Fj hm').symm
 subst ep;exact ⟨p',xs,ev,hm,hx,rs⟩
theorem DQ.wrote {H:Hp}{μ : Mu}{h:Gh}{n:Nat}{p:Addr}{us:List W}{xs:List V}{Q:WK}{w:W}{v:V}(R:Ci K μ H h)(hm:μ.f n=Dn p)(rs:aN K H μ us xs)(rw':Bo K H μ w v)(q:Q w (h.set n (.lst us))):DQ K H μ Q v (Cd H p (.lst xs)):=
 ⟨μ,w,h.set n (.lst us),(Ex.write R hm).ext,R.write hm trivial ⟨xs,aU,(Ex.write R hm).ext.s rs⟩,(Ex.write R hm).ext.r _ _ rw',q⟩
theorem aeY:abD K Ju jq:=by
 intro H μ h x vs wx ws Qw Q R rx rs m k;unfold jq at m;split at m
 ·split at m
  ·rename_i n w _ us ec;obtain ⟨p,xs,ex,hm,hx,r1⟩:=Qi R rx ec;obtain ⟨v,ev,rv⟩:=jz rs;exact ⟨p,xs,v,ex,ev,hx,by rw [<-r1.len];exact m.1,k _ _<|.wrote R hm (r1.append<|.one rv) (by rw [Bo]) m.2⟩
  ·exact m.elim
 ·exact m.elim
theorem Bc (ho:DE X o mo)(ha:Hr X [e] ma)
  (hbase:Sq o "append" X.env (eval o X.env)=eval o X.env:=by rfl)
  (hfew:((HB cpos (Ce [e] X.env)).all (fun x=>!x.1)&&(backToKw cpos (keywordEach [] X.env)).all (fun x=>x.1.isSome)
   && decide (([e]:List Expr).length+([]:List Q6).length+(if ([]:List Q6).isEmpty then 0 else 1)<30))=true:=by rfl)
  (hline:(apos.endLine==cpos.line)=true:=by rfl) (hst:Ce [e] X.env=(false,eval e X.env)::Ce [] X.env:=by rfl) (hplain:(HB cpos (Ce [] X.env)).any (·.1)=false:=by rfl) :
  DE X (.Call (.Attribute o "append" apos) [e] [] cpos) (Ov jq mo ma):=ace PySem.F.slot_list_append PySem.F.type_list_append uF aeY ho ha hbase hfew hline hst hplain
end
section
variable {X:Cx}{K:Bs}
theorem Yg:Ho X (KY .Is) (fun x y H Q=>∃ c b,x=.bl c/\y=.bl b/\Q (.bl (c==b)) H):=by
 intro pins s σ H x y v u Q I rx ry ⟨c,b,ex,ey,q⟩;subst ex ey;cases rx;cases ry;exact is_bool<|yM I q rfl
def Qp:W->Bool
 | .non=>true
 | _=>false
theorem agC {H:Hp}{μ : Mu}{w:W}{v:V}(r:Bo K H μ w v):decide (v=.non)=Qp w:=by
 cases w with
 | non=>rw [Bo] at r;subst r;rfl
 | bl _=>rw [Bo] at r;subst r;rfl
 | int _=>rw [Bo] at r;subst r;rfl
 | str _=>rw [Bo] at r;subst r;rfl
 | ty _=>rw [Bo] at r;subst r;rfl
 | tup _=>rw [Bo] at r;obtain ⟨_,_,e,_⟩:=r;subst e;rfl
 | lst _=>rw [Bo] at r;obtain ⟨_,_,e,_⟩:=r;subst e;rfl
 | kls _=>rw [Bo] at r;obtain ⟨_,_,e,_⟩:=r;subst e;rfl
 | loc _=>rw [Bo] at r;obtain ⟨_,e,_⟩:=r;subst e;rfl
 | exc _=>rw [Bo] at r;obtain ⟨_,_,_,e,_⟩:=r;subst e;rfl
 | exa _ _=>rw [Bo] at r;obtain ⟨_,_,_,_,_,_,e,_⟩:=r;subst e;rfl
 | fnv _ _=>rw [Bo] at r;subst r;rfl
def kIs:M2:=fun x y h Q=>match x,y with
 | .bl c,.bl b=>Q (.bl (c==b)) h
 | w,.non=>Q (.bl (Qp w)) h
 | _,_=>False
def aa1:M2:=fun x y h Q=>match x,y with
 | .bl c,.bl b=>Q (.bl (!(c==b))) h
 | w,.non=>Q (.bl (!Qp w)) h
 | _,_=>False
theorem abP:Ka X (KY .Is) kIs:=⟨_,Yg.or Xg,by
 intro H μ h x y wx wy Qw Q R rx ry m k;unfold kIs at m;split at m
 ·rw [Bo] at rx ry;exact .inl ⟨_,_,rx,ry,k _ _<|.bl R m⟩
 ·rw [<-agC rx] at m;rw [Bo] at ry;exact .inr ⟨ry,k _ _<|.bl R m⟩
 ·exact m.elim⟩
theorem zaq (bs:List Bool):((Jo bs.length).any fun i=>(bs[i]?).getD true)=bs.any id:=by
 rw [Bool.eq_iff_iff,List.any_eq_true,List.any_eq_true];constructor
 ·rintro ⟨i,hi,e⟩;have hi':=Mw.mp hi;exact ⟨bs[i],Uh hi',by simpa [hi'] using e⟩
 ·rintro ⟨b,hb,e⟩;obtain ⟨i,hi,rfl⟩:=List.mem_iff_getElem.mp hb;exact ⟨i,Mw.mpr hi,by simpa [hi] using e⟩
theorem zaU (hc:X.calm=true):m9 X (.builtin "any") (fun xs H Q=>∃ (p:Addr) (bs:List Bool),xs=[.ref p]/\Fl X.K H p (bs.map V.bl)/\Q (.bl (bs.any id)) H):=by
 intro pins s σ H xs us Q I r ⟨p,bs,e,hS,q⟩;subst e;obtain ⟨u,rfl,ru⟩:=vals1 r;cases ru;obtain ⟨its,rv,pl,hz⟩:=I.list hS;have hlen:its.length=bs.length:=by rw [<-rv.length,Eh]
 have hl:=pl.isList;have hlt:p<s.heap.objs.size:=by obtain ⟨_,e,_⟩:=hl;exact Dj e
 refine call_any_walk<|TQ hl ?_
 refine ⟨s.heap.objs.size,[s.heap.objs.size,p],[s.heap.objs.size],its.toArray.size,_,_,fun i=>(bs[i]?).getD true,rfl,Walks.list (A:=X.A.in1) (I.ok.hd hc) _ p (Gf hlt) its.toArray,
  ⟨⟨_,HD _ rfl,rfl,rfl⟩,hl.push _⟩,fun i v s' Q' E' hP hQ=>?_,fun h' tk hk=>?_⟩
 ·obtain ⟨b,e,rfl⟩:=pH rv (by simpa using hP);simp only [e,Us] at hQ;exact TV hQ
 ·have e:((Jo its.toArray.size).any fun i=>(bs[i]?).getD true)=bs.any id:=by
   rw [Em,hlen];exact zaq bs
  rw [e];refine ⟨.bl<|bs.any id,H,I.kept (h':=h') (t':=tk)<|fun b x e=>?_,rfl,q⟩;exact hk b x (fun hm=>by rw [La.mp hm] at e;exact KZ _ (Dj e))<|Dm _ e
def Ql:MC:=fun ws h Q=>match ws with
 | [w]=>(match dW h w with
  | some us=>(match Jk us with
   | some bs=>Q (.bl (bs.any id)) h
   | none=>False)
  | none=>False)
 | _=>False
theorem Wb (hc:X.calm=true):pR X (.builtin "any") Ql:=⟨_,zaU hc,by
 intro H μ h vs ws Qw Q R r m k;unfold Ql at m;split at m
 ·split at m
  ·split at m
   ·rename_i w _ us ev _ bs eb;obtain ⟨v,e,rv⟩:=jz r;obtain ⟨p,ys,ex,hs,rs⟩:=dg R rv ev;subst e ex;exact ⟨p,bs,rfl,by rw [<-wM rs eb];exact hs,k _ _<|.bl R m⟩
   ·exact m.elim
  ·exact m.elim
 ·exact m.elim⟩
theorem ael:Ho X (KH .Add) (fun x y H Q=>∃ a b ys,x=.ref a/\y=.ref b/\G7 X.K H a []/\G7 X.K H b ys/\Q (.ref b) H):=by
 intro pins s σ H x y v u Q I rx ry ⟨a,b,ys,ex,ey,ha,hb,q⟩;subst ex ey;cases rx;cases ry;obtain ⟨its,r1,p1,_⟩:=I.tuple ha;obtain ⟨jts,r2,p2,_⟩:=I.tuple hb;cases r1;obtain ⟨⟨cls,dd,data,sl⟩,ho,hc,n,hd⟩:=id p1;obtain ⟨⟨cls2,dd2,data2,sl2⟩,ho2,hc2,n2,hd2⟩:=id p2;simp only at hc hd hc2 hd2;subst hc hd hc2 hd2;exact concat_meets ⟨_,ho,rfl⟩ ⟨_,ho2,rfl⟩ noFill_tuple_add seq_tuple_add PySem.F.slot_tuple_add PySem.F.entry_tuple_add (PySem.F.args_tuple_add_2 _ _)
  (tuple_addW0 a b _ _ n n2 dd dd2 sl sl2 (by simp)) ⟨ho,ho2,⟨.ref b,H,I,rfl,q⟩⟩
def Ys (h:Gh):W->Option (List W)
 | .lst ws=>Dn ws
 | .loc n=>(match h.c n with
  | some (.lst ws)=>Dn ws
  | _=>Go)
 | _=>Go
theorem xP {H:Hp}{μ : Mu}{h:Gh}{w:W}{v:V}{ws:List W}(R:Ci K μ H h)(r:Bo K H μ w v)(e:Ys h w=Dn ws):∃ p xs,v=.ref p/\H p=Dn (.lst xs)/\aN K H μ ws xs:=by
 cases w with
 | lst us=>
  rw [Bo] at r;obtain ⟨p,xs,ev,hs,rs⟩:=r;cases (show Dn us=Dn ws from e)
  exact ⟨p,xs,ev,hs.1,rs⟩
 | loc n=>
  unfold Ys at e;dsimp only at e;cases ec:h.c n with
  | none=>rw [ec] at e;cases e
  | some cl=>
   rw [ec] at e;cases cl with
   | lst us=>
    cases (show Dn us=Dn ws from e)
    obtain ⟨p,xs,ev,_,hx,rs⟩:=Qi R r ec;exact ⟨p,xs,ev,hx,rs⟩
   | _=>cases e
 | _=>cases e
def bN:M2:=fun x y h Q=>match x,y with
 | .int i,.int j=>Q (.int (i+j)) h
 | .tup [],.tup b=>Q (.tup b) h
 | .tup (a0::a),.tup b=>jc (a.length+1+b.length) (Q (.tup (a0::a++b)) h)
 | x,y=>(match Ys h x,Ys h y with
  | some a,Dn b=>jc (a.length+b.length) (Q (.lst (a++b)) h)
  | _,_=>False)
theorem bF:Ka X (KH .Add) bN:=⟨_,(Wg.or (ael.or afo)).or Wd,by
 intro H μ h x y wx wy Qw Q R rx ry m k;unfold bN at m;split at m
 ·rw [Bo] at rx ry;exact .inl<|.inl ⟨_,_,rx,ry,k _ _<|.int R m⟩
 ·rename_i b;have ry':=ry;rw [Bo] at rx ry;obtain ⟨p,xs,ex,hx,r1⟩:=rx;obtain ⟨q,ys,ey,hy,r2⟩:=ry;rw [aN] at r1;subst r1;rw [ey] at ry';exact .inl<|.inr<|.inl ⟨p,q,ys,ex,ey,hx,hy,k _ _ ⟨μ,_,h,.refl,R,ry',m⟩⟩
 ·rename_i a0 a b;have rx':=rx;rw [Bo] at rx ry;obtain ⟨p,xs,ex,hx,r1⟩:=rx;obtain ⟨q,ys,ey,hy,r2⟩:=ry;have sz:=m.ok.1;refine .inl<|.inr<|.inr ⟨p,q,xs,ys,ex,ey,hx,hy,fun z=>(by have:=r1.ne_nil.mp z;cases this),by rw [<-r1.len,<-r2.len];exact sz,fun z=>?_,fun z l hl=>?_⟩
  ·have eb:b=[]:=r2.ne_nil.mp z;subst eb;refine k _ _ ⟨μ,.tup (a0::a++[]),h,.refl,R,?_,m.ok.2⟩;rw [Ue,<-ex];exact rx'
  ·exact k _ _ ⟨μ,_,h,(Ex.laid hl).ext,R.laid hl,.tupNew hl<|r1.append r2,m.ok.2⟩
 ·split at m
  ·rename_i a b ea eb;obtain ⟨p,xs,ex,hx,r1⟩:=xP R rx ea;obtain ⟨q,ys,ey,hy,r2⟩:=xP R ry eb;have sz:=m.ok.1;exact .inr ⟨p,q,xs,ys,ex,ey,hx,hy,by rw [<-r1.len,<-r2.len];exact sz,fun l hl=>k _ _ ⟨μ,_,h,(Ex.laid hl).ext,R.laid hl,.lstNew R hl<|r1.append r2,m.ok.2⟩⟩
  ·exact m.elim⟩
def gM:MM:=fun x ws h Q=>match x,ws with
 | .loc n,[w]=>(match h.c n,Ys h w with
  | some (.lst us),Dn zs=>jc (us.length+zs.length) (Q .non (h.set n (.lst (us++zs))))
  | _,_=>False)
 | _,_=>False
theorem zby:abD K JH gM:=by
 intro H μ h x vs wx ws Qw Q R rx rs m k;unfold gM at m;split at m
 ·split at m
  ·rename_i n w _ _ us zs ec ez;obtain ⟨p,xs,ex,hm,hx,r1⟩:=Qi R rx ec;obtain ⟨v,ev,rv⟩:=jz rs;obtain ⟨q,ys,ey,hy,r2⟩:=xP R rv ez;subst ey;have sz:=m.ok.1;exact ⟨p,q,xs,ys,ex,ev,hx,hy,by rw [<-r1.len,<-r2.len];exact sz,k _ _<|.wrote R hm (r1.append r2) (by rw [Bo]) m.ok.2⟩
  ·exact m.elim
 ·exact m.elim
variable {o e:Expr}{mo:ME}{ma:MA}{apos cpos:Pos}
theorem aeK (ho:DE X o mo)(ha:Hr X [e] ma)
  (hbase:Sq o "extend" X.env (eval o X.env)=eval o X.env:=by rfl)
  (hfew:((HB cpos (Ce [e] X.env)).all (fun x=>!x.1)&&(backToKw cpos (keywordEach [] X.env)).all (fun x=>x.1.isSome)
   && decide (([e]:List Expr).length+([]:List Q6).length+(if ([]:List Q6).isEmpty then 0 else 1)<30))=true:=by rfl)
  (hline:(apos.endLine==cpos.line)=true:=by rfl) (hst:Ce [e] X.env=(false,eval e X.env)::Ce [] X.env:=by rfl) (hplain:(HB cpos (Ce [] X.env)).any (·.1)=false:=by rfl) :
  DE X (.Call (.Attribute o "extend" apos) [e] [] cpos) (Ov gM mo ma):=ace PySem.F.slot_list_extend PySem.F.type_list_extend zay zby ho ha hbase hfew hline hst hplain
end
def K1 (K:Bs):Sp:=fun vs H Q _=>∃ (a:Addr) (ns:List Int),vs=[.ref a]/\Fl K H a (ns.map V.int)/\Only H/\ns.length<=63/\∀ H',Q (.bl true) H'
def g0:Gh:=⟨0,fun _=>Go⟩
def μ0:Mu:=⟨fun _=>Go,fun _=>False⟩
theorem adt {K:Bs}{H:Hp}:Ci K μ0 H g0 where
 inj:=fun m n p h=>by cases (show (Go:Option Addr)=Dn p from h)
 dom:=fun n p h=>by cases (show (Go:Option Addr)=Dn p from h)
 trk:=fun n p h=>by cases (show (Go:Option Addr)=Dn p from h)
 cel:=fun n c h=>by cases (show (Go:Option Cell)=Dn c from h)
 hd:=fun p h=>Ku h
theorem vK {K:Bs}{H:Hp}{μ : Mu}:∀ ns:List Int,aN K H μ (ns.map W.int) (ns.map V.int)
 | []=>.nil
 | n::ns=>.cons (by rw [Bo]) (vK ns)
theorem ahg {P:CR}{w:CQ}{K:Bs}{mg:Str->Option JI}{base:Heap}{k:Nat}{f:Addr}{fd:Ib}{ps:List Str}{ms:BK}
  (hm:∀ ns:List Int,ns.length<=63->ms [.kls (ns.map W.int)] g0 (fun w _=>w=.bl true) EF) (F:iW P w K mg base Jj k f fd ps (lift K ms)):iW P w K mg base Jj k f fd ps (K1 K):=
 F.imp fun vs H Q E ⟨a,ns,e,hS,hO,hl,q⟩=>by
  subst e;refine ⟨μ0,g0,[.kls<|ns.map W.int],_,adt,.one ?_,hm ns hl,fun v H' ⟨μ',w',h',_,_,r,e⟩=>?_⟩
  ·rw [Bo];refine ⟨a,ns.map V.int,rfl,?_,vK ns⟩;rcases hS with (hS | hS) | hS
   ·rcases hO a with z | ⟨o,xs,z⟩ <;> rw [hS] at z <;> cases z
   ·exact .inl hS
   ·exact .inr hS
  ·subst e;rw [Bo] at r;subst r;exact q H'
inductive Sk where
 | l | t
def Sk.sq (k:Sk)(h:Heap)(a:Addr)(its:Array JI):Prop:=match k with
 | .l=>h.IsList a its
 | .t=>h.IsTuple a its
def Sk.it (k:Sk)(h:Heap)(i a:Addr)(n:Nat):Prop:=match k with
 | .l=>h.IsListIter i a n
 | .t=>h.IsTupleIter i a n
def Sk.nm:Sk->String
 | .l => "list_iterator"
 | .t => "tuple_iterator"
section
variable {P:CR}{w:CQ}{A:CT}{E:JI->kI->Prop}{s:kI}{k k1 k2:Sk}
theorem Sk.it_at {h h':Heap}{i a:Addr}{n:Nat}(x:k.it h i a n)(e:∀ o,h.get? i=Dn o->h'.get? i=Dn o):k.it h' i a n:=by
 cases k with
 | l=>obtain ⟨o,ho,r⟩:=x;exact ⟨o,e o ho,r⟩
 | t=>obtain ⟨o,ho,r⟩:=x;exact ⟨o,e o ho,r⟩
theorem Sk.sq_at {h h':Heap}{a:Addr}{its:Array JI}(x:k.sq h a its)(e:∀ o,h.get? a=Dn o->h'.get? a=Dn o):k.sq h' a its:=by
 cases k with
 | l=>obtain ⟨o,ho,r⟩:=x;exact ⟨o,e o ho,r⟩
 | t=>obtain ⟨o,ho,r⟩:=x;exact ⟨o,e o ho,r⟩
theorem Sk.it_obj {h:Heap}{i a:Addr}{n:Nat}(x:k.it h i a n):∃ o,h.get? i=Dn o/\o.cls=.type k.nm/\o.data=.fields #[.ref a,.int n 0]:=by
 cases k with
 | l=>exact x
 | t=>exact x
theorem adS {it t:Addr}{i:Nat}{its:Array JI}{x:JI}{Q:JI->kI->Prop}(hi:s.heap.IsTupleIter it t i)(ht:s.heap.IsTuple t its)(hx:its[i]?=Dn x)
  (q:∀ h',h'.IsTupleIter it t (i+1)->Kh it s.heap h'->Q x { s with heap:=h' }):Bu (Bx P w) A (Qh (.ref it)) Q E s:=by
 obtain ⟨o,go,gc,gd⟩:=id hi;obtain ⟨ol,gol,_,nl,gdl⟩:=ht;unfold Qh;refine BL (RJ (name:=Qq "__next__") hi.typeIs Vc
  (QM Vc hi.typeIs PySem.F.entry_tuple_iterator_next ?_ (PySem.F.args_tuple_iterator_next_1 _)))
 show Bu _ _ (field (.ref it) 0 >>= _) _ _ s;refine BL<|HI go gd (x:=.ref t) rfl ?_
 show Bu _ _ (if (Value.ref t==Value.none)=true then _ else _) _ _ s;rw [if_neg (by exact Hi)];show Bu _ _ (field (.ref it) 1 >>= _) _ _ s;refine BL<|HI go gd (x:=.int i 0) rfl ?_
 show Bu _ _ (seqItems? (.ref t) >>= _) _ _ s;refine BL<|Qc gol gdl ?_
 simp only [Int.toNat_natCast,hx];refine BL<|RZ go gd (by simp)<|CP ⟨x,rfl,CP<|q _ ?_<|R7 ..⟩
 exact ⟨_,Lb _ go<|Qf<|Ml gd _,(Ut ..).trans gc,by rw [Ml gd];simp [K6]⟩
theorem uY {it t:Addr}{i:Nat}{its:Array JI}{Q:JI->kI->Prop}(hh:A.handled=Go)(hi:s.heap.IsTupleIter it t i)(ht:s.heap.IsTuple t its)(hx:its[i]?=Go)
  (q:∀ h' e,T6 it s.heap h'->(∃ o,h'.get? e=Dn o/\o.cls=.type "StopIteration")->E (.ref e) { s with heap:=h' }):Bu (Bx P w) A (Qh (.ref it)) Q E s:=by
 obtain ⟨o,go,gc,gd⟩:=id hi;obtain ⟨ol,gol,_,nl,gdl⟩:=ht;unfold Qh;refine BL (RJ (name:=Qq "__next__") hi.typeIs Vc
  (QM Vc hi.typeIs PySem.F.entry_tuple_iterator_next ?_ (PySem.F.args_tuple_iterator_next_1 _)))
 show Bu _ _ (field (.ref it) 0 >>= _) _ _ s;refine BL<|HI go gd (x:=.ref t) rfl ?_
 show Bu _ _ (if (Value.ref t==Value.none)=true then _ else _) _ _ s;rw [if_neg (by exact Hi)];show Bu _ _ (field (.ref it) 1 >>= _) _ _ s;refine BL<|HI go gd (x:=.int i 0) rfl ?_
 show Bu _ _ (seqItems? (.ref t) >>= _) _ _ s;refine BL<|Qc gol gdl ?_
 simp only [Int.toNat_natCast,hx];refine BL<|RL<|BL<|RZ go gd (by simp) ?_
 show Bu _ _ (newExc (.type "StopIteration") [] >>= _) _ _ _;refine BL ?_;simp only [newExc,newTuple];refine BL<|ML ?_<|by size_fits
 refine BL (m:=Ui _ _)<|Qx (a:=Value.none) (by first | rfl | (simp only [Ui];rfl)) ?_
 refine ML ?_<|by size_fits
 simp only [raiseNew];refine BL<|wpAny_handled ?_
 first | rw [show A.in1.handled=Go from hh] | rw [hh]
 refine BL<|CP<|T5 ?_
 exact q _ _ (((R7 ..).extBut.push _).push _) ⟨_,HD _ rfl,rfl⟩
theorem Sk.next {it a:Addr}{i:Nat}{its:Array JI}{x:JI}{Q:JI->kI->Prop}(hi:k.it s.heap it a i)(hs:k.sq s.heap a its)(hx:its[i]?=Dn x)
  (q:∀ h',k.it h' it a (i+1)->Kh it s.heap h'->Q x { s with heap:=h' }):Bu (Bx P w) A (Qh (.ref it)) Q E s:=by
 cases k with
 | l=>exact wpAny_nextOf_list_item hi hs hx q
 | t=>exact adS hi hs hx q
theorem Sk.stop {it a:Addr}{i:Nat}{its:Array JI}{Q:JI->kI->Prop}(hh:A.handled=Go)(hi:k.it s.heap it a i)(hs:k.sq s.heap a its)(hx:its[i]?=Go)
  (q:∀ h' e,T6 it s.heap h'->(∃ o,h'.get? e=Dn o/\o.cls=.type "StopIteration")->E (.ref e) { s with heap:=h' }):Bu (Bx P w) A (Qh (.ref it)) Q E s:=by
 cases k with
 | l=>exact wpAny_nextOf_list_end hh hi hs hx q
 | t=>exact uY hh hi hs hx q
theorem Sk.iter {a:Addr}{its:Array JI}{Q:JI->kI->Prop}(hs:k.sq s.heap a its)
  (q:Q (.ref s.heap.objs.size) { s with heap:=s.heap.push { cls:=.type k.nm,data:=.fields #[.ref a,.int 0 0] } }):Bu (Bx P w) A (pyIter (.ref a)) Q E s:=by
 cases k with
 | l=>exact TQ hs q
 | t=>exact wpAny_pyIter_tuple hs q
structure Zap (z TI TO i1 i2:Addr):Prop where
 a1:TI≠z
 a2:TO≠z
 a3:i1≠z
 a4:i2≠z
 a5:TI≠TO
 a6:TI≠i1
 a7:TI≠i2
 a8:TO≠i1
 a9:TO≠i2
 b1:i1≠i2
structure Off (a z TO i1 i2:Addr):Prop where
 z:a≠z
 o:a≠TO
 i:a≠i1
 j:a≠i2
theorem aeZ {z TI TO i1 i2 l1 l2:Addr}{n1 n2:Nat}{xs ys:Array JI}{x y a b:JI}{Q:Option JI->kI->Prop}(D:Zap z TI TO i1 i2)(o1:Off l1 z TO i1 i2)(o2:Off l2 z TO i1 i2)
  (gz:IsZip s.heap z TI TO .none) (gI:LQ s.heap TI (.ref i1) (.ref i2)) (gO:LQ s.heap TO a b) (g1:k1.it s.heap i1 l1 n1) (g2:k2.it s.heap i2 l2 n2) (gx:k1.sq s.heap l1 xs) (gy:k2.sq s.heap l2 ys)
  (hx:xs[n1]?=Dn x) (hy:ys[n2]?=Dn y)
  (q:∀ h',IsZip h' z TI TO (K6 s.heap.objs.size)->LQ h' TO x y->k1.it h' i1 l1 (n1+1)->k2.it h' i2 l2 (n2+1)->LQ h' s.heap.objs.size x y->h'.objs.size=s.heap.objs.size+1 ->
   (∀ c o,c≠z->c≠TO->c≠i1->c≠i2->s.heap.get? c=Dn o->h'.get? c=Dn o)->Q (Dn (.ref s.heap.objs.size)) { s with heap:=h' }) :
  Bu (Bx P w) A (LK (.ref z)) Q E s:=by
 have gT:s.TypeIs (.ref z) "zip":=⟨_,gz,rfl⟩
 unfold LK;refine BL<|RP<|RJ (name:=Qq "__next__") gT VH<|QM VH gT PySem.F.entry_zip_next ?_<|PySem.F.args_zip_next_1 _
 show Bu _ _ (field (.ref z) 2 >>= _) _ _ _;refine BL<|HI gz rfl (x:=.bool false) rfl ?_
 show Bu _ _ (field (.ref z) 3 >>= _) _ _ _;refine BL<|HI gz rfl (x:=.ref TI) rfl ?_
 refine BL<|Qc gI rfl ?_
 show Bu _ _ (VP (.ref z) >>= _) _ _ _;refine BL ?_;unfold VP;refine BL<|HI gz rfl (x:=.none) rfl<|CP ?_
 simp only [if_true];refine BL<|RL ?_
 refine BL<|HI gz rfl (x:=.ref TO) rfl ?_
 refine BL<|Tc gz (by simp) fun h₁ z₁ s₁=>?_
 replace z₁ : IsZip h₁ z TI TO .ellipsis:=z₁;refine BL ?_;simp only [List.zipIdx_cons,List.zipIdx_nil,Tn,Ub]
 -- the first one
 refine BL<|BL<|wpAny_onRaise ?_
 show Bu _ _ (Qh (.ref i1) >>= _) _ _ _;refine BL<|Sk.next (k:=k1) (s:={ s with heap:=h₁ }) (Sk.it_at g1 fun o e=>s₁.extBut _ o D.a3 e) (Sk.sq_at gx fun o e=>s₁.extBut _ o o1.z e) hx fun h₂ g1₂ s₂=>CP ?_
 have gO₂ : LQ h₂ TO a b:=s₂.extBut _ _ D.a8 (s₁.extBut _ _ D.a2 gO);refine BL<|Qc gO₂ rfl ?_
 refine BL<|wpAny_updateSeq_pair gO₂ fun h₃ gO₃ s₃=>?_
 replace gO₃ : LQ h₃ TO x b:=gO₃;refine BL<|wpAny_letGo<|CP ?_
 -- the second one
 refine BL<|BL<|wpAny_onRaise ?_
 show Bu _ _ (Qh (.ref i2) >>= _) _ _ _;refine BL (Sk.next (k:=k2) (s:={ s with heap:=h₃ }) (Sk.it_at g2 fun o e=>s₃.extBut _ o D.a9.symm (s₂.extBut _ o D.b1.symm (s₁.extBut _ o D.a4 e)))
  (Sk.sq_at gy fun o e=>s₃.extBut _ o o2.o (s₂.extBut _ o o2.i (s₁.extBut _ o o2.z e))) hy fun h₄ g2₄ s₄=>CP ?_)
 have gO₄ : LQ h₄ TO x b:=s₄.extBut _ _ D.a9 gO₃;refine BL<|Qc gO₄ rfl ?_
 refine BL<|wpAny_updateSeq_pair gO₄ fun h₅ gO₅ s₅=>?_
 replace gO₅ : LQ h₅ TO x y:=gO₅;refine BL<|wpAny_letGo<|CP<|CP ?_
 -- the pair is handed out
 refine BL<|Qc gO₅ rfl ?_
 refine BL<|wpAny_newTuple ?_
 have size:h₅.objs.size=s.heap.objs.size:=by rw [s₅.1,s₄.1,s₃.1,s₂.1,s₁.1]
 have z₅ : IsZip h₅ z TI TO .ellipsis:=s₅.extBut _ _ D.a2.symm (s₄.extBut _ _ D.a4.symm (s₃.extBut _ _ D.a2.symm (s₂.extBut _ _ D.a3.symm z₁)));have all₅ : ∀ c o,c≠z->c≠TO->c≠i1->c≠i2->s.heap.get? c=Dn o->h₅.get? c=Dn o:=fun c o c1 c2 c3 c4 e=>s₅.extBut _ _ c2 (s₄.extBut _ _ c4 (s₃.extBut _ _ c2 (s₂.extBut _ _ c3 (s₁.extBut _ _ c1 e))))
 have g1₅ : k1.it h₅ i1 l1 (n1+1):=Sk.it_at g1₂ fun o e=>s₅.extBut _ o D.a8.symm (s₄.extBut _ o D.b1 (s₃.extBut _ o D.a8.symm e))
 have g2₅ : k2.it h₅ i2 l2 (n2+1):=Sk.it_at g2₄ fun o e=>s₅.extBut _ o D.a9.symm e
 have zlt:z<h₅.objs.size:=Dj z₅;show Bu _ _ (Builtin.SmallTypes.ownedTupleHandOut (.ref z) (.ref h₅.objs.size) >>= _) _ _ _;refine BL ?_;unfold Builtin.SmallTypes.ownedTupleHandOut;have z₆ : IsZip (h₅.push { cls:=.type "tuple",data:=.seq #[x,y] }) z TI TO .ellipsis:=Dm _ z₅;refine BL<|Tc z₆ (by simp) fun h₇ z₇ s₇=>?_
 replace z₇ : IsZip h₇ z TI TO (K6 h₅.objs.size):=z₇;refine Tc z₇ (by simp) fun h₈ z₈ s₈=>?_;replace z₈ : IsZip h₈ z TI TO (K6 h₅.objs.size):=z₈;have up:∀ c o,c≠z->h₅.get? c=Dn o->h₈.get? c=Dn o:=fun c o c1 e=>s₈.extBut _ _ c1 (s₇.extBut _ _ c1 (Dm _ e))
 have T₈ : LQ h₈ h₅.objs.size x y:=s₈.extBut _ _ (Lk zlt) (s₇.extBut _ _ (Lk zlt) (HD _ rfl));have size8:h₈.objs.size=h₅.objs.size+1:=by rw [s₈.1,s₇.1,Q7]
 rw [size] at z₈ T₈ size8;refine CP ⟨_,rfl,CP ?_⟩;show Q (Dn (.ref h₅.objs.size)) _;rw [size];exact q h₈ z₈ (up _ _ D.a2 gO₅) (Sk.it_at g1₅ fun o e=>up _ o D.a3 e) (Sk.it_at g2₅ fun o e=>up _ o D.a4 e) T₈ size8 fun c o c1 c2 c3 c4 e=>up c o c1<|all₅ c o c1 c2 c3 c4 e
theorem zbC {z TI TO i1 i2 l1 l2:Addr}{n1 n2:Nat}{xs ys:Array JI}{a b:JI}{Q:Option JI->kI->Prop}(hh:A.handled=Go)(D:Zap z TI TO i1 i2)(o1:Off l1 z TO i1 i2)(o2:Off l2 z TO i1 i2)
  (gz:IsZip s.heap z TI TO .none) (gI:LQ s.heap TI (.ref i1) (.ref i2)) (gO:LQ s.heap TO a b) (g1:k1.it s.heap i1 l1 n1) (g2:k2.it s.heap i2 l2 n2) (gx:k1.sq s.heap l1 xs) (gy:k2.sq s.heap l2 ys)
  (hend:xs[n1]?=Go\/ys[n2]?=Go)
  (q:∀ h',(∀ c o,c≠z->c≠TO->c≠i1->c≠i2->s.heap.get? c=Dn o->h'.get? c=Dn o)->Q Go { s with heap:=h' }):Bu (Bx P w) A (LK (.ref z)) Q E s:=by
 have gT:s.TypeIs (.ref z) "zip":=⟨_,gz,rfl⟩
 have fin:∀ (h':Heap) (e:Addr),(∀ c o,c≠z->c≠TO->c≠i1->c≠i2->s.heap.get? c=Dn o->h'.get? c=Dn o)->(∃ o,h'.get? e=Dn o/\o.cls=.type "StopIteration") ->
   Bu (Bx P w) A (do if <-isInstance (.ref e) (.type "StopIteration") then pure Go else throw (.ref e)) Q E { s with heap:=h' }:=fun h' e all ⟨o,ho,hc⟩=>
  BL (wpAny_isInstance (T := "StopIteration") (b:=true) ⟨o,ho,hc⟩ isSubtype_stop (CP (q _ all)))
 unfold LK;refine BL<|RP<|RJ (name:=Qq "__next__") gT VH<|QM VH gT PySem.F.entry_zip_next ?_<|PySem.F.args_zip_next_1 _
 show Bu _ _ (field (.ref z) 2 >>= _) _ _ _;refine BL<|HI gz rfl (x:=.bool false) rfl ?_
 show Bu _ _ (field (.ref z) 3 >>= _) _ _ _;refine BL<|HI gz rfl (x:=.ref TI) rfl ?_
 refine BL<|Qc gI rfl ?_
 show Bu _ _ (VP (.ref z) >>= _) _ _ _;refine BL ?_;unfold VP;refine BL<|HI gz rfl (x:=.none) rfl<|CP ?_
 simp only [if_true];refine BL<|RL ?_
 refine BL<|HI gz rfl (x:=.ref TO) rfl ?_
 refine BL<|Tc gz (by simp) fun h₁ z₁ s₁=>?_
 replace z₁ : IsZip h₁ z TI TO .ellipsis:=z₁;refine BL ?_;simp only [List.zipIdx_cons,List.zipIdx_nil,Tn,Ub];refine BL<|BL<|wpAny_onRaise ?_
 show Bu _ _ (Qh (.ref i1) >>= _) _ _ _;have g1₁ : k1.it h₁ i1 l1 n1:=Sk.it_at g1 fun o e=>s₁.extBut _ o D.a3 e
 have gx₁ : k1.sq h₁ l1 xs:=Sk.sq_at gx fun o e=>s₁.extBut _ o o1.z e
 cases hx:xs[n1]? with
 | none=>
  refine BL<|Sk.stop (k:=k1) (s:={ s with heap:=h₁ }) hh g1₁ gx₁ hx fun h₂ e s₂ he=>?_
  obtain ⟨oe,hoe,hce⟩:=he;have z₂ : IsZip h₂ z TI TO .ellipsis:=s₂ _ _ D.a3.symm z₁;have ez:e≠z:=fun y=>by subst y;rw [z₂] at hoe;cases hoe;simp at hce
  refine Tc z₂ (by simp) fun h₃ _ s₃=>fin h₃ e (fun c o c1 _ c3 _ y=>s₃.extBut _ _ c1<|s₂ _ _ c3<|s₁.extBut _ _ c1 y) ⟨oe,s₃.extBut _ _ ez hoe,hce⟩
 | some x=>
  have hy:ys[n2]?=Go:=by
   rcases hend with h | h
   ·rw [hx] at h;cases h
   ·exact h
  refine BL<|Sk.next (k:=k1) (s:={ s with heap:=h₁ }) g1₁ gx₁ hx fun h₂ g1₂ s₂=>CP ?_
  have gO₂ : LQ h₂ TO a b:=s₂.extBut _ _ D.a8 (s₁.extBut _ _ D.a2 gO);refine BL<|Qc gO₂ rfl ?_
  refine BL<|wpAny_updateSeq_pair gO₂ fun h₃ gO₃ s₃=>?_
  refine BL<|wpAny_letGo<|CP ?_
  refine BL<|BL<|wpAny_onRaise ?_
  show Bu _ _ (Qh (.ref i2) >>= _) _ _ _;refine BL (Sk.stop (k:=k2) (s:={ s with heap:=h₃ }) hh (Sk.it_at g2 fun o e=>s₃.extBut _ o D.a9.symm (s₂.extBut _ o D.b1.symm (s₁.extBut _ o D.a4 e)))
   (Sk.sq_at gy fun o e=>s₃.extBut _ o o2.o (s₂.extBut _ o o2.i (s₁.extBut _ o o2.z e))) hy fun h₄ e s₄ he=>?_)
  obtain ⟨oe,hoe,hce⟩:=he;have z₄ : IsZip h₄ z TI TO .ellipsis:=s₄ _ _ D.a4.symm (s₃.extBut _ _ D.a2.symm (s₂.extBut _ _ D.a3.symm z₁));have ez:e≠z:=fun y=>by subst y;rw [z₄] at hoe;cases hoe;simp at hce
  refine Tc z₄ (by simp) fun h₅ _ s₅=>fin h₅ e (fun c o c1 c2 c3 c4 y=>s₅.extBut _ _ c1<|s₄ _ _ c4<|s₃.extBut _ _ c2<|s₂.extBut _ _ c3<|s₁.extBut _ _ c1 y) ⟨oe,s₅.extBut _ _ ez hoe,hce⟩
abbrev zh1 (k1:Sk)(h:Heap)(l1:Addr):Heap:=h.push { cls:=.type k1.nm,data:=.fields #[.ref l1,.int 0 0] }
abbrev zh2 (k1 k2:Sk)(h:Heap)(l1 l2:Addr):Heap:=(zh1 k1 h l1).push { cls:=.type k2.nm,data:=.fields #[.ref l2,.int 0 0] }
abbrev zh3 (k1 k2:Sk)(h:Heap)(l1 l2:Addr):Heap:=(zh2 k1 k2 h l1 l2).push { cls:=.type "tuple",data:=.seq #[.ref h.objs.size,.ref (zh1 k1 h l1).objs.size] }
abbrev zh4 (k1 k2:Sk)(h:Heap)(l1 l2:Addr):Heap:=(zh3 k1 k2 h l1 l2).push { cls:=.type "tuple",data:=.seq #[.none,.none] }
abbrev zh5 (k1 k2:Sk)(h:Heap)(l1 l2:Addr):Heap:=(zh4 k1 k2 h l1 l2).push { cls:=.type "zip",data:=.fields #[.none,.bool false,.bool false,.ref (zh2 k1 k2 h l1 l2).objs.size,.ref (zh3 k1 k2 h l1 l2).objs.size] }
theorem zbI (l1 l2:Addr)(xs ys:Array JI):Meets (Pb.«zip.__new__» ⟨[.type "zip",.ref l1,.ref l2],[]⟩) (fun _ R s=>k1.sq s.heap l1 xs/\k2.sq s.heap l2 ys /\
   R (.ok (.ret (.ref (zh4 k1 k2 s.heap l1 l2).objs.size))) { s with heap:=zh5 k1 k2 s.heap l1 l2 }):=
 .of_wp fun prog w A R s h=>by
  obtain ⟨hp,g,d,tk,os⟩:=s;obtain ⟨gl1,gl2,h⟩:=h;have hsub:=sub_zip;have L1:k1.sq (Shared.heap ⟨hp,g,d,tk,os⟩) l1 xs:=gl1;have L2':k2.sq (Shared.heap ⟨hp.push { cls:=.type k1.nm,data:=.fields #[.ref l1,.int 0 0] },g,d,tk,os⟩) l2 ys:=Sk.sq_at gl2 fun o e=>Dm _ e
  wp_walk using Sk.iter L1,Sk.iter L2'
  exact ⟨_,rfl,h⟩
theorem zbt {l1 l2:Addr}{xs ys:Array JI}{Q:JI->kI->Prop}(gl1:k1.sq s.heap l1 xs)(gl2:k2.sq s.heap l2 ys)
  (q:∀ h',IsZip h' (s.heap.objs.size+4) (s.heap.objs.size+2) (s.heap.objs.size+3) .none->LQ h' (s.heap.objs.size+2) (.ref s.heap.objs.size) (.ref (s.heap.objs.size+1)) ->
   LQ h' (s.heap.objs.size+3) .none .none->k1.it h' s.heap.objs.size l1 0->k2.it h' (s.heap.objs.size+1) l2 0->h'.objs.size=s.heap.objs.size+5 ->
   (∀ c o,s.heap.get? c=Dn o->h'.get? c=Dn o)->Q (.ref (s.heap.objs.size+4)) { s with heap:=h' }):Bu (Bx P w) A (call (.type "zip") [.ref l1,.ref l2]) Q E s:=by
 refine callType_new PySem.F.called_zip (by decide) (PySem.F.typeCall_zip_2 _ _) (PySem.F.newCall_zip_2 _ _) (fun obj=>PySem.F.args_object_init_3 obj _ _) PySem.F.entry_zip_new (zbI (k1:=k1) (k2:=k2) l1 l2 xs ys) ⟨gl1,gl2,?_⟩;have e1:(zh1 k1 s.heap l1).objs.size=s.heap.objs.size+1:=Q7 ..;have e2:(zh2 k1 k2 s.heap l1 l2).objs.size=s.heap.objs.size+2:=by rw [Q7,e1]
 have e3:(zh3 k1 k2 s.heap l1 l2).objs.size=s.heap.objs.size+3:=by rw [Q7,e2]
 have e4:(zh4 k1 k2 s.heap l1 l2).objs.size=s.heap.objs.size+4:=by rw [Q7,e3]
 have e5:(zh5 k1 k2 s.heap l1 l2).objs.size=s.heap.objs.size+5:=by rw [Q7,e4]
 have f5:(zh5 k1 k2 s.heap l1 l2).get? (zh4 k1 k2 s.heap l1 l2).objs.size=Dn _:=HD _ rfl;have f4:(zh5 k1 k2 s.heap l1 l2).get? (zh3 k1 k2 s.heap l1 l2).objs.size=Dn _:=Dm _ (HD _ rfl);have f3:(zh5 k1 k2 s.heap l1 l2).get? (zh2 k1 k2 s.heap l1 l2).objs.size=Dn _:=Dm _ (Dm _ (HD _ rfl));have f2:(zh5 k1 k2 s.heap l1 l2).get? (zh1 k1 s.heap l1).objs.size=Dn _:=Dm _ (Dm _ (Dm _ (HD _ rfl)));have f1:(zh5 k1 k2 s.heap l1 l2).get? s.heap.objs.size=Dn _:=Dm _ (Dm _ (Dm _ (Dm _ (HD _ rfl))));show _/\_;rw [e2,e3,e4] at f5;rw [e1,e2] at f3;rw [e3] at f4;rw [e1] at f2;rw [e4];refine ⟨⟨_,f5,rfl⟩,q _ f5 f3 f4 ?_ ?_ e5 fun c o x=>Dm _<|Dm _<|Dm _<|Dm _<|Dm _ x⟩
 ·cases k1 with
  | l=>exact ⟨_,f1,rfl,rfl⟩
  | t=>exact ⟨_,f1,rfl,rfl⟩
 ·cases k2 with
  | l=>exact ⟨_,f2,rfl,rfl⟩
  | t=>exact ⟨_,f2,rfl,rfl⟩
end
section
variable {X:Cx}{pins:List (Addr×Obj)}{σ : St}{H:Hp}{s:kI}{h':Heap}
theorem BZ.turnedL {t':Nat}{ch:List Addr}(I:BZ X pins σ H s)(k:∀ b o,b∉ch->s.heap.get? b=Dn o->h'.get? b=Dn o)(hf:∀ b∈ch,BP X pins H b):BZ X pins σ H { s with heap:=h',toks:=t' }:=by
 have nit:∀ b u,H b=Dn u->b∉ch:=fun b u e z=>by rw [(hf b z).1] at e;cases e
 refine I.step (g':=s.gens) (d':=s.drawn) (ch:=ch) (fun b hb=>?_) (fun b o _ _ hc e _=>k b o hc e) (fun b o _ _ hc e _=>⟨o.slots,k b o hc e⟩) (fun _ _ _ _ n=>n)
  (fun b o hc e=>⟨o,k b o hc e⟩) (fun _ _ e=>e) (fun _ _ _ e=>e) (fun b ps e=>⟨#[],by rw [e];simp⟩) (fun m hm=>?_) (fun b u e=>?_) I.bare
 ·obtain ⟨_,f1,_,f3,f4,f5⟩:=hf b hb;exact ⟨f3,f1,f4,f5⟩
 ·obtain ⟨o,es,ep,ho,r⟩:=hm;exact ⟨o,es,ep,k _ o (fun z=>(hf _ z).2.1 rfl) ho,r⟩
 ·refine (I.hok b u e).stay (fun c v hc q=>k c v ?_ q) (fun _ q=>q) fun _ _ q=>q;rcases hc with z | z
  ·rw [z];exact nit b u e
  ·exact nit c _ z
end
def Sk.v (k:Sk)(K:Bs)(H:Hp)(a:Addr)(xs:List V):Prop:=match k with
 | .l=>Fl K H a xs
 | .t=>G7 K H a xs
theorem BZ.sk {X:Cx}{pins:List (Addr×Obj)}{σ : St}{H:Hp}{s:kI}{k:Sk}{a:Addr}{xs:List V}(I:BZ X pins σ H s)(h:k.v X.K H a xs):∃ its:List JI,CJ xs its/\k.sq s.heap a its.toArray:=by
 cases k with
 | l=>obtain ⟨its,r,p,_⟩:=I.list h;exact ⟨its,r,p.isList⟩
 | t=>obtain ⟨its,r,p,_⟩:=I.tuple h;exact ⟨its,r,p⟩
theorem BZ.sk_inj {X:Cx}{pins:List (Addr×Obj)}{σ : St}{H:Hp}{s:kI}{k:Sk}{a:Addr}{xs ys:List V}(I:BZ X pins σ H s)(h:k.v X.K H a xs)(g:k.v X.K H a ys):xs=ys:=by
 cases k with
 | l=>exact I.list_inj h g
 | t=>exact I.tuple_inj h g
def Itz (K:Bs)(k1 k2:Sk)(l1 l2:Addr):It:=
  ⟨fun i H=>∃ xs ys x y,k1.v K H l1 xs/\k2.v K H l2 ys/\xs[i]?=Dn x/\ys[i]?=Dn y,
   fun i H v H'=>∃ p x y,H p=Go/\v=.ref p/\H'=Cd H p (.tup [x,y])/\(∀ xs,k1.v K H l1 xs->xs[i]?=Dn x)/\∀ ys,k2.v K H l2 ys->ys[i]?=Dn y,
   fun i H=>∃ xs ys,k1.v K H l1 xs/\k2.v K H l2 ys/\(xs.length<=i\/ys.length<=i),true⟩
def aah (k1 k2:Sk)(z TI TO i1 i2 l1 l2:Addr)(n:Nat)(h:Heap):Prop:=IsZip h z TI TO .none/\LQ h TI (.ref i1) (.ref i2)/\(∃ a b,LQ h TO a b)/\k1.it h i1 l1 n/\k2.it h i2 l2 n
theorem aeW {P:CR}{w:CQ}{K:Bs}{elts:List Expr}{kt:Nat}{pos:Pos}{k1 k2:Sk}{z TI TO i1 i2 l1 l2:Addr}(D:Zap z TI TO i1 i2)(o1:Off l1 z TO i1 i2)(o2:Off l2 z TO i1 i2) :
  Turn P w K (.Tuple elts kt pos) (Itz K k1 k2 l1 l2) [z,TI,TO,i1,i2] z (aah k1 k2 z TI TO i1 i2 l1 l2) where
 mem:=by simp
 obj:=fun i h st b hb=>by
  obtain ⟨gz,gI,⟨a,b',gO⟩,g1,g2⟩:=st;simp only [Cr,Dl,or_false] at hb;rcases hb with rfl | rfl | rfl | rfl | rfl
  ·exact ⟨_,gz,fun v y=>by cases y⟩
  ·exact ⟨_,gI,fun v y=>by cases y⟩
  ·exact ⟨_,gO,fun v y=>by cases y⟩
  ·obtain ⟨o,e,_,d⟩:=Sk.it_obj g1;exact ⟨o,e,fun v y=>by rw [d] at y;cases y⟩
  ·obtain ⟨o,e,_,d⟩:=Sk.it_obj g2;exact ⟨o,e,fun v y=>by rw [d] at y;cases y⟩
 keep:=fun i h h' st k=>by
  obtain ⟨gz,gI,⟨a,b,gO⟩,g1,g2⟩:=st;exact ⟨k z (by simp) _ gz,k TI (by simp) _ gI,⟨a,b,k TO (by simp) _ gO⟩,Sk.it_at g1 fun o e=>k i1 (by simp) o e,Sk.it_at g2 fun o e=>k i2 (by simp) o e⟩
 item:=by
  intro X hP hw hK hc i pins s σ H E I hf st hg;subst hP hw hK;obtain ⟨gz,gI,⟨a,b,gO⟩,g1,g2⟩:=st;obtain ⟨xs,ys,x,y,hx,hy,ex,ey⟩:=hg;obtain ⟨its,r1,p1⟩:=I.sk hx;obtain ⟨jts,r2,p2⟩:=I.sk hy;obtain ⟨u,hu,ru⟩:=r1.get ex;obtain ⟨v,hv,rv⟩:=r2.get ey;refine aeZ D o1 o2 gz gI gO g1 g2 p1 p2 (x:=u) (y:=v) (by simpa using hu) (by simpa using hv) fun h1 z1 O1 g1' g2' T1 size1 all1=>⟨_,rfl,?_⟩;have pz:s.heap.objs.size≠z:=Lk (Dj gz);have lt:∀ b∈[z,TI,TO,i1,i2],s.heap.objs.size≠b:=fun b hb=>by
   simp only [Cr,Dl,or_false] at hb;rcases hb with rfl | rfl | rfl | rfl | rfl
   ·exact pz
   ·exact Lk<|Dj gI
   ·exact Lk<|Dj gO
   ·obtain ⟨o,e,_⟩:=Sk.it_obj g1;exact Lk (Dj e)
   ·obtain ⟨o,e,_⟩:=Sk.it_obj g2;exact Lk (Dj e)
  have all:∀ c o,c∉[z,TI,TO,i1,i2]->s.heap.get? c=Dn o->h1.get? c=Dn o:=fun c o hc e=>
   all1 c o (fun q=>hc (by simp [q])) (fun q=>hc (by simp [q])) (fun q=>hc (by simp [q])) (fun q=>hc (by simp [q])) e
  refine wpAny_letOwnedTupleGo_zip (s:={ s with heap:=h1 }) z1 fun h2 z2 sb=>?_;have fr:H s.heap.objs.size=Go:=I.hok.fresh (Dp _);have I1:BZ X pins σ (Cd H s.heap.objs.size (.tup [x,y])) { s with heap:=s.heap.push { cls:=.type "tuple",data:=.seq #[u,v] } }:=
   I.laid (t':=s.toks) (fun b o e=>Dm _ e) (Dp _) ⟨(by show 2<=Dk;decide),[u,v],.cons ru (.cons rv .nil),⟨_,HD _ rfl,rfl,⟨_,rfl⟩,rfl⟩⟩
  have hf1:∀ b∈[z,TI,TO,i1,i2],BP X pins (Cd H s.heap.objs.size (.tup [x,y])) b:=fun b hb=>⟨by rw [aH (Eu (lt b hb))];exact (hf b hb).1,(hf b hb).2⟩
  have I2:BZ X pins σ (Cd H s.heap.objs.size (.tup [x,y])) { s with heap:=h2 }:=by
   refine BZ.turnedL (s:={ s with heap:=s.heap.push { cls:=.type "tuple",data:=.seq #[u,v] } }) (h':=h2) (t':=s.toks) (ch:=[z,TI,TO,i1,i2]) I1 (fun b o hb e=>?_) hf1;have bz:b≠z:=fun q=>hb (by simp [q])
   rcases Heap.get?_push_cases e with ⟨rfl,rfl⟩ | e'
   ·exact sb.extBut _ _ bz T1
   ·exact sb.extBut _ _ bz<|all b o hb e'
  refine ⟨.ref s.heap.objs.size,_,I2,rfl,⟨s.heap.objs.size,x,y,fr,rfl,rfl,fun xs' q=>by rw [I.sk_inj q hx];exact ex,fun ys' q=>by rw [I.sk_inj q hy];exact ey⟩,?_,fun b hb=>(hf1 b hb).1⟩;exact ⟨z2,sb.extBut _ _ D.a1<|all1 _ _ D.a1 D.a5 D.a6 D.a7 gI,⟨u,v,sb.extBut _ _ D.a2 O1⟩,Sk.it_at g1' fun o e=>sb.extBut _ o D.a3 e,Sk.it_at g2' fun o e=>sb.extBut _ o D.a4 e⟩
 done:=by
  intro X hP hw hK hc i pins s σ H E I hf st hg;subst hP hw hK;obtain ⟨gz,gI,⟨a,b,gO⟩,g1,g2⟩:=st;obtain ⟨xs,ys,hx,hy,hend⟩:=hg;obtain ⟨its,r1,p1⟩:=I.sk hx;obtain ⟨jts,r2,p2⟩:=I.sk hy;have l1:=r1.length;have l2:=r2.length;refine zbC (I.ok.hd<|hc rfl) D o1 o2 gz gI gO g1 g2 p1 p2 (hend.imp (fun q=>by simp;lia) fun q=>by simp;lia) fun h1 all1=>⟨rfl,I.turnedL (t':=s.toks) (ch:=[z,TI,TO,i1,i2]) (fun c o hc e=>?_) hf⟩;exact all1 c o (fun q=>hc<|by simp [q]) (fun q=>hc<|by simp [q]) (fun q=>hc<|by simp [q]) (fun q=>hc<|by simp [q]) e
 self:=fun _ _ _ _ _ st h=>wpAny_pyIter_zip st.1 h
section
variable {X:Cx}{K:Bs}
def sqk (K:Bs)(H:Hp)(x:V)(k:Sk)(a:Addr):Prop:=x=.ref a/\∃ xs,k.v K H a xs
def acW (K:Bs)(ta:TA):TI:=fun σ H R=>ta σ H fun vs H1=>∃ x y k1 k2 a b,vs=[x,y]/\sqk K H1 x k1 a/\sqk K H1 y k2 b/\R (Itz K k1 k2 a b) H1
theorem Sk.sq_lt {k:Sk}{h:Heap}{a:Addr}{its:Array JI}(x:k.sq h a its):a<h.objs.size:=by
 cases k with
 | l=>obtain ⟨o,e,_⟩:=x;exact Dj e
 | t=>obtain ⟨o,e,_⟩:=x;exact Dj e
theorem jA {a b:Nat}(h:a≠b):(show Addr from a)≠(show Addr from b):=h
theorem WL (n:Nat):Zap (n+4) (n+2) (n+3) n (n+1) where
 a1:=jA (show n+2≠n+4 by lia)
 a2:=jA (show n+3≠n+4 by lia)
 a3:=jA (show n≠n+4 by lia)
 a4:=jA (show n+1≠n+4 by lia)
 a5:=jA (show n+2≠n+3 by lia)
 a6:=jA (show n+2≠n by lia)
 a7:=jA (show n+2≠n+1 by lia)
 a8:=jA (show n+3≠n by lia)
 a9:=jA (show n+3≠n+1 by lia)
 b1:=jA (show n≠n+1 by lia)
theorem m6 {a n:Nat}(h:a<n):Off a (n+4) (n+3) n (n+1) where
 z:=jA (show a≠n+4 by lia)
 o:=jA (show a≠n+3 by lia)
 i:=jA (show a≠n by lia)
 j:=jA (show a≠n+1 by lia)
theorem abA {n c:Nat}(h:c∈([n+4,n+2,n+3,n,n+1]:List Nat)):n<=c:=by
 simp only [Cr,Dl,or_false] at h;lia
theorem aft {e1 e2:Expr}{ta:TA}{p pos tpos:Pos}{elts:List Expr}{kt:Nat}(hg:Gl X "zip")(hm:X.mg "zip" = Go)(ha:PA X [e1,e2] ta)
  (hs:Ce [e1,e2] X.env=(false,eval e1 X.env)::Ce [e2] X.env:=by rfl) (hpl:(HB pos (Ce [e2] X.env)).any (·.1)=false:=by rfl) :
  PI X (.Tuple elts kt tpos) (.Call (.Name "zip" p) [e1,e2] [] pos) (acW X.K ta):=by
 intro pins s σ H R I h;refine RW<|nZ I hg hm boot_zip ?_ (by decide)<|by decide
 refine Tv (DW (ha pos pins s σ H _ I h) fun us s1 ⟨vs,H1,I1,r1,q1⟩=>?_) hs hpl;obtain ⟨x,y,k1,k2,a,b,ev,⟨ex,xs,hx⟩,⟨ey,ys,hy⟩,q⟩:=q1;subst ev ex ey;obtain ⟨u1,u2,eu,ru1,ru2⟩:=vals2 r1;subst eu;cases ru1;cases ru2;obtain ⟨its,r1,p1⟩:=I1.sk hx;obtain ⟨jts,r2,p2⟩:=I1.sk hy;have la:=Sk.sq_lt p1;have lb:=Sk.sq_lt p2;refine zbt p1 p2 fun h' gz gI gO g1 g2 size all=>?_;refine wpAny_pyIter_zip gz ?_;have I2:BZ X pins σ H1 { s1 with heap:=h' }:=I1.kept (t':=s1.toks) all;generalize hn:s1.heap.objs.size=n at gz gI gO g1 g2 size la lb |-
 refine ⟨n+4,[n+4,n+2,n+3,n,n+1],_,_,H1,rfl,I2,aeW (WL n) (m6 la)<|m6 lb,⟨gz,gI,⟨_,_,gO⟩,g1,g2⟩,fun c hc=>?_,q⟩;have hc':n<=c:=abA hc;exact I1.fpOk (by rw [hn];exact hc')<|I1.hok.fresh (by rw [hn];exact hc')
def pN:List W->List W->List W
 | a::as,b::bs=>.tup [a,b]::pN as bs
 | _,_=>[]
theorem Af:∀ {as bs:List W} {i:Nat} {w:W},(pN as bs)[i]?=Dn w->∃ a b,as[i]?=Dn a/\bs[i]?=Dn b/\w=.tup [a,b]
 | [],_,_,_,e=>by simp [pN] at e
 | _::_,[],_,_,e=>by simp [pN] at e
 | a::as,b::bs,0,w,e=>by
  have e:Dn (W.tup [a,b])=Dn w:=e;exact ⟨a,b,rfl,rfl,(Fj e).symm⟩
 | a::as,b::bs,i+1,w,e=>by
  obtain ⟨x,y,h1,h2,h3⟩:=Af (as:=as) (bs:=bs) (i:=i) (w:=w) (by simpa [pN] using e);exact ⟨x,y,by simpa using h1,by simpa using h2,h3⟩
theorem zq:∀ {as bs:List W},(pN as bs).length=min as.length bs.length
 | [],bs=>by simp [pN]
 | _::_,[]=>by simp [pN]
 | a::as,b::bs=>by rw [pN,Jb,zq,Jb,Jb];lia
def oX:W->Option (List W)
 | .tup ws=>Dn ws
 | .lst ws=>Dn ws
 | .kls ws=>Dn ws
 | _=>Go
theorem yX {H:Hp}{μ : Mu}{w:W}{v:V}{ws:List W}(r:Bo K H μ w v)(e:oX w=Dn ws):∃ k a,v=.ref a/\∀ {H2:Hp} {μ2:Mu},Ei K H μ H2 μ2->∃ xs,Sk.v k K H2 a xs/\aN K H2 μ2 ws xs:=by
 cases w with
 | tup us=>
  cases (show Dn us=Dn ws from e)
  have r0:=r;rw [Bo] at r;obtain ⟨p,xs,ev,hs,rs⟩:=r;subst ev;refine ⟨.t,p,rfl,fun {H2 μ2} x=>?_⟩;have r2:=x.r _ _ r0;rw [Bo] at r2;obtain ⟨q,ys,ev,hs,rs⟩:=r2;cases ev;exact ⟨ys,hs,rs⟩
 | lst us=>
  cases (show Dn us=Dn ws from e)
  have r0:=r;rw [Bo] at r;obtain ⟨p,xs,ev,hs,rs⟩:=r;subst ev;refine ⟨.l,p,rfl,fun {H2 μ2} x=>?_⟩;have r2:=x.r _ _ r0;rw [Bo] at r2;obtain ⟨q,ys,ev,hs,rs⟩:=r2;cases ev;exact ⟨ys,hs.sq,rs⟩
 | kls us=>
  cases (show Dn us=Dn ws from e)
  have r0:=r;rw [Bo] at r;obtain ⟨p,xs,ev,hs,rs⟩:=r;subst ev;refine ⟨.l,p,rfl,fun {H2 μ2} x=>?_⟩;have r2:=x.r _ _ r0;rw [Bo] at r2;obtain ⟨q,ys,ev,hs,rs⟩:=r2;cases ev;exact ⟨ys,hs.sq,rs⟩
 | _=>cases e
def Np (h:Gh)(x y:W):Option Src:=match oX x,oX y with
 | some as,Dn bs=>Dn ⟨pN as bs,Go⟩
 | none,Dn bs=>(match x with
  | .loc n=>(match h.c n with
   | some (.lst as)=>Dn ⟨pN as bs,Dn (n,as)⟩
   | _=>Go)
  | _=>Go)
 | _,_=>Go
theorem ahu {H:Hp}{μ : Mu}{h:Gh}{w:W}{v:V}{ws:List W}{o:Option (Nat×List W)}(R:Ci K μ H h)(r:Bo K H μ w v)(e:(oX w=Dn ws/\o=Go)\/∃ n,w=.loc n/\h.c n=Dn (.lst ws)/\o=Dn (n,ws)) :
  ∃ k a,v=.ref a/\∀ {H2:Hp} {μ2:Mu} {h2:Gh},Ei K H μ H2 μ2->Ci K μ2 H2 h2->Src.chk ⟨ws,o⟩ h2->∃ xs,Sk.v k K H2 a xs/\aN K H2 μ2 ws xs:=by
 rcases e with ⟨e,rfl⟩ | ⟨n,rfl,ec,rfl⟩
 ·obtain ⟨k,a,ev,f⟩:=yX r e;exact ⟨k,a,ev,fun x _ _=>f x⟩
 ·have r0:=r;rw [Bo] at r;obtain ⟨p,ev,hm⟩:=r;subst ev;refine ⟨.l,p,rfl,fun {H2 μ2 h2} x R2 ck=>?_⟩;have r2:=x.r _ _ r0;rw [Bo] at r2;obtain ⟨q,eq,hm2⟩:=r2;cases eq;obtain ⟨p',xs,hm',hx,rs⟩:=R2.lstAt (show h2.c n=Dn (.lst ws) from ck);have ep:p'=p:=by rw [hm2] at hm';exact (Fj hm').symm
  subst ep;exact ⟨xs,.of hx,rs⟩
theorem aem {h:Gh}{x y:W}{s:Src}(e:Np h x y=Dn s):∃ as bs o,s=⟨pN as bs,o⟩/\((oX x=Dn as/\o=Go)\/∃ n,x=.loc n/\h.c n=Dn (.lst as)/\o=Dn (n,as))/\oX y=Dn bs:=by
 unfold Np at e;split at e
 ·rename_i as bs ea eb;exact ⟨as,bs,Go,(Fj e).symm,.inl ⟨ea,rfl⟩,eb⟩
 ·rename_i bs ea eb;split at e
  ·split at e
   ·rename_i n _ as ec;exact ⟨as,bs,_,(Fj e).symm,.inr ⟨n,rfl,ec,rfl⟩,eb⟩
   ·cases e
  ·cases e
 ·cases e
def ZD (ma:MA):MI:=fun σ h R=>ma σ h fun ws h1=>match ws with
 | [x,y]=>(match Np h1 x y with
  | some s=>R s h1
  | none=>False)
 | _=>False
theorem Nk {e1 e2:Expr}{mr:MA}{p pos tpos:Pos}{elts:List Expr}{kt:Nat}(hg:Gl X "zip")(hm:X.mg "zip" = Go)(ha:Hr X [e1,e2] mr)
  (hs:Ce [e1,e2] X.env=(false,eval e1 X.env)::Ce [e2] X.env:=by rfl) (hpl:(HB pos (Ce [e2] X.env)).any (·.1)=false:=by rfl) :
  Mg X (.Tuple elts kt tpos) (.Call (.Name "zip" p) [e1,e2] [] pos) (ZD mr):=PI.of (aft hg hm ha hs hpl) fun σ H Q ⟨μ,h,σw,Rw,R,S,m,k⟩=>by
 refine ⟨μ,h,σw,_,R,S,m,fun vs H1 ⟨μ1,ws,h1,e1,R1,r1,m1⟩=>?_⟩;split at m1
 ·split at m1
  ·rename_i x y _ s es;obtain ⟨as,bs,o,rfl,ea,eb⟩:=aem es;obtain ⟨v,u,ev,rv,ru⟩:=Z8 r1;obtain ⟨ka,a,e3,fa⟩:=ahu R1 rv ea;obtain ⟨kb,b,e4,fb⟩:=yX ru eb;have ck1:Src.chk ⟨as,o⟩ h1:=by
    rcases ea with ⟨_,rfl⟩ | ⟨n,_,ec,rfl⟩
    ·exact trivial
    ·exact ec
   obtain ⟨xs,hxs,_⟩:=fa .refl R1 ck1;obtain ⟨ys,hys,_⟩:=fb .refl;refine ⟨v,u,ka,kb,a,b,ev,⟨e3,xs,hxs⟩,⟨e4,ys,hys⟩,k _ _ ⟨μ1,⟨pN as bs,o⟩,h1,e1,R1,?_,m1⟩⟩;intro H2 μ2 h2 i e2 R2 ck;obtain ⟨xs2,hxs2,rxs⟩:=fa e2 R2 ck;obtain ⟨ys2,hys2,rys⟩:=fb e2;refine ⟨fun w ew=>?_,fun hl=>⟨xs2,ys2,hxs2,hys2,?_⟩⟩
   ·obtain ⟨p1,p2,ep1,ep2,rfl⟩:=Af ew;obtain ⟨q1,eq1,rq1⟩:=rxs.get ep1;obtain ⟨q2,eq2,rq2⟩:=rys.get ep2;refine ⟨⟨xs2,ys2,q1,q2,hxs2,hys2,eq1,eq2⟩,fun x' H3 ⟨pa,x1,x2,hp,ex',eH3,f1,f2⟩=>?_⟩;have g1:=f1 xs2 hxs2;have g2:=f2 ys2 hys2;rw [eq1] at g1;rw [eq2] at g2;cases g1;cases g2;subst ex' eH3;exact ⟨μ2,(Ex.laid hp).ext,R2.laid hp,.tupNew hp<|.cons rq1<|.one rq2⟩
   ·have l1:=rxs.len;have l2:=rys.len;have:min as.length bs.length<=i:=by rw [<-zq];exact hl
    lia
  ·exact m1.elim
 ·exact m1.elim
def Pg:List W->Option (List Int)
 | []=>Dn []
 | .int i::ws=>(Pg ws).map (i::·)
 | _=>Go
def acg:MC:=fun ws h Q=>match ws with
 | [w]=>(match dW h w with
  | some us=>(match Pg us with
   | some ns=>Q (.int ns.sum) h
   | none=>False)
  | none=>False)
 | _=>False
end
theorem yL:Manifest.owners.lookup (String.ofList ['d','e','s','r','e','v','e','r'].reverse)=Dn Manifest.sig_reversed:=by kernel_rfl
theorem Oq:mroOf (.type "reversed")=pure [.type "reversed",.type "object"]:=by
 rw [mroOf_type]
 kernel_rfl
theorem W3:typeLookup (.type "reversed") "__new__" = pure (Dn (.builtin "reversed.__new__")):=by
 rw [U9,Ul]
 kernel_rfl
theorem cR:Slot "reversed" "__next__" "reversed.__next__":=
  .of (owner := "reversed") (n := "__next__")
    (by rw [U9,Ul]
        kernel_rfl)
    (by decide +kernel) (by decide +kernel)
    (by decide +kernel)
    (by first
        | exact .inl (by decide +kernel)
        | exact .inr (by decide +kernel))
    (by rw [T4]
        kernel_rfl)
theorem jL:entryFor table "reversed.__next__" = Dn Pb.«reversed.__next__»:=entryFor_of_tree (by kernel_rfl)
theorem mL (a:JI):argsOk "reversed.__next__" ⟨[a],[]⟩:=by
 unfold argsOk;rw [signature?_of (id := "reversed.__next__") (n:=['_','_','t','x','e','n','_','_']) (o:=['d','e','s','r','e','v','e','r']) (by kernel_rfl) yL]
 kernel_rfl
theorem mZ:Slot "reversed" "__iter__" "reversed.__iter__":=
  .of (owner := "reversed") (n := "__iter__")
    (by rw [U9,Ul]
        kernel_rfl)
    (by decide +kernel) (by decide +kernel)
    (by decide +kernel)
    (by first
        | exact .inl (by decide +kernel)
        | exact .inr (by decide +kernel))
    (by rw [T4]
        kernel_rfl)
theorem uT (a:JI):argsOk "reversed.__iter__" ⟨[a],[]⟩:=by
 unfold argsOk;rw [signature?_of (id := "reversed.__iter__") (n:=['_','_','r','e','t','i','_','_']) (o:=['d','e','s','r','e','v','e','r']) (by kernel_rfl) yL]
 kernel_rfl
theorem tX:entryFor table "reversed.__iter__" = Dn Pb.«dict_keyiterator.__iter__»:=
  entryFor_alias (id' := "dict_keyiterator.__iter__") (by kernel_rfl)
    (by first
        | rfl
        | decide +kernel
        | (unfold String.splitOn;simp +decide [String.splitOnAux]))
    (by decide +kernel) (by kernel_rfl)
theorem wX (a:JI):checkTypeCall "reversed" ⟨[a],[]⟩=pure ():=by kernel_rfl
theorem zau (a:JI):checkBuiltinCall "reversed.__new__" ⟨[.type "reversed",a],[]⟩=pure ():=by kernel_rfl
theorem vB:entryFor table "reversed.__new__" = Dn Pb.«reversed.__new__»:=entryFor_of_tree (by kernel_rfl)
theorem Wh:isSubtype (.type "reversed") (.type "reversed")=pure true:=by
 rw [T4]
 kernel_rfl
theorem xH:typeLookup (.type "tuple") "__reversed__" = pure Go:=by
 rw [U9,Ul]
 kernel_rfl
theorem yc:isSubtype (.type "tuple") (.type "dict")=pure false:=by
 rw [T4]
 kernel_rfl
def Sh (l:Addr)(i:Int):Obj:={ cls:=.type "reversed",data:=.fields #[.ref l,K6 i] }
def Hw (h:Heap)(a l:Addr)(i:Int):Prop:=∃ o,h.get? a=Dn o/\o.cls=.type "reversed"/\o.data=.fields #[.ref l,K6 i]
section
variable {P:CR}{w:CQ}{A:CT}{E:JI->kI->Prop}{s:kI}
theorem Hw.typeIs {a l:Addr}{i:Int}(x:Hw s.heap a l i):s.TypeIs (.ref a) "reversed":=let ⟨o,g,c,_⟩:=x;⟨o,g,c⟩
theorem Hw.at {h h':Heap}{a l:Addr}{i:Int}(x:Hw h a l i)(e:∀ o,h.get? a=Dn o->h'.get? a=Dn o):Hw h' a l i:=let ⟨o,g,r⟩:=x;⟨o,e _ g,r⟩
theorem ahz (a:JI):Builtin.SmallTypes.newClass "reversed" ⟨[.type "reversed",a],[]⟩=pure (.type "reversed",[a]):=by
 unfold Builtin.SmallTypes.newClass;simp only [isType,Wh,pure_bind,Bool.not_true,Kv];rfl
theorem afa:Slot "reversed" "__init__" "object.__init__":=
  .of (owner := "object") (n := "__init__")
    (by rw [U9,Ul]
        kernel_rfl)
    (by decide +kernel) (by decide +kernel)
    (by decide +kernel)
    (by first
        | exact .inl (by decide +kernel)
        | exact .inr (by decide +kernel))
    (by rw [T4]
        kernel_rfl)
theorem afM:TypeCalled "reversed" "reversed.__new__" "object.__init__":=
  ⟨by decide +kernel,by decide +kernel,⟨_,_,Oq⟩,madeBy_type Oq W3 (by decide +kernel),by decide +kernel,
    by rw [T4]
       kernel_rfl,afa⟩
theorem agh (l:Addr)(xs:Array JI):Meets (Pb.«reversed.__new__» ⟨[.type "reversed",.ref l],[]⟩) (fun _ R s=>IsTup s.heap l xs/\(xs.size:Int)<2^63 /\
   R (.ok (.ret (.ref s.heap.objs.size))) { s with heap:=s.heap.push (Sh l ((xs.size:Int) - 1)),toks:=s.toks+1+1 }):=by
 refine .of_wp fun prog w A R s ⟨ht,hfit,q⟩=>?_;unfold Pb.«reversed.__new__»;refine BL<|Qx (ahz _) ?_
 try dsimp only
 refine BL<|Qx (a:=()) (by rfl) ?_
 refine BL<|Qx (a:=()) (by rfl) ?_
 try dsimp only
 refine BL<|Tf ht.typeIs xH ?_
 try dsimp only
 refine BL ?_;refine BL<|wpAny_isInstance (U := "dict") (b:=false) ht.typeIs yc ?_
 rw [if_neg Hi];refine BL<|Tf ht.typeIs Ri.lookup ?_
 show Bu _ _ (if (_:Bool)=true then pure true else _) _ _ _;rw [if_pos (by decide +kernel)];refine CP ?_;rw [if_neg (by decide)];refine BL<|len_tuple ht hfit ?_
 refine BL<|Qx (a:=Dn (xs.size:Int)) (by rfl) ?_
 try dsimp only
 refine BL ?_;show Bu _ _ (newObj (.type "reversed") (.fields #[.ref l,K6 ((xs.size:Int) - 1)])) _ _ _;exact ML (CP ⟨_,rfl,q⟩)<|by size_fits
theorem zbj {l:Addr}{xs:Array JI}{Q:JI->kI->Prop}(ht:IsTup s.heap l xs)(hfit:(xs.size:Int)<2^63)
  (q:Q (.ref s.heap.objs.size) { s with heap:=s.heap.push (Sh l ((xs.size:Int) - 1)),toks:=s.toks+1+1 }):Bu (Bx P w) A (call (.type "reversed") [.ref l]) Q E s:=by
 refine callType_new afM (by decide) (wX _) (zau _) (fun obj=>PySem.F.args_object_init_2 obj _) vB (agh l xs) ⟨ht,hfit,?_⟩;exact ⟨⟨_,HD _ rfl,rfl⟩,q⟩
theorem aex {it l:Addr}{i:Nat}{xs:Array JI}{x:JI}{Q:Option JI->kI->Prop}(hi:Hw s.heap it l (i:Int))(ht:IsTup s.heap l xs)(hfit:(xs.size:Int)<2^63)(hx:xs[i]?=Dn x)
  (q:∀ h',Hw h' it l ((i:Int) - 1)->Kh it s.heap h'->Q (Dn x) { s with heap:=h',toks:=s.toks+1 }):Bu (Bx P w) A (LK (.ref it)) Q E s:=by
 obtain ⟨o,go,gc,gd⟩:=id hi;have hlt:i<xs.size:=(Array.getElem?_eq_some_iff.mp hx).1;unfold LK;refine BL (RP (RJ (name:=Qq "__next__") hi.typeIs cR
  (QM cR hi.typeIs jL ?_ (mL _))))
 unfold Pb.«reversed.__next__»;refine BL<|Qx (a:=(Value.ref it,([]:List JI))) (by rfl) ?_
 try dsimp only
 refine BL<|HI go gd (x:=.ref l) rfl ?_
 refine BL<|HI go gd (x:=K6 (i:Int)) rfl ?_
 show Bu _ _ (if (i:Int)<0 then _ else _) _ _ s;rw [if_neg (by lia)];refine BL<|Tf ht.typeIs Ri.lookup ?_
 rw [if_neg (by decide)];refine BL<|wpAny_mkInt ?_
 refine BL<|RP<|getItem_tuple (s:={ s with toks:=s.toks+1 }) ht (by lia) (by lia) (j:=i) ?_ hx ?_
 ·have e:=seqIndex_of (k:=(i:Int)) (n:=xs.size) (by lia) (by lia);rw [Int.toNat_natCast] at e;exact e
 try dsimp only
 refine BL<|HI go gd (x:=K6 (i:Int)) rfl ?_
 refine BL<|RZ go gd (by simp) ?_
 refine CP ⟨x,rfl,CP<|q _ ?_<|R7 ..⟩;exact ⟨_,Lb _ go<|Qf<|Ml gd _,(Ut ..).trans gc,by rw [Ml gd];simp⟩
theorem vR {it l:Addr}{Q:Option JI->kI->Prop}(hh:A.handled=Go)(hi:Hw s.heap it l (-1))
  (q:∀ h',T6 it s.heap h'->Q Go { s with heap:=h' }):Bu (Bx P w) A (LK (.ref it)) Q E s:=by
 obtain ⟨o,go,gc,gd⟩:=id hi;unfold LK;refine BL (RP (RJ (name:=Qq "__next__") hi.typeIs cR
  (QM cR hi.typeIs jL ?_ (mL _))))
 unfold Pb.«reversed.__next__»;refine BL<|Qx (a:=(Value.ref it,([]:List JI))) (by rfl) ?_
 try dsimp only
 refine BL<|HI go gd (x:=.ref l) rfl ?_
 refine BL<|HI go gd (x:=K6 (-1)) rfl ?_
 show Bu _ _ (if (-1:Int)<0 then _ else _) _ _ s;rw [if_pos (by decide)];refine BL<|RL ?_
 refine BL ?_;refine BL<|RZ go gd (by simp) ?_
 have g1:=Lb (fun o=>o.mapFields fun x=>x.setIfInBounds 1 (K6 (-1))) go (Qf (Ml gd _));refine RZ g1 (Ml gd _) (by simp) ?_;refine BL ?_;show Bu _ _ (newExc (.type "StopIteration") [] >>= fun e0=>raiseNew e0) _ _ _;refine BL ?_;simp only [newExc,newTuple,raiseNew];refine BL (ML (by
  refine BL (m:=Ui _ _)<|Qx (a:=Value.none) (by rfl)<|ML ?_<|by size_fits
  refine BL (wpAny_handled (by
   first
    | rw [show A.in1.handled=Go from hh]
    | rw [hh]
   refine BL<|CP<|T5 ?_
   refine BL<|wpAny_isInstance (T := "StopIteration") (b:=true) ⟨_,HD _ rfl,rfl⟩ isSubtype_stop<|CP<|q _ ?_
   intro b ob hb eb;exact Dm _ (Dm _ ((R7 ..).extBut b ob hb ((R7 ..).extBut b ob hb eb))))) ) (by size_fits))
theorem zW {it l:Addr}{i:Int}{Q:JI->kI->Prop}(hi:Hw s.heap it l i)(q:Q (.ref it) s):Bu (Bx P w) A (pyIter (.ref it)) Q E s:=by
 refine wpAny_pyIter_slot hi.typeIs mZ<|QM mZ hi.typeIs tX ?_<|uT _
 show Bu _ _ (ret (.ref it)) _ _ s;exact CP ⟨_,rfl, "reversed",_,hi.typeIs,cR.lookup,q⟩
end
def Itv (K:Bs)(n:Nat)(l:Addr):It:=
  ⟨fun i H=>i<n/\∃ xs x,G7 K H l xs/\xs.length=n/\xs[n - 1 - i]?=Dn x,
   fun i H v H'=>H'=H/\∀ xs,G7 K H l xs->xs[n - 1 - i]?=Dn v,
   fun i _=>n<=i,true⟩
def adi (n:Nat)(it l:Addr)(i:Nat)(h:Heap):Prop:=i<=n/\Hw h it l ((n:Int) - 1 - (i:Int))
theorem aeU {P:CR}{w:CQ}{K:Bs}{tg:Expr}{n:Nat}{it l:Addr}(hne:l≠it):Turn P w K tg (Itv K n l) [it] it (adi n it l) where
 mem:=by simp
 obj:=fun i h st b hb=>by
  obtain ⟨_,o,g,_,d⟩:=st;rw [La] at hb;subst hb;exact ⟨o,g,fun v y=>by rw [d] at y;cases y⟩
 keep:=fun i h h' st k=>⟨st.1,st.2.at fun o e=>k it (by simp) o e⟩
 item:=by
  intro X hP hw hK hc i pins s σ H E I hf st hg;subst hP hw hK;obtain ⟨hin,xs,x,hx,hlen,ex⟩:=hg;obtain ⟨its,r,pl,hz⟩:=I.tuple hx;obtain ⟨u,hu,ru⟩:=r.get ex;have hl:=r.length;have e1:(n:Int) - 1 - (i:Int)=((n - 1 - i:Nat):Int):=by lia
  have hi:=st.2;rw [e1] at hi;have hn:=mR;refine aex hi pl (by simp only [Em];lia) (x:=u) (by simpa using hu) fun h1 g1 sb=>⟨u,rfl,?_⟩;have e2:((n - 1 - i:Nat):Int) - 1=(n:Int) - 1 - ((i+1:Nat):Int):=by lia
  rw [e2] at g1;obtain ⟨o,go,gc,gd⟩:=id g1;refine EY (s:={ s with heap:=h1,toks:=s.toks+1 }) go gc gd (by decide) ⟨x,H,I.turnedL (t':=s.toks+1) (ch:=[it]) (fun b o hb e=>sb.extBut b o (fun q=>hb<|by simp [q]) e) hf,ru,⟨rfl,fun ys hy=>?_⟩,⟨hin,g1⟩,fun b hb=>(hf b hb).1⟩;rw [I.tuple_inj hy hx];exact ex
 done:=by
  intro X hP hw hK hc i pins s σ H E I hf st hg;subst hP hw hK;have hi:=st.2;have e1:(n:Int) - 1 - (i:Int) = -1:=by
   have:=st.1
   have:n<=i:=hg
   lia
  rw [e1] at hi;exact vR (I.ok.hd<|hc rfl) hi fun h1 eb=>⟨rfl,I.turnedL (t':=s.toks) (ch:=[it]) (fun b o hb e=>eb b o (fun q=>hb<|by simp [q]) e) hf⟩
 self:=fun _ _ _ _ _ st h=>zW st.2 h
section
variable {X:Cx}{K:Bs}
end
section
variable {X:Cx}
def Z5 (i j k:Nat)(ta:MA):MS:=fun D σ h=>ta σ h fun ws h1=>match ws with
 | [a,b,c]=>D.nx (((σ.set i (Dn a)).set j (Dn b)).set k (Dn c)) h1
 | _=>False
end
def Itw (K:Bs)(n:Nat)(l:Addr):It:=
  ⟨fun i H=>i<n/\∃ xs x,Fl K H l xs/\xs.length=n/\xs[n - 1 - i]?=Dn x,
   fun i H v H'=>H'=H/\∀ xs,Fl K H l xs->xs[n - 1 - i]?=Dn v,
   fun i _=>n<=i,true⟩
def adp (n:Nat)(it l:Addr)(i:Nat)(h:Heap):Prop:=i<=n/\h.IsRevIter it l ((n:Int) - 1 - (i:Int))
theorem zaY {P:CR}{w:CQ}{K:Bs}{tg:Expr}{n:Nat}{it l:Addr}(hne:l≠it):Turn P w K tg (Itw K n l) [it] it (adp n it l) where
 mem:=by simp
 obj:=fun i h st b hb=>by
  obtain ⟨_,o,g,_,d⟩:=st;rw [La] at hb;subst hb;exact ⟨o,g,fun v y=>by rw [d] at y;cases y⟩
 keep:=fun i h h' st k=>⟨st.1,st.2.at fun o e=>k it (by simp) o e⟩
 item:=by
  intro X hP hw hK hc i pins s σ H E I hf st hg;subst hP hw hK;obtain ⟨hin,xs,x,hx,hlen,ex⟩:=hg;obtain ⟨its,r,pl,hz⟩:=I.list hx;obtain ⟨u,hu,ru⟩:=r.get ex;have hl:=r.length;have e1:(n:Int) - 1 - (i:Int)=((n - 1 - i:Nat):Int):=by lia
  have hi:=st.2;rw [e1] at hi;refine wpAny_pyNext_rev_item hi pl.isList (x:=u) (by simpa using hu) fun h1 g1 sb=>⟨u,rfl,?_⟩;have e2:((n - 1 - i:Nat):Int) - 1=(n:Int) - 1 - ((i+1:Nat):Int):=by lia
  rw [e2] at g1;obtain ⟨o,go,gc,gd⟩:=id g1;refine EY (s:={ s with heap:=h1 }) go gc gd (by decide) ⟨x,H,I.turnedL (t':=s.toks) (ch:=[it]) (fun b o hb e=>sb.extBut b o (fun q=>hb<|by simp [q]) e) hf,ru,⟨rfl,fun ys hy=>?_⟩,⟨hin,g1⟩,fun b hb=>(hf b hb).1⟩;rw [I.list_inj hy hx];exact ex
 done:=by
  intro X hP hw hK hc i pins s σ H E I hf st hg;subst hP hw hK;have hi:=st.2;have e1:(n:Int) - 1 - (i:Int) = -1:=by
   have:=st.1
   have:n<=i:=hg
   lia
  rw [e1] at hi;exact wpAny_pyNext_rev_end (I.ok.hd<|hc rfl) hi fun h1 eb=>⟨rfl,I.turnedL (t':=s.toks) (ch:=[it]) (fun b o hb e=>eb b o (fun q=>hb<|by simp [q]) e) hf⟩
 self:=fun _ _ _ _ _ st h=>wpAny_pyIter_revIter st.2 h
section
variable {X:Cx}{K:Bs}
def abw (K:Bs)(ta:TA):TI:=fun σ H R=>ta σ H fun vs H1=>∃ a xs,vs=[.ref a]/\((G7 K H1 a xs/\R (Itv K xs.length a) H1)\/(Fl K H1 a xs/\R (Itw K xs.length a) H1))
theorem aeV {tg e1:Expr}{ta:TA}{p pos:Pos}(hg:Gl X "reversed")(hm:X.mg "reversed" = Go)(ha:PA X [e1] ta)
  (hs:Ce [e1] X.env=(false,eval e1 X.env)::Ce [] X.env:=by rfl) (hpl:(HB pos (Ce [] X.env)).any (·.1)=false:=by rfl) :
  PI X tg (.Call (.Name "reversed" p) [e1] [] pos) (abw X.K ta):=by
 intro pins s σ H R I h;refine RW<|nZ I hg hm boot_reversed ?_ (by decide)<|by decide
 refine Tv (DW (ha pos pins s σ H _ I h) fun us s1 ⟨vs,H1,I1,r1,q1⟩=>?_) hs hpl;obtain ⟨a,xs,ev,hx⟩:=q1;subst ev;obtain ⟨u1,eu,ru1⟩:=vals1 r1;subst eu;cases ru1;rcases hx with ⟨hx,q⟩ | ⟨hx,q⟩
 ·obtain ⟨its,r,pl,hz⟩:=I1.tuple hx;have hl:=r.length;have hn:=mR;refine zbj pl (by simp only [Em];lia) ?_;have gi:Hw (s1.heap.push (Sh a ((its.toArray.size:Int) - 1))) s1.heap.objs.size a ((xs.length:Int) - 1 - ((0:Nat):Int)):=by
   refine ⟨_,HD _ rfl,rfl,?_⟩;show Data.fields #[.ref a,K6 ((its.toArray.size:Int) - 1)]=_;rw [Em,<-hl];simp
  have la:a<s1.heap.objs.size:=by obtain ⟨_,e,_⟩:=pl;exact Dj e
  refine zW gi ?_;refine ⟨_,[s1.heap.objs.size],_,_,H1,rfl,I1.kept (t':=s1.toks+1+1)<|fun b o e=>Dm _ e,aeU<|Gf la,⟨O8 _,gi⟩,fun c hc=>?_,q⟩;rw [La] at hc;subst hc;exact I1.fpOk (Dp _)<|I1.hok.fresh<|Dp _
 ·obtain ⟨its,r,pl,hz⟩:=I1.list hx;have hl:=r.length;refine call_reversed_list pl.isList ?_;have gi:(s1.heap.push (revObj a ((its.toArray.size:Int) - 1))).IsRevIter s1.heap.objs.size a ((xs.length:Int) - 1 - ((0:Nat):Int)):=by
   refine ⟨_,HD _ rfl,rfl,?_⟩;show Data.fields #[.ref a,K6 ((its.toArray.size:Int) - 1)]=_;rw [Em,<-hl];simp
  have la:a<s1.heap.objs.size:=by obtain ⟨_,e,_⟩:=pl.isList;exact Dj e
  refine wpAny_pyIter_revIter gi ?_;refine ⟨_,[s1.heap.objs.size],_,_,H1,rfl,I1.kept (t':=s1.toks)<|fun b o e=>Dm _ e,zaY<|Gf la,⟨O8 _,gi⟩,fun c hc=>?_,q⟩;rw [La] at hc;subst hc;exact I1.fpOk (Dp _)<|I1.hok.fresh<|Dp _
def V0 (ma:MA):MI:=fun σ h R=>ma σ h fun ws h1=>match ws with
 | [.tup us]=>R ⟨us.reverse,Go⟩ h1
 | [.lst us]=>R ⟨us.reverse,Go⟩ h1
 | _=>False
theorem ahk {tg e1:Expr}{mr:MA}{p pos:Pos}(hg:Gl X "reversed")(hm:X.mg "reversed" = Go)(ha:Hr X [e1] mr)
  (hs:Ce [e1] X.env=(false,eval e1 X.env)::Ce [] X.env:=by rfl) (hpl:(HB pos (Ce [] X.env)).any (·.1)=false:=by rfl) :
  Mg X tg (.Call (.Name "reversed" p) [e1] [] pos) (V0 mr):=PI.of (aeV hg hm ha hs hpl) fun σ H Q ⟨μ,h,σw,Rw,R,S,m,k⟩=>by
 refine ⟨μ,h,σw,_,R,S,m,fun vs H1 ⟨μ1,ws,h1,e1,R1,r1,m1⟩=>?_⟩;split at m1
 ·rename_i us;obtain ⟨v,ev,rv⟩:=jz r1;have rv0:=rv;rw [Bo] at rv;obtain ⟨a,xs,ea,hx,rs⟩:=rv;subst ev ea;have hl:=rs.len;refine ⟨a,xs,rfl,.inl ⟨hx,k _ _ ⟨μ1,⟨us.reverse,Go⟩,h1,e1,R1,?_,m1⟩⟩⟩;intro H2 μ2 h2 i e2 R2 _;have r2:=e2.r _ _ rv0;rw [Bo] at r2;obtain ⟨b,ys,eb,hy,ry⟩:=r2;cases eb;have hl2:=ry.len;refine ⟨fun w ew=>?_,fun hle=>?_⟩
  ·have hi:i<us.length:=by
    have:=(K8.mp ew).1
    simpa using this
   rw [List.getElem?_reverse hi] at ew;obtain ⟨v,hv,rv⟩:=ry.get ew;refine ⟨⟨by lia,ys,v,hy,by lia,by rw [show xs.length - 1 - i=us.length - 1 - i by lia];exact hv⟩,fun x H3 ⟨e3,y⟩=>?_⟩;subst e3;have:=y ys hy
   rw [show xs.length - 1 - i=us.length - 1 - i by lia,hv] at this;cases this;exact ⟨μ2,.refl,R2,rv⟩
  ·have:us.length<=i:=by simpa using hle
   show xs.length<=i;lia
 ·rename_i us;obtain ⟨v,ev,rv⟩:=jz r1;have rv0:=rv;rw [Bo] at rv;obtain ⟨a,xs,ea,hx,rs⟩:=rv;subst ev ea;have hl:=rs.len;refine ⟨a,xs,rfl,.inr ⟨hx.sq,k _ _ ⟨μ1,⟨us.reverse,Go⟩,h1,e1,R1,?_,m1⟩⟩⟩;intro H2 μ2 h2 i e2 R2 _;have r2:=e2.r _ _ rv0;rw [Bo] at r2;obtain ⟨b,ys,eb,hy,ry⟩:=r2;cases eb;have hl2:=ry.len;refine ⟨fun w ew=>?_,fun hle=>?_⟩
  ·have hi:i<us.length:=by
    have:=(K8.mp ew).1
    simpa using this
   rw [List.getElem?_reverse hi] at ew;obtain ⟨v,hv,rv⟩:=ry.get ew;refine ⟨⟨by lia,ys,v,hy.sq,by lia,by rw [show xs.length - 1 - i=us.length - 1 - i by lia];exact hv⟩,fun x H3 ⟨e3,y⟩=>?_⟩;subst e3;have:=y ys hy.sq
   rw [show xs.length - 1 - i=us.length - 1 - i by lia,hv] at this;cases this;exact ⟨μ2,.refl,R2,rv⟩
  ·have:us.length<=i:=by simpa using hle
   show xs.length<=i;lia
 ·exact m1.elim
end
theorem Eo {K:Bs}{H:Hp}{μ : Mu}:aN K H μ [] []:=by rw [aN]
theorem iY {K:Bs}{H:Hp}{μ : Mu}{w:W}{v:V}{ws:List W}{vs:List V}(h:Bo K H μ w v)(t:aN K H μ ws vs):aN K H μ (w::ws) (v::vs):=by rw [aN];exact ⟨v,vs,rfl,h,t⟩
theorem Dr {K:Bs}{H:Hp}{μ : Mu}{i:Int}:Bo K H μ (.int i) (.int i):=by rw [Bo]
theorem Uu {K:Bs}{H:Hp}{μ : Mu}{i:Str}:Bo K H μ (.str i) (.str i):=by rw [Bo]
theorem j4 {K:Bs}{a:Addr}{sl:Array (Option JI)}{its:Array JI}{n:Nat}{xs:List V}{ws:List W}(h:K.lookup a=Dn ⟨.type "tuple",Go,.seq its n,sl⟩)(hz:its.size<=Dk)(hv:CJ xs its.toList)(hr:∀ H μ,aN K H μ ws xs):∀ H μ,Bo K H μ (.tup ws) (.ref a):=by
 intro H μ;rw [Bo];exact ⟨a,xs,rfl,.inr ⟨_,its,n,h,rfl,rfl,hz,hv,rfl⟩,hr H μ⟩
theorem Du {i:Int}{t}:RelV (.int i) (.int i t):=⟨t,rfl⟩
theorem PN {i:Str}{t}:RelV (.str i) (.str i t):=⟨t,rfl⟩
theorem ZF {a:Addr}:RelV (.ref a) (.ref a):=rfl
section
variable {prog:CR}{w:CQ}{A:CT}{E:JI->kI->Prop}{s:kI}
theorem uG {it t:Addr}{items:Array JI}(hne:t≠it):∀ (n i:Nat) (s:kI) (Q:List JI->kI->Prop),s.heap.IsListIter it t i->s.heap.IsList t items->i+n<=items.size ->
  (∀ h',h'.IsListIter it t (i+n)->Kh it s.heap h'->Q ((items.toList.drop i).take n) { s with heap:=h' })->Bu (Bx prog w) A (draw (.ref it) n) Q E s
 | 0,i,s,Q,hit,_,_,hQ=>by
  show Bu _ _ (pure []) Q E s;exact CP<|by simpa using hQ s.heap hit (Heap.SameBut.refl ..)
 | n+1,i,s,Q,hit,ht,hle,hQ=>by
  have hlt:i<items.size:=by lia
  show Bu _ _ (LK (.ref it) >>= _) Q E s;refine BL<|wpAny_pyNext_list_item hit ht (x:=items[i]) (by simp [hlt]) fun h1 hit1 hs1=>?_
  refine BL<|JK<|uG hne n (i+1) _ _ hit1 (ht.at fun o e=>hs1.extBut _ o hne e) (by lia) fun h2 hit2 hs2=>CP ?_
  have hd:items.toList.drop i=items[i]::items.toList.drop (i+1):=by simp [VB,hlt]
  have:=hQ h2 (by rw [show i+(n+1)=i+1+n by lia];exact hit2) (hs1.trans hs2)
  rw [hd,List.take_succ_cons] at this;exact this
theorem m7 {t:Addr}{items:Array JI}{Q:List JI->kI->Prop}(hh:A.handled=Go)(ht:s.heap.IsList t items)
  (hQ:∀ h',T6 s.heap.objs.size s.heap h'->Q items.toList { s with heap:=h' }):Bu (Bx prog w) A (unpackItems (.ref t) items.size Go) Q E s:=by
 have hlt:t≠s.heap.objs.size:=by obtain ⟨o,ho,_⟩:=ht;exact Gf (Dj ho)
 unfold unpackItems;refine BL ?_
 ·unfold notIterableAtAll;refine BL<|Tf ht.typeIs slot_list_iter.lookup ?_
  refine CP ?_;simp only [Kv,if_false];refine BL<|JK<|TQ ht ?_
  refine BL<|JK<|uG hlt items.size 0 _ _ ⟨_,HD _ rfl,rfl,rfl⟩ (ht.at fun o e=>Dm _ e) (by lia) fun h1 hit1 hs1=>?_
  have hall:List.take items.size (List.drop 0 items.toList)=items.toList:=by
   rw [Rq];exact VG (by simp)
  rw [hall];rw [if_neg (by simp)];have ht1:h1.IsList t items:=ht.at fun o e=>hs1.extBut _ o hlt (Dm _ e)
  refine BL<|JK<|wpAny_pyNext_list_end hh hit1 ht1 (by simp) fun h2 he2=>?_
  simp only [Option.isSome_none,Kv,if_false];refine CP<|hQ h2 fun b o hb e=>he2 b o hb<|hs1.extBut b o hb<|Dm _ e
theorem lA {env:Env}{elts:List Expr}{x1}{pos:Pos}{t:Addr}{items:Array JI}{Q:Unit->kI->Prop}(hh:A.handled=Go)(ht:s.heap.IsList t items)
  (hn:(Jr elts env).length=items.size) (hstar:(Jr elts env).findIdx? (·.1)=Go)
  (h:∀ h',T6 s.heap.objs.size s.heap h'->Bu (Bx prog w) A (assignInOrder ((Jr elts env).map (·.2)) items.toList) Q E { s with heap:=h' }) :
  Bu (Bx prog w) A (assign (.Tuple elts x1 pos) env (.ref t)) Q E s:=by
 rw [assign_Tuple];refine BL<|RQ ?_
 unfold unpack;rw [hn,hstar];exact BL<|JK<|m7 hh ht h
end
section
variable {X:Cx}{pos:Pos}
def aao (K:Bs)(n:Nat)(t:Q9):TG:=fun v σ H Q=>∃ a xs,v=.ref a/\(G7 K H a xs\/Fl K H a xs)/\xs.length=n/\t xs σ H Q
theorem afP {es:List Expr}{k:Nat}{t:Q9}{n:Nat}(hc:X.calm=true)(h:Qj X es t)
  (hn:(Jr es X.env).length=n:=by rfl) (hst:(Jr es X.env).findIdx? (·.1)=Go:=by rfl):PG X (.Tuple es k pos) (aao X.K n t):=by
 intro pins s σ H v u Q I r hw;obtain ⟨a,xs,e1,hq,hl,hw⟩:=hw;subst e1;cases r;rcases hq with hq | hq
 ·obtain ⟨its,rv,ht,hz⟩:=I.tuple hq;refine assign_Tuple_tuple (I.ok.hd hc) ht (by simp [hn,<-hl,rv.length]) hst fun h' hx=>?_;have I1:BZ X pins σ H { s with heap:=h' }:=I.kept (t':=s.toks) fun b o e=>hx b o (Gf (Dj e)) e
  exact h pins _ σ H xs _ Q I1 (by simpa using rv) hw
 ·obtain ⟨its,rv,ht,hz⟩:=I.list hq;refine lA (I.ok.hd hc) ht.isList (by simp [hn,<-hl,rv.length]) hst fun h' hx=>?_;have I1:BZ X pins σ H { s with heap:=h' }:=I.kept (t':=s.toks) fun b o e=>hx b o (Gf (Dj e)) e
  exact h pins _ σ H xs _ Q I1 (by simpa using rv) hw
def uh (n:Nat)(g:Mf):MG:=fun w σ h N=>match w with
 | .tup ws=>El (KD ws.length n) (g ws σ h N) False
 | .lst ws=>El (KD ws.length n) (g ws σ h N) False
 | .loc j=>(match h.c j with
  | some (.lst ws)=>El (KD ws.length n) (g ws σ h N) False
  | _=>False)
 | _=>False
theorem yF {es:List Expr}{k:Nat}{g:Mf}{n:Nat}(hc:X.calm=true)(h:ZL X es g)(hn:(Jr es X.env).length=n:=by rfl)(hst:(Jr es X.env).findIdx? (·.1)=Go:=by rfl):DG X (.Tuple es k pos) (uh n g):=
 (afP (n:=n) hc h hn hst).of fun v σ H N ⟨μ,h,σw,w,Nw,R,S,r,m,k⟩=>by
  cases w with
  | tup ws=>
   rw [Bo] at r;obtain ⟨p,xs,e1,hs,hr⟩:=r;have m:El (KD ws.length n) (g ws σw h Nw) False:=m;cases en:KD ws.length n with
   | true=>rw [en] at m;exact ⟨p,xs,e1,.inl hs,by rw [<-hr.len];exact Uq en,μ,h,σw,ws,Nw,R,S,hr,m,k⟩
   | false=>rw [en] at m;exact (show False from m).elim
  | lst ws=>
   rw [Bo] at r;obtain ⟨p,xs,e1,hs,hr⟩:=r;have m:El (KD ws.length n) (g ws σw h Nw) False:=m;cases en:KD ws.length n with
   | true=>rw [en] at m;exact ⟨p,xs,e1,.inr hs.sq,by rw [<-hr.len];exact Uq en,μ,h,σw,ws,Nw,R,S,hr,m,k⟩
   | false=>rw [en] at m;exact (show False from m).elim
  | loc j=>
   have m:(match h.c j with
    | some (.lst ws)=>El (KD ws.length n) (g ws σw h Nw) False
    | _=>False):=m
   split at m
   ·rename_i ws ec;obtain ⟨p,xs,e1,hs,hr⟩:=dg R r (show dW h (.loc j)=Dn ws by simp only [dW,ec]);cases en:KD ws.length n with
    | true=>rw [en] at m;exact ⟨p,xs,e1,.inr hs,by rw [<-hr.len];exact Uq en,μ,h,σw,ws,Nw,R,S,hr,m,k⟩
    | false=>rw [en] at m;exact (show False from m).elim
   ·exact m.elim
  | _=>exact m.elim
end
section
variable {K:Bs}{H:Hp}{μ : Mu}{h:Gh}{p:Addr}{ws:List W}{xs:List V}
end
def abX (Q:WK):WK:=fun w h=>match w with
 | .lst ws=>Q (.loc h.nx) (h.new (.lst ws))
 | _=>False
def ac8 (own:W->Option (List W))(ix:List Nat)(mi:MI)(tt:MT)(te:ME):ME:=fun σ h Q=>Er own ix mi tt te σ h (abX Q)
section
variable {X:Cx}{tg iter elt:Expr}{ifs:List Expr}{pos:Pos}{scope:Scope}{xs:List Str}{mi:MI}{tt:MT}{te:ME}
end
def Dh:Expr->Bool
 | .Starred _ _=>true
 | _=>false
theorem aW {e:Expr}{es:List Expr}{env:Env}(h:Dh e=false):Ce (e::es) env=(false,eval e env)::Ce es env:=by
 cases e <;> first | rfl | cases h
theorem Nv {e:Expr}{env:Env}(h:Dh e=false):Ce [e] env=[(false,eval e env)]:=(aW h).trans rfl
def noStar:List Expr->Bool
 | []=>true
 | e::r=>!Dh e&&noStar r
theorem bZ {pos:Pos}{env:Env}:∀ {es:List Expr},noStar es=true->(HB pos (Ce es env)).any (·.1)=false
 | [],_=>rfl
 | e::r,h=>by
  rw [noStar,Kf,TY] at h;rw [aW h.1];show (false||(HB pos (Ce r env)).any (·.1))=false;rw [bZ h.2];rfl
theorem TX {cpos:Pos}{e:Expr}{env:Env}(h:Dh e=false):((HB cpos (Ce [e] env)).all (fun x=>!x.1)&&(backToKw cpos (keywordEach [] env)).all (fun x=>x.1.isSome)
   && decide (([e]:List Expr).length+([]:List Q6).length+(if ([]:List Q6).isEmpty then 0 else 1)<30))=true:=by
 rw [Nv h];rfl
section
variable {prog:CR}{w:CQ}{A:CT}{E:JI->kI->Prop}{s:kI}
open HT in
theorem jr {t sl:Addr}{items:Array JI}{vl vu:JI}{lo hi:Option Int}{Q:JI->kI->Prop}(ht:IsTup s.heap t items)(hs:s.heap.IsSliceOf sl vl vu .none)(pl:IsPart vl lo)(pu:IsPart vu hi)
  (h0:sIx items.size 0 lo=0) (h1:sIx items.size items.size hi=items.size) (h:Q (.ref t) s):Bu (Bx prog w) A (getItem (.ref t) (.ref sl)) Q E s:=by
 obtain ⟨os,hos,hcs,hds⟩:=id hs;have hTs:s.TypeIs (.ref sl) "slice":=⟨os,hos,hcs⟩
 unfold getItem;try with_reducible refine JK ?_
 first | refine BL (CP ?_) | skip
 refine BL<|wpAny_sequenceKey ht.typeIs (by decide) ?_
 refine BL (RJ (name:=Qq "__getitem__") ht.typeIs Ri
  (QM Ri ht.typeIs entry_tuple_getitem ?_ (args_tuple_getitem _ _)))
 show Bu _ _ (Builtin.Tuple.tupleItemsOf (.ref t) >>= _) _ _ s;refine BL<|tupleItemsOf_ ht ?_
 refine BL<|wpAny_typeOf hTs ?_
 rw [if_pos (by decide)];refine BL<|gH hs pl pu ?_
 have hyes:((((sIx items.size 0 lo:Nat):Int)==0&&(1:Int)==1&&(sIx items.size items.size hi - sIx items.size 0 lo)==items.size)=true):=by
  rw [h0,h1];simp
 show Bu _ _ (if (((sIx items.size 0 lo:Nat):Int)==0&&(1:Int)==1&&(sIx items.size items.size hi - sIx items.size 0 lo)==items.size)=true then _ else _) _ _ s;rw [if_pos hyes];unfold Builtin.Tuple.tupleIsExact;refine BL<|BL<|wpAny_typeOf ht.typeIs<|CP ?_
 rw [if_pos (by decide)];refine BL<|RL ?_
 first
  | exact CP ⟨_,rfl,CP h⟩
  | exact BL (CP (CP ⟨_,rfl,CP h⟩))
end
section
variable {X:Cx}
def ac2 (K:Bs):V->Option Int->Option Int->Hp->VK->Prop:=fun x lo hi H Q=>∃ a xs,x=.ref a/\G7 K H a xs /\
 HT.sIx xs.length 0 lo=0/\HT.sIx xs.length xs.length hi=xs.length/\Q x H
theorem ahD:QB X (ac2 X.K):=by
 intro pins s σ H x v vl vu lo hi sl Q I rx hs pl pu h;obtain ⟨a,xs,rfl,hx,h0,h1,q⟩:=h;cases rx;obtain ⟨its,r,ht,hz⟩:=I.tuple hx;have hlen:its.toArray.size=xs.length:=by rw [Em];exact r.length.symm
 refine ⟨"tuple",_,Ri.lookup,ht.typeIs,?_⟩;refine jr ht hs pl pu (by rw [hlen];exact h0) (by rw [hlen];exact h1) ?_;exact ⟨.ref a,H,I,rfl,q⟩
def wA (x:W)(lo hi:Option Int)(h:Gh)(Q:WK):Prop:=match x with
 | .tup ws=>Q (.tup (vO ws lo hi)) h
 | x=>(match dW h x with
  | some ws=>Q (.lst (vO ws lo hi)) h
  | none=>False)
theorem lJ {e:Expr}{lo hi:Option Expr}{ma:ME}{ml mh:MO}{p2 pos:Pos}(he:DE X e ma)(hl:DO X lo ml)(hu:DO X hi mh):DE X (.Subscript e (.Slice lo hi Go p2) pos) (LC wA ma ml mh):=
 (zbB (QB.or (QB.or agJ Zm) ahD) he hl hu).of fun σ H Q ⟨μ,h,σw,Qw,R,S,m,k⟩=>by
  refine ⟨μ,h,σw,_,R,S,m,fun x H1 ⟨μ1,wx,h1,e1,R1,r1,m1⟩=>?_⟩;refine ⟨μ1,h1,σw,_,R1,S.ext e1,m1,fun lo H2 ⟨μ2,h2,e2,R2,m2⟩=>?_⟩;refine ⟨μ2,h2,σw,_,R2,(S.ext e1).ext e2,m2,fun hi H3 ⟨μ3,h3,e3,R3,m3⟩=>?_⟩;have e13:=(e1.trans e2).trans e3;have r3:=e3.r _ _ (e2.r _ _ r1);have oth:∀ wy,Bo X.K H3 μ3 wy x->(match dW h3 wy with
    | some ws=>Qw (.lst (vO ws lo hi)) h3
    | none=>False)->∃ p xs,x=.ref p/\Fl X.K H3 p xs/\∀ l,H3 l=Go->Q (.ref l) (Cd H3 l (.lst (Lh xs lo hi))):=by
   intro wy ry my;split at my
   ·rename_i ws ev;obtain ⟨p,xs,ex,hs,rs⟩:=dg R3 ry ev;exact ⟨p,xs,ex,hs,fun l hl=>k _ _ ⟨μ3,_,h3,e13.trans (Ex.laid hl).ext,R3.laid hl,.lstNew R3 hl<|rs.cutv lo hi,my⟩⟩
   ·exact my.elim
  cases wx with
  | tup ws=>
   have m3:Qw (.tup (vO ws lo hi)) h3:=m3;have r30:=r3;rw [Bo] at r3;obtain ⟨p,xs,ex,hx,rs⟩:=r3;have hl:=rs.len;by_cases hw:HT.sIx xs.length 0 lo=0/\HT.sIx xs.length xs.length hi=xs.length
   ·have ec:vO ws lo hi=ws:=by
     unfold vO;rw [hl,hw.1,hw.2,Rq,Nat.sub_zero,<-hl,Kg]
    rw [ec] at m3;exact .inr ⟨p,xs,ex,hx,hw.1,hw.2,k _ _ ⟨μ3,.tup ws,h3,e13,R3,r30,m3⟩⟩
   ·exact .inl<|.inr ⟨p,xs,ex,hx,hw,fun q hq=>k _ _ ⟨μ3,.tup<|vO ws lo hi,h3,e13.trans (Ex.laid hq).ext,R3.laid hq,.tupNew hq<|rs.cutv lo hi,m3⟩⟩
  | _=>exact .inl (.inl (oth _ r3 m3))
def ZS:MC:=fun ws h Q=>match ws with
 | [.int i]=>Q (.int i) h
 | [.bl b]=>Q (.int (if b then 1 else 0)) h
 | _=>False
theorem aaO:pR X (.type "int") ZS:=⟨_,zaL,by
 intro H μ h vs ws Qw Q R r m k;unfold ZS at m;split at m
 ·obtain ⟨v,e,rv⟩:=jz r;rw [Bo] at rv;subst e rv;exact .inl ⟨_,rfl,k _ _<|.int R m⟩
 ·obtain ⟨v,e,rv⟩:=jz r;rw [Bo] at rv;subst e rv;exact .inr ⟨_,rfl,k _ _<|.int R m⟩
 ·exact m.elim⟩
def Lx (i j:Int):Prop:=fC i j\/Sm 64 i\/Sm 64 j
theorem Lx.ok {i j:Int}(h:Lx i j):IntMulOk i j:=by
 rcases h with h | h | h
 ·exact h.ok
 ·exact .of_left h.bits
 ·exact .of_right h.bits
theorem afA:Ho X (KH .Mult) (rI Lx fun i j=>.int (i*j)):=opI fun _ _ _ _ _ _ _ hc q=>mul_int q hc.ok
def Qs:M2:=fun x y h Q=>match x,y with
 | .int i,.int j=>Lx i j/\Q (.int (i*j)) h
 | _,_=>False
theorem Vl:Ka X (KH .Mult) Qs:=⟨_,afA,by
 intro H μ h x y wx wy Qw Q R rx ry m k;unfold Qs at m;split at m
 ·rw [Bo] at rx ry;exact ⟨_,_,rx,ry,m.1,k _ _<|.int R m.2⟩
 ·exact m.elim⟩
end
def Cz (Z:JI->Prop)(vs:Array JI):Prop:=∃ z,vs[2]?=Dn z/\Z z
theorem Cz.size {Z:JI->Prop}{vs:Array JI}(c:Cz Z vs):2<vs.size:=let ⟨_,e,_⟩:=c;(Array.getElem?_eq_some_iff.mp e).1
theorem Cz.mono {Z Z':JI->Prop}{vs:Array JI}(c:Cz Z vs)(k:∀ z,Z z->Z' z):Cz Z' vs:=let ⟨z,e,h⟩:=c;⟨z,e,k z h⟩
def XO (h:Heap)(P:Addr->Prop)(Z:JI->Prop)(e C:Addr)(od:Option Addr):Prop:=P e/\∃ (oe:Obj) (vs:Array JI),h.get? e=Dn oe/\oe.cls=.ref C/\oe.dict=od/\oe.data=.fields vs/\vs.size<=1000/\Cz Z vs /\
 (vs[1]?=Dn .none\/∃ (T:Addr) (oT:Obj) (ts:Array JI),vs[1]?=Dn (.ref T)/\T≠e/\P T/\h.get? T=Dn oT/\oT.data=.fields ts/\3<ts.size)
def XN (h:Heap)(P:Addr->Prop)(Z:JI->Prop)(e C:Addr)(od:Option Addr):Prop:=P e/\∃ (oe:Obj) (vs:Array JI),h.get? e=Dn oe/\oe.cls=.ref C/\oe.dict=od/\oe.data=.fields vs/\vs.size<=1000/\Cz Z vs /\
 ∃ (T:Addr) (oT:Obj) (ts:Array JI),vs[1]?=Dn (.ref T)/\T≠e/\P T/\h.get? T=Dn oT/\oT.data=.fields ts/\3<ts.size
theorem XN.xo {h:Heap}{P:Addr->Prop}{Z:JI->Prop}{e C:Addr}{od:Option Addr}(x:XN h P Z e C od):XO h P Z e C od:=by
 obtain ⟨p,oe,vs,a,b,c,d,f,g,k⟩:=x;exact ⟨p,oe,vs,a,b,c,d,f,g,.inr k⟩
theorem XO.mono {h:Heap}{P P':Addr->Prop}{Z Z':JI->Prop}{e C:Addr}{od:Option Addr}(x:XO h P Z e C od)(k:∀ b,P b->P' b)(kz:∀ z,Z z->Z' z):XO h P' Z' e C od:=by
 obtain ⟨p,oe,vs,a,b,c,d,f,g,z⟩:=x;refine ⟨k _ p,oe,vs,a,b,c,d,f,g.mono kz,?_⟩;rcases z with z | ⟨T,oT,ts,z1,z2,z3,z4⟩
 ·exact .inl z
 ·exact .inr ⟨T,oT,ts,z1,z2,k _ z3,z4⟩
theorem XN.mono {h:Heap}{P P':Addr->Prop}{Z Z':JI->Prop}{e C:Addr}{od:Option Addr}(x:XN h P Z e C od)(k:∀ b,P b->P' b)(kz:∀ z,Z z->Z' z):XN h P' Z' e C od:=by
 obtain ⟨p,oe,vs,a,b,c,d,f,g,T,oT,ts,z1,z2,z3,z4⟩:=x;exact ⟨k _ p,oe,vs,a,b,c,d,f,g.mono kz,T,oT,ts,z1,z2,k _ z3,z4⟩
structure Mp (P:Addr->Prop) (fs:List Addr) (h h':Heap):Prop where
 keep:∀ b o,¬ P b->b∉fs->h.get? b=Dn o->h'.get? b=Dn o
 slot:∀ b o,¬ P b->h.get? b=Dn o->∃ sl,h'.get? b=Dn { o with slots:=sl }
 there:∀ b o,h.get? b=Dn o->∃ o',h'.get? b=Dn o'
theorem Mp.refl {P:Addr->Prop}{fs:List Addr}{h:Heap}:Mp P fs h h:=⟨fun _ _ _ _ e=>e,fun _ o _ e=>⟨o.slots,e⟩,fun _ o e=>⟨o,e⟩⟩
theorem Mp.trans {P:Addr->Prop}{fs:List Addr}{h h1 h2:Heap}(a:Mp P fs h h1)(b:Mp P fs h1 h2):Mp P fs h h2:=
 ⟨fun c o n m e=>b.keep c o n m (a.keep c o n m e),fun c o n e=>let ⟨_,e1⟩:=a.slot c o n e;let ⟨sl,e2⟩:=b.slot c _ n e1;⟨sl,e2⟩,fun c o e=>let ⟨o1,e1⟩:=a.there c o e;b.there c o1 e1⟩
section
variable {M:Model}{A:CT}{E:JI->kI->Prop}{s:kI}{P:Addr->Prop}{Z:JI->Prop}{e C:Addr}{od:Option Addr}
theorem zat {fl:Option Addr}{fs:List Addr}{Q:Unit->kI->Prop}(x:XN s.heap P Z e C od)(h:∀ h',XN h' P Z e C od->Mp P fs s.heap h'->Q () { s with heap:=h' }):Bu M A (setFlight (.ref e) fl) Q E s:=by
 obtain ⟨p,oe,vs,he,hc,hdd,hd,hz,h2,T,oT,ts,h1,hne,pT,hT,hdT,h3⟩:=x;unfold setFlight;refine BL<|HI he hd h1 ?_
 rw [if_pos (show (Value.ref T != Value.none)=true from by simp)];refine RZ hT hdT h3<|h _ ?_ ?_
 ·have hd3:=Ml hdT (·.setIfInBounds 3 (fl.elim Value.none fun f=>K6 f));refine ⟨p,oe,vs,?_,hc,hdd,hd,hz,h2,T,_,_,h1,hne,pT,Lb _ hT<|Qf hd3,hd3,by simpa using h3⟩;rw [Ld _ _ hne];exact he
 ·have ne:∀ b,¬ P b->T≠b:=fun b n q=>n (q ▸ pT)
  refine ⟨fun b o n _ q=>by rw [Ld _ _<|ne b n];exact q,fun b o n q=>⟨o.slots,by rw [Ld _ _<|ne b n];exact q⟩,fun b o q=>?_⟩;by_cases hb:T=b
  ·subst hb;exact ⟨_,Lb _ hT<|Qf<|Ml hdT _⟩
  ·exact ⟨o,by rw [Ld _ _ hb];exact q⟩
theorem Ab {base:Heap}{env:Env}{outer:List Env}{L:Addr}{oe:Obj}{vs:Array JI}{head:JI}{hadNext:Bool}{Q:Unit->kI->Prop}
  (hfr:A.frames=Dn (env::outer)) (hl:s.heap.FunFrames base (env::outer)) (hf:env.frame=Dn L) (pe:P e) (he:s.heap.get? e=Dn oe) (hc:oe.cls=.ref C) (hdd:oe.dict=od) (hd:oe.data=.fields vs) (hz:vs.size<=1000) (h2:Cz Z vs)
  (pn:∀ b,s.heap.get? b=Go->P b) (h:∀ h',XN h' P Z e C od->Mp P (frs (env::outer)) s.heap h'->Q () { s with heap:=h' }) :
  Bu M A (do let a <-frameOf env;let pl <-entryPlaceOf L hadNext;let b <-EntryCells.newEntry head a .none (K6 L) .none pl;setField (.ref e) 1 b) Q E s:=by
 have hsz:1<vs.size:=Nat.lt_trans (by decide) h2.size;have hene:e∉(env::outer).filterMap (·.frame):=fun hm=>by
  obtain ⟨_,o,ho,hnf⟩:=hl.mem hm;rw [he] at ho;injection ho with ho;subst ho;exact hnf vs hd
 refine BL<|wpAny_frameOf_fun hfr hl hf fun h₁ hs₁=>?_
 refine BL<|wpAny_entryPlaceOf fun pl hpl=>?_
 unfold EntryCells.newEntry newFields;refine BL<|ML ?_<|hpl.sizeOk5 _ _ _ _ _
 have he₁ : h₁.get? e=Dn oe:=(hs₁.2.1 e hene).trans he;have he₂:=Dm (h:=h₁) { cls:=.type "traceback",dict:=Go,data:=.fields ([head,.ref L,.none,K6 L,.none]++(if pl.isEmpty then Mz 6 Value.none else pl)).toArray } he₁;refine RZ he₂ hd hsz<|h _ ?_ ?_
 ·have hTe:h₁.objs.size≠e:=Lk (Dj he₁);have hd₃:=Ml hd (·.setIfInBounds 1 (Value.ref h₁.objs.size));refine ⟨pe,_,_,Lb _ he₂ (Qf hd₃),by rw [Ut];exact hc,?_,hd₃,by simpa using hz,(let ⟨z,e2,hz2⟩:=h2;⟨z,by rw [Array.getElem?_setIfInBounds_ne (by decide)];exact e2,hz2⟩),h₁.objs.size,_,_,by simp [hsz],hTe,
   pn _ (Um (by rw [hs₁.1];exact Dp _)),(Ld _ _ (Eu hTe)).trans (HD h₁ rfl),rfl,by simp only [Em,Lr,Jb,List.length_nil] <;> lia⟩
  obtain ⟨c,dd,dt,sl⟩:=oe;cases hd;exact hdd
 ·have ne:∀ b,¬ P b->e≠b:=fun b n q=>n (q ▸ pe)
  refine ⟨fun b o n m q=>?_,fun b o n q=>?_,fun b o q=>?_⟩
  ·rw [Ld _ _ (ne b n)];exact Dm _<|(hs₁.2.1 b m).trans q
  ·obtain ⟨sl,e1⟩:=hs₁.2.2 b o q;exact ⟨sl,by rw [Ld _ _<|ne b n];exact Dm _ e1⟩
  ·obtain ⟨sl,e1⟩:=hs₁.2.2 b o q;by_cases hb:e=b
   ·subst hb;exact ⟨_,Lb _ he₂<|Qf<|Ml hd _⟩
   ·exact ⟨_,by rw [Ld _ _ hb];exact Dm _ e1⟩
theorem agH {base:Heap}{env:Env}{outer:List Env}{L:Addr}{Q:Unit->kI->Prop}(hfr:A.frames=Dn (env::outer))(hl:s.heap.FunFrames base (env::outer))(hf:env.frame=Dn L)(x:XO s.heap P Z e C od)
  (pn:∀ b,s.heap.get? b=Go->P b) (pf:∀ b∈frs (env::outer),¬ P b) (h:∀ h',XN h' P Z e C od->Mp P (frs (env::outer)) s.heap h'->Q () { s with heap:=h' }):Bu M A (noteFrame (.ref e) env) Q E s:=by
 obtain ⟨p,oe,vs,he,hc,hdd,hd,hz,h2,z⟩:=x;unfold noteFrame;simp only [hf];rcases z with h1 | ⟨T,oT,ts,h1,hne,pT,hT,hdT,h3⟩
 ·refine BL<|HI he hd h1 ?_
  rw [if_neg (by decide)];exact Ab hfr hl hf p he hc hdd hd hz h2 pn h
 ·refine BL<|HI he hd h1 ?_
  rw [if_pos (show (Value.ref T != Value.none)=true from by simp)];refine BL<|HI hT hdT (x:=ts[3]) (by simp [h3]) ?_
  by_cases q:(ts[3]==K6 L)=true
  ·rw [if_pos q];exact CP<|h s.heap ⟨p,oe,vs,he,hc,hdd,hd,hz,h2,T,oT,ts,h1,hne,pT,hT,hdT,h3⟩ .refl
  ·rw [if_neg q];refine BL<|RZ hT hdT h3 ?_
   have other:∀ b,b≠T->(s.heap.update T (Obj.mapFields (·.setIfInBounds 3 Value.none))).get? b=s.heap.get? b:=fun b hb=>Ld _ _ (Eu hb)
   have nT:∀ b,¬ P b->b≠T:=fun b n q=>n (q ▸ pT)
   have st:Mp P (frs (env::outer)) s.heap (s.heap.update T (Obj.mapFields (·.setIfInBounds 3 Value.none))):=by
    refine ⟨fun b o n _ q=>(other b<|nT b n).trans q,fun b o n q=>⟨o.slots,(other b<|nT b n).trans q⟩,fun b o q=>?_⟩;by_cases hb:T=b
    ·subst hb;exact ⟨_,Lb _ hT<|Qf<|Ml hdT _⟩
    ·exact ⟨o,(other b<|Eu hb).trans q⟩
   refine Ab (s:={ s with heap:=s.heap.update T (Obj.mapFields (·.setIfInBounds 3 Value.none)) }) hfr (hl.of_keeps fun b o hb hnf=>⟨o,(other b fun q=>?_).trans hb,rfl⟩) hf p ((other e<|Eu hne).trans he) hc hdd hd hz h2 (fun b q=>?_) fun h' x1 x2=>h h' x1<|st.trans x2
   ·rw [q,hT] at hb;injection hb with hb;subst hb;exact hnf ts hdT
   ·by_cases hb:b=T
    ·rw [hb];exact pT
    ·exact pn b<|(other b hb).symm.trans q
end
theorem gJ.obj {P:CR}{w:CQ}{H:Hp}{h:Heap}{a:Addr}{o:HO}(x:gJ P w H h a o):∃ ob,h.get? a=Dn ob:=by
 cases o with
 | lst xs=>obtain ⟨_,_,_,_,e⟩:=x;exact ⟨_,e⟩
 | tup xs=>obtain ⟨_,_,_,ob,e,_⟩:=x;exact ⟨_,e⟩
 | dK kvs=>obtain ⟨_,_,_,_,o,_,_,e,_⟩:=x;exact ⟨_,e⟩
 | dT kvs=>obtain ⟨_,_,_,_,o,_,_,e,_⟩:=x;exact ⟨_,e⟩
 | set S n=>obtain ⟨o,_,_,_,e,_⟩:=x;exact ⟨_,e⟩
 | ins C dx fs=>obtain ⟨_,_,_,e,_⟩:=x;exact ⟨_,e⟩
 | own y=>obtain ⟨_,e⟩:=x;exact ⟨_,e⟩
 | xd fs=>obtain ⟨_,⟨_,_,_,e,_⟩,_⟩:=x;exact ⟨_,e⟩
 | rng lo hi=>obtain ⟨_,_,_,e⟩:=x;exact ⟨_,e⟩
 | frz ob u=>obtain ⟨e,_⟩:=x;exact ⟨_,e⟩
 | tbl ps=>exact ⟨_,show h.get? a=Dn _ from x⟩
 | met f y=>exact ⟨_,show h.get? a=Dn _ from x⟩
 | ext φ=>obtain ⟨_,⟨_,e⟩,_⟩:=x;exact ⟨_,e⟩
section
variable {X:Cx}{pins:List (Addr×Obj)}{σ : St}{H H':Hp}{s s':kI}{b e C:Addr}{od:Option Addr}
structure New (X:Cx) (pins:List (Addr×Obj)) (H:Hp) (b:Addr):Prop where
 h:H b=Go
 s:b∈X.ex\/X.s₀.heap.get? b=Go
 l:b≠X.env.locals
 c:∀ x c,X.env.cells.lookup x=Dn c->c≠b
 p:∀ p∈X.pn++pins,p.1≠b
 f:b∉X.fs
theorem BZ.newOf (I:BZ X pins σ H s)(hb:s.heap.get? b=Go):New X pins H b where
 h:=by
  cases q:H b with
  | none=>rfl
  | some u=>obtain ⟨ob,e⟩:=(I.hok b u q).obj;rw [hb] at e;cases e
 s:=by
  by_cases hx:b∈X.ex
  ·exact .inl hx
  ·cases q:X.s₀.heap.get? b with
   | none=>exact .inr rfl
   | some o=>obtain ⟨o',e⟩:=I.base.there b o q hx;rw [hb] at e;cases e
 l:=fun z=>by obtain ⟨m,⟨o,_,_,ho,_⟩,_⟩:=I.loc;rw [<-z,hb] at ho;cases ho
 c:=fun x c e z=>by obtain ⟨v,o,ho,_⟩:=I.cell x c e;rw [z,hb] at ho;cases ho
 p:=fun p hp z=>by have ho:=(I.pin p hp).1;rw [z,hb] at ho;cases ho
 f:=fun hm=>by obtain ⟨_,o,ho,_⟩:=I.funs.mem hm;rw [hb] at ho;cases ho
open Classical in
theorem BZ.stp {h':Heap}(I:BZ X pins σ H s)(st:Mp (New X pins H) (frs X.stack) s.heap h'):BZ X pins σ H { s with heap:=h' }:=by
 have inCh:∀ b o,s.heap.get? b=Dn o->b∉(Jo s.heap.objs.size).filter (fun b=>decide (New X pins H b))->¬ New X pins H b:=fun b o e n z=>
  n (Rz.mpr ⟨Mw.mpr (Dj e),decide_eq_true z⟩)
 refine I.stepG (g':=s.gens) (t':=s.toks) (d':=s.drawn) (ch:=(Jo s.heap.objs.size).filter (fun b=>decide<|New X pins H b)) (fun b hb=>?_) (fun b o hL hf hc e n=>?_) (fun b o _ _ hc e _=>st.slot b o (inCh b o e hc) e) (fun _ _ _ _ n=>n)
  (fun b o _ e=>st.there b o e) (fun _ _ q=>q) (fun _ _ _ q=>q) (fun _ ps q=>⟨#[],by rw [q];simp⟩) (fun m hm=>?_) (fun b u q=>?_) I.bare
 ·have z:=of_decide_eq_true (Rz.mp hb).2;exact ⟨z.s,z.l,z.c,z.p⟩
 ·exact st.keep b o (inCh b o e hc) (fun z=>(Cr.mp<|I.stkSub b z).elim hL hf) e
 ·obtain ⟨o,es,ep,ho,r⟩:=hm;obtain ⟨sl,q⟩:=st.slot _ o (fun z=>z.l rfl) ho;exact ⟨_,es,ep,q,r⟩
 ·refine (I.hok b u q).stay (fun c v hc r=>?_) (fun _ q=>q) fun _ _ q=>q;have hH:H c≠Go:=by
   rcases hc with z | z
   ·rw [z,q];simp
   ·rw [z];simp
  exact st.keep c v (fun z=>hH z.h) (fun z=>hH<|I.stkFree c z) r
inductive Kr (N:Addr->Prop) (H:Hp):JI->Prop
 | nil:Kr N H .none
 | cons {c:Addr} {o:Obj} {u:HO} {vs:Array JI} {z:JI} (n:N c) (h1:H c=Dn (.frz o u)) (h2:o.data=.fields vs) (h3:vs[2]?=Dn z) (t:Kr N H z):Kr N H (.ref c)
theorem Kr.mono {N N':Addr->Prop}{H H':Hp}{z:JI}(c:Kr N H z)(k:∀ a,N a->N' a)(kh:∀ a o u,H a=Dn (.frz o u)->H' a=Dn (.frz o u)):Kr N' H' z:=by
 induction c with
 | nil=>exact .nil
 | cons n h1 h2 h3 _ ih=>exact .cons (k _ n) (kh _ _ _ h1) h2 h3 ih
def NwX (X:Cx)(c:Addr):Prop:=c∈X.ex\/X.s₀.heap.get? c=Go
structure FX (X:Cx) (pins:List (Addr×Obj)) (σ : St) (H:Hp) (s:kI) (e C:Addr) (od:Option Addr):Prop where
 inv:BZ X pins σ H s
 xo:XO s.heap (New X pins H) (Kr (NwX X) H) e C od
structure FN (X:Cx) (pins:List (Addr×Obj)) (σ : St) (H:Hp) (s:kI) (e C:Addr) (od:Option Addr):Prop where
 inv:BZ X pins σ H s
 xn:XN s.heap (New X pins H) (Kr (NwX X) H) e C od
theorem FN.fx (F:FN X pins σ H s e C od):FX X pins σ H s e C od:=⟨F.inv,F.xn.xo⟩
def Top (X:Cx):Prop:=X.stack=X.env::X.outer/\X.env.frame=Dn X.env.locals
theorem FX.note {M:Model}{A:CT}{E:JI->kI->Prop}{Q:Unit->kI->Prop}(F:FX X pins σ H s e C od)(ht:Top X)(hA:A.frames=Dn X.stack)(h:∀ h',FN X pins σ H { s with heap:=h' } e C od->Q () { s with heap:=h' }) :
  Bu M A (noteFrame (.ref e) X.env) Q E s:=by
 have hst:=F.inv.stack;rw [ht.1] at hst hA;refine agH (P:=New X pins H) hA hst ht.2 F.xo (fun b hb=>F.inv.newOf hb) (fun b hb z=>?_) fun h' x st=>h h' ⟨F.inv.stp (by rw [ht.1];exact st),x⟩;have hb':b∈frs X.stack:=by rw [ht.1];exact hb
 rcases Cr.mp (F.inv.stkSub b hb') with q | q
 ·exact z.l q
 ·exact z.f q
theorem FN.flight {M:Model}{A:CT}{E:JI->kI->Prop}{Q:Unit->kI->Prop}{fl:Option Addr}(F:FN X pins σ H s e C od)(h:∀ h',FN X pins σ H { s with heap:=h' } e C od->Q () { s with heap:=h' }) :
  Bu M A (setFlight (.ref e) fl) Q E s:=zat (fs:=frs X.stack) F.xn fun h' x st=>h h' ⟨F.inv.stp st,x⟩
def Qm (P:CR)(w:CQ):Lw:=fun outer H s E e s'=>∃ (a C:Addr) (od:Option Addr) (H':Hp),e=.ref a/\s'.os=s.os/\Q0 s'.gens/\Un (frs outer) [] H H' s.heap s'.heap/\HS P w H' s'.heap /\
 XN s'.heap (fun b=>H' b=Go/\s.heap.get? b=Go) (Kr (fun b=>s.heap.get? b=Go) H') a C od/\E (.ref C) od H'
theorem FX.leave {M:Model}{E':JI->kI->Prop}{E:XK}(F:FX X pins σ H s e C od)(ht:Top X)(hx:X.ex=[])(he:E (.ref C) od H) :
  Bu M X.A (leaving X.env (.ref e)) (fun _ s3=>Qm X.prog X.w X.outer X.H₀ X.s₀ E (.ref e) s3) E' s:=by
 unfold leaving;refine BL<|F.note ht F.inv.ok.frames fun h1 F1=>F1.flight fun h2 F2=>?_
 have I:=F2.inv;refine ⟨e,C,od,H,rfl,I.os,I.bare,by have:=I.base;rw [hx] at this;exact this,I.hok,F2.xn.mono (fun b z=>⟨z.h,?_⟩)<|fun z c=>c.mono (fun b q=>?_) fun _ _ _ q=>q,he⟩
 ·rcases z.s with q | q
  ·rw [hx] at q;cases q
  ·exact q
 ·rcases q with q | q
  ·rw [hx] at q;cases q
  ·exact q
theorem BZ.cxx {E:XK}{ev:JI}(I:BZ X pins σ H s)(h:Qm X.prog X.w X.stack H s E ev s'):∃ (a C:Addr) (od:Option Addr) (H':Hp),ev=.ref a/\FN X pins σ H' s' a C od/\E (.ref C) od H':=by
 obtain ⟨a,C,od,H',e1,os,bare,un,hok,x,he⟩:=h;refine ⟨a,C,od,H',e1,⟨I.call' os un hok bare (ch:=[])<|fun b z=>absurd z<|by simp,x.mono (fun b z=>?_) fun z c=>c.mono (fun b q=>(I.newOf q).s) fun _ _ _ q=>q⟩,he⟩;have n:=I.newOf z.2;exact ⟨z.1,n.s,n.l,n.c,n.p,n.f⟩
end
theorem afI {K:Bs}{h:Heap}{C:Addr}{bm:List JI}{newId:String}(X:K.In h)(q:Ko K C bm newId=true) :
  ∃ (tl:List JI) (N:Addr) (nm qn:Str) (bs:List JI) (hd:Bool) (sn:List Str) (sub:List JI) (ab:Bool) (col:Option Bool) (dd:Option Addr) (k0 k1 k2 k3 k5:Option JI) (mN:Str->Option JI),
   K.lookup C=Dn (Rm nm qn C N bs tl hd sn sub ab col dd k0 k1 k2 k3 k5 newId)/\h.Ns N mN/\mN "__init__" = Go/\OwnTail h bm tl:=by
 unfold Ko at q;split at q
 ·rename_i dd cd sl ho;split at q
  ·rename_i C' bm' k0 k1 k2 k3 n k5 hm hs;simp only [Kf,beq_iff_eq,TY] at q;obtain ⟨⟨⟨⟨⟨rfl,rfl⟩,hdel⟩,ht⟩,hok⟩,hni⟩:=q;obtain ⟨nm,bs,mro,ns,qn,hd,sn,sub,ab,col,del⟩:=cd;dsimp only at hm hdel hok hni;subst hm hdel;have hsl:sl = #[k0,k1,k2,k3,Dn (.builtin n),k5]:=by
    obtain ⟨l⟩:=sl;simp only at hs;rw [hs]
   subst hsl;exact ⟨bm',ns,nm,qn,bs,hd,sn,sub,ab,col,dd,k0,k1,k2,k3,k5,_,ho,.of_isNs<|PySem.W.isNs_of_in X hok,PySem.W.nsMap_none_of_in X hok hni,PySem.W.tail_of_in X ht⟩
  ·cases q
 ·cases q
section
variable {X:Cx}{pins:List (Addr×Obj)}{σ : St}{H:Hp}{s:kI}{C:Addr}{x:Str}{np cpos pos:Pos}{e:Expr}{es:List Expr}{t:TA}
theorem zar {Q:Flow->kI->Prop}{R:Hp->Prop}(hc:X.calm=true)(hg:Gl X x)(hm:X.mg x=Dn (.ref C))(hq:Ko X.K C J6 "ValueError.__new__" = true)(ha:PA X (e::es) t)
  (I:BZ X pins σ H s) (h:t σ H fun vs H1=>vs.length<=Dk/\R H1) (hx:∀ a H1 s',FX X pins σ H1 s' a C Go->R H1->X.xe (.ref a) s')
  (hdb:(x==("__debug__" : Str))=false:=by decide) (he:Ce (e::es) X.env=(false,eval e X.env)::Ce es X.env:=by rfl) (hpl:(HB cpos (Ce es X.env)).any (·.1)=false:=by rfl) :
  Bu (Bx X.prog X.w) X.A (exec (.Raise (Dn (.Call (.Name x np) (e::es) [] cpos)) Go pos) X.env) Q X.xe s:=by
 obtain ⟨tl,N,nm,qn,bs,hd,sn,sub,ab,col,dd,k0,k1,k2,k3,k5,mN,hC,hN,hni,T⟩:=afI I.mod.kin hq;refine wpAny_Raise_call_subT (C:=C) (nm:=nm) (q:=qn) (N:=N) (bs:=bs) (bm:=tl) (hdct:=hd) (sn:=sn) (sub:=sub) (ab:=ab) (col:=col) (dd:=dd) (k0:=k0) (k1:=k1) (k2:=k2) (k3:=k3) (k5:=k5)
  Va (mN:=mN) (T.hasType Va.hasBase) (I.ok.hd hc) (by rw [he];show (false||(HB cpos (Ce es X.env)).any (·.1))=false;rw [hpl];rfl) hni (lH I hg hm ⟨rfl,?_⟩ hdb)
 have g:=ha cpos pins s σ H _ I h;rw [he] at g |-
 refine Calls.evalArgs_plain<|DW g fun us s2 ⟨vs,H2,I2,r,z,k⟩=>⟨rfl,?_,I2.kIn _ _ hC,hN.keeps I2.bk,T.keeps I2.bk,fun h' a M=>hx a H2 _ ⟨I2.kept (t':=s2.toks) M.keeps,?_⟩ k⟩
 ·show us.length<=Dk;rw [<-r.length];exact z
 ·obtain ⟨tt,h1,h2,h3⟩:=M.there;exact ⟨I2.newOf M.new,_,_,h1,rfl,rfl,rfl,by simp,⟨.none,rfl,.nil⟩,.inl rfl⟩
end
def Zx (K:Bs)(H:Hp)(μ : Mu)(C:Addr)(n:Str)(od:Option Addr)(fs:List (Str×W)):Prop:=
 (od=Go/\fs=[])\/∃ dd ws xs,od=Dn dd/\Uo K C n=true/\fs=(wF n).zip ws/\ws.length=(wF n).length/\(wF n).length=xs.length/\H dd=Dn (.xd ((wF n).zip xs))/\aN K H μ ws xs
def XT (X:Cx)(H:Hp)(μ : Mu)(Γ : St->Prop)(E:CK):JI->kI->Prop:=fun ev s=>∃ (a C:Addr) (n:Str) (od:Option Addr) (fs:List (Str×W)) (pins:List (Addr×Obj)) (σ : St) (H':Hp) (μ':Mu) (h':Gh),ev=.ref a/\FX X pins σ H' s a C od/\j6 X.K C n=true/\Γ σ /\
 Ei X.K H μ H' μ'/\Ci X.K μ' H' h'/\Zx X.K H' μ' C n od fs/\E ⟨n,fs⟩ h'
theorem XT.trans {X:Cx}{H H1:Hp}{μ μ1:Mu}{Γ : St->Prop}{E:CK}{ev:JI}{s:kI}(x:XT X H1 μ1 Γ E ev s)(e:Ei X.K H μ H1 μ1):XT X H μ Γ E ev s:=by
 obtain ⟨a,C,n,od,fs,pins,σ,H',μ',h',h1,h2,h3,h4,h5,h6⟩:=x;exact ⟨a,C,n,od,fs,pins,σ,H',μ',h',h1,h2,h3,h4,e.trans h5,h6⟩
def tDX (X:Cx)(Γ : St->Prop)(m:CK->ME):TE:=fun σ H Q=>Γ σ/\∃ μ h σw Qw E,Ci X.K μ H h/\Slots X.K H μ σw σ/\m E σw h Qw/\(∀ v H',DQ X.K H μ Qw v H'->Q v H')/\∀ ev s',XT X H μ Γ E ev s'->X.xe ev s'
def aco (X:Cx)(Γ : St->Prop)(m:CK->MS):TS:=fun D σ H=>Γ σ/\∃ μ h σw Dw E,Ci X.K μ H h/\Slots X.K H μ σw σ/\m E Dw σw h/\uE X.K H μ Dw D/\∀ ev s',XT X H μ Γ E ev s'->X.xe ev s'
abbrev DEx (X:Cx)(Γ : St->Prop)(e:Expr)(m:CK->ME):Prop:=PE X e (tDX X Γ m)
abbrev Pq (X:Cx)(Γ : St->Prop)(st:Stmt)(m:CK->MS):Prop:=PS X st (aco X Γ m)
abbrev Dv (X:Cx)(Γ : St->Prop)(st:List Stmt)(m:CK->MS):Prop:=KQ X st (aco X Γ m)
def Cg (K:Bs)(ms:BK):Sp:=fun vs H Q E=>∃ μ h ws Qw Ew,Ci K μ H h/\aN K H μ ws vs/\ms ws h Qw Ew/\(∀ v H',DQ K H μ Qw v H'->Q v H') /\
 ∀ (C:Addr) (n:Str) (od:Option Addr) (fs:List (Str×W)) (H':Hp),j6 K C n=true->(∃ μ' h',Ei K H μ H' μ'/\Ci K μ' H' h'/\Zx K H' μ' C n od fs/\Ew ⟨n,fs⟩ h')->E (.ref C) od H'
theorem iW.tame {P:CR}{w:CQ}{K:Bs}{mg:Str->Option JI}{base:Heap}{k:Nat}{f:Addr}{fd:Ib}{ps:List Str}{ms:BK}(F:iW P w K mg base (Qm P w) k f fd ps (Cg K ms)):iW P w K mg base Jj k f fd ps (lift K ms):=by
 have up:∀ vs H Q E,lift K ms vs H Q E->Cg K ms vs H Q E0:=fun vs H Q E ⟨μ,h,ws,Qw,R,r,m,q⟩=>⟨μ,h,ws,Qw,EF,R,r,m,q,fun _ _ _ _ _ _ ⟨_,_,_,_,_,z⟩=>z⟩
 refine ⟨fun vs H Q E q=>F.len vs H Q E0<|up _ _ _ _ q,fun A outer s H args us vs Q E hr e0 hb hv hs=>RT (F.run A outer s H args us vs Q E0 hr e0 hb hv<|up _ _ _ _ hs) fun r s' h=>?_⟩;cases r with
 | error e=>obtain ⟨_,_,_,_,_,_,_,_,_,_,z⟩:=h;exact z
 | ok fl=>cases fl <;> exact h
section
variable {X:Cx}{Γ : St->Prop}{e c:Expr}{es:List Expr}{mr:MA}{pos:Pos}{st:Stmt}{rest:List Stmt}
theorem wJ {k:Nat}{f:Addr}{fd:Ib}{ps:List Str}{ms:BK}{x:Str}{p:Pos}(F:iW X.prog X.w X.K X.mg X.base (Qm X.prog X.w) k f fd ps (Cg X.K ms))(hr:fP k X.A)(hg:Gl X x)(hm:X.mg x=Dn (.ref f))(hk:Lp X.K (.ref f)=true)
  (hb:Binds X.K fd ps []) (ha:Hr X (e::es) mr) (hdb:(x==("__debug__" : Str))=false:=by decide) (he:Ce (e::es) X.env=(false,eval e X.env)::Ce es X.env:=by rfl) (hpl:(HB pos (Ce es X.env)).any (·.1)=false:=by rfl) :
  DEx X Γ (.Call (.Name x p) (e::es) [] pos) (fun E=>aG ms E mr):=by
 intro pins s σ H Q I ⟨hσ,μ,h,σw,Qw,E,R,S,m,q,kx⟩;refine RW<|lH I hg hm ?_ hdb
 refine PySem.W.callWith_K (h₀:=X.base) I.ok.mod.kin hk (DW (ha pos pins s σ H (fun vs H1=>DA X.K H μ (fun ws h1=>ms ws h1 Qw E) vs H1) I ⟨μ,h,σw,_,R,S,m,fun _ _ z=>z⟩) fun us s1 ⟨vs,H1,I1,r,μ1,ws,h1,e1,R1,r1,m1⟩=>⟨I1.kIn,?_⟩) he hpl;have sp:Cg X.K ms (vs++[]) H1 Q (fun Cv od H'=>∃ (C:Addr) (n:Str) (fs:List (Str×W)) (μ':Mu) (h':Gh),Cv=.ref C/\j6 X.K C n=true/\Ei X.K H1 μ1 H' μ'/\Ci X.K μ' H' h'/\Zx X.K H' μ' C n od fs/\E ⟨n,fs⟩ h'):=by
  rw [Ue];exact ⟨μ1,h1,ws,Qw,E,R1,r1,m1,fun v H' z=>q _ _<|z.trans e1,fun C n od fs H' hx ⟨μ',h',z⟩=>⟨C,n,fs,μ',h',rfl,hx,z⟩⟩
 have r2:CJ (vs++[]) (us++[]):=r.append .nil;have hl:(us++[]).length=ps.length:=by rw [<-r2.length];exact F.len _ _ _ _ sp
 refine wpAny_call<|RT (F.run X.A X.stack s1 H1 ⟨us,[]⟩ (us++[]) (vs++[]) Q _ hr I1.env0 (hb s1 us I1.kIn hl) r2 sp) fun r s' hq=>?_
 cases r with
 | error ev=>
  obtain ⟨a,C,od,H',e2,F2,C',n,fs,μ',h',e3,hx,e4,R4,k4⟩:=I1.cxx (E:=fun Cv od H'=>∃ (C:Addr) (n:Str) (fs:List (Str×W)) (μ':Mu) (h':Gh),Cv=.ref C/\j6 X.K C n=true/\Ei X.K H1 μ1 H' μ'/\Ci X.K μ' H' h'/\Zx X.K H' μ' C n od fs/\E ⟨n,fs⟩ h') hq;cases e3;exact kx ev s' ⟨a,C,n,od,fs,pins,σ,H',μ',h',e2,F2.fx,hx,hσ,e1.trans e4,R4,k4⟩
 | ok fl=>
  cases fl with
  | ret u=>exact I1.after hq
  | next=>exact Ku hq
  | brk=>exact Ku hq
  | cont=>exact Ku hq
theorem cH {m:MS}(h:DS X st m):Pq X Γ st (fun _=>m):=h.of fun D σ H ⟨_,μ,h,σw,Dw,_,R,S,m,k,_⟩=>⟨μ,h,σw,Dw,R,S,m,k⟩
theorem bY:Dv X Γ [] (fun _=>bG):=bf.of fun D σ H ⟨_,μ,h,σw,Dw,_,R,S,m,k,_⟩=>⟨μ,h,σw,Dw,R,S,m,k⟩
theorem aR {m:CK->MS}(h:Pq X Γ st m):Dv X Γ [st] m:=wO h
theorem aP {m1 m2:CK->MS}(hΓ : ∀ σ,Γ σ)(h1:Pq X Γ st m1)(h2:Dv X Γ rest m2):Dv X Γ (st::rest) (fun E=>aZ (m1 E) (m2 E)):=(zL h1 h2).of fun D σ H ⟨g,μ,h,σw,Dw,E,R,S,m,k,kx⟩=>by
 refine ⟨g,μ,h,σw,_,E,R,S,m,⟨?_,k.rt,k.bk,k.ct⟩,kx⟩;intro σ' H' ⟨μ1,σw1,h1,e1,R1,S1,m1⟩;exact ⟨hΓ _,μ1,h1,σw1,Dw,E,R1,S1,m1,k.trans e1,fun ev s' z=>kx ev s'<|z.trans e1⟩
theorem aep {ma:CK->ME}(he:DEx X Γ e ma)(hs:QC e Go pos.line X.env=pure false:=by rfl):Pq X Γ (.Expr e pos) (fun E=>uI (ma E)):=(JN he hs).of fun D σ H ⟨g,μ,h,σw,Dw,E,R,S,m,k,kx⟩=>
 ⟨g,μ,h,σw,_,E,R,S,m,fun v H1 ⟨μ1,w,h1,e1,R1,_,m1⟩=>k.nx _ _ ⟨μ1,σw,h1,e1,R1,S.ext e1,m1⟩,kx⟩
theorem dF {ma:CK->ME}(he:DEx X Γ e ma):Pq X Γ (.Return (Dn e) pos) (fun E=>bI (ma E)):=(M7 he).of fun D σ H ⟨g,μ,h,σw,Dw,E,R,S,m,k,kx⟩=>⟨g,μ,h,σw,_,E,R,S,m,k.rt,kx⟩
theorem dZ {a b:List Stmt}{t:MT}{m1 m2:CK->MS}(hc:DT X c t)(ha:Dv X Γ a m1)(hb:Dv X Γ b m2):Pq X Γ (.If c a b pos) (fun E=>dY t (m1 E) (m2 E)):=(X6 hc ha hb).of fun D σ H ⟨g,μ,h,σw,Dw,E,R,S,m,k,kx⟩=>by
 refine ⟨μ,h,σw,_,R,S,m,fun b H1 ⟨μ1,h1,e1,R1,q⟩=>?_⟩;cases b with
 | true=>rw [if_pos rfl];exact ⟨g,μ1,h1,σw,Dw,E,R1,S.ext e1,q.1 rfl,k.trans e1,fun ev s' z=>kx ev s' (z.trans e1)⟩
 | false=>rw [if_neg Hi];exact ⟨g,μ1,h1,σw,Dw,E,R1,S.ext e1,q.2 rfl,k.trans e1,fun ev s' z=>kx ev s' (z.trans e1)⟩
theorem ahI {ma:CK->ME}{i:Nat}{x:Str}{pos':Pos}(hN:X.N.Nodup)(hi:X.N[i]?=Dn x)(hx:Loc X.env.scope x)(he:DEx X Γ e ma)(hs:QC e (Dn (.Name x pos')) pos.line X.env=pure false:=by rfl)
  (hf:X.fn x=true\/X.env.scope.names.lookup x=Dn .local:=by first | exact .inl rfl | exact .inr rfl | assumption):Pq X Γ (.Assign [.Name x pos'] e pos) (fun E=>bQ (ma E) (BW i)):=
 (O2 hN hi hx he hs hf).of fun D σ H ⟨g,μ,h,σw,Dw,E,R,S,m,k,kx⟩=>
  ⟨g,μ,h,σw,_,E,R,S,m,fun v H1 ⟨μ1,w,h1,e1,R1,r1,m1⟩=>k.nx _ _ ⟨μ1,σw.set i (Dn w),h1,e1,R1,(S.ext e1).set r1 i,m1⟩,kx⟩
theorem cQ {C:Addr}{x v:Str}{j}{np cpos p1:Pos}(hc:X.calm=true)(hg:Gl X x)(hm:X.mg x=Dn (.ref C))(hq:Ko X.K C J6 "ValueError.__new__" = true)(hx:j6 X.K C x=true)(hdb:(x==("__debug__" : Str))=false:=by decide) :
  Pq X Γ (.Raise (Dn (.Call (.Name x np) [.Constant (.str v) j p1] [] cpos)) Go pos) (fun E=>jk x E):=by
 intro pins s σ H D I ⟨g,μ,h,σw,Dw,E,R,S,m,k,kx⟩;refine zar (R:=fun H1=>∃ μ1 h1,Ei X.K H μ H1 μ1/\Ci X.K μ1 H1 h1/\E ⟨x,[]⟩ h1) hc hg hm hq (cV cF fD rfl) I ⟨μ,h,σw,fun ws h1=>ws.length=1/\E ⟨x,[]⟩ h1,R,S,⟨rfl,m⟩,fun vs H' ⟨μ1,ws,h1,e1,R1,r1,l1,m1⟩=>⟨by rw [<-r1.len,l1];decide,μ1,h1,e1,R1,m1⟩⟩ (fun a H1 s' F ⟨μ1,h1,e1,R1,m1⟩=>?_) hdb rfl rfl;exact kx _ s' ⟨a,C,x,Go,[],pins,σ,H1,μ1,h1,rfl,F,hx,g,e1,R1,.inl ⟨rfl,rfl⟩,m1⟩
end
theorem aaw {P:CR}{w:CQ}{K:Bs}{mg:Str->Option JI}{base:Heap}{x qual:Str}{st:Stmt}{f:Addr}{fd:Ib}{N ps:List Str}{k:Nat}{pure:Bool}{body:CK->MS}(F:Pj K x qual st f fd)(S:eX N ps (aQ st))
  (hb:∀ (cdv:JI) (A:CT) (outer:List Env) (s:kI) (H:Hp) (E:XK),fP k (A.deeper (M4 qual (aQ st) s.heap.objs.size f cdv)) ->
   Dv (BX (Qm P w) P w K mg base N qual (aQ st) f cdv A outer s H E) (fun _=>True) (cL st) body):iW P w K mg base (Qm P w) (k+1) f fd ps (Cg K (Dc ps.length N.length pure body)):=by
 obtain ⟨oc,od,kV,doc,pm,an,cdv,ct,osl,rfl,lk,hcd⟩:=F.ex;refine Vo lk hcd S (fun vs H Q E ⟨μ,h,ws,Qw,Ew,R,r,m,_,_⟩=>by rw [<-r.len];exact (yK m).1) fun A outer s H vs Q E hr ⟨μ,h,ws,Qw,Ew,R,r,m0,k,kx⟩=>?_;obtain ⟨hl,m⟩:=yK m0;refine ⟨_,hb cdv A outer s H E hr,trivial,μ,h,_,_,Ew,R,pA r,m,⟨?_,?_,?_,?_⟩,?_⟩
 ·rintro σ' H' ⟨μ1,σw1,h1,e1,R1,S1,m1⟩;exact k _ _<|tQ (w:=.non) R e1 R1 (by rw [Bo]) m1
 ·rintro v H' ⟨μ1,w1,h1,e1,R1,r1,m1⟩;exact k _ _<|tQ R e1 R1 r1 m1
 ·rintro σ' H' ⟨μ1,σw1,h1,e1,R1,S1,m1⟩;exact m1.elim
 ·rintro σ' H' ⟨μ1,σw1,h1,e1,R1,S1,m1⟩;exact m1.elim
 ·rintro ev s' ⟨a,C,n,od,fs,pins,σ',H',μ',h',rfl,F',hx,_,e1,R1,m1⟩;exact F'.leave ⟨rfl,rfl⟩ rfl<|kx C n od fs H' hx ⟨μ',h',e1,R1,m1⟩
abbrev Cx.tr (X:Cx)(pins:List (Addr×Obj))(xe:JI->kI->Prop):Cx:={ X with pn:=X.pn++pins,xe:=xe }
abbrev Cx.hnd (X:Cx)(a:Addr)(H0:Hp):Cx:={ X with A:=X.A.mark (Dn (.ref a)),H₀:=H0,calm:=false }
def rz (a:Addr)(o:Obj):HO:=.ext fun h=>h.get? a=Dn o
section
variable {X:Cx}{pins pins':List (Addr×Obj)}{σ : St}{H:Hp}{s:kI}{xe:JI->kI->Prop}{a C:Addr}{o:Obj}{u:HO}
theorem Cx.Ok.tr (ok:X.Ok)(pins:List (Addr×Obj))(xe:JI->kI->Prop):(X.tr pins xe).Ok:=
 ⟨ok.mod,ok.kind,ok.glob,ok.blt,ok.above,ok.inj,ok.has,ok.cab,ok.hd,ok.qt,ok.frames,ok.stk,ok.exf,ok.bs,ok.bsz,ok.noex,ok.exfs,ok.funs,ok.frf⟩
theorem Cx.Ok.untr (ok:(X.tr pins xe).Ok):X.Ok:=
 ⟨ok.mod,ok.kind,ok.glob,ok.blt,ok.above,ok.inj,ok.has,ok.cab,ok.hd,ok.qt,ok.frames,ok.stk,ok.exf,ok.bs,ok.bsz,ok.noex,ok.exfs,ok.funs,ok.frf⟩
theorem BZ.tr (I:BZ X pins σ H s):BZ (X.tr pins xe) [] σ H s:=⟨I.ok.tr pins xe,I.os,I.bare,I.base,I.loc,I.cell,I.free,I.freeC,fun p hp=>I.pin p (by
 have hp':p∈(X.pn++pins)++[]:=hp;rw [Ue] at hp';exact hp'),I.hok,I.len⟩
theorem BZ.untr (I:BZ (X.tr pins xe) pins' σ H s):BZ X pins σ H s:=⟨I.ok.untr,I.os,I.bare,I.base,I.loc,I.cell,I.free,I.freeC,fun p hp=>I.pin p (Tw _ hp),I.hok,I.len⟩
theorem New.untr {b:Addr}(n:New (X.tr pins xe) pins' H b):New X pins H b:=⟨n.h,n.s,n.l,n.c,fun p hp=>n.p p (Tw _ hp),n.f⟩
theorem FX.untr {e:Addr}{od:Option Addr}(F:FX (X.tr pins xe) pins' σ H s e C od):FX X pins σ H s e C od:=⟨F.inv.untr,F.xo.mono (fun _ n=>n.untr) fun _ z=>z⟩
theorem SP.untr {D:Ends}{f:Flow}{s':kI}(h:SP (X.tr pins xe) [] D f s'):SP X pins D f s':=by
 cases f with
 | next=>obtain ⟨σ',H',I,q⟩:=h;exact ⟨σ',H',I.untr,q⟩
 | brk=>obtain ⟨σ',H',I,q⟩:=h;exact ⟨σ',H',I.untr,q⟩
 | cont=>obtain ⟨σ',H',I,q⟩:=h;exact ⟨σ',H',I.untr,q⟩
 | ret v=>obtain ⟨v,σ',H',I,r,q⟩:=h;exact ⟨v,σ',H',I.untr,r,q⟩
structure K5 (X:Cx) (H0:Hp):Prop where
 s0:∀ b ob,X.s₀.heap.get? b=Dn ob->H0 b=X.H₀ b
 tups:∀ b xs,X.H₀ b=Dn (.tup xs)->H0 b=Dn (.tup xs)
 frzs:∀ b ob v,X.H₀ b=Dn (.frz ob v)->H0 b=Dn (.frz ob v)
 tbls:∀ b ps,X.H₀ b=Dn (.tbl ps)->H0 b=Dn (.tbl ps)
def V9 (X:Cx):Prop:=∀ v,X.A.handled=Dn v->Kr (NwX X) X.H₀ v
theorem Kr.lst {N:Addr->Prop}{H:Hp}{z:JI}(c:Kr N H z):∃ l:List Addr,(∀ b∈l,N b/\∃ o u,H b=Dn (.frz o u))/\∀ H0:Hp,(∀ b∈l,H0 b=H b)->Kr N H0 z:=by
 induction c with
 | nil=>exact ⟨[],fun b hb=>absurd hb (by simp),fun _ _=>.nil⟩
 | @cons c o u vs z n h1 h2 h3 _ ih=>
  obtain ⟨l,p,q⟩:=ih;refine ⟨c::l,fun b hb=>?_,fun H0 k=>.cons n ((k c<|by simp).trans h1) h2 h3<|q H0 fun b hb=>k b<|by simp [hb]⟩;rcases Cr.mp hb with rfl | hb
  ·exact ⟨n,o,u,h1⟩
  ·exact p b hb
theorem Kr.chn {N:Addr->Prop}{H:Hp}{z:JI}(c:Kr N H z):Mr H z:=by
 induction c with
 | nil=>exact .nil
 | cons _ h1 h2 h3 _ ih=>exact .cons h1 h2 h3 ih
open Classical in
theorem BZ.hnd {vs:Array JI}{z:JI}(I:BZ X pins σ H s)(n:New X pins H a)(hx:X.ex=[])(ho:s.heap.get? a=Dn o)(hd:o.data=.fields vs)(h2:vs[2]?=Dn z)(ch:Kr (NwX X) H z) :
  ∃ H0,K5 X H0/\V9 (X.hnd a H0)/\BZ (X.hnd a H0) pins σ (Cd H a (.frz o (rz a o))) s:=by
 obtain ⟨l,lp,lq⟩:=ch.lst;have s0:X.s₀.heap.get? a=Go:=by
  rcases n.s with q | q
  ·rw [hx] at q;cases q
  ·exact q
 have l0:∀ b∈l,X.s₀.heap.get? b=Go:=fun b hb=>by
  rcases (lp b hb).1 with q | q
  ·rw [hx] at q;cases q
  ·exact q
 have la:∀ b∈l,b≠a:=fun b hb q=>by
  obtain ⟨_,_,_,e⟩:=lp b hb;rw [q,n.h] at e;cases e
 let H0:Hp:=fun b=>if b=a then Dn (.frz o (rz a o)) else if b∈l then H b else X.H₀ b
 have hA:H0 a=Dn (.frz o (rz a o)):=if_pos rfl;have hL:∀ b∈l,H0 b=H b:=fun b hb=>(if_neg (la b hb)).trans (if_pos hb)
 have hO:∀ b,b≠a->b∉l->H0 b=X.H₀ b:=fun b h1 h3=>(if_neg h1).trans (if_neg h3)
 have ne:∀ b ob,X.s₀.heap.get? b=Dn ob->b≠a:=fun b ob e z=>by rw [z,s0] at e;cases e
 have nl:∀ b ob,X.s₀.heap.get? b=Dn ob->b∉l:=fun b ob e z=>by rw [l0 b z] at e;cases e
 have eq0:∀ b ob,X.s₀.heap.get? b=Dn ob->H0 b=X.H₀ b:=fun b ob e=>hO b (ne b ob e) (nl b ob e)
 have nf:∀ b∈X.fs,b≠a:=fun b hb z=>n.f (by rw [<-z];exact hb)
 have nfl:∀ b∈X.fs,b∉l:=fun b hb z=>by
  obtain ⟨_,ob,ho,_⟩:=I.ok.funs.mem hb;exact nl b ob ho z
 have kf:∀ b ob v,X.H₀ b=Dn (.frz ob v)->H0 b=Dn (.frz ob v):=fun b ob v e=>by
  have e1:=I.base.frzs b ob v e;by_cases hb:b=a
  ·rw [hb,n.h] at e1;cases e1
  ·by_cases hl:b∈l
   ·rw [hL b hl];exact e1
   ·rw [hO b hb hl];exact e
 have kt:∀ b xs,X.H₀ b=Dn (.tup xs)->H0 b=Dn (.tup xs):=fun b xs e=>by
  have e1:=I.base.tups b xs e;by_cases hb:b=a
  ·rw [hb,n.h] at e1;cases e1
  ·by_cases hl:b∈l
   ·rw [hL b hl];exact e1
   ·rw [hO b hb hl];exact e
 have kb:∀ b ps,X.H₀ b=Dn (.tbl ps)->H0 b=Dn (.tbl ps):=fun b ps e=>by
  obtain ⟨_,e1⟩:=I.base.tbls b ps e;by_cases hb:b=a
  ·rw [hb,n.h] at e1;cases e1
  ·by_cases hl:b∈l
   ·obtain ⟨_,_,_,e2⟩:=lp b hl;rw [e1] at e2;cases e2
   ·rw [hO b hb hl];exact e
 have ch0:Kr (NwX (X.hnd a H0)) H0 (.ref a):=.cons n.s hA hd h2 (lq H0 hL);have hn:V9 (X.hnd a H0):=fun v e=>by
  have e:Dn (Value.ref a)=Dn v:=e;cases e;exact ch0
 have ok:(X.hnd a H0).Ok:=by
  have k:=I.ok;refine ⟨k.mod,k.kind,k.glob,k.blt,k.above,k.inj,k.has,k.cab,fun z=>(nomatch z),fun v e=>?_,k.frames,k.stk,k.exf,fun b ob e=>?_,k.bsz,k.noex,k.exfs,k.funs,fun b hb=>?_⟩
  ·have e:Dn (Value.ref a)=Dn v:=e;cases e;exact ⟨⟨a,rfl⟩,ch0.chn⟩
  ·obtain ⟨e1,e2⟩:=k.bs b ob e;exact ⟨e1,(eq0 b ob e1).trans e2⟩
  ·exact (hO b (nf b hb)<|nfl b hb).trans (k.frf b hb)
 refine ⟨H0,⟨eq0,kt,kf,kb⟩,hn,ok,I.os,I.bare,⟨fun b ob e z hf hx=>I.base.keep b ob e ((eq0 b ob e).symm.trans z) hf hx,fun b ob e z hf hx=>I.base.slot b ob e ((eq0 b ob e).symm.trans z) hf hx,fun b ob e z hx=>?_,I.base.there,fun b xs z=>?_,fun b ob v z=>?_,fun b ps z=>?_⟩,I.loc,I.cell,?_,fun x c e=>?_,fun p hp=>?_,fun b v z=>?_,I.len⟩
 ·rw [aH (ne b ob e)];exact I.base.free b ob e ((eq0 b ob e).symm.trans z) hx
 ·have z:H0 b=Dn (.tup xs):=z;by_cases hb:b=a
  ·rw [hb,hA] at z;cases z
  ·rw [aH hb];by_cases hl:b∈l
   ·rw [hL b hl] at z;exact z
   ·rw [hO b hb hl] at z;exact I.base.tups b xs z
 ·have z:H0 b=Dn (.frz ob v):=z;by_cases hb:b=a
  ·rw [hb,hA] at z;rw [hb,aU];exact z
  ·rw [aH hb];by_cases hl:b∈l
   ·rw [hL b hl] at z;exact z
   ·rw [hO b hb hl] at z;exact I.base.frzs b ob v z
 ·have z:H0 b=Dn (.tbl ps):=z;by_cases hb:b=a
  ·rw [hb,hA] at z;cases z
  ·rw [aH hb];by_cases hl:b∈l
   ·obtain ⟨_,_,_,e2⟩:=lp b hl;rw [hL b hl,e2] at z;cases z
   ·rw [hO b hb hl] at z;exact I.base.tbls b ps z
 ·rw [aH (Eu n.l)];exact I.free
 ·rw [aH (n.c x c e)];exact I.freeC x c e
 ·obtain ⟨h1,h3,h4⟩:=I.pin p hp;exact ⟨h1,(aH<|n.p p hp).trans h3,h4⟩
 ·by_cases hb:b=a
  ·subst hb;rw [aU] at z;cases z;exact ⟨ho,ho,⟨o,ho⟩,fun h1 h2 q k=>k o q⟩
  ·rw [aH hb] at z;exact (I.hok b v z).stay (fun _ _ _ q=>q) (fun c q=>by rw [aH (aO q n.h)];exact q) fun c xs q=>by rw [aH (aO q n.h)];exact q
theorem BZ.unhnd {H0:Hp}(ok:X.Ok)(k:K5 X H0)(I:BZ (X.hnd a H0) pins' σ H s):BZ X pins' σ H s:=by
 have up:∀ b ob,X.s₀.heap.get? b=Dn ob->X.H₀ b=Go->(X.hnd a H0).H₀ b=Go:=fun b ob e z=>(k.s0 b ob e).trans z
 exact ⟨ok,I.os,I.bare,⟨fun b ob e z hf hx=>I.base.keep b ob e (up b ob e z) hf hx,fun b ob e z hf hx=>I.base.slot b ob e (up b ob e z) hf hx,fun b ob e z hx=>I.base.free b ob e (up b ob e z) hx,I.base.there,fun b xs z=>I.base.tups b xs<|k.tups b xs z,fun b ob v z=>I.base.frzs b ob v<|k.frzs b ob v z,fun b ps z=>I.base.tbls b ps<|k.tbls b ps z⟩,I.loc,I.cell,I.free,I.freeC,I.pin,I.hok,I.len⟩
def Px (σ : St):St:=σ.map fun _=>Go
theorem BZ.lost {m':Str->Option JI}{h':Heap}{t':Nat}(I:BZ X pins σ H s)(hn:h'.Ns X.env.locals m')(sb:Kh X.env.locals s.heap h'):BZ X pins (Px σ) H { s with heap:=h',toks:=t' }:=by
 have neL:∀ b o,X.s₀.heap.get? b=Dn o->b≠X.env.locals:=fun b o e=>Gf (GP (Dj e) I.ok.above)
 have k:∀ b o,b≠X.env.locals->s.heap.get? b=Dn o->h'.get? b=Dn o:=fun b o hb e=>(sb.2 b hb).trans e
 refine ⟨I.ok,I.os,I.bare,⟨fun b o e z hf hx=>k b o (neL b o e)<|I.base.keep b o e z hf hx,fun b o e z hf hx=>?_,I.base.free,fun b o e hx=>?_,I.base.tups,I.base.frzs,I.base.tbls⟩,⟨m',hn,fun i x v _ e2 _=>?_⟩,fun x c e=>?_,I.free,I.freeC,fun p hp=>?_,fun b v z=>?_,?_⟩
 ·obtain ⟨sl,e1⟩:=I.base.slot b o e z hf hx;exact ⟨sl,k b _ (neL b o e) e1⟩
 ·obtain ⟨o',e1⟩:=I.base.there b o e hx;exact ⟨o',k b _ (neL b o e) e1⟩
 ·unfold Px at e2;rw [Ir] at e2;cases q:σ[i]? with
  | none=>rw [q] at e2;cases e2
  | some w=>rw [q] at e2;cases e2
 ·obtain ⟨v,oc,ho,hd⟩:=I.cell x c e;exact ⟨v,oc,k c oc (I.cne x c e) ho,hd⟩
 ·obtain ⟨h1,h2,h3,h4⟩:=I.pin p hp;exact ⟨k _ _ h3 h1,h2,h3,h4⟩
 ·have nL:∀ c w,H c=Dn w->c≠X.env.locals:=fun c w e q=>by rw [q,I.free] at e;cases e
  refine (I.hok b v z).stay (fun c w hc q=>k c w ?_ q) (fun _ q=>q) fun _ _ q=>q;rcases hc with r | r
  ·rw [r];exact nL b _ z
  ·exact nL c _ r
 ·unfold Px;rw [Eh];exact I.len
end
section
variable {prog:CR}{w:CQ}{A:CT}{E:JI->kI->Prop}{s:kI}{K:Bs}{x D:Addr}{ox:Obj}
end
def Gm (n d:Str):Bool:=n==d||d == "EaselError"
section
variable {K:Bs}{C D:Addr}{n d:Str}
theorem PK (h:kW K D d=true):Gs K Fg d=Dn (Dn (.ref D))/\Ud K (.ref D)=Dn (.type "type")/\∃ cd,Ra K D=Dn cd/\cd.name=d/\cd.mro.contains (.type "BaseException")=true:=by
 unfold kW at h;simp only [Kf,beq_iff_eq] at h;obtain ⟨⟨h1,h2⟩,h3⟩:=h;refine ⟨h1,h2,?_⟩;split at h3
 ·rename_i cd hc;simp only [Kf,beq_iff_eq] at h3;exact ⟨cd,hc,h3.1,h3.2⟩
 ·cases h3
theorem Xe (h:j6 K C n=true):kW K C n=true/\(∃ cd R,Ra K C=Dn cd/\cd.mro=.ref C::.ref R::J6/\Gs K Fg "EaselError" = Dn (Dn (.ref R))/\∃ cr,Ra K R=Dn cr/\cr.name = "EaselError") /\
  KJ K (.ref C) "__getattribute__" = Dn (Dn (.builtin "BaseException.__getattribute__"))/\KJ K (.ref C) "__getattr__" = Dn Go/\KJ K (.ref C) "__class__" = Dn (Dn (.builtin "object.__class__"))/\PySem.W.specialIn K (.builtin "object.__class__") "__get__" = Dn (Dn (.builtin "getset_descriptor.__get__"))/\PySem.W.takesIn K (.builtin "object.__class__")=Dn true:=by
 unfold j6 at h;simp only [Kf,beq_iff_eq] at h;obtain ⟨⟨⟨⟨⟨⟨h1,h2⟩,h3⟩,h3'⟩,h4⟩,h5⟩,h6⟩:=h;refine ⟨h1,?_,h3,h3',h4,h5,h6⟩;split at h2
 ·rename_i cd hc;split at h2
  ·rename_i C' R a b c d hm;simp only [Kf,beq_iff_eq] at h2;obtain ⟨⟨⟨e1,e2⟩,e3⟩,e4⟩:=h2;obtain ⟨cr,e5,e6⟩:=PySem.W.any_some e4;exact ⟨cd,R,hc,by rw [hm,e1,<-e2],e3,cr,e5,beq_iff_eq.mp e6⟩
  ·cases h2
 ·cases h2
theorem Xj (h:j6 K C n=true)(hd:kW K D d=true):R9 K C (.ref D)=Dn (Gm n d):=by
 obtain ⟨hx,⟨cd,R,hc,hm,hR,cr,hcr,hnr⟩,_⟩:=Xe h;obtain ⟨n1,_,cd',hc',nm,_⟩:=PK hx;obtain ⟨d1,_,dd,hdd,dm,_⟩:=PK hd;rw [hc] at hc';cases hc';unfold R9;rw [hc,Option.bind_some,hm];show Dn ((Value.ref C::Value.ref R::J6).contains (.ref D))=Dn (Gm n d);congr 1
 unfold Gm;have e1:(Value.ref C::Value.ref R::J6).contains (.ref D)=((Value.ref D==Value.ref C)||((Value.ref D==Value.ref R)||false)):=by
  rw [Uw,Uw];rfl
 rw [e1,Bool.or_false];have a1:(Value.ref D==Value.ref C)=(n==d):=by
  rw [Bool.eq_iff_iff,beq_iff_eq,beq_iff_eq];constructor
  ·intro q;cases q;rw [hc] at hdd;cases hdd;rw [<-nm,<-dm]
  ·intro q;subst q;rw [n1] at d1;injection d1 with d1;injection d1 with d1;injection d1 with d1
   rw [d1]
 have a2:(Value.ref D==Value.ref R)=(d == "EaselError"):=by
  rw [Bool.eq_iff_iff,beq_iff_eq,beq_iff_eq];constructor
  ·intro q;cases q;rw [hcr] at hdd;cases hdd;rw [<-hnr,<-dm]
  ·intro q;subst q;rw [hR] at d1;injection d1 with d1;injection d1 with d1;injection d1 with d1
   rw [d1]
 rw [a1,a2]
def acS (K:Bs)(v:V)(f:Str->Bool):Prop:=∀ (u:JI),RelV v u->∀ (C:Addr) (n:Str),j6 K C n=true->PySem.W.kitOne K (.ref C) u=Dn (f n)
theorem p8 {M:Model}{A:CT}{E:JI->kI->Prop}{s:kI}{e:Addr}{oe:Obj}{Q:Bool->kI->Prop}(X:K.In s.heap)(he:s.heap.get? e=Dn oe)(hcls:oe.cls=.ref C)(h:j6 K C n=true)(hd:kW K D d=true)(hq:Q (Gm n d) s) :
  Bu M A (excMatches (.ref e) (.ref D)) Q E s:=by
 obtain ⟨_,ht,dd,hdd,_,hB⟩:=PK hd;have L1:SX M s.heap (typeOf (.ref D)) (.type "type"):=PySem.W.looks_typeIn X ht;have L2:SX M s.heap (isSubtype (.ref C) (.ref D)) (Gm n d):=V8 X (Xj h hd);have L3:SX M s.heap (isSubtype (.ref D) (.type "BaseException")) true:=V8 X (by
  unfold R9;rw [hdd,Option.bind_some,hB,if_neg];intro q;rw [List.isEmpty_iff] at q;rw [q] at hB;cases hB)
 have hcl:∃ c' d' sl',K.lookup D=Dn ⟨c',d',.cls dd,sl'⟩:=by
  unfold Ra at hdd;split at hdd
  ·rename_i c' d' cd' sl' ho;cases hdd;exact ⟨c',d',sl',ho⟩
  ·cases hdd
 obtain ⟨c',d',sl',ho⟩:=hcl;have L4:SX M s.heap (isType (.ref D)) true:=by
  intro A' Q' E' s' k q;unfold isType loadHead;exact BL<|wpAny_loadPart (k _ _<|X _ _ ho)<|CP q
 have L5:SX M s.heap (typeOf (.ref e)) (.ref C):=hcls ▸ (PySem.W.Looks.ld he).andThen .now;have f:=tc_notTuple;obtain ⟨hh,g,dr,tk,os⟩:=s;unfold excMatches;refine BL ?_;unfold isInstance;refine BL<|PySem.W.Looks.at L1 ?_
 rw [f];refine CP ?_;rw [if_neg Hi];refine BL<|CP ?_
 dsimp only;rw [Tn];refine BL<|BL ?_
 unfold isExcClass;refine BL<|BL<|PySem.W.Looks.at L4 ?_
 rw [if_pos rfl];refine PySem.W.Looks.at L3 ?_;rw [if_neg (by decide)];refine CP ?_;dsimp only;rw [Ub];refine CP ?_;refine BL<|PySem.W.Looks.at L5 ?_
 rw [Tn];refine BL<|BL<|BL<|PySem.W.Looks.at L2 ?_
 cases hb:Gm n d with
 | true=>
  rw [hb] at hq;rw [if_pos rfl];exact CP<|CP<|CP hq
 | false=>
  rw [hb] at hq;rw [if_neg Hi];refine CP ?_;dsimp only;rw [Ub];exact CP<|CP hq
end
theorem afh {prog:CR}{w:CQ}{A:CT}{E:JI->kI->Prop}{s:kI}{env:Env}{K:Bs}{e C D:Addr}{n d y:Str}{t:Expr}{b₀ : Stmt}{suite:List Stmt}{pos:Pos}{rest:List ExceptHandler}{Q:Flow->kI->Prop}
  (hx:j6 K C n=true) (hd:kW K D d=true) (hi:Gm n d=true)
  (h:Bu (Bx prog w) (A.mark (Dn (.ref e))) (eval t env) (fun c s₁=>c=.ref D/\K.In s₁.heap/\(∃ oe,s₁.heap.get? e=Dn oe/\oe.cls=.ref C) /\
   Bu (Bx prog w) (A.mark (Dn (.ref e))) (setFlight (.ref e) Go) (fun _ s₂=>
     Bu (Bx prog w) (A.mark (Dn (.ref e))) (storeName env y (.ref e)) (fun _ s₃=>
      Bu (Bx prog w) (A.mark (Dn (.ref e))) (execs (b₀::suite) env)
       (fun f s₄=>Bu (Bx prog w) A (do bindName env y .none;unbindBehindTheSuite env y pos) (fun _ s₅=>Q f s₅) E s₄) (fun _ _=>False) s₃) (fun _ _=>False) s₂) (fun _ _=>False) s₁) (fun _ _=>False) s) :
  Bu (Bx prog w) A (handleBy (.ref e) env (.ExceptHandler (Dn t) (Dn y) (b₀::suite) pos::rest)) Q E s:=by
 refine wpAny_handleBy_cons (codeAny_handlers_test<|Ge h (fun c s₁ h₁=>?_) fun _ _ z=>z.elim) (by intro q;cases q);obtain ⟨rfl,X,⟨oe,he,hcls⟩,hk⟩:=h₁;refine p8 X he hcls hx hd ?_;rw [hi];exact codeAny_handlers_suite_as<|Ge hk (fun _ s₂ h₂=>Ge h₂ (fun _ s₃ h₃=>Ge h₃ (fun _ _ z=>z) fun _ _ z=>z.elim) fun _ _ z=>z.elim) fun _ _ z=>z.elim
def bA.lost (D:bA):bA:={ D with nx:=fun σ h=>D.nx (σ.map fun _=>Go) h,bk:=fun σ h=>D.bk (σ.map fun _=>Go) h,ct:=fun σ h=>D.ct (σ.map fun _=>Go) h }
def Ds (x:Xw):W:=match x.fs with
 | []=>.exc x.cls
 | f::fs=>.exa x.cls ((f::fs).map (·.2))
theorem Jg {α β : Type}:∀ {l:List α} {m:List β},m.length=l.length->(l.zip m).map (·.2)=m
 | [],[],_=>rfl
 | [],_::_,h=>by cases h
 | _::_,[],h=>by cases h
 | a::l,b::m,h=>by rw [List.zip_cons_cons,K7,Jg (by simpa using h)]
theorem agc {n:Str}{ws:List W}(h:ws.length=(wF n).length):Ds ⟨n,(wF n).zip ws⟩=.exa n ws:=by
 have e:=Jg h;unfold Ds;have ne:wF n≠[]:=by unfold wF;split <;> simp
 cases q:(wF n).zip ws with
 | nil=>
  rw [q] at e;cases ws with
  | nil=>exact absurd (V3 h.symm) ne
  | cons _ _=>cases e
 | cons f fs=>
  rw [q] at e;dsimp only;rw [e]
def acI (i:Nat)(d:Str)(mb:CK->MS)(mh:MS):MS:=fun D σ h=>mb (fun x h'=>El (Gm x.cls d) (mh D.lost (σ.set i (Dn (Ds x))) h') False) D σ h
section
variable {X:Cx}{body:List Stmt}{b₀ : Stmt}{suite:List Stmt}{y d:Str}{np hpos pos:Pos}{i:Nat}{D:Addr}{mb:CK->MS}{mh:MS}
end
theorem zx {k:Nat}{A:CT}{a:Addr}(r:fP k A)(h:8<=k):fP 8 (A.mark (Dn (.ref a))):=⟨fun z=>absurd z (by decide),by have:=r.dp;show A.depth+_<_;lia,by have:=r.un;show A.units+_<_;lia⟩
section
variable {X:Cx}{a:Expr}{ma:ME}{pos p:Pos}
def acJ (f:Str->Bool)(m:ME):ME:=fun σ h Q=>m σ h fun w h1=>match w with
 | .exc n=>Q (.bl (f n)) h1
 | .exa n _=>Q (.bl (f n)) h1
 | _=>False
inductive PCs (X:Cx):List Expr->List V->(Str->Bool)->Prop
 | nil:PCs X [] [] (fun _=>false)
 | cons {e:Expr} {es:List Expr} {v:V} {vs:List V} {f g:Str->Bool}:PE X e (tC v)->acS X.K v f->PCs X es vs g->Ce (e::es) X.env=(false,eval e X.env)::Ce es X.env->PCs X (e::es) (v::vs) (fun n=>f n||g n)
end
section
variable {X:Cx}{tg elt:Expr}{ifs:List Expr}{scope:Scope}{xs:List Str}{tt:MT}{te:ME}{pos p ppos:Pos}
end
section
variable {prog:CR}{w:CQ}{A:CT}{E:JI->kI->Prop}{s:kI}
end
section
variable {X:Cx}
end
section
variable {X:Cx}{K:Bs}{o e:Expr}{mo:ME}{ma:MA}{apos cpos:Pos}
variable {H:Hp}{pins:List (Addr×Obj)}{s:kI}{σ : St}
mutual
theorem aeP (I:BZ X pins σ H s):∀ {w u:W} {v:V},Dt X.K H w v->Dt X.K H u v->w=u
 | .non,u,v,h,g=>by rw [Dt] at h;subst h;cases u <;> rw [Dt] at g <;> first | rfl | exact g.elim | (obtain ⟨_,_,g,_⟩:=g;cases g;done) | (cases g;done)
 | .bl b,u,v,h,g=>by rw [Dt] at h;subst h;cases u <;> rw [Dt] at g <;> first | (injection g with g;rw [g];done) | exact g.elim | (obtain ⟨_,_,g,_⟩:=g;cases g;done) | (cases g;done)
 | .int b,u,v,h,g=>by rw [Dt] at h;subst h;cases u <;> rw [Dt] at g <;> first | (injection g with g;rw [g];done) | exact g.elim | (obtain ⟨_,_,g,_⟩:=g;cases g;done) | (cases g;done)
 | .str b,u,v,h,g=>by rw [Dt] at h;subst h;cases u <;> rw [Dt] at g <;> first | (injection g with g;rw [g];done) | exact g.elim | (obtain ⟨_,_,g,_⟩:=g;cases g;done) | (cases g;done)
 | .tup ws,u,v,h,g=>by
  rw [Dt] at h;obtain ⟨p,xs,e,hs,ds⟩:=h;subst e;cases u with
  | tup us=>
   rw [Dt] at g;obtain ⟨p',xs',e',hs',ds'⟩:=g;cases e'
   have:=I.tuple_inj hs hs'
   subst this;rw [rT I ds ds']
  | lst us=>
   rw [Dt] at g;obtain ⟨p',xs',e',hs',ds'⟩:=g;cases e'
   obtain ⟨_,_,t,_⟩:=I.tuple hs;obtain ⟨_,_,l,_⟩:=I.list hs';exact absurd rfl<|VJ l.isList<|show s.heap.IsTuple _ _ from t
  | ty _=>rw [Dt] at g;exact g.elim
  | loc _=>rw [Dt] at g;exact g.elim
  | kls _=>rw [Dt] at g;exact g.elim
  | exc _=>rw [Dt] at g;exact g.elim
  | exa _ _=>rw [Dt] at g;exact g.elim
  | _=>rw [Dt] at g;cases g
 | .lst ws,u,v,h,g=>by
  rw [Dt] at h;obtain ⟨p,xs,e,hs,ds⟩:=h;subst e;cases u with
  | lst us=>
   rw [Dt] at g;obtain ⟨p',xs',e',hs',ds'⟩:=g;cases e'
   have:=I.list_inj hs hs'
   subst this;rw [rT I ds ds']
  | tup us=>
   rw [Dt] at g;obtain ⟨p',xs',e',hs',ds'⟩:=g;cases e'
   obtain ⟨_,_,t,_⟩:=I.tuple hs';obtain ⟨_,_,l,_⟩:=I.list hs;exact absurd rfl<|VJ l.isList<|show s.heap.IsTuple _ _ from t
  | ty _=>rw [Dt] at g;exact g.elim
  | loc _=>rw [Dt] at g;exact g.elim
  | kls _=>rw [Dt] at g;exact g.elim
  | exc _=>rw [Dt] at g;exact g.elim
  | exa _ _=>rw [Dt] at g;exact g.elim
  | _=>rw [Dt] at g;cases g
 | .ty _,_,_,h,_=>by rw [Dt] at h;exact h.elim
 | .kls _,_,_,h,_=>by rw [Dt] at h;exact h.elim
 | .loc _,_,_,h,_=>by rw [Dt] at h;exact h.elim
 | .exc _,_,_,h,_=>by rw [Dt] at h;exact h.elim
 | .exa _ _,_,_,h,_=>by rw [Dt] at h;exact h.elim
theorem rT (I:BZ X pins σ H s):∀ {ws us:List W} {vs:List V},Gn X.K H ws vs->Gn X.K H us vs->ws=us
 | [],us,vs,h,g=>by
  have e:vs=[]:=by rw [Gn] at h;exact h
  subst e;cases us with
  | nil=>rfl
  | cons u us=>rw [Gn] at g;obtain ⟨_,_,e,_⟩:=g;cases e
 | w::ws,us,vs,h,g=>by
  rw [Gn] at h;obtain ⟨v,vs',e,d,ds⟩:=h;subst e;cases us with
  | nil=>
   have e:v::vs'=[]:=by rw [Gn] at g;exact g
   cases e
  | cons u us=>
   rw [Gn] at g;obtain ⟨v2,vs2,e2,d2,ds2⟩:=g;cases e2;rw [aeP I d d2,rT I ds ds2]
end
end
section
variable {X:Cx}{elt iter tg:Expr}{ifs:List Expr}{scope:Scope}{pos:Pos}{xs:List Str}{mi:MI}{tt:MT}{te:ME}
end
section
variable {X:Cx}{Γ : St->Prop}{e:Expr}{es:List Expr}{pos:Pos}
variable {mr:CK->MA}
end
section
variable {X:Cx}{K:Bs}{H:Hp}{pins:List (Addr×Obj)}{s:kI}{σ : St}
end
section
variable {X:Cx}{K:Bs}{H:Hp}{μ : Mu}{h:Gh}
end
section
variable {X:Cx}{K:Bs}{o e e':Expr}{mo:ME}{ma:MA}{apos cpos:Pos}
end
def DY (m:Nat):List Nat:=(Jo 8).filter fun j=>m.testBit j
def rk (m j:Nat):Nat:=((Jo j).filter fun i=>m.testBit i).length
theorem nJ:∀ m:Fin 256,∀ j:Fin 8,SetTable.below (DY m).toArray j=rk m j/\(DY m)[rk m j]?=(if m.val.testBit j then Dn j.val else (DY m)[rk m j]?)/\(m.val.testBit j=false->(DY m)[rk m j]?≠Dn j.val):=by decide +kernel
theorem rN:∀ m:Fin 256,∀ j:Fin 8,m.val.testBit j=false->(DY m).take (rk m j)++j.val::(DY m).drop (rk m j)=DY (m.val ||| 2^j.val)/\m.val ||| 2^j.val<256:=by decide +kernel
theorem fL {m j:Nat}:j∈DY m↔j<8/\m.testBit j=true:=by unfold DY;simp
theorem yu {t:MP}{m j:Nat}(hp:t.place=(DY m).toArray)(hd:t.dummies = #[])(hm:m<256)(hj:j<8):t.slot j=if m.testBit j then .live (rk m j) else .empty:=by
 obtain ⟨a,b,c⟩:=nJ ⟨m,hm⟩ ⟨j,hj⟩;dsimp only at a b c;unfold SetTable.slot;dsimp only;rw [hp,hd,a];cases e:m.testBit j with
 | true=>
  rw [e] at b;rw [if_pos rfl] at b;rw [if_pos rfl,if_pos (by simp [b])]
 | false=>
  rw [if_neg Hi,if_neg (by simpa using c e),if_neg (by simp [SetTable.has])]
theorem aaz {m j:Nat}(hm:m<256)(h:j∈DY m):(DY m)[rk m j]?=Dn j:=by
 obtain ⟨hj,e⟩:=fL.mp h;have b:=(nJ ⟨m,hm⟩ ⟨j,hj⟩).2.1;dsimp only at b;rw [e,if_pos rfl] at b;exact b
def pq (h:Int):Nat->Nat×Nat
 | 0=>(Le h % 8,Le h)
 | n+1=>SetTable.leap 7 (pq h n).1 (pq h n).2
def pb (h:Int)(n:Nat):SetTable.Probe:=⟨(pq h n).1,0,(pq h n).1,(pq h n).2,Go⟩
theorem sS (h:Int):∀ n,(pq h n).1<8
 | 0=>Nat.mod_lt _ (by decide)
 | n+1=>Nat.mod_lt _ (by decide)
theorem Ea (i:Nat):T7 7 i - i=0:=by
 unfold T7;rw [if_neg (by lia)];lia
theorem Ax {t:MP}(hm:t.mask=7)(h:Int):t.probeStart h=pb h 0:=by
 unfold SetTable.probeStart pb pq;rw [hm];simp only [Ea]
theorem Gb {t:MP}(hm:t.mask=7)(h:Int)(n:Nat):t.advance (pb h n)=pb h (n+1):=by
 unfold SetTable.advance pb;rw [hm];simp only [Ea,KZ,if_false,gt_iff_lt];rfl
theorem Hj (h:Int):∀ n,(pq h n).2=Le h / 32^n
 | 0=>by simp [pq]
 | n+1=>by
  show (pq h n).2 / 32=_;rw [Hj h n,Nat.div_div_eq_div_mul,Nat.pow_succ]
theorem agR (h:Int)(n:Nat)(hn:13<=n):(pq h n).2=0:=by
 rw [Hj];apply Nat.div_eq_of_lt;have h1:Le h<2^64:=by
  unfold Le;have a:=SM h (show (0:Int)<2^64 by decide);have b:=Ru h (show (2^64:Int)≠0 by decide);lia
 have h2:32^13<=32^n:=Nat.pow_le_pow_right (by decide) hn;have h3:(2:Nat)^64<32^13:=by decide
 lia
def lcg:Nat->Nat->Nat
 | i,0=>i
 | i,k+1=>(lcg i k*5+1) % 8
theorem Ob (h:Int):∀ k,(pq h (13+k)).1=lcg (pq h 13).1 k
 | 0=>rfl
 | k+1=>by
  show ((pq h (13+k)).1*5+1+(pq h (13+k)).2 / 32) % (7+1)=_;rw [agR h _ (by lia),Ob h k];rfl
theorem zbE:∀ i:Fin 8,∀ j:Fin 8,∃ k:Fin 8,lcg i k=j.val:=by decide +kernel
theorem afT (h:Int){j:Nat}(hj:j<8):∃ n,n<21/\(pq h n).1=j:=by
 obtain ⟨k,e⟩:=zbE ⟨(pq h 13).1,sS h 13⟩ ⟨j,hj⟩;exact ⟨13+k.val,by lia,by rw [Ob];exact e⟩
theorem least {P:Nat->Bool}:∀ (B:Nat),(∃ n,n<B/\P n=true)->∃ N,N<B/\P N=true/\∀ n,n<N->P n=false
 | 0,⟨n,h,_⟩=>absurd h (RB _)
 | B+1,⟨n,h,e⟩=>by
  by_cases q:∃ n,n<B/\P n=true
  ·obtain ⟨N,a,b,c⟩:=least B q;exact ⟨N,by lia,b,c⟩
  ·refine ⟨n,h,e,fun i hi=>?_⟩;cases r:P i with
   | false=>rfl
   | true=>exact absurd ⟨i,by lia,r⟩ q
theorem road {m:Nat}(h:Int)(hf:∃ j,j<8/\m.testBit j=false):∃ N,N<21/\m.testBit (pq h N).1=false/\∀ n,n<N->m.testBit (pq h n).1=true:=by
 obtain ⟨j,hj,e⟩:=hf;obtain ⟨n,hn,en⟩:=afT h hj;obtain ⟨N,a,b,c⟩:=least (P:=fun n=>!m.testBit (pq h n).1) 21 ⟨n,hn,by simp [en,e]⟩;exact ⟨N,a,by simpa using b,fun n hn=>by simpa using c n hn⟩
theorem zY:∀ m:Fin 256,(DY m).length<8->∃ j:Fin 8,m.val.testBit j=false:=by decide +kernel
theorem rE:∀ m:Fin 256,∀ j:Fin 8,m.val.testBit j=false->(DY (m.val ||| 2^j.val)).length=(DY m).length+1:=by decide +kernel
theorem Bl:∀ m:Fin 256,∀ j i:Fin 8,(m.val ||| 2^j.val).testBit i=(m.val.testBit i||decide (i.val=j.val)):=by decide +kernel
theorem Ag {t:MP}{m:Nat}(hm:t.mask=7)(hp:t.place=(DY m).toArray)(hd:t.dummies = #[])(h8:m<256)(hashAt:Nat->Int)(h:Int):∀ (d n fuel:Nat),d<fuel->m.testBit (pq h (n+d)).1=false->(∀ i,i<d->m.testBit (pq h (n+i)).1=true) ->
  ((∀ i,i<d->hashAt (rk m (pq h (n+i)).1)≠h)/\Ti.go t hashAt h fuel (pb h n)=Dn (.empty (pq h (n+d)).1 Go)) \/
  ∃ i,i<d/\hashAt (rk m (pq h (n+i)).1)=h/\(∀ j,j<i->hashAt (rk m (pq h (n+j)).1)≠h)/\Ti.go t hashAt h fuel (pb h n)=Dn (.candidate (pq h (n+i)).1 (rk m (pq h (n+i)).1) (pb h (n+i+1)))
 | _,_,0,hf,_,_=>absurd hf (RB _)
 | 0,n,fuel+1,_,e,_=>by
  refine .inl ⟨fun i hi=>absurd hi<|RB _,?_⟩;unfold Ti.go;have:t.slot (pb h n).j=.empty:=by
   show t.slot (pq h n).1=_;rw [yu hp hd h8 (sS h n),show m.testBit (pq h n).1=false from e];rfl
  rw [this];rfl
 | d+1,n,fuel+1,hf,e,l=>by
  have e0:m.testBit (pq h n).1=true:=l 0 (by lia);have hs:t.slot (pb h n).j=.live (rk m (pq h n).1):=by
   show t.slot (pq h n).1=_;rw [yu hp hd h8 (sS h n),e0];rfl
  unfold Ti.go;rw [hs];dsimp only;by_cases q:hashAt (rk m (pq h n).1)=h
  ·refine .inr ⟨0,by lia,q,fun j hj=>absurd hj<|RB _,?_⟩;rw [if_pos (by simp [q]),Gb hm];rfl
  ·rw [if_neg (by simp [q]),Gb hm];have hsh:∀ i,n+1+i=n+(i+1):=fun i=>by lia
   rcases Ag hm hp hd h8 hashAt h d (n+1) fuel (by lia) (by rw [hsh];exact e) (fun i hi=>by rw [hsh];exact l (i+1) (by lia)) with ⟨a,b⟩ | ⟨i,hi,a,b,c⟩
   ·refine .inl ⟨fun i hi=>?_,by rw [b,hsh]⟩;cases i with
    | zero=>exact q
    | succ i=>have:=a i (by lia);rw [hsh] at this;exact this
   ·refine .inr ⟨i+1,by lia,by rw [<-hsh];exact a,fun j hj=>?_,by rw [c,hsh]⟩;cases j with
    | zero=>exact q
    | succ j=>have:=b j (by lia);rw [hsh] at this;exact this
section
variable {prog:CR}{w:CQ}{A:CT}{E:JI->kI->Prop}{s:kI}{m:Nat}{ka:Nat->List Int}{ad:Nat->Addr}{t:MP}{a b:Addr}{k:List Int}
abbrev TK (prog:CR)(w:CQ)(h:Heap)(k:List Int)(a:Addr):Prop:=IsTupleKey (Jx prog w) h k a
def hT (prog:CR)(w:CQ)(k:List Int):Int:=Kl (Jx prog w) k
def elL (prog:CR)(w:CQ)(m:Nat)(ka:Nat->List Int)(ad:Nat->Addr):List (Int×JI):=(DY m).map fun j=>(hT prog w (ka j),Value.ref (ad j))
structure O4 (prog:CR) (w:CQ) (h:Heap) (m:Nat) (ka:Nat->List Int) (ad:Nat->Addr) (t:MP):Prop where
 mask:t.mask=7
 place:t.place=(DY m).toArray
 dum:t.dummies = #[]
 m8:m<256
 few:(DY m).length<=4
 key:∀ j,j∈DY m->TK prog w h (ka j) (ad j)
 way:∀ j,j∈DY m->∃ n,(pq (hT prog w (ka j)) n).1=j/\∀ i,i<n->m.testBit (pq (hT prog w (ka j)) i).1=true
theorem O4.fits {h:Heap}(T:O4 prog w h m ka ad t):t.fits (elL prog w m ka ad).toArray.size=true:=by
 unfold SetTable.fits SetTable.fill elL;rw [T.place,T.dum,T.mask];have:=T.few
 simp;lia
theorem O4.at {h:Heap}(T:O4 prog w h m ka ad t){j:Nat}(hj:j∈DY m):(elL prog w m ka ad).toArray[rk m j]?=Dn (hT prog w (ka j),Value.ref (ad j)):=by
 have:=aaz T.m8 hj
 simp [elL,this]
theorem vp {d:Nat}{Q:Bool->kI->Prop}(hk:TK prog w s.heap k b)(h:Q false s):Bu (Bx prog w) A (ofAClassStatement (d+1) (.ref b)) Q E s:=by
 have hTy:=hk.typeIs;obtain ⟨o,items,n,ho,_,hd,hi⟩:=hk;unfold ofAClassStatement;refine BL<|wpAny_typeOf hTy ?_
 dsimp only;refine BL ?_;refine CP ?_;simp only [Bool.not_true,Kv,if_false];refine BL<|Qc ho hd ?_
 dsimp only;refine BL ?_;rw [<-Array.forIn_toList];refine wpAny_forIn_list _ (fun rest r s'=>r.1=Go/\s'=s/\∀ v∈rest,carriedByValue v=true) _ ?_ ?_ _ _ ⟨rfl,rfl,hi.byValue⟩
 ·rintro v rest r s' ⟨hr,rfl,hall⟩;have hv:=hall v LR;have e:ofAClassStatement d v=pure false:=by
   cases v with
   | ref a=>simp [carriedByValue] at hv
   | _=>unfold ofAClassStatement;rfl
  rw [e];refine BL<|CP ?_
  simp only [Kv,if_false];exact CP ⟨rfl,rfl,fun u hu'=>hall u<|Kw _ hu'⟩
 ·rintro ⟨r1,r2⟩ s' ⟨hr,rfl,_⟩;simp only at hr;subst hr;exact CP h
theorem wk {d:Nat}{Q:Bool->kI->Prop}(hk:TK prog w s.heap k b)(h:Q true s):Bu (Bx prog w) A (hashByValue (d+1) (.ref b)) Q E s:=by
 have hTy:=hk.typeIs;obtain ⟨o,items,n,ho,_,hd,hi⟩:=hk;unfold hashByValue;refine BL<|Tf hTy F.slot_tuple_hash.lookup ?_
 dsimp only;refine BL<|Qc ho hd ?_
 refine BL ?_;show Bu _ _ (forIn items _ _) _ _ s;rw [<-Array.forIn_toList];refine wpAny_forIn_list _ (fun rest r s'=>r.1=Go/\s'=s/\∃ ks,ItemsAre (Jx prog w) ks rest) _ ?_ ?_ _ _ ⟨rfl,rfl,k,hi⟩
 ·rintro v rest r s' ⟨hr,rfl,ks,hall⟩;cases hall with
  | @cons k0 _ ks' _ h1 h2=>
   have e:hashByValue d v=pure true:=by
    obtain ⟨tk,rfl⟩:=Value.isInt_shape h1;cases d <;> rfl
   rw [e];refine BL<|CP ?_
   simp only [Bool.not_true,Kv,if_false];exact CP ⟨rfl,rfl,ks',h2⟩
 ·rintro ⟨r1,r2⟩ s' ⟨hr,rfl,_⟩;simp only at hr;subst hr;exact CP h
theorem aen {l:List JI}{Q:Bool->kI->Prop}(hk:TK prog w s.heap k b)(hl:∀ y∈l,∃ c k',y=.ref c/\TK prog w s.heap k' c)(h:Q false s):Bu (Bx prog w) A (searchCouldBeSeen (.ref b) l) Q E s:=by
 unfold searchCouldBeSeen;refine BL ?_;refine wpAny_forIn_list _ (fun rest r s'=>r.1=Go/\s'=s/\∀ y∈rest,∃ c k',y=.ref c/\TK prog w s.heap k' c) _ ?_ ?_ _ _ ⟨rfl,rfl,hl⟩
 ·rintro v rest r s' ⟨hr,rfl,hall⟩;obtain ⟨c,k',rfl,hc⟩:=hall v LR;have tl:∀ y∈rest,∃ c k',y=.ref c/\TK prog w s'.heap k' c:=fun u hu'=>hall u (Kw _ hu')
  dsimp only;split
  ·exact CP ⟨rfl,rfl,tl⟩
  ·refine BL<|wpAny_eqIsQuiet_tuple hk ?_
   simp only [Bool.not_true,Kv,if_false];refine BL<|wpAny_eqIsQuiet_tuple hc ?_
   simp only [Bool.not_true,Kv,if_false];refine BL<|vp hk ?_
   simp only [Kv,if_false];refine BL<|vp hc ?_
   simp only [Kv,if_false];exact CP ⟨rfl,rfl,tl⟩
 ·rintro ⟨r1,r2⟩ s' ⟨hr,rfl,_⟩;simp only at hr;subst hr;exact CP h
theorem iD {o:Obj}{ep:Nat}{h:Int}{Q:SetFound->kI->Prop}(hh:h=hT prog w k)(hu:A.units<J7)(ho:s.heap.get? a=Dn o)(hd:o.data=.set (elL prog w m ka ad).toArray ep t)(T:O4 prog w s.heap m ka ad t)(hk:TK prog w s.heap k b){N:Nat}(hN:m.testBit (pq h N).1=false)(hl:∀ n,n<N->m.testBit (pq h n).1=true)
  (yes:(∃ j,j∈DY m/\ka j=k)->Q (.there Go) s) (no:(∀ n,n<N->ka (pq h n).1≠k)->Q (.free (pq h N).1 false) s) :
  ∀ (fuel n:Nat) (st:Option SetTable.Probe),st.getD (t.probeStart h)=pb h n->n<=N->N - n<fuel->N<200->(∀ i,i<n->ka (pq h i).1≠k)->Bu (Bx prog w) A (setSearchFrom a (.ref b) h true fuel st) Q E s
 | 0,_,_,_,_,hf,_,_=>absurd hf (RB _)
 | fuel+1,n,st,es,hn,hf,h2,hb=>by
  unfold setSearchFrom;refine BL<|SJ ho hd T.fits ?_
  dsimp only;have hg:t.gaveWay=false:=by unfold SetTable.gaveWay;rw [T.mask];rfl
  rw [hg];simp only [Kv,if_false];rw [es];have hm:∀ i,i<N->(pq h i).1∈DY m:=fun i hi=>fL.mpr ⟨sS h i,hl i hi⟩
  have hx:∀ i,i<N->((((elL prog w m ka ad).toArray[rk m (pq h i).1]?).map (·.1)).getD 0)=hT prog w (ka (pq h i).1):=fun i hi=>by rw [T.at (hm i hi)];rfl
  have e200:10*SetTable.turns t.mask=220:=by rw [T.mask];rfl
  have go:=Ag T.mask T.place T.dum T.m8 (fun i=>(((elL prog w m ka ad).toArray[i]?).map (·.1)).getD 0) h (N - n) n 220 (by lia) (by rw [show n+(N - n)=N by lia];exact hN) (fun i hi=>hl _ (by lia));generalize hP:t.probe _ h (pb h n)=P;rcases go with ⟨hno,e⟩ | ⟨i,hi,hc,hbef,e⟩
  ·have e':t.probe (fun i=>(((elL prog w m ka ad).toArray[i]?).map (·.1)).getD 0) h (pb h n)=Dn (.empty (pq h N).1 Go):=by
    unfold Ti;rw [e200,e,show n+(N - n)=N by lia]
   have eP:P=Dn (.empty (pq h N).1 Go):=hP.symm.trans e';subst eP;dsimp only;refine CP<|no fun i hi z=>?_
   by_cases q:i<n
   ·exact hb i q z
   ·refine hno (i - n) (by lia) ?_;rw [show n+(i - n)=i by lia,hx i hi,z,hh]
  ·have e':t.probe (fun i=>(((elL prog w m ka ad).toArray[i]?).map (·.1)).getD 0) h (pb h n)=Dn (.candidate (pq h (n+i)).1 (rk m (pq h (n+i)).1) (pb h (n+i+1))):=by
    unfold Ti;rw [e200,e]
   have eP:P=_:=hP.symm.trans e';subst eP;have hj:=hm (n+i) (by lia);have hkj:=T.key _ hj;dsimp only;rw [T.at hj];dsimp only;have hsl:t.slot (pq h (n+i)).1=.live (rk m (pq h (n+i)).1):=by rw [yu T.place T.dum T.m8 (sS h _),(fL.mp hj).2,if_pos rfl]
   have hsame:t.sameMemory t.moves t.mask=Dn true:=by unfold SetTable.sameMemory;rw [if_pos (by simp)]
   have hel:∀ y∈List.map (fun x=>x.snd) (Array.filter (fun x=>x.fst==h) (elL prog w m ka ad).toArray).toList,∃ c k',y=.ref c/\TK prog w s.heap k' c:=by
    intro y hy;obtain ⟨p,hp,rfl⟩:=Mv.mp hy;have hp':p∈elL prog w m ka ad:=by
     have:=(Array.mem_filter.mp (Array.mem_toList_iff.mp hp)).1
     simpa using this
    obtain ⟨j,hj',rfl⟩:=Mv.mp hp';exact ⟨_,_,rfl,T.key j hj'⟩
   split
   all_goals try (refine BL (aen hk hel ?_);simp only [Kv,if_false])
   all_goals
    refine BL<|JK<|wpAny_eqBool_tuple hu hkj hk ?_
    refine BL<|SJ ho hd T.fits ?_
    dsimp only;rw [Bool.true_and];by_cases q:ka (pq h (n+i)).1=k
    ·rw [if_pos (decide_eq_true q)];exact CP<|yes ⟨_,hj,q⟩
    ·rw [if_neg (by rw [decide_eq_false q];exact Hi),hsame];dsimp only;rw [if_pos rfl,hsl];dsimp only;rw [T.at hj];dsimp only;refine BL<|wpAny_isSame_ref_self ?_
     rw [if_pos rfl];refine BL<|CP ?_
     dsimp only;rw [if_neg (by rw [decide_eq_false q];exact Hi)];refine iD hh hu ho hd T hk hN hl yes no fuel (n+i+1) _ rfl (by lia) (by lia) h2 fun j hj' z=>?_;by_cases r:j<n
     ·exact hb j r z
     ·by_cases r2:j=n+i
      ·rw [r2] at z;exact q z
      ·refine hbef (j - n) (by lia) ?_;rw [show n+(j - n)=j by lia,hx j (by lia),z,hh]
def J2 (es:Array (Int×JI))(ep:Nat)(t:MP):Obj:={ cls:=.type "set",dict:=Go,data:=.set es ep t }
def pL (prog:CR)(w:CQ)(h:Heap)(a:Addr)(m:Nat)(ka:Nat->List Int)(ad:Nat->Addr):Prop:=∃ ep t,h.get? a=Dn (J2 (elL prog w m ka ad).toArray ep t)/\O4 prog w h m ka ad t
theorem TK.ne {h:Heap}{es:Array (Int×JI)}{ep:Nat}(hk:TK prog w h k b)(ho:h.get? a=Dn (J2 es ep t)):b≠a:=by
 rintro rfl;obtain ⟨o,_,_,e,hc,_⟩:=hk;rw [ho] at e;cases e;exact absurd (show Value.type "set" = Value.type "tuple" from hc)<|by decide
theorem TK.same {h h':Heap}{es:Array (Int×JI)}{ep:Nat}(hk:TK prog w h k b)(ho:h.get? a=Dn (J2 es ep t))(hs:Kh a h h'):TK prog w h' k b:=by
 have ne:=TK.ne hk ho;obtain ⟨o,i,n,e,r⟩:=hk;exact ⟨o,i,n,(hs.2 b ne).trans e,r⟩
theorem M9 {j:Nat}(m8:m<256)(hj:j<8)(hb:m.testBit j=false):QT (elL prog w m ka ad).toArray (rk m j) (hT prog w k,Value.ref b)=(elL prog w (m ||| 2^j) (fun i=>if i=j then k else ka i) (fun i=>if i=j then b else ad i)).toArray:=by
 have e:=(rN ⟨m,m8⟩ ⟨j,hj⟩ hb).1;dsimp only at e;apply Array.ext';rw [SetTable.toList_insertAt];unfold elL;rw [<-e];simp only [Ug,K7,if_pos,List.map_take,List.map_drop];have hne:∀ i∈DY m,i≠j:=fun i hi z=>by rw [z] at hi;rw [(fL.mp hi).2] at hb;cases hb
 have em:(DY m).map (fun i=>(hT prog w (if i=j then k else ka i),Value.ref (if i=j then b else ad i)))=(DY m).map fun i=>(hT prog w (ka i),Value.ref (ad i)):=List.map_congr_left fun i hi=>by rw [if_neg (hne i hi),if_neg (hne i hi)]
 rw [em]
theorem zad {Q:Bool->kI->Prop}(hu:A.units<J7)(S:pL prog w s.heap a m ka ad)(hk:TK prog w s.heap k b)(h3:(DY m).length<=3)
  (yes:(∃ j,j∈DY m/\ka j=k)->∀ tk,Q false { s with toks:=tk })
  (no:(∀ j,j∈DY m->ka j≠k)->∀ h' j tk,Kh a s.heap h'->j<8->m.testBit j=false->pL prog w h' a (m ||| 2^j) (fun i=>if i=j then k else ka i) (fun i=>if i=j then b else ad i)->Q true { s with heap:=h',toks:=tk }) :
  Bu (Bx prog w) A (setAdd a (.ref b)) Q E s:=by
 obtain ⟨ep,t,ho,T⟩:=S;unfold setAdd;refine JK<|BL<|wpAny_pyHash_tuple hu hk ?_
 unfold setAddHashed;refine JK ?_;generalize hs1:({ s with toks:=s.toks+(k.length+1) }:kI)=s1;have eh:s1.heap=s.heap:=by rw [<-hs1]
 have ho1:s1.heap.get? a=Dn (J2 (elL prog w m ka ad).toArray ep t):=by rw [eh];exact ho
 have T1:O4 prog w s1.heap m ka ad t:=by rw [eh];exact T
 have hk1:TK prog w s1.heap k b:=by rw [eh];exact hk
 unfold setAddHashedIn;refine BL<|SJ ho1 rfl T1.fits ?_
 dsimp only;have hby:byScan (.ref b) (elL prog w m ka ad).toArray=false:=rfl;rw [hby];simp only [Kv,if_false];obtain ⟨j0,hj0⟩:=zY ⟨m,T.m8⟩ (by show (DY m).length<8;lia);obtain ⟨N,hN,hN0,hN1⟩:=road (m:=m) (Kl (Jx prog w) k) ⟨j0.val,j0.isLt,hj0⟩;unfold setSearch;refine BL<|iD (h:=Kl (Jx prog w) k) rfl hu ho1 rfl T1 hk1 hN0 hN1 (fun y=>?_) (fun n=>?_) 100000 0 Go (by rw [Option.getD_none];exact Ax T.mask _) (by lia) (by lia) (by lia) fun i hi=>absurd hi<|RB _
 ·dsimp only;rw [<-hs1];exact CP<|yes y _
 ·dsimp only;have hnew:∀ j,j∈DY m->ka j≠k:=fun j hj z=>by
   obtain ⟨i,e,l⟩:=T.way j hj;have eh:hT prog w (ka j)=Kl (Jx prog w) k:=by rw [z];rfl
   rw [eh] at e l;rcases Nat.lt_trichotomy i N with q | q | q
   ·exact n i q (by rw [e];exact z)
   ·rw [q] at e;rw [e,(fL.mp hj).2] at hN0;cases hN0
   ·rw [l N q] at hN0;cases hN0
  refine BL<|SJ ho1 rfl T1.fits ?_
  have hj8:=sS (Kl (Jx prog w) k) N;generalize hjj:(pq (Kl (Jx prog w) k) N).fst=j at hN0 hj8 |-
  have hput:t.put j=({ t with place:=(DY (m ||| 2^j)).toArray },rk m j):=by
   unfold SetTable.put;have e1:=(nJ ⟨m,T.m8⟩ ⟨j,hj8⟩).1;have e2:=(rN ⟨m,T.m8⟩ ⟨j,hj8⟩ hN0).1;dsimp only at e1 e2;have e3:QT (DY m).toArray (rk m j) j=(DY (m ||| 2^j)).toArray:=by
    apply Array.ext';rw [SetTable.toList_insertAt,e2]
   rw [T.place,T.dum,e1];dsimp only;rw [e3,if_neg (by simp [SetTable.has])]
  have hfull:({ t with place:=(DY (m ||| 2^j)).toArray }:MP).tooFull=false:=by
   have e:=rE ⟨m,T.m8⟩ ⟨j,hj8⟩ hN0;dsimp only at e;unfold SetTable.tooFull SetTable.fill;rw [T.mask,T.dum];simp only [Em,e];simp;lia
  rw [hput];dsimp only;have key:∀ {R:Unit->kI->Prop},(∀ h',Kh a s.heap h'->pL prog w h' a (m ||| 2^j) (fun i=>if i=j then k else ka i) (fun i=>if i=j then b else ad i)->R () { s1 with heap:=h' })->Bu (Bx prog w) A (storeSet a (QT (elL prog w m ka ad).toArray (rk m j) (Kl (Jx prog w) k,Value.ref b)) { t with place:=(DY (m ||| 2^j)).toArray }) R E s1:=by
   intro R hR;have e:=rE ⟨m,T.m8⟩ ⟨j,hj8⟩ hN0;dsimp only at e;have ee:=M9 (prog:=prog) (w:=w) (ka:=ka) (ad:=ad) (k:=k) (b:=b) T.m8 hj8 hN0;unfold hT at ee;rw [ee];refine wpAny_storeSet_of ho1 rfl (hR _ ?_ ?_) ?_
   ·rw [eh];exact R7 ..
   ·have hsb:Kh a s1.heap (s1.heap.update a (Obj.putSet (elL prog w (m ||| 2^j) (fun i=>if i=j then k else ka i) (fun i=>if i=j then b else ad i)).toArray { t with place:=(DY (m ||| 2^j)).toArray })):=R7 ..;refine ⟨ep+1,{ t with place:=(DY (m ||| 2^j)).toArray },?_,⟨T.mask,rfl,T.dum,(rN ⟨m,T.m8⟩ ⟨j,hj8⟩ hN0).2,by rw [e];lia,fun i hi=>?_,fun i hi=>?_⟩⟩
    ·have:=Lb (Obj.putSet (elL prog w (m ||| 2^j) (fun i=>if i=j then k else ka i) (fun i=>if i=j then b else ad i)).toArray { t with place:=(DY (m ||| 2^j)).toArray }) ho1 (by rw [putSet_of _ _ rfl];rfl)
     rw [putSet_of _ _ rfl] at this;exact this
    ·obtain ⟨hi8,hib⟩:=fL.mp hi;have o:=Bl ⟨m,T.m8⟩ ⟨j,hj8⟩ ⟨i,hi8⟩;dsimp only at o;by_cases z:i=j
     ·simp only [if_pos z];exact TK.same hk1 ho1 hsb
     ·simp only [if_neg z];refine TK.same (T1.key i<|fL.mpr ⟨hi8,?_⟩) ho1 hsb;rw [hib,decide_eq_false z,Bool.or_false] at o;exact o.symm
    ·obtain ⟨hi8,hib⟩:=fL.mp hi;have up:∀ n,n<8->m.testBit n=true->(m ||| 2^j).testBit n=true:=fun n hn hb=>by
      have:=Bl ⟨m,T.m8⟩ ⟨j,hj8⟩ ⟨n,hn⟩
      dsimp only at this;rw [this,hb];rfl
     have o:=Bl ⟨m,T.m8⟩ ⟨j,hj8⟩ ⟨i,hi8⟩;dsimp only at o;by_cases z:i=j
     ·simp only [if_pos z];exact ⟨N,by rw [z];exact hjj,fun n hn=>up _ (sS _ _)<|hN1 n hn⟩
     ·simp only [if_neg z];rw [hib,decide_eq_false z,Bool.or_false] at o;obtain ⟨n,e1,e2⟩:=T.way i (fL.mpr ⟨hi8,o.symm⟩);exact ⟨n,e1,fun i hi=>up _ (sS _ _)<|e2 i hi⟩
   ·have e9:(elL prog w (m ||| 2^j) (fun i=>if i=j then k else ka i) (fun i=>if i=j then b else ad i)).toArray.size=(DY m).length+1:=by
     unfold elL;rw [Em,Eh,e]
    rw [e9,RM];lia
  have fin:∀ h',Kh a s.heap h'->pL prog w h' a (m ||| 2^j) (fun i=>if i=j then k else ka i) (fun i=>if i=j then b else ad i)->Q true { s1 with heap:=h' }:=fun h' hsb hS=>by
   rw [<-hs1];exact no hnew h' j _ hsb hj8 hN0 hS
  split
  ·refine BL<|wk hk1 ?_
   rw [if_pos rfl,hfull];refine BL<|key fun h' hsb hS=>?_
   exact CP<|fin h' hsb hS
  ·refine BL<|CP ?_
   rw [if_pos rfl,hfull];refine BL<|key fun h' hsb hS=>?_
   exact CP<|fin h' hsb hS
end
def K4 (acc:List (List Int))(k:List Int):List (List Int):=if k∈acc then acc else acc++[k]
def Lf (l:List (List Int)):List (List Int):=l.foldl K4 []
theorem iQ:∀ (l acc:List (List Int)),(l.foldl K4 acc).length<=acc.length+l.length
 | [],acc=>by simp
 | k::r,acc=>by
  have:=iQ r (K4 acc k)
  rw [RD];unfold K4 at this |-
  split at this <;> simp_all <;> lia
section
variable {prog:CR}{w:CQ}{A:CT}{E:JI->kI->Prop}{R:Result->kI->Prop}
structure Di (prog:CR) (w:CQ) (z:Nat) (h:Heap) (S:Addr) (seen:List (List Int)) (m:Nat) (ka:Nat->List Int) (ad:Nat->Addr):Prop where
 set:pL prog w h S m ka ad
 low:∀ j,j∈DY m->ad j<z
 mem:∀ k,k∈seen↔∃ j,j∈DY m/\ka j=k
 len:(DY m).length=seen.length
theorem Di.keep {z:Nat}{h h':Heap}{S:Addr}{seen:List (List Int)}{m:Nat}{ka:Nat->List Int}{ad:Nat->Addr}(B:Di prog w z h S seen m ka ad)(hS:∀ o,h.get? S=Dn o->h'.get? S=Dn o)(hl:∀ b o,b<z->h.get? b=Dn o->h'.get? b=Dn o):Di prog w z h' S seen m ka ad:=by
 obtain ⟨⟨ep,t,ho,T⟩,low,mem,len⟩:=B;refine ⟨⟨ep,t,hS _ ho,T.mask,T.place,T.dum,T.m8,T.few,fun j hj=>?_,T.way⟩,low,mem,len⟩;obtain ⟨o,i,n,e,r⟩:=T.key j hj;exact ⟨o,i,n,hl _ _ (low j hj) e,r⟩
end
section
variable {prog:CR}{w:CQ}{A:CT}{E:JI->kI->Prop}{s:kI}
abbrev Om (led:Bool):Obj:={ cls:=.type "set",dict:=Go,data:=.set #[] 0 (.fresh 0 0 led) }
theorem aeg {h:Heap}{a:Addr}{led:Bool}(ho:h.get? a=Dn (Om led)):pL prog w h a 0 (fun _=>[]) (fun _=>0):=
 ⟨0,.fresh 0 0 led,ho,rfl,rfl,rfl,by decide,by decide,fun j hj=>absurd hj (by simp [DY]),fun j hj=>absurd hj (by simp [DY])⟩
end
section
variable {X:Cx}{K:Bs}
def WX (K:Bs)(H:Hp):List V->List (List Int)->Prop:=Qt fun v k=>∃ b,v=.ref b/\G7 K H b (k.map V.int)
def abI (a:Addr)(n:Nat):HO:=.ext fun h=>∃ es ep t,h.get? a=Dn (J2 es ep t)/\t.fits es.size=true/\es.size=n
theorem Bk {prog:CR}{w:CQ}:∀ {k:List Int} {us:List JI},CJ (k.map V.int) us->ItemsAre (Jx prog w) k us
 | [],_,.nil=>.nil
 | i::k,_,.cons r t=>by
  obtain ⟨tk,rfl⟩:=r;exact .cons (intKind_is _ _ _ _)<|Bk t
theorem vN {α β : Type}{F:α->β->Prop}:∀ {l:List α} {k:List β} {j:Nat} {x:α},Qt F l k->l[j]?=Dn x->∃ y,k[j]?=Dn y/\F x y
 | _,_,_,_,.nil,e=>by simp at e
 | _,_,0,_,.cons r _,e=>by simp at e;subst e;exact ⟨_,rfl,r⟩
 | _,_,j+1,x,.cons _ t,e=>by
  obtain ⟨y,a,b⟩:=vN (j:=j) (x:=x) t (by simpa using e);exact ⟨y,by simpa using a,b⟩
theorem ahy {xs:List V}{us:List JI}(r:CJ xs us){j:Nat}{u:JI}(e:us[j]?=Dn u):∃ x,xs[j]?=Dn x/\RelV x u:=by
 have hl:=r.length;have hj:=(K8.mp e).1;have hj':j<xs.length:=by lia
 obtain ⟨y,a,b⟩:=CJ.get r (KN hj');rw [e] at a;cases a;exact ⟨_,KN hj',b⟩
theorem aee:m9 X (.builtin "len") (fun xs H Q=>∃ (a:Addr) (n:Nat),xs=[.ref a]/\H a=Dn (abI a n)/\n<=1000/\Q (.int n) H):=by
 intro pins s σ H xs us Q I r h;obtain ⟨a,n,rfl,hq,hn,q⟩:=h;obtain ⟨u,rfl,rx⟩:=vals1 r;cases rx;obtain ⟨⟨es,ep,t,ho,hf,e⟩,_⟩:=I.hok a _ hq;exact call_len_set ho ⟨rfl,rfl,rfl⟩ rfl hf (by lia) ⟨.int n,H,I.tok _,⟨_,by rw [e]⟩,q⟩
def BJ:List W->Option (List Int)
 | []=>Dn []
 | .int i::r=>(BJ r).map (i::·)
 | _=>Go
def vI:List W->Option (List (List Int))
 | []=>Dn []
 | .tup ws::r=>(match BJ ws,vI r with
  | some k,Dn l=>Dn (k::l)
  | _,_=>Go)
 | _=>Go
theorem Ay {H:Hp}{μ : Mu}:∀ {ws:List W} {xs:List V} {k:List Int},aN K H μ ws xs->BJ ws=Dn k->xs=k.map V.int
 | [],xs,k,r,e=>by
  rw [aN] at r;cases (show Dn []=Dn k from e)
  exact r
 | w::ws,xs,k,r,e=>by
  rw [aN] at r;obtain ⟨v,vr,ev,ra,r⟩:=r;cases w with
  | int b=>
   rw [Bo] at ra;rw [BJ] at e;cases q:BJ ws with
   | none=>rw [q] at e;cases e
   | some cs=>
    rw [q] at e;cases (show Dn (b::cs)=Dn k from e)
    rw [ev,ra,Ay r q];rfl
  | _=>cases e
theorem Aj {H:Hp}{μ : Mu}:∀ {ws:List W} {xs:List V} {kss:List (List Int)},aN K H μ ws xs->vI ws=Dn kss->WX K H xs kss
 | [],xs,k,r,e=>by
  rw [aN] at r;cases (show Dn []=Dn k from e)
  rw [r];exact .nil
 | w::ws,xs,kss,r,e=>by
  rw [aN] at r;obtain ⟨v,vr,ev,ra,r⟩:=r;cases w with
  | tup us=>
   rw [Bo] at ra;obtain ⟨p,ys,e1,hs,rs⟩:=ra;rw [vI] at e;cases q:BJ us with
   | none=>rw [q] at e;cases e
   | some k=>
    cases q2:vI ws with
    | none=>rw [q,q2] at e;cases e
    | some l=>
     rw [q,q2] at e;cases (show Dn (k::l)=Dn kss from e)
     rw [ev];exact .cons ⟨p,e1,by rw [<-Ay rs q];exact hs⟩<|Aj r q2
  | _=>cases e
end
section
variable {κ : Type} [DecidableEq κ]
def Rx (kvs:List (κ×V))(k:κ):Option V:=(kvs.find? fun kv=>decide (kv.1=k)).map (·.2)
theorem Ai {p:κ×V}{r:List (κ×V)}{k:κ}(e:p.1=k):Rx (p::r) k=Dn p.2:=by simp [Rx,Tj,e]
theorem zZ {p:κ×V}{r:List (κ×V)}{k:κ}(e:¬ p.1=k):Rx (p::r) k=Rx r k:=by simp [Rx,Tj,e]
theorem KV.val {kvs:List (κ×V)}{vs:List (κ×JI)}(r:KV kvs vs)(k:κ):Pk (Rx kvs k) (valueAt vs k):=by
 unfold KV at r;induction r with
 | nil=>exact True.intro
 | @cons p q ps qs h t ih=>
  obtain ⟨h1,h2⟩:=h;by_cases e:p.1=k
  ·have e':q.1=k:=h1.symm.trans e;have b:valueAt (q::qs) k=Dn q.2:=by simp [valueAt,Tj,e']
   rw [Ai e,b];exact h2
  ·have e':¬ q.1=k:=fun z=>e (h1.trans z)
   have b:valueAt (q::qs) k=valueAt qs k:=by simp [valueAt,Tj,e']
   rw [zZ e,b];exact ih
end
theorem W2 {P:CR}{w:CQ}{k:Key}{u:JI}(r:RelV (kV k) u):(dN P w).is k u=true:=by
 cases k with
 | inl i=>obtain ⟨t,e⟩:=(show ∃ t,u=Value.int i t from r);subst e;exact yI P w i t
 | inr x=>obtain ⟨t,e⟩:=(show ∃ t,u=Value.str x t from r);subst e;exact xU P w x t
section
variable {P:CR}{w:CQ}{H:Hp}{h:Heap}{a:Addr}
end
section
variable {X:Cx}{pins:List (Addr×Obj)}{σ : St}{H:Hp}{s:kI}{a:Addr}{y v:V}{u r:JI}{o:Option V}{A:CT}{E:JI->kI->Prop}
end
section
variable {X:Cx}{pins:List (Addr×Obj)}{σ : St}{H:Hp}{s:kI}{a:Addr}{kvs:List (Key×V)}{k:Key}{u:JI}{A:CT}{E:JI->kI->Prop}
end
def ab0 (i:Expr):Prop:=∀ ov iv,subscripted i false ov iv=operate [ov,iv] (getItem ov iv)
theorem agz {prog:CR}{w:CQ}{A:CT}{E:JI->kI->Prop}{s:kI}{env:Env}{value slice:Expr}{pos:Pos}{T id:String}{Q:JI->kI->Prop}
  (hl:typeLookup (.type T) "__getitem__" = pure (Dn (.builtin id))) (hs:ab0 slice)
  (h:Bu (Bx prog w) A (eval value env) (fun o s₁=>Bu (Bx prog w) A (eval slice env) (fun i s₂=>s₂.TypeIs o T/\Bu (Bx prog w) A (getItem o i) Q E s₂) E s₁) E s) :
  Bu (Bx prog w) A (eval (.Subscript value slice pos) env) Q E s:=by
 refine Subscript_<|Ge h (fun o s₁ h₁=>Ge h₁ (fun i s₂ h₂=>?_) fun _ _ x=>x) fun _ _ x=>x
 obtain ⟨hT,h₂⟩:=h₂;unfold subscriptTail;refine BL ?_;rw [getitemInPython_of_ne hT.not_modules];refine BL<|Tf hT hl ?_
 have fin:Bu (Bx prog w) A (subscripted slice false o i) (fun r s₃=>Bu (Bx prog w) A (letTemporaryGo value o r >>= fun _=>pure r) Q E s₃) E s₂:=by
  rw [hs o i];exact wpAny_operating<|Ge h₂ (fun r s₃ h₃=>BL<|wpAny_letTemporaryGo<|CP h₃) fun _ _ x=>x
 first
  | exact CP (BL fin)
  | exact BL (CP (BL fin))
  | exact BL fin
section
variable {X:Cx}{o i e value:Expr}{pos pos' tpos:Pos}{td ty tv:TE}
end
section
variable {X:Cx}{pos:Pos}
end
def abf:W->Option Key
 | .int i=>Dn (.inl i)
 | .str x=>Dn (.inr x)
 | _=>Go
def Fe (kvs:List (Key×W))(k:Key):Option W:=(kvs.find? fun kv=>decide (kv.1=k)).map (·.2)
section
variable {K:Bs}{H:Hp}{μ : Mu}{kvs:List (Key×W)}{kvv:List (Key×V)}{k:Key}{w:W}{v:V}
theorem ahe (r:Bo K H μ w v)(e:abf w=Dn k):v=kV k:=by
 cases w with
 | int i=>rw [Bo] at r;cases e;exact r
 | str x=>rw [Bo] at r;cases e;exact r
 | _=>cases e
theorem J3.val (r:J3 K H μ kvs kvv)(e:Fe kvs k=Dn w):∃ v,Rx kvv k=Dn v/\Bo K H μ w v:=by
 unfold J3 at r;induction r with
 | nil=>cases e
 | @cons p q ps qs h t ih=>
  by_cases z:p.1=k
  ·have e1:Fe (p::ps) k=Dn p.2:=by simp [Fe,Tj,z]
   rw [e1] at e;cases e;exact ⟨q.2,Ai<|h.1.symm.trans z,h.2⟩
  ·have e1:Fe (p::ps) k=Fe ps k:=by simp [Fe,Tj,z]
   rw [e1] at e;obtain ⟨v,a,b⟩:=ih e;exact ⟨v,by rw [zZ<|fun y=>z<|h.1.trans y];exact a,b⟩
end
section
variable {X:Cx}{a b:Expr}{ma mb:ME}{pos:Pos}
def adw:M2:=fun x y h Q=>match x,abf y with
 | .loc n,Dn k=>(match h.c n with
  | some (.dct kvs)=>(match Fe kvs k with
   | some w=>Q w h
   | none=>False)
  | _=>False)
 | _,_=>False
inductive DDs (X:Cx):List (Option Expr)->List Expr->List (Key×ME)->Prop
 | nil:DDs X [] [] []
 | cons {x:Str} {j pos} {v:Expr} {m:ME} {ks:List (Option Expr)} {vs:List Expr} {r:List (Key×ME)} (h:DE X v m) (t:DDs X ks vs r):DDs X (Dn (.Constant (.str x) j pos)::ks) (v::vs) ((.inr x,m)::r)
end
inductive Bg (w:CQ) (K:Bs):List DictEntry->List (Key×W)->Prop
 | nil:Bg w K [] []
 | cons {x:Str} {t} {v:V} {u:JI} {d:W} {es:List DictEntry} {tbl:List (Key×W)} (r:RelV v u) (q:∀ H μ,Bo K H μ d v) (h:Bg w K es tbl):Bg w K (⟨Rb w.params x,.str x t,u⟩::es) ((.inr x,d)::tbl)
def ZG (w:CQ)(K:Bs)(a:Addr)(tbl:List (Key×W)):Prop:=(a==sysModules)=false/\(tbl.map (·.1)).Nodup/\tbl.length<=Dk/\∃ es n,K.lookup a=Dn ⟨.type "dict",Go,.dict es n,#[]⟩/\Bg w K es.toList tbl
theorem Bg.pairs {P:CR}{w:CQ}{K:Bs}{es:List DictEntry}{tbl:List (Key×W)}(h:Bg w K es tbl) :
  (∀ e∈es,∃ k,(dN P w).is k e.key=true/\e.hash=(dN P w).hash k)/\∃ vs kvv,Pairs (dN P w) es vs/\KV kvv vs/\(∀ H μ,J3 K H μ tbl kvv)/\vs.map (·.1)=tbl.map (·.1):=by
 induction h with
 | nil=>exact ⟨fun e z=>(nomatch z),[],[],.nil,.nil,fun _ _=>.nil,rfl⟩
 | @cons x t v u d es tbl r q h ih=>
  obtain ⟨h1,vs,kvv,h2,h3,h4,h5⟩:=ih;have hk:(dN P w).is (.inr x) (.str x t)=true:=W2 (k:=.inr x) ⟨t,rfl⟩;refine ⟨fun e z=>?_,(.inr x,u)::vs,(.inr x,v)::kvv,.cons hk rfl h2,.cons ⟨rfl,r⟩ h3,fun H μ=>.cons ⟨rfl,q H μ⟩<|h4 H μ,by rw [K7,K7,h5]⟩;rcases Cr.mp z with z | z
  ·subst z;exact ⟨.inr x,hk,rfl⟩
  ·exact h1 e z
theorem ZG.dict {X:Cx}{pins:List (Addr×Obj)}{σ : St}{H:Hp}{s:kI}{a:Addr}{tbl:List (Key×W)}(T:ZG X.w X.K a tbl)(I:BZ X pins σ H s) :
  ∃ vs kvv,s.heap.DictOf (dN X.prog X.w) a vs/\KV kvv vs/\∀ H μ,J3 X.K H μ tbl kvv:=by
 obtain ⟨_,nd,_,es,n,hl,he⟩:=T;obtain ⟨h1,vs,kvv,h2,h3,h4,h5⟩:=he.pairs (P:=X.prog);exact ⟨vs,kvv,⟨_,es,n,I.kIn _ _ hl,⟨rfl,rfl,rfl⟩,rfl,fun e z=>h1 e<|Array.mem_toList_iff.mpr z,h2,by rw [h5];exact nd⟩,h3,h4⟩
section
variable {X:Cx}{b:Expr}{mb:ME}{pos p:Pos}{x:Str}{a:Addr}{tbl:List (Key×W)}
def ZQ (tbl:List (Key×W))(mb:ME):ME:=fun σ h Q=>mb σ h fun y h1=>match abf y with
 | some k=>(match Fe tbl k with
  | some w=>Q w h1
  | none=>False)
 | none=>False
theorem aaS (T:ZG X.w X.K a tbl)(hg:Gl X x)(hm:X.mg x=Dn (.ref a))(hb:DE X b mb)(hs:ab0 b)(hd:(x==("__debug__" : Str))=false:=by decide):DE X (.Subscript (.Name x p) b pos) (ZQ tbl mb):=by
 intro pins s σ H Q I ⟨μ,g,σw,Qw,R,S,m,q⟩;refine agz PySem.F.slot_dict_getitem.lookup hs<|DW ((Gv (v:=.ref a) hg hm rfl hd:PE X (.Name x p) (tC<|.ref a)) pins s σ H (fun v H'=>v=.ref a/\H'=H) I ⟨rfl,rfl⟩) fun u s1 ⟨v1,H1,I1,rx,ev,eH⟩=>?_
 subst ev eH;obtain rfl:u=Value.ref a:=rx;refine DW (hb pins s1 σ H1 _ I1 ⟨μ,g,σw,_,R,S,m,fun y H2 z=>z⟩) fun iv s2 ⟨y,H2,I2,ry,μ2,wy,h2,e2,R2,r2,z⟩=>?_;obtain ⟨vs,kvv,dd,rel,rf⟩:=T.dict I2;split at z
 ·rename_i k ek;split at z
  ·rename_i w ew;cases ahe r2 ek
   obtain ⟨v,ev,rv⟩:=(rf H2 μ2).val ew;obtain ⟨w',hw,rw'⟩:=Pk.some_of (v:=v) (o:=valueAt vs k) (by rw [<-ev];exact rel.val k);exact ⟨dd.typeIs,wpAny_getItem_of (W2 ry) dd.mapOf hw ⟨v,H2,I2.tok _,rw',q _ _ ⟨μ2,w,h2,e2,R2,rv,z⟩⟩⟩
  ·exact z.elim
 ·exact z.elim
end
section
variable {X:Cx}{pos p p':Pos}{x:Str}{a:Addr}{tbl:List (Key×W)}
end
section
variable {X:Cx}
end
section
variable {X:Cx}{K:Bs}{H:Hp}{μ : Mu}{h:Gh}
end
section
variable {X:Cx}{a b c:Expr}{ma mb mc:ME}{pos:Pos}
end
section
variable {K:Bs}{H:Hp}{μ : Mu}{fs:List (Str×W)}{fvs:List (Str×V)}{f:Str}{w:W}{v:V}
end
section
variable {X:Cx}{e o value:Expr}{es:List Expr}{ma mo mv:ME}{mr:MA}{f:Str}{C:Addr}{pos pos' apos:Pos}
end
section
variable {prog:CR}{w:CQ}{A:CT}{E:JI->kI->Prop}{s:kI}
end
section
variable {X:Cx}
end
section
variable {X:Cx}{e:Expr}{me:ME}{x:Str}{a:Addr}{tbl:List (Key×W)}{p pos:Pos}
end
section
variable {X:Cx}{Γ : St->Prop}{C:Addr}{o e:Expr}{es:List Expr}{mo:ME}{mr:MA}{pos apos:Pos}
end
section
variable {X:Cx}{pins:List (Addr×Obj)}{σ : St}{H:Hp}{s:kI}{K:Bs}{μ : Mu}
end
section
variable {X:Cx}{a b o i:Expr}{ma mb:ME}{td ty:TE}{pos:Pos}
end
section
variable {prog:CR}{w:CQ}{A:CT}{E:JI->kI->Prop}{s:kI}
end
section
variable {X:Cx}
end
def reo (es:Array (Int×JI))(laid:Option (MP×Array Nat)):Sem (Array (Int×JI)×MP):=do
 let Dn (t,order):=laid | unsupported "internal:set-table-without-room"
 let es':=order.filterMap (es[·]?)
 if es'.size != es.size then unsupported "internal:set-table-lost-an-element"
 pure (es',t)
theorem afV (a:Addr)(wanted:Nat):setRelay a wanted=(do
 let (es,_,t) <-setState a
 if SetTable.sizeAbove wanted>Dk then unsupported "set:memory"
 let (es,t) <-reo es (t.relaid (es.map (·.1)) wanted)
 storeSet a es t):=rfl
def ps (h:Int):Nat->Nat×Nat
 | 0=>(Le h % 32,Le h)
 | n+1=>SetTable.leap 31 (ps h n).1 (ps h n).2
theorem Y0 (h:Int):∀ n,(ps h n).1<32
 | 0=>Nat.mod_lt _ (by decide)
 | n+1=>Nat.mod_lt _ (by decide)
theorem Hg (h:Int):∀ n,(ps h n).2=Le h / 32^n
 | 0=>by simp [ps]
 | n+1=>by
  show (ps h n).2 / 32=_;rw [Hg h n,Nat.div_div_eq_div_mul,Nat.pow_succ]
theorem agm (h:Int)(n:Nat)(hn:13<=n):(ps h n).2=0:=by
 rw [Hg];apply Nat.div_eq_of_lt;have h1:Le h<2^64:=by
  unfold Le;have a:=SM h (show (0:Int)<2^64 by decide);have b:=Ru h (show (2^64:Int)≠0 by decide);lia
 have h2:32^13<=32^n:=Nat.pow_le_pow_right (by decide) hn;have h3:(2:Nat)^64<32^13:=by decide
 lia
def lcs:Nat->Nat->Nat
 | i,0=>i
 | i,k+1=>(lcs i k*5+1) % 32
theorem Oi (h:Int):∀ k,(ps h (13+k)).1=lcs (ps h 13).1 k
 | 0=>rfl
 | k+1=>by
  show ((ps h (13+k)).1*5+1+(ps h (13+k)).2 / 32) % (31+1)=_;rw [agm h _ (by lia),Oi h k];rfl
theorem afx:∀ i:Fin 32,∀ j:Fin 32,∃ k:Fin 32,lcs i k=j.val:=by decide +kernel
theorem XS (h:Int){j:Nat}(hj:j<32):∃ n,n<45/\(ps h n).1=j:=by
 obtain ⟨k,e⟩:=afx ⟨(ps h 13).1,Y0 h 13⟩ ⟨j,hj⟩;exact ⟨13+k.val,by lia,by rw [Oi];exact e⟩
theorem Xv {i:Nat}(h:i<32):i<=T7 31 i/\T7 31 i<32:=by
 unfold T7;split <;> lia
theorem Ep (owner:Array (Option Nat))(h:Int):∀ (d n fuel:Nat),d<fuel->owner.getD (ps h (n+d)).1 (Dn 0)=Go->∃ j,j<32/\owner.getD j (Dn 0)=Go/\V6 31 owner fuel (ps h n).1 (ps h n).2=Dn j
 | _,_,0,hf,_=>absurd hf (RB _)
 | d,n,fuel+1,hf,e=>by
  unfold V6;have hl:=Xv (Y0 h n);cases q:(Jo (T7 31 (ps h n).1+1 - (ps h n).1)).find? fun k=>(owner.getD ((ps h n).1+k) (Dn 0)).isNone with
  | some k=>
   have h1:=List.find?_some q;have h2:=Mw.mp (List.mem_of_find?_eq_some q);exact ⟨(ps h n).1+k,by lia,by simpa using h1,rfl⟩
  | none=>
   cases d with
   | zero=>
    rw [List.find?_eq_none] at q;refine absurd ?_<|q 0<|Mw.mpr<|by lia
    rw [Nat.add_zero] at e |-
    rw [e];rfl
   | succ d=>
    dsimp only;exact Ep owner h d (n+1) fuel (by lia) (by rw [show n+1+d=n+(d+1) by lia];exact e)
theorem agk {owner:Array (Option Nat)}(h:Int){j:Nat}(hj:j<32)(e:owner.getD j (Dn 0)=Go):∃ j,j<32/\owner.getD j (Dn 0)=Go/\V6 31 owner (SetTable.turns 31) (Le h % (31+1)) (Le h)=Dn j:=by
 obtain ⟨n,hn,en⟩:=XS h hj;have:=Ep owner h n 0 46 (by lia) (by rw [S8,en];exact e)
 exact this
def liv (o:Array (Option Nat)):List (Nat×Nat):=(Jo 32).filterMap fun j=>(o.getD j Go).map (j,·)
theorem O6 {f g:Nat->Option (Nat×Nat)}{j:Nat}(hf:f j=Go)(hg:(g j).isSome=true)(he:∀ i,i≠j->g i=f i):∀ l:List Nat,l.Nodup->(l.filterMap g).length=(l.filterMap f).length+(if j∈l then 1 else 0)
 | [],_=>by simp
 | a::l,hn=>by
  rw [Lq] at hn;have ih:=O6 hf hg he l hn.2;by_cases z:a=j
  ·subst z;rw [if_neg hn.1] at ih;rw [if_pos (LR ..)];obtain ⟨y,ey⟩:=Option.isSome_iff_exists.mp hg;rw [V5 ey,List.filterMap_cons_none hf,Jb,ih]
  ·have e1:(if j∈a::l then 1 else 0)=(if j∈l then 1 else 0):=by
    simp only [Cr,show ¬ j=a from fun q=>z q.symm,false_or]
   rw [e1];cases q:f a with
   | none=>rw [List.filterMap_cons_none (by rw [he a z,q]),List.filterMap_cons_none q];exact ih
   | some y=>rw [V5 (by rw [he a z,q]),V5 q,Jb,Jb,ih];lia
theorem Ni {f:Nat->Option (Nat×Nat)}{g:Nat->Nat×Nat}:∀ l:List Nat,(∀ j∈l,f j=Dn (g j))->l.filterMap f=l.map g
 | [],_=>rfl
 | a::l,h=>by rw [V5 (h a (LR ..)),K7,Ni l fun j hj=>h j (Kw _ hj)]
structure Lay (o:Array (Option Nat)) (k:Nat):Prop where
 sz:o.size=32
 len:(liv o).length=k
 low:∀ p,p∈liv o->p.2<k
theorem Lay.room {o:Array (Option Nat)}{k:Nat}(L:Lay o k)(hk:k<32):∃ j,j<32/\o.getD j (Dn 0)=Go:=by
 apply P0;intro hn;have all:∀ j,j<32->∃ v,o.getD j Go=Dn v:=fun j hj=>by
  cases q:o.getD j Go with
  | some v=>exact ⟨v,rfl⟩
  | none=>
   refine absurd ⟨j,hj,?_⟩ hn;have hs:j<o.size:=by rw [L.sz];exact hj
   simp only [Array.getD,hs,dite_true] at q |-
   exact q
 have e:liv o=(Jo 32).map fun j=>(j,(o.getD j Go).getD 0):=by
  unfold liv;refine Ni _ fun j hj=>?_;obtain ⟨v,ev⟩:=all j (Mw.mp hj);rw [ev];rfl
 have:=L.len
 rw [e,Eh,List.length_range] at this;lia
theorem Lay.put {o:Array (Option Nat)}{k j:Nat}(L:Lay o k)(hj:j<32)(e:o.getD j (Dn 0)=Go):Lay (o.setIfInBounds j (Dn k)) (k+1):=by
 have hs:j<o.size:=by rw [L.sz];exact hj
 have e0:o.getD j Go=Go:=by
  simp only [Array.getD,hs,dite_true] at e |-
  exact e
 have e1:(o.setIfInBounds j (Dn k)).getD j Go=Dn k:=by
  simp [Array.getD,hs]
 have e2:∀ i,i≠j->(o.setIfInBounds j (Dn k)).getD i Go=o.getD i Go:=fun i hi=>by
  rw [Array.getD_eq_getD_getElem?,Array.getD_eq_getD_getElem?,Array.getElem?_setIfInBounds_ne (Eu hi)]
 refine ⟨by rw [Array.size_setIfInBounds];exact L.sz,?_,?_⟩
 ·have:=O6 (f:=fun i=>(o.getD i Go).map (i,·)) (g:=fun i=>((o.setIfInBounds j (Dn k)).getD i Go).map (i,·)) (j:=j) (by rw [e0];rfl) (by rw [e1];rfl) (fun i hi=>by rw [e2 i hi]) (Jo 32) List.nodup_range
  rw [if_pos (Mw.mpr hj)] at this;have l:=L.len;unfold liv at l |-
  lia
 ·intro p hp;obtain ⟨i,hi,ep⟩:=List.mem_filterMap.mp hp;by_cases z:i=j
  ·rw [z,e1] at ep;cases ep;exact Nat.lt_succ_self _
  ·rw [e2 i z] at ep;have:=L.low p (List.mem_filterMap.mpr ⟨i,hi,ep⟩)
   lia
theorem Aa:∀ (hs:List Int) (o:Array (Option Nat)) (k:Nat),Lay o k->k+hs.length<32->∃ o',Lay o' (k+hs.length)/\hs.foldl (fun (acc:Option (Array (Option Nat)×Nat)) h=>do
  let (owner,k) <-acc
  let j <-V6 31 owner (SetTable.turns 31) (Le h % (31+1)) (Le h)
  pure (owner.setIfInBounds j (Dn k),k+1)) (Dn (o,k))=Dn (o',k+hs.length)
 | [],o,k,L,_=>⟨o,L,rfl⟩
 | h::hs,o,k,L,hl=>by
  rw [Jb] at hl;obtain ⟨j0,hj0,e0⟩:=L.room (by lia);obtain ⟨j,hj,e,ef⟩:=agk h hj0 e0;obtain ⟨o',L',e'⟩:=Aa hs _ _ (L.put hj e) (by lia);refine ⟨o',by rw [Jb,show k+(hs.length+1)=k+1+hs.length by lia];exact L',?_⟩;rw [RD,Jb,show k+(hs.length+1)=k+1+hs.length by lia,<-e'];congr 1
  show ((V6 31 o (SetTable.turns 31) (Le h % (31+1)) (Le h)).bind fun j=>Dn (o.setIfInBounds j (Dn k),k+1))=_;rw [ef];rfl
theorem lay0:Lay (Array.replicate 32 Go) 0:=⟨by simp,by decide +kernel,fun p hp=>by
 have:liv (Array.replicate 32 Go)=[]:=by decide +kernel
 rw [this] at hp;cases hp⟩
theorem agN (f mv:Nat)(led pl:Bool)(hs:Array Int)(h:hs.size<32):∃ t idx,SetTable.laid 31 f mv led pl hs=Dn (t,idx)/\t.place.size=hs.size/\t.dummies = #[]/\t.mask=31/\idx.size=hs.size/\∀ i,i∈idx->i<hs.size:=by
 obtain ⟨o,L,e⟩:=Aa hs.toList (Array.replicate (31+1) Go) 0 lay0 (by simpa using h);have ec:afK 31 hs=Dn o:=by
  unfold afK;rw [<-Array.foldl_toList,e];rfl
 have hlen:(0+hs.toList.length)=hs.size:=by simp
 rw [hlen] at L;refine ⟨_,_,by unfold SetTable.laid;rw [ec];rfl,?_,rfl,rfl,?_,?_⟩
 ·show (((Jo (31+1)).filterMap fun j=>(o.getD j Go).map (j,·)).map (·.1)).toArray.size=_;rw [Em,Eh];exact L.len
 ·show (((Jo (31+1)).filterMap fun j=>(o.getD j Go).map (j,·)).map (·.2)).toArray.size=_;rw [Em,Eh];exact L.len
 ·intro i hi;have hi:i∈((liv o).map (·.2)).toArray:=hi;rw [List.mem_toArray] at hi;obtain ⟨p,hp,rfl⟩:=Mv.mp hi;exact L.low p hp
def Bv (h:Heap)(a:Addr)(n:Nat):Prop:=∃ es ep t,h.get? a=Dn (J2 es ep t)/\t.fits es.size=true/\es.size=n
theorem ahn {α : Type}(es:Array α)(idx:Array Nat)(h:∀ i,i∈idx->i<es.size):(idx.filterMap (es[·]?)).size=idx.size:=by
 have:(idx.filterMap (es[·]?)).toList.length=idx.toList.length:=by
  rw [Array.toList_filterMap];have:∀ l:List Nat,(∀ i∈l,i<es.size)->(l.filterMap (es[·]?)).length=l.length:=by
   intro l;induction l with
   | nil=>intro _;rfl
   | cons a l ih=>
    intro hl;have ha:=hl a (LR ..);rw [V5 (Array.getElem?_eq_getElem ha),Jb,Jb,ih fun i hi=>hl i (Kw _ hi)]
  exact this _ fun i hi=>h i<|by simpa using hi
 rw [Uj,Uj] at this;exact this
section
variable {prog:CR}{w:CQ}{A:CT}{E:JI->kI->Prop}{s:kI}{a:Addr}
theorem w6 {es:Array (Int×JI)}{ep:Nat}{t:MP}{Q:Unit->kI->Prop}(ho:s.heap.get? a=Dn (J2 es ep t))(hf:t.fits es.size=true)(h5:es.size<32)
  (h:∀ h',Kh a s.heap h'->Bv h' a es.size->Q () { s with heap:=h' }):Bu (Bx prog w) A (setRelay a 20) Q E s:=by
 rw [afV];refine BL<|SJ ho rfl hf ?_
 dsimp only;have e32:SetTable.sizeAbove 20=32:=by decide +kernel
 rw [e32,if_neg (by rw [RM];decide)];obtain ⟨t',idx,el,h1,h2,h3,h4,h6⟩:=agN t.finger (t.movedTo 31) t.led t.plain (es.map (·.1)) (by simpa using h5);have er:t.relaid (es.map (·.1)) 20=Dn (t',idx):=by
  unfold SetTable.relaid;rw [e32];exact el
 rw [er];have hs:(idx.filterMap (es[·]?)).size=es.size:=by
  rw [ahn es idx (fun i hi=>by have:=h6 i hi;simpa using this),h4];simp
 have ereo:reo es (Dn (t',idx))=pure (idx.filterMap (es[·]?),t'):=by
  unfold reo;dsimp only;rw [hs];simp
 rw [ereo];refine BL<|CP ?_
 dsimp only;refine wpAny_storeSet_of ho rfl (h _ (R7 ..) ?_) (by rw [hs,RM];lia);refine ⟨idx.filterMap (es[·]?),ep+1,t',?_,?_,hs⟩
 ·have:=Lb (Obj.putSet (idx.filterMap (es[·]?)) t') ho (by rw [putSet_of _ _ rfl];rfl)
  rw [putSet_of _ _ rfl] at this;exact this
 ·unfold SetTable.fits SetTable.fill;rw [h1,h2,h3,hs];simp;lia
end
section
variable {prog:CR}{w:CQ}{A:CT}{E:JI->kI->Prop}{s:kI}{m:Nat}{ka:Nat->List Int}{ad:Nat->Addr}{t:MP}{a b:Addr}{k:List Int}
theorem wG {Q:Bool->kI->Prop}(hu:A.units<J7)(S:pL prog w s.heap a m ka ad)(hk:TK prog w s.heap k b)(h3:(DY m).length=4)
  (yes:(∃ j,j∈DY m/\ka j=k)->∀ tk,Q false { s with toks:=tk })
  (no:(∀ j,j∈DY m->ka j≠k)->∀ h' tk,Kh a s.heap h'->Bv h' a 5->Q true { s with heap:=h',toks:=tk }) :
  Bu (Bx prog w) A (setAdd a (.ref b)) Q E s:=by
 obtain ⟨ep,t,ho,T⟩:=S;unfold setAdd;refine JK<|BL<|wpAny_pyHash_tuple hu hk ?_
 unfold setAddHashed;refine JK ?_;generalize hs1:({ s with toks:=s.toks+(k.length+1) }:kI)=s1;have eh:s1.heap=s.heap:=by rw [<-hs1]
 have ho1:s1.heap.get? a=Dn (J2 (elL prog w m ka ad).toArray ep t):=by rw [eh];exact ho
 have T1:O4 prog w s1.heap m ka ad t:=by rw [eh];exact T
 have hk1:TK prog w s1.heap k b:=by rw [eh];exact hk
 unfold setAddHashedIn;refine BL<|SJ ho1 rfl T1.fits ?_
 dsimp only;have hby:byScan (.ref b) (elL prog w m ka ad).toArray=false:=rfl;rw [hby];simp only [Kv,if_false];obtain ⟨j0,hj0⟩:=zY ⟨m,T.m8⟩ (by show (DY m).length<8;lia);obtain ⟨N,hN,hN0,hN1⟩:=road (m:=m) (Kl (Jx prog w) k) ⟨j0.val,j0.isLt,hj0⟩;unfold setSearch;refine BL<|iD (h:=Kl (Jx prog w) k) rfl hu ho1 rfl T1 hk1 hN0 hN1 (fun y=>?_) (fun n=>?_) 100000 0 Go (by rw [Option.getD_none];exact Ax T.mask _) (by lia) (by lia) (by lia) fun i hi=>absurd hi<|RB _
 ·dsimp only;rw [<-hs1];exact CP<|yes y _
 ·dsimp only;have hnew:∀ j,j∈DY m->ka j≠k:=fun j hj z=>by
   obtain ⟨i,e,l⟩:=T.way j hj;have eh:hT prog w (ka j)=Kl (Jx prog w) k:=by rw [z];rfl
   rw [eh] at e l;rcases Nat.lt_trichotomy i N with q | q | q
   ·exact n i q (by rw [e];exact z)
   ·rw [q] at e;rw [e,(fL.mp hj).2] at hN0;cases hN0
   ·rw [l N q] at hN0;cases hN0
  refine BL<|SJ ho1 rfl T1.fits ?_
  have hj8:=sS (Kl (Jx prog w) k) N;generalize hjj:(pq (Kl (Jx prog w) k) N).fst=j at hN0 hj8 |-
  have hput:t.put j=({ t with place:=(DY (m ||| 2^j)).toArray },rk m j):=by
   unfold SetTable.put;have e1:=(nJ ⟨m,T.m8⟩ ⟨j,hj8⟩).1;have e2:=(rN ⟨m,T.m8⟩ ⟨j,hj8⟩ hN0).1;dsimp only at e1 e2;have e3:QT (DY m).toArray (rk m j) j=(DY (m ||| 2^j)).toArray:=by
    apply Array.ext';rw [SetTable.toList_insertAt,e2]
   rw [T.place,T.dum,e1];dsimp only;rw [e3,if_neg (by simp [SetTable.has])]
  have e:=rE ⟨m,T.m8⟩ ⟨j,hj8⟩ hN0;dsimp only at e;have hfull:({ t with place:=(DY (m ||| 2^j)).toArray }:MP).tooFull=true:=by
   unfold SetTable.tooFull SetTable.fill;rw [T.mask,T.dum];simp only [Em,e,h3];decide
  rw [hput];dsimp only;have es5:(elL prog w m ka ad).toArray.size+1=5:=by
   unfold elL;rw [Em,Eh,h3]
  have e5:(QT (elL prog w m ka ad).toArray (rk m j) (Kl (Jx prog w) k,Value.ref b)).size=5:=by
   have ee:=M9 (prog:=prog) (w:=w) (ka:=ka) (ad:=ad) (k:=k) (b:=b) T.m8 hj8 hN0;unfold hT at ee;rw [ee];unfold elL;rw [Em,Eh,e,h3]
  have hg:SetTable.grown 5=20:=by decide
  have key:∀ {R:Unit->kI->Prop},(∀ h',Kh a s.heap h'->h'.get? a=Dn (J2 (QT (elL prog w m ka ad).toArray (rk m j) (Kl (Jx prog w) k,Value.ref b)) (ep+1) { t with place:=(DY (m ||| 2^j)).toArray })->R () { s1 with heap:=h' })->Bu (Bx prog w) A (storeSet a (QT (elL prog w m ka ad).toArray (rk m j) (Kl (Jx prog w) k,Value.ref b)) { t with place:=(DY (m ||| 2^j)).toArray }) R E s1:=by
   intro R hR;refine wpAny_storeSet_of ho1 rfl (hR _ (by rw [eh];exact R7 ..) ?_) (by rw [e5,RM];decide);have:=Lb (Obj.putSet (QT (elL prog w m ka ad).toArray (rk m j) (Kl (Jx prog w) k,Value.ref b)) { t with place:=(DY (m ||| 2^j)).toArray }) ho1 (by rw [putSet_of _ _ rfl];rfl)
   rw [putSet_of _ _ rfl] at this;exact this
  have fits5:({ t with place:=(DY (m ||| 2^j)).toArray }:MP).fits (QT (elL prog w m ka ad).toArray (rk m j) (Kl (Jx prog w) k,Value.ref b)).size=true:=by
   rw [e5];unfold SetTable.fits SetTable.fill;rw [T.mask,T.dum];simp only [Em,e,h3];decide
  have fin:∀ h1,Kh a s.heap h1->h1.get? a=Dn (J2 (QT (elL prog w m ka ad).toArray (rk m j) (Kl (Jx prog w) k,Value.ref b)) (ep+1) { t with place:=(DY (m ||| 2^j)).toArray })->Bu (Bx prog w) A (setRelay a 20) (fun _ s'=>Q true s') E { s1 with heap:=h1 }:=fun h1 hsb hS=>by
   refine w6 (s:={ s1 with heap:=h1 }) hS fits5 (by rw [e5];decide) fun h' hsb' hn=>?_;rw [e5] at hn;rw [<-hs1];exact no hnew h' _ (hsb.trans hsb') hn
  split
  ·refine BL<|wk hk1 ?_
   rw [if_pos rfl,hfull];refine BL<|key fun h' hsb hS=>?_
   rw [es5,hg];refine BL<|Ge (fin h' hsb hS) (fun _ s' z=>CP z) fun _ _ z=>z
  ·refine BL<|CP ?_
   rw [if_pos rfl,hfull];refine BL<|key fun h' hsb hS=>?_
   rw [es5,hg];refine BL<|Ge (fin h' hsb hS) (fun _ s' z=>CP z) fun _ _ z=>z
end
section
variable {prog:CR}{w:CQ}{A:CT}{E:JI->kI->Prop}{R:Result->kI->Prop}
theorem Bv.of {z:Nat}{h:Heap}{S:Addr}{seen:List (List Int)}{m:Nat}{ka:Nat->List Int}{ad:Nat->Addr}(B:Di prog w z h S seen m ka ad):Bv h S seen.length:=by
 obtain ⟨⟨ep,t,ho,T⟩,_,_,len⟩:=B;exact ⟨_,ep,t,ho,T.fits,by unfold elL;rw [Em,Eh,len]⟩
theorem sI {l I S:Addr}{items:Array JI}{i n:Nat}{s:kI}(hh:A.in1.handled=Go)(hne:l≠I)(hIS:I≠S)(ei:i=items.size)(st:s.heap.IsListIter I l i/\s.heap.IsList l items)(B:Bv s.heap S n)
  (hR:∀ h' tk,Bv h' S n->(∀ b o,b≠S->b≠I->s.heap.get? b=Dn o->h'.get? b=Dn o)->R (.ok (.ret .none)) { s with heap:=h',toks:=tk }) :
  Mi (Bx prog w) A (.builtin "set.update.loop" ⟨[.ref S,.ref I],[]⟩) R s:=by
 have W:=(Walks.list (prog:=prog) (w:=w) hh I l hne items).toS;subst ei;refine codeAny_builtin F.entry_set_update_loop ?_;rw [Around.under_plainId Tz _];show Bu _ A.in1 (LK (.ref I) >>= _) _ _ s;refine BL<|W.done s _ _ st fun s' hm=>?_
 obtain ⟨h',g',d',tk',os'⟩:=s';obtain ⟨eh,eg,ed,eo,_⟩:=hm;simp only at eg ed eo;subst eg;subst ed;subst eo;have hk:∀ b o,b≠I->s.heap.get? b=Dn o->h'.get? b=Dn o:=fun b o hb e=>eh b o (by simpa using hb) e
 obtain ⟨es,ep,t,ho,q⟩:=B;exact CP<|hR h' tk' ⟨es,ep,t,hk S _ (Eu hIS) ho,q⟩ fun b o _ hb e=>hk b o hb e
theorem pY {l I S:Addr}{z:Nat}{items:Array JI}{kss:List (List Int)}(hh:A.in1.handled=Go)(hu:A.in1.units<J7)(hne:l≠I)(hlS:l≠S)(hIS:I≠S)(hzS:z<=S)(hzI:z<=I)(h4:kss.length<=5)(hn:items.size=kss.length) :
  ∀ (rest:List (List Int)) (i:Nat) (s:kI) (seen:List (List Int)) (m:Nat) (ka:Nat->List Int) (ad:Nat->Addr),i+rest.length=kss.length->seen.length<=i ->
   (∀ j v,items[i+j]?=Dn v->∃ b k,v=.ref b/\rest[j]?=Dn k/\b<z/\TK prog w s.heap k b)->(s.heap.IsListIter I l i/\s.heap.IsList l items)->Di prog w z s.heap S seen m ka ad ->
   (∀ h' tk,Bv h' S (rest.foldl K4 seen).length->(∀ b o,b≠S->b≠I->s.heap.get? b=Dn o->h'.get? b=Dn o)->R (.ok (.ret .none)) { s with heap:=h',toks:=tk }) ->
   Mi (Bx prog w) A (.builtin "set.update.loop" ⟨[.ref S,.ref I],[]⟩) R s
 | [],i,s,seen,m,ka,ad,hi,_,_,st,B,hR=>by
  refine sI hh hne hIS (by rw [hn];simpa using hi) st (Bv.of B) fun h' tk hN kp=>hR h' tk hN kp
 | k0::rest,i,s,seen,m,ka,ad,hi,hsl,hit,st,B,hR=>by
  have W:=(Walks.list (prog:=prog) (w:=w) hh I l hne items).toS;rw [Jb] at hi;refine codeAny_builtin F.entry_set_update_loop ?_;rw [Around.under_plainId Tz _];show Bu _ A.in1 (LK (.ref I) >>= _) _ _ s;refine BL<|W.item i s _ _ (by lia) st fun v s' hv st' hm=>?_
  obtain ⟨b,k,rfl,ek,hb,hk⟩:=hit 0 v hv;simp only [List.getElem?_cons_zero,Option.some.injEq] at ek;subst ek;obtain ⟨h1,g',d',tk',os'⟩:=s';obtain ⟨eh,eg,ed,eo,_⟩:=hm;simp only at eg ed eo;subst eg;subst ed;subst eo;have hk1:∀ b o,b≠I->s.heap.get? b=Dn o->h1.get? b=Dn o:=fun b o hb e=>eh b o (by simpa using hb) e
  have up:∀ {k b},b<z->TK prog w s.heap k b->TK prog w h1 k b:=fun {k b} hb ⟨o,i,n,e,r⟩=>⟨o,i,n,hk1 b o (Gf (GP hb hzI)) e,r⟩
  have B1:=B.keep (h':=h1) (fun o e=>hk1 S o (Eu hIS) e) fun b o hb e=>hk1 b o (Gf (GP hb hzI)) e
  by_cases hlen:(DY m).length<=3
  rotate_left
  ·have h4':(DY m).length=4:=by rw [B.len] at hlen |-;lia
   have hr:rest=[]:=V3 (by rw [B.len] at hlen;lia);subst hr;show Bu _ A.in1 (QJ [Value.ref b] (setAdd S (.ref b)) >>= _) _ _ _;refine BL<|JK<|wG (s:={ s with heap:=h1,toks:=tk' }) hu B1.set (up hb hk) h4' (fun y tk=>?_) fun n h2 tk hs hN=>?_
   ·refine CP ⟨plainId_quiet Tz _,?_⟩;have e:K4 seen k0=seen:=by unfold K4;rw [if_pos ((B.mem k0).mpr y)]
    refine sI (i:=i+1) (s:={ s with heap:=h1,toks:=tk }) hh hne hIS (by rw [hn,<-hi];rfl) st' (Bv.of B1) fun h' tk' hN kp=>?_;refine hR h' tk' (by rw [RD,e];exact hN) fun b o q1 q2 e=>kp b o q1 q2<|hk1 b o q2 e
   ·refine CP ⟨plainId_quiet Tz _,?_⟩;have nm:¬ k0∈seen:=fun hm=>by
     obtain ⟨j,hj,e⟩:=(B.mem k0).mp hm;exact n j hj e
    have e:K4 seen k0=seen++[k0]:=by unfold K4;rw [if_neg nm]
    have k2:∀ b o,b≠S->h1.get? b=Dn o->h2.get? b=Dn o:=fun b o hb e=>(hs.2 b hb).trans e
    have l5:(seen++[k0]).length=5:=by rw [Lr,<-B.len,h4'];rfl
    refine sI (i:=i+1) (s:={ s with heap:=h2,toks:=tk }) hh hne hIS (by rw [hn,<-hi];rfl) ?_ hN fun h' tk' hN' kp=>?_
    ·exact (W.frame _ { s with heap:=h1,toks:=tk' } h2 tk' st' (Dp _) fun b hb o e=>k2 b o (by
      simp only [Cr,Dl,or_false] at hb;rcases hb with rfl | rfl
      ·exact hIS
      ·exact hlS) e)
    ·refine hR h' tk' (by rw [RD,e];show Bv h' S (seen++[k0]).length;rw [l5];exact hN') fun b o q1 q2 e=>kp b o q1 q2<|k2 b o q1<|hk1 b o q2 e
  show Bu _ A.in1 (QJ [Value.ref b] (setAdd S (.ref b)) >>= _) _ _ _;refine BL<|JK<|zad (s:={ s with heap:=h1,toks:=tk' }) hu B1.set (up hb hk) hlen (fun y tk=>?_) fun n h2 j tk hs hj8 hjb hS=>?_
  ·refine CP ⟨plainId_quiet Tz _,?_⟩;have e:K4 seen k0=seen:=by unfold K4;rw [if_pos ((B.mem k0).mpr y)]
   refine pY hh hu hne hlS hIS hzS hzI h4 hn rest (i+1) { s with heap:=h1,toks:=tk } seen m ka ad (by lia) (by lia) (fun j v hv=>?_) st' B1 fun h' tk' B' kp=>?_
   ·obtain ⟨b',k',e1,e2,e3,e4⟩:=hit (j+1) v (by rw [<-hv];congr 1;lia);exact ⟨b',k',e1,by simpa using e2,e3,up e3 e4⟩
   ·refine hR h' tk' (by rw [RD,e];exact B') fun b o h1 h2 e=>kp b o h1 h2<|hk1 b o h2 e
  ·refine CP ⟨plainId_quiet Tz _,?_⟩;have nm:¬ k0∈seen:=fun hm=>by
    obtain ⟨j,hj,e⟩:=(B.mem k0).mp hm;exact n j hj e
   have e:K4 seen k0=seen++[k0]:=by unfold K4;rw [if_neg nm]
   obtain ⟨ep,t,ho,T⟩:=id B1.set;have m8:=T.m8;have hor:∀ i,i<8->(m ||| 2^j).testBit i=(m.testBit i||decide (i=j)):=fun i hi=>Bl ⟨m,m8⟩ ⟨j,hj8⟩ ⟨i,hi⟩
   have hmem:∀ i,i∈DY (m ||| 2^j)↔i∈DY m\/i=j:=fun i=>by
    rw [fL,fL];constructor
    ·rintro ⟨h8,hb⟩;rw [hor i h8,Bool.or_eq_true,decide_eq_true_eq] at hb;exact hb.elim (fun q=>.inl ⟨h8,q⟩) .inr
    ·rintro (⟨h8,hb⟩ | rfl)
     ·exact ⟨h8,by rw [hor i h8,hb];rfl⟩
     ·exact ⟨hj8,by rw [hor i hj8,decide_eq_true rfl,Bool.or_true]⟩
   have nj:∀ i,i∈DY m->i≠j:=fun i hi z=>by rw [z] at hi;rw [(fL.mp hi).2] at hjb;cases hjb
   have B2:Di prog w z h2 S (seen++[k0]) (m ||| 2^j) (fun i=>if i=j then k0 else ka i) (fun i=>if i=j then b else ad i):=by
    refine ⟨hS,fun i hi=>?_,fun k=>?_,?_⟩
    ·rcases (hmem i).mp hi with q | q
     ·simp only [if_neg (nj i q)];exact B.low i q
     ·simp only [if_pos q];exact hb
    ·rw [Rv,La,B.mem k];constructor
     ·rintro (⟨i,hi,e⟩ | rfl)
      ·exact ⟨i,(hmem i).mpr (.inl hi),by simp only [if_neg<|nj i hi];exact e⟩
      ·exact ⟨j,(hmem j).mpr (.inr rfl),by simp⟩
     ·rintro ⟨i,hi,e⟩;rcases (hmem i).mp hi with q | q
      ·simp only [if_neg (nj i q)] at e;exact .inl ⟨i,q,e⟩
      ·simp only [if_pos q] at e;exact .inr e.symm
    ·have:=rE ⟨m,m8⟩ ⟨j,hj8⟩ hjb
     dsimp only at this;rw [this,B.len,Lr];rfl
   have k2:∀ b o,b≠S->h1.get? b=Dn o->h2.get? b=Dn o:=fun b o hb e=>(hs.2 b hb).trans e
   refine pY hh hu hne hlS hIS hzS hzI h4 hn rest (i+1) { s with heap:=h2,toks:=tk } (seen++[k0]) _ _ _ (by lia) (by rw [Lr,List.length_singleton];lia) (fun j v hv=>?_) ?_ B2 fun h' tk' B' kp=>?_
   ·obtain ⟨b',k',e1,e2,e3,e4⟩:=hit (j+1) v (by rw [<-hv];congr 1;lia);obtain ⟨o,i,n,e,r⟩:=up e3 e4;exact ⟨b',k',e1,by simpa using e2,e3,o,i,n,k2 b' o (Gf<|GP e3 hzS) e,r⟩
   ·exact (W.frame _ { s with heap:=h1,toks:=tk' } h2 tk' st' (Dp _) fun b hb o e=>k2 b o (by
     simp only [Cr,Dl,or_false] at hb;rcases hb with rfl | rfl
     ·exact hIS
     ·exact hlS) e)
   ·refine hR h' tk' (by rw [RD,e];exact B') fun b o q1 q2 e=>kp b o q1 q2<|k2 b o q1<|hk1 b o q2 e
end
section
variable {prog:CR}{w:CQ}{A:CT}{E:JI->kI->Prop}{s:kI}
theorem aev {l S:Addr}{z:Nat}{items:Array JI}{kss:List (List Int)}{led:Bool}{Q:JI->kI->Prop}(hh:A.handled=Go)(hu:A.units+5<J7)(h4:kss.length<=5)(hn:items.size=kss.length)(hz:z<=S)(hS:s.heap.get? S=Dn (Om led))(hl:s.heap.IsList l items)(hlz:l<z)
  (hit:∀ (j:Nat) (v:JI),items[j]?=Dn v->∃ b k,v=.ref b/\kss[j]?=Dn k/\b<z/\TK prog w s.heap k b)
  (h:∀ (h':Heap) (tk:Nat),Bv h' S (Lf kss).length->(∀ b o,b≠S->s.heap.get? b=Dn o->h'.get? b=Dn o)->Q Value.none { s with heap:=h',toks:=tk }) :
  Mi (Bx prog w) A (.call (.builtin "set.__init__") ⟨[.ref S,.ref l],[]⟩) (wants Q E) s:=by
 have ht:s.TypeIs (.ref S) "set":=⟨_,hS,rfl⟩
 refine codeAny_call_builtin RV.init.plain F.entry_set_init<|check_set_init_1 ht ?_
 obtain ⟨ol,hol,hcl,nl,hdl⟩:=id hl;obtain ⟨ocls,odict,odata,oslots⟩:=ol;simp only at hcl hdl;subst hcl;subst hdl;have q1:=F.sub_list_set;have q2:=F.sub_list_frozenset;have q3:(Value.type "list"==Value.type "dict")=false:=by decide
 unfold Pb.«set.__init__» noKeywords Builtin.Frozenset.updateFrom;generalize hPI:pyIter=PI
 wp_walk
 subst hPI;refine TQ hl ?_;refine BL<|wpAny_runValue ?_
 have hlt:l≠s.heap.objs.size:=Gf (Dj hol);have hSI:s.heap.objs.size≠S:=Eu (Gf (Dj hS));have hS':=Dm { cls:=.type "list_iterator",data:=.fields #[.ref l,.int 0 0] } hS;have hkeep:∀ b o,s.heap.get? b=Dn o->(s.heap.push { cls:=.type "list_iterator",data:=.fields #[.ref l,.int 0 0] }).get? b=Dn o:=fun b o e=>Dm _ e
 have hSz:=Dj hS;refine pY (l:=l) (I:=s.heap.objs.size) (z:=z) (kss:=kss) (by simp [hh]) (by simp;lia) hlt (fun e=>?_) hSI hz (GK hz<|S7 hSz) h4 hn kss 0 _ [] 0 _ _ (by simp) (by simp) (fun j v hv=>?_) ⟨⟨_,HD _ rfl,rfl,rfl⟩,hl.push _⟩ ⟨aeg hS',fun j hj=>absurd hj<|by simp [DY],fun k=>by simp [DY],by simp [DY]⟩ fun h' tk B kp=>?_
 ·rw [e] at hlz;exact absurd (GP hlz hz) (KZ _)
 ·obtain ⟨b,k,e1,e2,e3,o,i,n,e4,r⟩:=hit j v (by rw [<-hv];congr 1;lia);exact ⟨b,k,e1,e2,e3,o,i,n,hkeep b o e4,r⟩
 ·refine CP<|CP ?_
  exact h h' tk B fun b o hb e=>kp b o hb (Gf<|Dj e)<|hkeep b o e
theorem adP {l:Addr}{items:Array JI}{kss:List (List Int)}{Q:JI->kI->Prop}(hh:A.handled=Go)(hu:A.units+10<J7)(h4:kss.length<=5)(hn:items.size=kss.length)(hl:s.heap.IsList l items)
  (hit:∀ (j:Nat) (v:JI),items[j]?=Dn v->∃ b k,v=.ref b/\kss[j]?=Dn k/\TK prog w s.heap k b)
  (h:∀ (h':Heap) (tk:Nat),Bv h' s.heap.objs.size (Lf kss).length->(∀ b o,s.heap.get? b=Dn o->h'.get? b=Dn o)->Q (.ref s.heap.objs.size) { s with heap:=h',toks:=tk }) :
  Bu (Bx prog w) A (call (.type "set") [.ref l]) Q E s:=by
 obtain ⟨c,tl,hmro⟩:=RV.mro;have hmade:=RV.made;have hsub:=RV.sub;have g1:=RV.notType;have g2:=RV.canCreate;have g3:=F.typeCall_set_1 (.ref l);refine wpAny_call<|codeAny_of_tree ?_
 show Bu _ _ (callAny (.type "set") _) _ _ _;refine CP ⟨Uv _<|by decide +kernel,codeAny_builtin F.entry_type_call ?_⟩;rw [Around.under_plain (weight_type_call_type "set" [.ref l] []) rfl];repeat (any_goals (first | assumption | wp_step))
 refine RT (code_set_new_1 (.ref l) (E:=E) (Q₁:=fun u s1=>∃ led:Bool,u=.ref s.heap.objs.size/\s1 = { s with heap:=s.heap.push (Om led) }) fun led=>⟨led,rfl,rfl⟩) fun r s1 hr=>?_;cases r with
 | error e=>exact hr
 | ok fl=>
  cases fl with
  | ret u=>
   obtain ⟨led,rfl,rfl⟩:=hr;have hS:(s.heap.push (Om led)).get? s.heap.objs.size=Dn (Om led):=HD _ rfl;have ht:Shared.TypeIs { s with heap:=s.heap.push (Om led) } (.ref s.heap.objs.size) "set":=⟨_,hS,rfl⟩
   have b1:=RV.init.lookup;have b2:=RV.init.bind (.ref s.heap.objs.size);repeat (any_goals (first | assumption | wp_step))
   have hk:∀ b o,s.heap.get? b=Dn o->(s.heap.push (Om led)).get? b=Dn o:=fun b o e=>Dm _ e
   obtain ⟨ol,hol,r1⟩:=id hl;refine RT (aev (E:=E) (s:={ s with heap:=s.heap.push (Om led) }) (z:=s.heap.objs.size) (kss:=kss) (Q:=fun r s2=>r=.none/\∃ h' tk,s2 = { s with heap:=h',toks:=tk }/\Bv h' s.heap.objs.size (Lf kss).length/\∀ b o,s.heap.get? b=Dn o->h'.get? b=Dn o) (by simp [hh]) (by simp;lia) h4 hn (Dp _) hS ⟨ol,hk l ol hol,r1⟩ (Dj hol) (fun j v hv=>?_) fun h' tk B kp=>⟨rfl,h',tk,rfl,B,fun b o e=>kp b o (Gf<|Dj e)<|hk b o e⟩) fun r2 s2 hr2=>?_
   ·obtain ⟨b,k,e1,e2,o,i,n,e3,r⟩:=hit j v hv;exact ⟨b,k,e1,e2,Dj e3,o,i,n,hk b o e3,r⟩
   ·cases r2 with
    | error e=>exact hr2
    | ok f2=>
     cases f2 with
     | ret r=>
      obtain ⟨rfl,h',tk,rfl,B,kp⟩:=hr2;repeat (any_goals (first | assumption | wp_step))
      exact h h' tk B kp
     | _=>exact hr2.elim
  | _=>exact hr.elim
end
section
variable {X:Cx}{K:Bs}
theorem adJ (hc:X.calm=true)(hu:X.A.units+30<J7):m9 X (.type "set") (fun xs H Q=>∃ p ys kss,xs=[.ref p]/\Fl X.K H p ys/\WX X.K H ys kss/\kss.length<=5/\∀ l,H l=Go->Q (.ref l) (Cd H l (abI l (Lf kss).length))):=by
 intro pins s σ H xs us Q I r h;obtain ⟨p,ys,kss,rfl,hq,ht,h4,q⟩:=h;obtain ⟨u,rfl,rx⟩:=vals1 r;cases rx;obtain ⟨its,r',pl,hz⟩:=I.list hq;have e1:ys.length=its.length:=r'.length;have e2:ys.length=kss.length:=Paired.length ht;refine adP (kss:=kss) (I.ok.hd hc) (by lia) h4 (by rw [Em];lia) pl.isList (fun j v hv=>?_) fun h' tk B kp=>?_
 ·rw [List.getElem?_toArray] at hv;obtain ⟨x,ex,rx⟩:=ahy r' hv;obtain ⟨k,ek,b,rfl,hb⟩:=vN ht ex;cases rx;obtain ⟨its2,r2,⟨o,ho,hcl,n,hd⟩,_⟩:=I.tuple hb;exact ⟨b,k,rfl,ek,o,_,_,ho,hcl,hd,Bk r2⟩
 ·obtain ⟨es,ep,t,ho,hf,hn⟩:=B;exact ⟨.ref s.heap.objs.size,_,I.laid (t':=tk) kp (Dp _)<|show gJ X.prog X.w _ h' _ (abI s.heap.objs.size (Lf kss).length) from ⟨⟨es,ep,t,ho,hf,hn⟩,⟨_,ho⟩,fun h1 h2 ⟨es,ep,t,a,b,c⟩ k=>⟨es,ep,t,k _ a,b,c⟩⟩,rfl,q _<|I.hok.fresh<|Dp _⟩
def iU:MC:=fun ws h Q=>match ws with
 | [w]=>(match dW h w with
  | some us=>(match vI us with
   | some kss=>kss.length<=5/\Q (.int (Lf kss).length) h
   | none=>False)
  | none=>False)
 | _=>False
theorem uU {e:Expr}{ma:ME}{p1 p2 q1 q2:Pos}(hc:X.calm=true)(hu:X.A.units+30<J7)(hgl:Gl X "len")(hml:X.mg "len" = Go)(hgs:Gl X "set")(hms:X.mg "set" = Go)(ha:DE X e ma)
  (s1:Ce [e] X.env=(false,eval e X.env)::Ce [] X.env) (s2:Ce [Expr.Call (.Name "set" p2) [e] [] q2] X.env=(false,eval (Expr.Call (.Name "set" p2) [e] [] q2) X.env)::Ce [] X.env) :
  DE X (.Call (.Name "len" p1) [.Call (.Name "set" p2) [e] [] q2] [] q1) (Fv iU (aj ma aJ)):=
 (zB aee hgl hml QK (yx (vC (adJ hc hu) hgs hms (by rfl) (yx ha FZ s1) (by decide) (by decide) s1) FZ s2) (by decide) (by decide) s2).of fun σ H Q ⟨μ,g,σw,Qw,R,S,m,q⟩=>by
  refine ⟨μ,g,σw,_,R,S,m,fun v H1 ⟨μ1,w,h1,e1,R1,r1,m1⟩=>?_⟩;have m1:iU [w] h1 Qw:=m1;unfold iU at m1;dsimp only at m1;split at m1
  ·rename_i us ev;split at m1
   ·rename_i kss ek;obtain ⟨p,ys,ex,hs,rs⟩:=dg R1 r1 ev;subst ex;refine ⟨p,ys,kss,rfl,hs,Aj rs ek,m1.1,fun l hl=>?_⟩;have hle:=iQ kss [];refine ⟨l,(Lf kss).length,rfl,aU,?_,q _ _ ⟨μ1,.int (Lf kss).length,h1,e1.trans (Ex.laid hl).ext,R1.laid hl,by rw [Bo],m1.2⟩⟩;have:=m1.1
    unfold Lf;simp only [List.length_nil] at hle;lia
   ·exact m1.elim
  ·exact m1.elim
end
section
variable {X:Cx}{K:Bs}{o e:Expr}{mo:ME}{apos cpos:Pos}
end
def Ao:List JI->Bool
 | .ref _::r=>Ao r
 | l=>l==[.type "ValueError",.type "Exception",.type "BaseException",.type "object"]
theorem zaO (y:JI)(l:List JI):Ao l=true->refuseLoop y "__setattr__" l=pure ():=by
 induction l with
 | nil=>intro e;cases e
 | cons v r ih=>
  intro e;cases v with
  | ref c=>
   rw [refuseLoop_ref];exact ih e
  | _=>
   rw [eq_of_beq e];exact PySem.F.store_ValueError.passes y
theorem Wv (l:List JI):Ao l=true->l.contains (.type "object")=true:=by
 induction l with
 | nil=>intro e;cases e
 | cons v r ih=>
  intro e;cases v with
  | ref c=>
   rw [Uw,ih e];exact Bool.or_true _
  | _=>
   rw [eq_of_beq e];decide +kernel
def QF (K:Bs)(C:Addr):Bool:=(Ra K C).any fun cd=>Ao cd.mro
section
variable {prog:CR}{w:CQ}{A:CT}{s:kI}{K:Bs}{x C:Addr}{R:Result->kI->Prop}
theorem abz {oo:Obj}{dd:Option Obj}{nm:Str}{tok:Tok}{u:JI}(X:K.In s.heap)(I:PySem.W.InstAt s.heap x oo C dd)(hp:QF K C=true)(ht:KJ K (.ref C) nm=Dn Go)
  (h:Bu (Bx prog w) A.in1 (PySem.Builtin.ObjectAttr.storeInOwnDict (.ref x) (.ref C) (.str nm tok) nm u false)
   (fun f1 s1=>match f1 with
    | .done y=>R (.ok y) s1
    | .again c1=>c1.quiet=true/\Mi (Bx prog w) A c1 R s1) (fun e1 s1=>R (.error e1) s1) s) :
  Mi (Bx prog w) A (.call (.builtin "object.__setattr__") ⟨[.ref x,.str nm tok,u],[]⟩) R s:=by
 obtain ⟨c0,hc,ho⟩:=PySem.W.any_some hp;have emp:c0.mro.isEmpty=false:=by
  cases q:c0.mro with
  | nil=>rw [q] at ho;cases ho
  | cons _ _=>rfl
 have obj:R9 K C (.type "object")=Dn true:=by
  unfold R9;rw [hc,Option.bind_some,if_neg (by rw [emp];decide),Wv _ ho]
 have isO:SX (Bx prog w) s.heap (isInstance (.ref x) (.type "object")) true:=I.type.andThen (V8 X obj);refine codeAny_call_builtin Ur.slot.plain Ur.entry ?_;refine PySem.W.check_slot (i := "object.__setattr__") (owner := "object") (n := "__setattr__") (self:=.ref x) (rest:=[.str nm tok,u]) (kw:=[]) Ur.kind Ur.split isO (Ur.args (.ref x) (.str nm tok) u) ?_;have mro:SX (Bx prog w) s.heap (mroOf (.ref C)) c0.mro:=(PySem.W.looks_clsIn X hc).andThen .now;rw [PySem.W.osa_eq,refuse_eq];refine BL<|BL<|I.type.here<|BL<|mro.here ?_
 rw [zaO _ _ ho];refine CP<|BL<|I.type.here<|BL<|(PySem.W.looks_findIn X ht).here (BL ?_)
 exact CP h
end
section
variable {prog:CR}{w:CQ}{A:CT}{E:JI->kI->Prop}{s:kI}{K:Bs}{x dx C f:Addr}{mA:Str->Option JI}{name:Str}{v:JI}
theorem zbJ {fs:Array JI}{sl:Array (Option JI)}{Q:Unit->kI->Prop}(X:K.In s.heap)(hx:s.heap.get? x=Dn ⟨.ref C,Go,.fields fs,sl⟩)
  (hs:KJ K (.ref C) "__setattr__" = Dn (Dn (.builtin "object.__setattr__"))) (hp:QF K C=true) (ht:KJ K (.ref C) name=Dn Go) (hh:PySem.W.hasDictIn K C=true)
  (h:∀ h',h'.get? x=Dn ⟨.ref C,Dn s.heap.objs.size,.fields fs,sl⟩->h'.Ns1 s.heap.objs.size (fun y=>if y=name then Dn v else Go)->(∀ b o,b≠x->s.heap.get? b=Dn o->h'.get? b=Dn o)->Q () { s with heap:=h',toks:=s.toks+2 }) :
  Bu (Bx prog w) A (setAttr (.ref x) name v) Q E s:=by
 have J:PySem.W.InstAt s.heap x ⟨.ref C,Go,.fields fs,sl⟩ C Go:=⟨hx,rfl,rfl,trivial⟩
 refine PySem.W.set_plain X J hs<|abz (s:={ s with toks:=s.toks+1 }) X J hp ht ?_
 obtain ⟨cd,hc,hd'⟩:=PySem.W.any_some hh;refine BL<|CP<|BL<|BL<|wpAny_loadPart hx<|BL<|PySem.W.Looks.here (s:={ s with toks:=s.toks+1 }) (PySem.W.looks_clsIn X hc) ?_
 rw [hd'];obtain ⟨hp',g,d,t,os⟩:=s;refine BL<|wpAny_alloc' ?_
 have hxl:x<hp'.objs.size:=Dj hx;have hx1:(hp'.push { cls:=.type "dict",data:=.dict #[] }).get? x=Dn ⟨.ref C,Go,.fields fs,sl⟩:=Dm _ hx;have hD:(hp'.push { cls:=.type "dict",data:=.dict #[] }).get? hp'.objs.size=Dn { cls:=.type "dict",data:=.dict #[] }:=HD _ rfl;refine BL<|wpAny_update' hx1 ?_
 refine CP ?_;show Bu _ _ (Builtin.ObjectAttr.storeInDict hp'.objs.size (Value.str name t) name v) _ _ _;have hne:hp'.objs.size≠x:=Lk hxl;generalize eh:(hp'.push { cls:=.type "dict",data:=.dict #[] }).update x (fun o=>{ o with dict:=Dn hp'.objs.size })=hu;have hX:hu.get? x=Dn ⟨.ref C,Dn hp'.objs.size,.fields fs,sl⟩:=by rw [<-eh];exact Lb _ hx1 rfl
 have hN:hu.Ns1 hp'.objs.size (fun _=>Go):=by
  refine ⟨{ cls:=.type "dict",data:=.dict #[] },#[],_,?_,rfl,(fun e he=>absurd he<|by simp),?_,fun _=>rfl⟩
  ·rw [<-eh,Ld _ _ (Eu hne)];exact hD
  ·unfold UniqKeys;simp
 have kp:∀ b o,b≠x->hp'.get? b=Dn o->hu.get? b=Dn o:=fun b o hb e=>by rw [<-eh,Ld _ _ (Eu hb)];exact Dm _ e
 refine BL<|CP<|BL ?_
 refine wpAny_nsSet1 (s:=⟨hu,g,d,t+1,os⟩) hN fun h' hn2 hs2=>?_;obtain ⟨oD,esD,epD,hoD,hdD,hcD⟩:=hn2.count (PySem.Within.cons name v (show PySem.Within (fun _=>Go) [] from fun _ z=>absurd rfl z));refine BL<|wpAny_lookBehind hoD (by rw [hdD];exact pastItsLine_dict (GK hcD<|by simp [RM])) ?_
 exact CP (h h' ((hs2.2 x (Eu hne)).trans hX) hn2 fun b o hb e=>by
  by_cases hbd:b=hp'.objs.size
  ·rw [hbd] at e;exact absurd (Dj e) (KZ _)
  ·exact (hs2.2 b hbd).trans (kp b o hb e))
end
section
variable {prog:CR}{w:CQ}{A:CT}{E:JI->kI->Prop}{s:kI}{K:Bs}{x D:Addr}{ox:Obj}
theorem ahH {Q:JI->kI->Prop}{od:Option Obj}{name:Str}{v:JI}{expr:Bool}(X:K.In s.heap)(I:PySem.W.InstAt s.heap x ox D od)(hga:KJ K (.ref D) "__getattribute__" = Dn (Dn (.builtin "BaseException.__getattribute__")))(hk:KJ K (.ref D) "__getattr__" = Dn Go)
  (hf:PySem.W.findObj K D od name=Dn (.value v)) (hh:PySem.W.handedIn v=true) (hB:R9 K D (.type "BaseException")=Dn true)
  (h:Q v { s with toks:=s.toks+1 }):Bu (Bx prog w) A (getAttr (.ref x) name expr) Q E s:=by
 obtain ⟨hp,g,d,t,os⟩:=s;have L0:=I.type (M:=Bx prog w);have L1:=PySem.W.looks_findIn (M:=Bx prog w) X hga;have L2:=PySem.W.looks_findIn (M:=Bx prog w) X hk;have L3:=PySem.W.looks_find (M:=Bx prog w) X I hf;have L4:=V8 (M:=Bx prog w) X hB;unfold getAttr getAttrBy;refine BL<|wpAny_mkText<|JK<|BL<|PySem.W.Looks.at L0<|BL<|PySem.W.Looks.at L1 ?_
 show Bu _ _ (if (onTheHeap (Value.ref D)&&(Value.builtin "BaseException.__getattribute__"==Value.builtin "object.__getattribute__"))=true then _ else getAttrByItsOwn _ _ _ _ _ _) _ _ _;have hx2:(Value.builtin "BaseException.__getattribute__"==Value.builtin "object.__getattribute__")=false:=by decide +kernel
 rw [hx2,Ua,if_neg Hi];unfold getAttrByItsOwn;refine BL<|show Bu _ _ (typeLookup (Value.ref D) "__getattr__") _ _ _ from PySem.W.Looks.at L2 ?_
 refine BL<|RP<|JK ?_
 unfold callGetattribute;rw [show onTheHeap (Value.builtin "BaseException.__getattribute__")=false from rfl,Ua,if_neg Hi];unfold boundAndCalled;rw [PySem.F.attrBase_ValueError.ga.bind (.ref x)];refine BL<|CP ?_
 dsimp only;refine wpAny_call<|codeAny_call_builtin PySem.F.attrBase_ValueError.ga.plain F.entry_bexc_ga ?_
 have hk:builtinKind "BaseException.__getattribute__" = Dn .slot:=by decide +kernel
 have hsplit:splitId "BaseException.__getattribute__" = Dn ("BaseException", "__getattribute__"):=by decide +kernel
 have ha:=F.args_bexc_ga (.ref x) (.str name t);simp only [checkBuiltinCall,hk,hsplit];show Bu (Bx prog w) A.in1 (isInstance (Value.ref x) (Value.type "BaseException") >>= _) _ _ _;refine BL ?_;unfold isInstance;refine BL<|PySem.W.Looks.at L0<|PySem.W.Looks.at L4 ?_
 rw [if_neg (by decide)];change Bu (Bx prog w) A.in1 (match Manifest.signature? "BaseException.__getattribute__" with
  | some sig=>Bind.checkArgs "BaseException.__getattribute__" sig ⟨[Value.ref x,Value.str name t],[]⟩
  | x=>pure ()) _ _ _
 repeat (any_goals (first | assumption | (with_reducible refine TJ I.at_ ?_;rw [I.cls]) | with_reducible refine PySem.W.Looks.at L3 ?_ | wp_step))
 show Bu _ _ (handedOut v) _ _ _;rw [PySem.W.handedOut_of hh];exact CP h
end
section
variable {prog:CR}{w:CQ}{A:CT}{E:JI->kI->Prop}{h:Heap}{g:Array GenState}{d:Drawn}{t:Nat}{os:OsState}
variable {nm q:Str}{C N:Addr}{bs bm bmB:List JI}{hdct:Bool}{sn:List Str}{sub:List JI}{ab:Bool}{col:Option Bool}{dd:Option Addr}{k0 k1 k2 k3 k5:Option JI}{B newId initId:String}{K:Bs}{f:Addr}
abbrev K3 (C:Addr)(a:Addr):Obj:={ cls:=.ref C,data:=.fields #[.ref a,.none,.none,.none,.bool false,.none] }
theorem qC (F:ExcBaseFacts B newId initId bmB)(T:OwnTail h bmB bm){mN:Str->Option JI}{rest:List JI}{Q:Fin->kI->Prop}(X:K.In h)(hfn:Ud K (.ref f)=Dn (.type "function"))
  (c0:h.get? C=Dn (Rm nm q C N bs bm hdct sn sub ab col dd k0 k1 k2 k3 k5 newId)) (n0:h.Ns N mN) (hi:mN "__init__" = Dn (.ref f))
  (hq:Bu (Bx prog w) A (call (.ref f) (.ref (h.objs.size+1)::rest)) (fun r s'=>r=.none/\Q (.done (.ret (.ref (h.objs.size+1)))) s') E ⟨(h.push { cls:=.type "tuple",data:=.seq rest.toArray }).push (K3 C h.objs.size),g,d,t,os⟩) (few:rest.length<=Dk) :
  Bu (Bx prog w) A (Pb.«type.__call__» ⟨.ref C::rest,[]⟩) Q E ⟨h,g,d,t,os⟩:=by
 have up:∀ b o,h.get? b=Dn o->((h.push { cls:=.type "tuple",data:=.seq rest.toArray }).push (K3 C h.objs.size)).get? b=Dn o:=fun b o z=>Dm _ (Dm _ z)
 have c1:=up _ _ c0;have n1:=n0.keeps up;have T1:=T.keeps up;have X1:K.In ((h.push { cls:=.type "tuple",data:=.seq rest.toArray }).push (K3 C h.objs.size)):=fun a o z=>up a o (X a o z)
 have self:((h.push { cls:=.type "tuple",data:=.seq rest.toArray }).push (K3 C h.objs.size)).get? (h.objs.size+1)=Dn (K3 C h.objs.size):=by heap_get
 have own:(Value.ref C::bm).contains (.ref C)=true:=by rw [Uw];simp
 repeat (first | wp_step | (with_reducible refine wpAny_madeBy_exc c0 ?_) | (with_reducible refine TJ c0 ?_))
 refine codeAny_call_builtin_code (Uv _ F.quiet)<|wpAny_check_new_subT F T c0<|codeAny_exc_new_subT F T c0 ?_ few
 show Bu _ _ _ _ _ _;unfold isInstance;repeat (first | wp_step | (with_reducible refine TJ self ?_) | (with_reducible refine wpAny_isSubtype_exc c1 ?_;rw [own]))
 refine (show Bu _ _ (typeLookup (.ref C) _) _ _ _ from wpAny_typeLookup_tail c1 n1 T1 F.mroIs F.init.lookup ?_);rw [hi];refine JK<|BL<|PySem.W.Looks.here (s:=⟨_,g,d,t,os⟩) (PySem.W.bind_fn X1 (.ref<|h.objs.size+1) hfn) ?_
 refine BL<|Ge hq (fun r s' z=>?_) fun _ _ z=>z
 rw [z.1];exact CP<|show Bu _ _ (ret<|Value.ref<|h.objs.size+1) _ _ _ from CP z.2
theorem tE (F:ExcBaseFacts B newId initId bmB)(T:OwnTail h bmB bm){mN:Str->Option JI}{rest:List JI}{Q:JI->kI->Prop}(X:K.In h)(hfn:Ud K (.ref f)=Dn (.type "function"))
  (c0:h.get? C=Dn (Rm nm q C N bs bm hdct sn sub ab col dd k0 k1 k2 k3 k5 newId)) (n0:h.Ns N mN) (hi:mN "__init__" = Dn (.ref f))
  (hq:Bu (Bx prog w) (A.under (.builtin "type.__call__" ⟨.ref C::rest,[]⟩)) (call (.ref f) (.ref (h.objs.size+1)::rest)) (fun r s'=>r=.none/\Q (.ref (h.objs.size+1)) s') E ⟨(h.push { cls:=.type "tuple",data:=.seq rest.toArray }).push (K3 C h.objs.size),g,d,t,os⟩) (few:rest.length<=Dk) :
  Bu (Bx prog w) A (call (.ref C) rest) Q E ⟨h,g,d,t,os⟩:=by
 have y1:Shared.TypeIs ⟨h,g,d,t,os⟩ (.ref C) "type":=⟨_,c0,rfl⟩
 have y2:=tc_bind (.ref C);have y3:=tc_lookup;refine wpAny_call<|codeAny_of_tree<|show Bu _ _ (callAny (.ref C) _) _ _ _ from ?_
 repeat (any_goals (first | (with_reducible refine TJ c0 ?_) | assumption | wp_step))
 exact ⟨rfl,codeAny_call_builtin_at (Uv _<|by decide +kernel) entry_typeCall<|wpAny_check_type_call_sub c0<|qC F T X hfn c0 n0 hi hq few⟩
end
section
variable {prog:CR}{w:CQ}{M:Model}{A:CT}{E:JI->kI->Prop}{s:kI}{env:Env}{K:Bs}{f:Addr}
variable {nm q:Str}{C N:Addr}{bs bm bmB:List JI}{hdct:Bool}{sn:List Str}{sub:List JI}{ab:Bool}{col:Option Bool}{dd:Option Addr}{k0 k1 k2 k3 k5:Option JI}{B newId initId:String}
def QtE (A:CT)(h:Heap)(e:Addr):Prop:=∀ v,A.handled=Dn v->∃ a l,v=.ref a/\yN h l v/\e∉l
theorem Mr.heapL {P:CR}{w:CQ}{H:Hp}{h:Heap}{v:JI}(c:Mr H v)(x:HS P w H h):∃ l,yN h l v/\∀ a∈l,H a≠Go:=by
 induction c with
 | nil=>exact ⟨[],.nil,fun a ha=>absurd ha (by simp)⟩
 | @cons c o u vs z h1 h2 h3 _ ih=>
  obtain ⟨l,t,k⟩:=ih;refine ⟨_,.cons (x _ _ h1).1 h2 h3 t,fun a ha=>?_⟩;rcases Cr.mp ha with rfl | ha
  ·rw [h1];exact fun q=>nomatch q
  ·exact k a ha
theorem Quiet.qte {A:CT}{P:CR}{w:CQ}{H:Hp}{h:Heap}{e:Addr}(q:Quiet A H)(x:HS P w H h)(he:H e=Go):QtE A h e:=fun v z=>by
 obtain ⟨⟨a,h1⟩,c⟩:=q v z;obtain ⟨l,t,k⟩:=c.heapL x;exact ⟨a,l,h1,t,fun y=>k e y he⟩
theorem zaj {α : Type}{oe:Obj}{ws:Array JI}{e:Addr}{Q:α->kI->Prop}(hq:QtE A s.heap e)(he:s.heap.get? e=Dn oe)(hd:oe.data=.fields ws)(hz:2<ws.size)
  (h:∀ h',(∀ b,b≠e->h'.get? b=s.heap.get? b)->(∃ o',h'.get? e=Dn o'/\o'.cls=oe.cls/\o'.dict=oe.dict/\((A.handled=Go/\h'=s.heap)\/∃ v,A.handled=Dn v/\o'.data=.fields (ws.setIfInBounds 2 v)))->E (.ref e) { s with heap:=h' }):Bu (Bx prog w) A (raiseNew (.ref e):Sem α) Q E s:=by
 unfold raiseNew;refine BL<|wpAny_handled ?_
 cases hh:A.handled with
 | none=>
  dsimp only;refine BL<|CP<|T5 ?_
  exact h s.heap (fun _ _=>rfl) ⟨oe,he,rfl,rfl,.inl ⟨hh,rfl⟩⟩
 | some v=>
  obtain ⟨a,l,rfl,ch,nl⟩:=hq v hh;dsimp only;have al:a∈l:=by cases ch with | cons=>simp
  have ne:(Value.ref a != Value.ref e)=true:=by
   simp only [bne_iff_ne,ne_eq];intro q;exact nl (by rw [<-Value.ref.inj q];exact al)
  rw [if_pos ne];refine BL<|JK<|wpAny_runValue<|qR ?_ ch nl ⟨a,rfl⟩ (.ref a) false (fun _=>.refl) fun q=>nomatch q
  dsimp only;refine BL ?_;unfold updateField;refine BL<|wpAny_load he ?_
  rw [hd];dsimp only;rw [if_pos hz];refine wpAny_update he<|T5 ?_
  have hd3:=Ml hd (·.setIfInBounds 2 (Value.ref a));exact h _ (fun b hb=>Ld _ _<|Eu hb) ⟨_,Lb _ he<|Qf hd3,Ut _ _,by obtain ⟨c0,d0,dt,sl⟩:=oe;cases hd;rfl,.inr ⟨_,hh,hd3⟩⟩
def Rsd (A:CT)(C:Addr)(e:Addr)(t:Addr)(od:Option Addr)(h h':Heap):Prop:=(∀ b,b≠e->h'.get? b=h.get? b)/\∃ o',h'.get? e=Dn o'/\o'.cls=.ref C/\o'.dict=od/\((A.handled=Go/\h'=h)\/∃ v,A.handled=Dn v/\o'.data=.fields (#[.ref t,.none,.none,.none,.bool false,.none].setIfInBounds 2 v))
theorem qF {x:Sem JI}{Q:Flow->kI->Prop}(hb:bm.contains (.type "BaseException")=true)
  (h:Bu (Bx prog w) A x (fun v s₁=>∃ e t od,v=.ref e/\s₁.heap.get? C=Dn (Rm nm q C N bs bm hdct sn sub ab col dd k0 k1 k2 k3 k5 newId)/\s₁.heap.get? e=Dn { K3 C t with dict:=od }/\QtE A s₁.heap e /\
   ∀ h',Rsd A C e t od s₁.heap h'->E (.ref e) { s₁ with heap:=h' }) E s):Bu (Bx prog w) A (raiseStmt env (Dn x) Go) Q E s:=by
 have isB:(Value.ref C::bm).contains (.type "BaseException")=true:=by rw [Uw,hb];simp
 unfold raiseStmt;refine BL<|Ge h (fun v s₁ ⟨e,t,od,ev,hC,he,hq,z⟩=>?_) fun _ _ z=>z
 subst ev;obtain ⟨h1,g1,d1,t1,o1⟩:=s₁;repeat (first | wp_step | (with_reducible refine TJ he ?_) | (with_reducible refine TJ hC ?_) | (with_reducible refine wpAny_isSubtype_exc hC ?_;rw [isB]))
 exact zaj (s:=⟨h1,g1,d1,t1,o1⟩) hq he rfl (by simp) fun h' a ⟨o',b1,b2,b3,b4⟩=>z h' ⟨a,o',b1,b2,b3,b4⟩
theorem adX (F:ExcBaseFacts B newId initId bmB){mN:Str->Option JI}{x:Str}{np cpos pos:Pos}{args:List Expr}{Q:Flow->kI->Prop}
  (hb:bm.contains (.type "BaseException")=true) (hpl:(HB cpos (Ce args env)).any (·.1)=false) (hfn:Ud K (.ref f)=Dn (.type "function")) (hi:mN "__init__" = Dn (.ref f))
  (h:Bu (Bx prog w) A (eval (.Name x np) env) (fun fv s₁=>fv=.ref C/\Bu (Bx prog w) A (evalArgs (.ref C) true (HB cpos (Ce args env)) [])
   (fun a s₂=>(a.kw=[]/\a.pos.length<=Dk/\K.In s₂.heap)/\(s₂.heap.get? C=Dn (Rm nm q C N bs bm hdct sn sub ab col dd k0 k1 k2 k3 k5 newId)/\s₂.heap.Ns N mN/\OwnTail s₂.heap bmB bm) /\
    Bu (Bx prog w) (A.under (.builtin "type.__call__" ⟨.ref C::a.pos,[]⟩)) (call (.ref f) (.ref (s₂.heap.objs.size+1)::a.pos)) (fun r s₃=>r=.none/\∃ od,s₃.heap.get? C=Dn (Rm nm q C N bs bm hdct sn sub ab col dd k0 k1 k2 k3 k5 newId)/\s₃.heap.get? (s₂.heap.objs.size+1)=Dn { K3 C s₂.heap.objs.size with dict:=od }/\QtE A s₃.heap (s₂.heap.objs.size+1)/\∀ h',Rsd A C (s₂.heap.objs.size+1) s₂.heap.objs.size od s₃.heap h'->E (.ref (s₂.heap.objs.size+1)) { s₃ with heap:=h' }) E
     { s₂ with heap:=(s₂.heap.push { cls:=.type "tuple",data:=.seq a.pos.toArray }).push (K3 C s₂.heap.objs.size) }) E s₁) E s) :
  Bu (Bx prog w) A (exec (.Raise (Dn (.Call (.Name x np) args [] cpos)) Go pos) env) Q E s:=by
 rw [arm_exec_Raise];refine BL<|RQ<|qF (nm:=nm) (q:=q) (C:=C) (N:=N) (bs:=bs) (bm:=bm) (hdct:=hdct) (sn:=sn) (sub:=sub) (ab:=ab) (col:=col) (dd:=dd) (k0:=k0) (k1:=k1) (k2:=k2) (k3:=k3) (k5:=k5) (newId:=newId) hb ?_
 refine BL<|Ge (wpAny_Call_ofName<|Ge h (fun fv s₁ ⟨ef,h₁⟩=>?_) fun _ _ z=>z) (fun v s₃ h₃=>BL<|RQ<|CP h₃) fun _ _ z=>z
 subst ef;unfold callWith;refine BL<|JK<|Ge h₁ (fun a s₂ ⟨⟨ek,few,X⟩,⟨hC,hn,T⟩,h₂⟩=>BL<|RQ ?_) fun _ _ z=>z
 obtain ⟨ap,ak⟩:=a;cases (show ak=[] from ek)
 obtain ⟨h2,g2,d2,t2,o2⟩:=s₂;simp only [hpl];refine BL<|wpAny_keeperOf_exc hC<|BL<|tE F T X hfn hC hn hi (Ge h₂ (fun r s₃ hr=>⟨hr.1,?_⟩) fun _ _ z=>z) few
 obtain ⟨_,od,z1,z2,z3⟩:=hr;exact BL<|JK<|wpAny_point<|CP ⟨_,_,od,rfl,z1,z2,z3⟩
end
theorem afE {K:Bs}{h:Heap}{N:Addr}{m:Str->Option JI}{n:Str}{v:JI}(X:K.In h)(G:h.Ns N m)(e:Gs K N n=Dn (Dn v)):m n=Dn v:=by
 obtain ⟨o,es,ep,ho,hd,_,hf⟩:=G;unfold Gs at e;split at e
 ·rename_i z;have y:=X _ _ z;rw [ho] at y;cases y;cases hd;split at e
  ·rename_i he;cases e;have:=hf n
   unfold nsFind findBy at this;rw [<-Array.find?_toList,he] at this;exact this.symm
  ·split at e <;> cases e
 ·cases e
def Cj (K:Bs)(C fi:Addr)(bmB:List JI)(newId:String):Bool:=match K.lookup C with
 | some ⟨.type "type",_,.cls cd,sl⟩=>(match cd.mro,sl.toList with
  | .ref C'::bm,[_,_,_,_,Dn (.builtin n),_]=>C'==C&&n==newId&&!cd.hasDel&&PySem.W.tailIn K bmB bm&&PySem.W.nsOkIn K cd.ns&&Gs K cd.ns "__init__"==Dn (Dn (.ref fi))
  | _,_=>false)
 | _=>false
theorem agl {K:Bs}{h:Heap}{C fi:Addr}{bm:List JI}{newId:String}(X:K.In h)(q:Cj K C fi bm newId=true) :
  ∃ (tl:List JI) (N:Addr) (nm qn:Str) (bs:List JI) (hd:Bool) (sn:List Str) (sub:List JI) (ab:Bool) (col:Option Bool) (dd:Option Addr) (k0 k1 k2 k3 k5:Option JI) (mN:Str->Option JI),
   K.lookup C=Dn (Rm nm qn C N bs tl hd sn sub ab col dd k0 k1 k2 k3 k5 newId)/\h.Ns N mN/\mN "__init__" = Dn (.ref fi)/\OwnTail h bm tl:=by
 unfold Cj at q;split at q
 ·rename_i dd cd sl ho;split at q
  ·rename_i C' bm' k0 k1 k2 k3 n k5 hm hs;simp only [Kf,beq_iff_eq,TY] at q;obtain ⟨⟨⟨⟨⟨rfl,rfl⟩,hdel⟩,ht⟩,hok⟩,hni⟩:=q;obtain ⟨nm,bs,mro,ns,qn,hd,sn,sub,ab,col,del⟩:=cd;dsimp only at hm hdel hok hni;subst hm hdel;have hsl:sl = #[k0,k1,k2,k3,Dn (.builtin n),k5]:=by
    obtain ⟨l⟩:=sl;simp only at hs;rw [hs]
   subst hsl;exact ⟨bm',ns,nm,qn,bs,hd,sn,sub,ab,col,dd,k0,k1,k2,k3,k5,_,ho,.of_isNs<|PySem.W.isNs_of_in X hok,afE X (.of_isNs<|PySem.W.isNs_of_in X hok) hni,PySem.W.tail_of_in X ht⟩
  ·cases q
 ·cases q
def exN (e C a:Addr):HO:=.ext fun h=>h.get? e=Dn (K3 C a)
def exD (e C a dx:Addr):HO:=.ext fun h=>h.get? e=Dn { K3 C a with dict:=Dn dx }
def ZJ (K:Bs)(C:Addr)(f:Str):Bool:=KJ K (.ref C) "__setattr__"==Dn (Dn (.builtin "object.__setattr__"))&&QF K C&&KJ K (.ref C) f==Dn Go&&PySem.W.hasDictIn K C
def VR (C:Addr)(f:Str)(ta tv:TE):TS:=fun D σ H=>tv σ H fun y H1=>ta σ H1 fun x H2=>∃ e a,x=.ref e/\H2 e=Dn (exN e C a)/\∀ dx,H2 dx=Go->dx≠e->D.nx σ (Cd (Cd H2 dx (.xd [(f,y)])) e (exD e C a dx))
section
variable {X:Cx}{o value:Expr}{f:Str}{C:Addr}{pos pos':Pos}{ta tv:TE}
theorem agI (hx:ZJ X.K C f=true)(ha:PE X o ta)(hv:PE X value tv)(hs:QC value (Dn (.Attribute o f pos')) pos.line X.env=pure false:=by rfl):PS X (.Assign [.Attribute o f pos'] value pos) (VR C f ta tv):=by
 unfold ZJ at hx;simp only [Kf,beq_iff_eq] at hx;obtain ⟨⟨⟨x1,x2⟩,x3⟩,x4⟩:=hx;intro pins s σ H D I h;refine plainObj_wpAny_Assign_Attribute (DW (hv pins s σ H _ I h) fun u s1 ⟨y,H1,I1,ry,q⟩=>DW (ha pins s1 σ H1 _ I1 q) fun ov s2 ⟨x,H2,I2,rx,e,a,ex,ee,q2⟩=>?_) hs;subst ex;obtain rfl:ov=Value.ref e:=rx;have ho:s2.heap.get? e=Dn (K3 C a):=(I2.hok e _ ee).1;have hlt:=Dj ho;have ne:s2.heap.objs.size≠e:=Lk hlt;refine zbJ I2.kIn ho x1 x2 x3 x4 fun h' hX hN kp=>⟨σ,_,?_,q2 s2.heap.objs.size (I2.hok.fresh<|Dp _) ne⟩;have hd:∃ od,h'.get? s2.heap.objs.size=Dn od:=let ⟨od,_,_,z,_⟩:=hN;⟨od,z⟩
 -- the heap but for e
 have m1:(h'.update e fun _=>K3 C a).get? e=Dn (K3 C a):=Lb _ hX rfl;have m2:∀ b,b≠e->(h'.update e fun _=>K3 C a).get? b=h'.get? b:=fun b hb=>Ld _ _ (Eu hb)
 have Ia:BZ X pins σ (Cd H2 s2.heap.objs.size (.xd [(f,y)])) { s2 with heap:=h'.update e fun _=>K3 C a,toks:=s2.toks+2 }:=by
  refine I2.laid (fun b z hz=>?_) (Dp _) ⟨_,hN.at (fun od z=>by rw [m2 _ ne];exact z),fun g=>?_⟩
  ·by_cases hb:b=e
   ·subst hb;rw [ho] at hz;rw [m1];exact hz
   ·rw [m2 b hb];exact kp b z hb hz
  ·show Pk (List.lookup g [(f,y)]) (if g=f then Dn u else Go);rw [Jc];by_cases hg:g=f
   ·subst hg;rw [if_pos rfl,beq_self_eq_true];exact ry
   ·rw [if_neg hg,show (g==f)=false from by simpa using hg];trivial
 exact Ia.write (x:=e) (e:=e) (by rw [aH<|Eu ne,ee];exact True.intro) (.inl rfl) (fun b z hb hz=>by rw [<-m2 b hb];exact hz) ⟨_,hX⟩ ⟨hX,⟨_,hX⟩,fun h1 h2 z k=>k _ z⟩
end
def spI (C:Addr)(f:Str):Sp:=fun vs H Q _=>∃ e a v,vs=[.ref e,v]/\H e=Dn (exN e C a)/\∀ dx,H dx=Go->dx≠e->Q .non (Cd (Cd H dx (.xd [(f,v)])) e (exD e C a dx))
theorem aga {P:CR}{w:CQ}{K:Bs}{mg:Str->Option JI}{base:Heap}{x qual:Str}{st:Stmt}{fi:Addr}{fd:Ib}{n1 n2 f:Str}{C:Addr}{k:Nat}(F:Pj K x qual st fi fd)(S:eX [n1,n2] [n1,n2] (aQ st))
  (hb:∀ (cdv:JI) (A:CT) (outer:List Env) (s:kI) (H:Hp) (E:XK),fP k (A.deeper (M4 qual (aQ st) s.heap.objs.size fi cdv)) ->
   KQ (BX Jj P w K mg base [n1,n2] qual (aQ st) fi cdv A outer s H E).nox (cL st) (VR C f (Zr 0) (Zr 1))):iW P w K mg base Jj (k+1) fi fd [n1,n2] (spI C f):=by
 refine F.ok S (fun vs H Q E ⟨e,a,v,ev,_⟩=>by rw [ev];rfl) fun cdv A outer s H vs Q E hr ⟨e,a,v,ev,he,q⟩=>?_;subst ev;exact ⟨_,hb cdv A outer s H E hr,v,rfl,.ref e,rfl,e,a,rfl,he,q⟩
def forget (H:Hp)(e:Addr):Hp:=fun b=>if b=e then Go else H b
theorem dM {H:Hp}{e:Addr}:forget H e e=Go:=by unfold forget;rw [if_pos rfl]
theorem bW {H:Hp}{e b:Addr}(h:b≠e):forget H e b=H b:=by unfold forget;rw [if_neg h]
section
variable {X:Cx}{pins:List (Addr×Obj)}{σ : St}{H:Hp}{s:kI}{e:Addr}
theorem BZ.forget {φ : Heap->Prop}{σ0:St}{H0:Hp}{t0:kI}(I:BZ X pins σ H s)(he:H e=Dn (.ext φ))(I0:BZ X pins σ0 H0 t0)(h0:H0 e=Go)(s0:X.s₀.heap.get? e=Go):BZ X pins σ (L2.forget H e) s:=by
 have ne:∀ b ob,X.s₀.heap.get? b=Dn ob->b≠e:=fun b ob z y=>by rw [y,s0] at z;cases z
 have n0:∀ b u,H0 b=Dn u->b≠e:=fun b u z y=>by rw [y,h0] at z;cases z
 refine ⟨I.ok,I.os,I.bare,⟨I.base.keep,I.base.slot,fun b ob z y hx=>?_,I.base.there,fun b xs z=>?_,fun b ob v z=>?_,fun b ps z=>?_⟩,I.loc,I.cell,?_,fun x c z=>?_,fun p hp=>?_,fun b v z=>?_,I.len⟩
 ·rw [bW (ne b ob z)];exact I.base.free b ob z y hx
 ·rw [bW (n0 b _ (I0.base.tups b xs z))];exact I.base.tups b xs z
 ·rw [bW (n0 b _ (I0.base.frzs b ob v z))];exact I.base.frzs b ob v z
 ·obtain ⟨_,q⟩:=I0.base.tbls b ps z;rw [bW (n0 b _ q)];exact I.base.tbls b ps z
 ·by_cases hb:X.env.locals=e
  ·rw [hb];exact dM
  ·rw [bW hb];exact I.free
 ·by_cases hb:c=e
  ·rw [hb];exact dM
  ·rw [bW hb];exact I.freeC x c z
 ·obtain ⟨h1,h3,h4⟩:=I.pin p hp;refine ⟨h1,?_,h4⟩;by_cases hb:p.1=e
  ·rw [hb];exact dM
  ·rw [bW hb];exact h3
 ·by_cases hb:b=e
  ·rw [hb,dM] at z;cases z
  ·rw [bW hb] at z;exact (I.hok b v z).stay (fun _ _ _ q=>q) (fun c q=>by rw [bW (fun y=>by rw [y,he] at q;cases q)];exact q) fun c xs q=>by rw [bW (fun y=>by rw [y,he] at q;cases q)];exact q
end
section
variable {X:Cx}{pins:List (Addr×Obj)}{σ : St}{H:Hp}{s:kI}{C fi:Addr}{x f:Str}{np cpos pos:Pos}{e:Expr}{t:TA}{k:Nat}{fd:Ib}{ps:List Str}
theorem zap {Q:Flow->kI->Prop}{R:V->Hp->Prop}(hn:V9 X)(hex:X.ex=[])(hg:Gl X x)(hm:X.mg x=Dn (.ref C))(hq:Cj X.K C fi J6 "ValueError.__new__" = true)(hfn:T3 X.K (.ref fi)=true)
  (Fi:iW X.prog X.w X.K X.mg X.base Jj k fi fd ps (spI C f)) (hr:fP (k+1) X.A) (hb:Binds X.K fd ps []) (ha:PA X [e] t) (I:BZ X pins σ H s) (h:t σ H fun vs H1=>∃ v,vs=[v]/\R v H1)
  (hx:∀ a dx H1 s' v,FX X pins σ (Cd H1 dx (.xd [(f,v)])) s' a C (Dn dx)->H1 dx=Go->R v H1->X.xe (.ref a) s')
  (hdb:(x==("__debug__" : Str))=false:=by decide) (he:Ce [e] X.env=(false,eval e X.env)::Ce [] X.env:=by rfl) :
  Bu (Bx X.prog X.w) X.A (exec (.Raise (Dn (.Call (.Name x np) [e] [] cpos)) Go pos) X.env) Q X.xe s:=by
 obtain ⟨tl,N,nm,qn,bs,hd,sn,sub,ab,col,dd,k0,k1,k2,k3,k5,mN,hC,hN,hni,T⟩:=agl I.mod.kin hq;refine adX (K:=X.K) (f:=fi) (C:=C) (nm:=nm) (q:=qn) (N:=N) (bs:=bs) (bm:=tl) (hdct:=hd) (sn:=sn) (sub:=sub) (ab:=ab) (col:=col) (dd:=dd) (k0:=k0) (k1:=k1) (k2:=k2) (k3:=k3) (k5:=k5)
  Va (mN:=mN) (T.hasType Va.hasBase) (by rw [he];rfl) (beq_iff_eq.mp hfn) hni (lH I hg hm ⟨rfl,?_⟩ hdb)
 have g:=ha cpos pins s σ H _ I h;rw [he] at g |-
 refine Calls.evalArgs_plain<|DW g fun us s2 ⟨vs,H2,I2,r,v,ev,kk⟩=>?_
 subst ev;obtain ⟨u,rfl,ru⟩:=vals1 r;refine ⟨⟨rfl,by simp [RM],I2.kIn⟩,⟨I2.kIn _ _ hC,hN.keeps I2.bk,T.keeps I2.bk⟩,?_⟩;have self:((s2.heap.push { cls:=.type "tuple",data:=.seq [u].toArray }).push (K3 C s2.heap.objs.size)).get? (s2.heap.objs.size+1)=Dn (K3 C s2.heap.objs.size):=by
  have:=HD (s2.heap.push { cls:=.type "tuple",data:=.seq [u].toArray }) (o:=K3 C s2.heap.objs.size) rfl
  rwa [Q7] at this
 have nw:=I2.newOf (b:=s2.heap.objs.size+1) (Um (Qz _));have I3:BZ X pins σ (Cd H2 (s2.heap.objs.size+1) (exN (s2.heap.objs.size+1) C s2.heap.objs.size)) { s2 with heap:=(s2.heap.push { cls:=.type "tuple",data:=.seq [u].toArray }).push (K3 C s2.heap.objs.size),toks:=s2.toks }:=
  I2.laid (fun b z hz=>Dm _ (Dm _ hz)) (Qz _) ⟨self,⟨_,self⟩,fun h1 h2 z q=>q _ z⟩
 have sp:spI C f [.ref (s2.heap.objs.size+1),v] (Cd H2 (s2.heap.objs.size+1) (exN (s2.heap.objs.size+1) C s2.heap.objs.size)) (fun r H4=>r=.non/\∃ dx,H2 dx=Go/\dx≠s2.heap.objs.size+1/\H4=Cd (Cd (Cd H2 (s2.heap.objs.size+1) (exN (s2.heap.objs.size+1) C s2.heap.objs.size)) dx (.xd [(f,v)])) (s2.heap.objs.size+1) (exD (s2.heap.objs.size+1) C s2.heap.objs.size dx)) E0:=
  ⟨_,_,v,rfl,aU,fun dx h1 h2=>⟨rfl,dx,by rw [aH h2] at h1;exact h1,h2,rfl⟩⟩
 have r2:CJ [V.ref (s2.heap.objs.size+1),v] [Value.ref (s2.heap.objs.size+1),u]:=.cons rfl (.cons ru .nil);have hl:([Value.ref (s2.heap.objs.size+1),u]++[]).length=ps.length:=by rw [<-Fi.len _ _ _ _ sp];rfl
 refine wpAny_call<|RT (Fi.run _ X.stack _ _ ⟨[Value.ref<|s2.heap.objs.size+1,u],[]⟩ [Value.ref<|s2.heap.objs.size+1,u] _ _ E0 (hr.make C [u] []) (I3.env0.make C [u] []) (hb _ [Value.ref<|s2.heap.objs.size+1,u] I3.kIn hl) r2 sp) fun r s' hq'=>?_
 cases r with
 | error ev=>exact QV pins σ _ _ ev s' I3 hq'
 | ok fl=>
  cases fl with
  | ret uv=>
   obtain ⟨v',H',I4,rv,ev,dx,h1,h2,eH⟩:=I3.after hq';subst ev eH;have he4:=(I4.hok (s2.heap.objs.size+1) _ aU).1;have s0:X.s₀.heap.get? (s2.heap.objs.size+1)=Go:=by
    rcases nw.s with q | q
    ·rw [hex] at q;cases q
    ·exact q
   have I5:=I4.forget aU I2 nw.h s0;have eF:forget (Cd (Cd (Cd H2 (s2.heap.objs.size+1) (exN (s2.heap.objs.size+1) C s2.heap.objs.size)) dx (.xd [(f,v)])) (s2.heap.objs.size+1) (exD (s2.heap.objs.size+1) C s2.heap.objs.size dx)) (s2.heap.objs.size+1)=Cd H2 dx (.xd [(f,v)]):=by
    funext b;by_cases hbe:b=s2.heap.objs.size+1
    ·rw [hbe,dM,aH (Eu h2)];exact nw.h.symm
    ·rw [bW hbe,aH hbe];by_cases hbd:b=dx
     ·rw [hbd,aU,aU]
     ·rw [aH hbd,aH hbd,aH hbe]
   rw [eF] at I5;have ne5:Cd H2 dx (.xd [(f,v)]) (s2.heap.objs.size+1)=Go:=by rw [aH (Eu h2)];exact nw.h
   have n5:New X pins (Cd H2 dx (.xd [(f,v)])) (s2.heap.objs.size+1):=⟨ne5,nw.s,nw.l,nw.c,nw.p,nw.f⟩
   refine ⟨rv,Dn dx,I4.kIn _ _ hC,he4,Quiet.qte (A:=X.A) I5.qt0 I5.hok ne5,fun h' ⟨rs,o',b1,b2,b3,b4⟩=>?_⟩;have st:Mp (New X pins (Cd H2 dx (.xd [(f,v)]))) (frs X.stack) s'.heap h':=by
    have nn:∀ b,¬ New X pins (Cd H2 dx (.xd [(f,v)])) b->b≠s2.heap.objs.size+1:=fun b q z=>q (by rw [z];exact n5)
    refine ⟨fun b o q _ z=>(rs b<|nn b q).trans z,fun b o q z=>⟨o.slots,(rs b<|nn b q).trans z⟩,fun b o z=>?_⟩;by_cases hb:b=s2.heap.objs.size+1
    ·rw [hb];exact ⟨o',b1⟩
    ·exact ⟨o,(rs b hb).trans z⟩
   refine hx _ dx H2 _ v ⟨I5.stp st,n5,o',?_⟩ h1 kk;rcases b4 with ⟨_,rfl⟩ | ⟨y,hy,hd'⟩
   ·rw [he4] at b1;cases b1;exact ⟨_,he4,rfl,rfl,rfl,by simp,⟨.none,rfl,.nil⟩,.inl rfl⟩
   ·exact ⟨_,b1,b2,b3,hd',by simp,⟨y,by simp,(hn y hy).mono (fun _ q=>q) I5.base.frzs⟩,.inl<|by simp⟩
  | next=>exact Ku hq'
  | brk=>exact Ku hq'
  | cont=>exact Ku hq'
end
def wK (x f:Str)(ma:ME)(E:CK):MS:=fun _ σ h=>ma σ h fun w h1=>E ⟨x,[(f,w)]⟩ h1
section
variable {X:Cx}{Γ : St->Prop}{e:Expr}{pos:Pos}{ma:ME}
theorem adV {C fi:Addr}{x f:Str}{np cpos:Pos}{k:Nat}{fd:Ib}{ps:List Str}(hn:V9 X)(hex:X.ex=[])(hg:Gl X x)(hm:X.mg x=Dn (.ref C))(hq:Cj X.K C fi J6 "ValueError.__new__" = true)(hfn:T3 X.K (.ref fi)=true)
  (Fi:iW X.prog X.w X.K X.mg X.base Jj k fi fd ps (spI C f)) (hr:fP (k+1) X.A) (hb:Binds X.K fd ps []) (hx:Uo X.K C x=true) (hf:wF x=[f]) (ha:DE X e ma) (hdb:(x==("__debug__" : Str))=false:=by decide) (he:Ce [e] X.env=(false,eval e X.env)::Ce [] X.env:=by rfl) :
  Pq X Γ (.Raise (Dn (.Call (.Name x np) [e] [] cpos)) Go pos) (fun E=>wK x f ma E):=by
 intro pins s σ H D I ⟨g,μ,h,σw,Dw,E,R,S,m,k,kx⟩;have hxc:j6 X.K C x=true:=by
  have:=hx
  unfold Uo at this;simp only [Kf] at this;exact this.1.1
 refine zap (R:=fun v H1=>∃ μ1 w h1,Ei X.K H μ H1 μ1/\Ci X.K μ1 H1 h1/\Bo X.K H1 μ1 w v/\E ⟨x,[(f,w)]⟩ h1) hn hex hg hm hq hfn Fi hr hb (cV ha fD he) I ⟨μ,h,σw,fun ws h1=>∃ w,ws=[w]/\E ⟨x,[(f,w)]⟩ h1,R,S,?_,fun vs H' ⟨μ1,ws,h1,e1,R1,r1,w,ew,m1⟩=>?_⟩ (fun a dx H1 s' v F hdx ⟨μ1,w,h1,e1,R1,r1,m1⟩=>?_) hdb he
 ·exact (show ma σw h fun w h1=>aJ σw h1 fun ws h2=>∃ w',(w::ws)=[w']/\E ⟨x,[(f,w')]⟩ h2 from by
   have m:ma σw h fun w h1=>E ⟨x,[(f,w)]⟩ h1:=m
   have:(fun w h1=>E ⟨x,[(f,w)]⟩ h1)=(fun (w:W) (h1:Gh)=>aJ σw h1 fun ws h2=>∃ w',(w::ws)=[w']/\E ⟨x,[(f,w')]⟩ h2):=by
    funext w h1;apply propext;constructor
    ·exact fun z=>⟨w,rfl,z⟩
    ·rintro ⟨w',ew,z⟩;cases ew;exact z
   rw [<-this];exact m)
 ·subst ew;rw [aN] at r1;obtain ⟨v,vr,ev,rv,r0⟩:=r1;rw [aN] at r0;subst r0;exact ⟨v,ev,μ1,w,h1,e1,R1,rv,m1⟩
 ·have ex:Ei X.K H1 μ1 (Cd H1 dx (.xd [(f,v)])) μ1:=(Ex.laid hdx).ext;refine kx _ s' ⟨a,C,x,Dn dx,[(f,w)],pins,σ,_,μ1,h1,rfl,F,hxc,g,e1.trans ex,R1.laid hdx,.inr ⟨dx,[w],[v],rfl,hx,by rw [hf];rfl,by rw [hf];rfl,by rw [hf];rfl,?_,aN.one<|ex.r _ _ r1⟩,m1⟩;rw [hf];exact aU
end
def Sv (f:Str)(ma:ME):ME:=fun σ h Q=>ma σ h fun w h1=>match w with
 | .exa n ws=>(match ((wF n).zip ws).lookup f with
  | some v=>Q v h1
  | none=>False)
 | _=>False
theorem qT {K:Bs}{H:Hp}{μ : Mu}{f:Str}{v:W}:∀ {ns:List Str} {ws:List W} {xs:List V},aN K H μ ws xs->(ns.zip ws).lookup f=Dn v->∃ x,(ns.zip xs).lookup f=Dn x/\Bo K H μ v x
 | [],_,_,_,e=>by cases e
 | _::_,[],_,_,e=>by cases e
 | n::ns,w::ws,xs,r,e=>by
  rw [aN] at r;obtain ⟨u,us,rfl,ru,r⟩:=r;rw [List.zip_cons_cons,Jc] at e |-
  cases q:f==n with
  | true=>rw [q] at e;cases e;exact ⟨u,rfl,ru⟩
  | false=>rw [q] at e;exact qT r e
theorem Fo {f:Str}{v:W}:∀ {ns:List Str} {ws:List W},(ns.zip ws).lookup f=Dn v->f∈ns
 | [],_,e=>by cases e
 | _::_,[],e=>by cases e
 | n::ns,w::ws,e=>by
  rw [List.zip_cons_cons,Jc] at e;cases q:f==n with
  | true=>rw [beq_iff_eq.mp q];exact LR ..
  | false=>rw [q] at e;exact Kw _ (Fo e)
section
variable {X:Cx}{e:Expr}{f:Str}{pos:Pos}{ma:ME}
theorem Vh (ha:DE X e ma)(hb:Sq e f X.env (eval e X.env)=eval e X.env:=by rfl):DE X (.Attribute e f pos) (Sv f ma):=by
 intro pins s σ H Q I ⟨μ,h,σw,Qw,R,S,m,q⟩;refine aeF hb<|DW (ha pins s σ H _ I ⟨μ,h,σw,_,R,S,m,fun _ _ z=>z⟩) fun u s1 ⟨x,H1,I1,rx,μ1,w,h1,e1,R1,r1,m1⟩=>?_
 cases w with
 | exa n ws=>
  dsimp only at m1;split at m1
  ·rename_i v el;rw [Bo] at r1;obtain ⟨p,o,uu,dd,ns,xs,ev,hp,⟨C,hcl,hdi,hnc,hxa⟩,hdd,en,hln,rs⟩:=r1;subst ev en;obtain rfl:u=Value.ref p:=rx;obtain ⟨y,ey,ry⟩:=qT rs el;have hfm:=Fo el;obtain ⟨mA,hns,hrel⟩:=(show gJ X.prog X.w H1 s1.heap dd (.xd ((wF n).zip xs)) from I1.hok dd _ hdd)
   have ry2:=hrel f;rw [ey] at ry2;cases qm:mA f with
   | none=>rw [qm] at ry2;exact ry2.elim
   | some uv=>
    rw [qm] at ry2;obtain ⟨od,hod,hl⟩:=zaz hns;have J:PySem.W.InstAt s1.heap p o C (Dn od):=⟨(I1.hok p _ hp).1,hcl,hnc,by rw [hdi];exact hod⟩
    unfold Uo at hxa;simp only [Kf,QS,beq_iff_eq] at hxa;obtain ⟨⟨hxc,hhd⟩,hall⟩:=hxa;obtain ⟨_,⟨cd,Rr,hc,hmm,_⟩,hg,hg',_⟩:=Xe hxc;have hB:R9 X.K C (.type "BaseException")=Dn true:=by
     unfold R9;rw [hc,Option.bind_some,hmm];rfl
    refine ahH (od:=Dn od) I1.kIn J hg hg' (PySem.W.findObj_own hhd (hall f hfm) rfl<|by rw [hl,qm]) (zbe ry2) hB ?_;exact ⟨y,H1,I1.tok _,ry2,q _ _ ⟨μ1,v,h1,e1,R1,ry,m1⟩⟩
  ·exact m1.elim
 | _=>exact m1.elim
end
section
variable {X:Cx}
end
section
variable {X:Cx}{Γ : St->Prop}{tg:Expr}
theorem zbL {iter:Expr}{body:List Stmt}{mi:MI}{g:MG}{mb0:CK->MS}{pos:Pos}(hp:Ux (Bx X.prog X.w) X.A X.env X.xe)(hc:X.calm=true)(hΓ : ∀ σ,Γ σ)(hi:Mg X tg iter mi)(hg:DG X tg g)(hb:Dv X Γ body mb0)
  (hs:∀ x,R6 iter X.env x=pure x:=by intro _;rfl):Pq X Γ (.For tg iter body [] pos) (fun E=>qX mi g (mb0 E)):=(NQ hp hc hi hg hb hs).of fun D σ H ⟨_,μ,h,σw,Dw,E,R,S,m,k,kx⟩=>by
 refine ⟨μ,h,σw,_,R,S,m,fun J H1 ⟨μ1,src,h1,e1,R1,ok,m1⟩=>?_⟩;refine ⟨fun i n σ' H'=>n=src.ws.length - i/\i<=src.ws.length/\DN X.K H1 μ1 (cT src g (mb0 E) Dw<|src.ws.drop i) σ' H',⟨src.ws.length,by simp,O8 _,μ1,σw,h1,.refl,R1,S.ext e1,by rw [Rq];exact m1⟩,?_⟩;rintro i n σ2 H2 ⟨hn,hle,μ2,σw2,h2,e2,R2,S2,m2⟩;by_cases hlt:i<src.ws.length
 ·rw [VB hlt] at m2;obtain ⟨ck,m2⟩:=Src.go_ok m2;obtain ⟨hgo,hy⟩:=(ok e2 R2 ck).1 src.ws[i] (KN hlt);refine .inr ⟨hgo,fun σ' H'=>DN X.K H2 μ2 (cT src g (mb0 E) Dw<|src.ws.drop<|i+1) σ' H',fun σ' H' z=>⟨src.ws.length - (i+1),by lia,rfl,hlt,z.trans e2⟩,fun x H3 y=>?_⟩;obtain ⟨μ3,e3,R3,rx⟩:=hy x H3 y;refine ⟨μ3,h2,σw2,src.ws[i],_,R3,S2.ext e3,rx,m2,fun σ4 H4 ⟨μ4,σw4,h4,e4,R4,S4,m4⟩=>?_⟩;have e24:=e3.trans e4;have e14:=(e1.trans e2).trans e24;exact ⟨hΓ _,μ4,h4,σw4,_,E,R4,S4,m4,⟨fun σ' H' z=>z.trans e24,fun v H' z=>k.rt _ _<|z.trans e14,fun σ' H' z=>k.nx _ _<|z.trans e14,fun σ' H' z=>z.trans e24⟩,fun ev s' z=>kx ev s'<|z.trans e14⟩
 ·have ei:i=src.ws.length:=by lia
  subst ei;rw [List.drop_length] at m2;obtain ⟨ck,m2⟩:=Src.go_ok m2;exact .inl ⟨(ok e2 R2 ck).2 (Dp _),k.nx _ _ ⟨μ2,σw2,h2,e1.trans e2,R2,S2,m2⟩⟩
end
def Ite (K:Bs)(l:Addr):It:=
  ⟨fun i H=>∃ xs x,Fl K H l xs/\xs[i]?=Dn x,
   fun i H v H'=>∃ p x,H p=Go/\v=.ref p/\H'=Cd H p (.tup [.int (i:Int),x])/\∀ xs,Fl K H l xs->xs[i]?=Dn x,
   fun i H=>∃ xs,Fl K H l xs/\xs.length<=i,true⟩
def adl (e it l:Addr)(n:Nat)(h:Heap):Prop:=(∃ old,IsEnum h e it (n:Int) old)/\h.IsListIter it l n
theorem aes {P:CR}{w:CQ}{K:Bs}{elts:List Expr}{kt:Nat}{pos:Pos}{e it l:Addr}(ne:e≠it):Turn P w K (.Tuple elts kt pos) (Ite K l) [e,it] e (adl e it l) where
 mem:=by simp
 obj:=fun i h st b hb=>by
  obtain ⟨⟨old,ge⟩,o,gi,_,d⟩:=st;simp only [Cr,Dl,or_false] at hb;rcases hb with rfl | rfl
  ·exact ⟨_,ge,fun v y=>by cases y⟩
  ·exact ⟨o,gi,fun v y=>by rw [d] at y;cases y⟩
 keep:=fun i h h' st k=>⟨⟨_,k e (by simp) _ st.1.choose_spec⟩,st.2.at fun o q=>k it (by simp) o q⟩
 item:=by
  intro X hP hw hK hc i pins s σ H E I hf st hg;subst hP hw hK;obtain ⟨⟨old,ge⟩,gi⟩:=st;obtain ⟨xs,x,hx,ex⟩:=hg;obtain ⟨its,r,pl,hz⟩:=I.list hx;obtain ⟨u,hu,ru⟩:=r.get ex;refine wpAny_pyNext_enum_item ge gi pl.isList (x:=u) (by simpa using hu) ne fun h1 go gi1 T1 size1 all1=>⟨_,rfl,?_⟩;have pe:s.heap.objs.size≠e:=Lk (Dj ge);have pi:s.heap.objs.size≠it:=by obtain ⟨o,q,_⟩:=gi;exact Lk (Dj q)
  refine wpAny_letOwnedTupleGo_enum (s:={ s with heap:=h1,toks:=s.toks+1 }) go fun h2 ge2 sb=>?_;have fr:H s.heap.objs.size=Go:=I.hok.fresh (Dp _);have I1:BZ X pins σ (Cd H s.heap.objs.size (.tup [.int (i:Int),x])) { s with heap:=s.heap.push { cls:=.type "tuple",data:=.seq #[.int (i:Int) s.toks,u] },toks:=s.toks+1 }:=
   I.laid (t':=s.toks+1) (fun b o q=>Dm _ q) (Dp _) ⟨(by show 2<=Dk;decide),[.int (i:Int) s.toks,u],.cons ⟨_,rfl⟩ (.cons ru .nil),⟨_,HD _ rfl,rfl,⟨_,rfl⟩,rfl⟩⟩
  have lt:∀ b∈[e,it],s.heap.objs.size≠b:=fun b hb=>by
   simp only [Cr,Dl,or_false] at hb;rcases hb with rfl | rfl
   ·exact pe
   ·exact pi
  have hf1:∀ b∈[e,it],BP X pins (Cd H s.heap.objs.size (.tup [.int (i:Int),x])) b:=fun b hb=>⟨by rw [aH (Eu (lt b hb))];exact (hf b hb).1,(hf b hb).2⟩
  have I2:BZ X pins σ (Cd H s.heap.objs.size (.tup [.int (i:Int),x])) { s with heap:=h2,toks:=s.toks+1 }:=by
   refine BZ.turnedL (s:={ s with heap:=s.heap.push { cls:=.type "tuple",data:=.seq #[.int (i:Int) s.toks,u] },toks:=s.toks+1 }) (h':=h2) (t':=s.toks+1) (ch:=[e,it]) I1 (fun b o hb q=>?_) hf1;have be:b≠e:=fun q=>hb (by simp [q])
   rcases Heap.get?_push_cases q with ⟨rfl,rfl⟩ | q'
   ·exact sb.extBut _ _ be T1
   ·exact sb.extBut _ _ be<|all1 b o be (fun q=>hb<|by simp [q]) q'
  refine ⟨.ref s.heap.objs.size,_,I2,rfl,⟨s.heap.objs.size,x,fr,rfl,rfl,fun xs' q=>by rw [I.list_inj q hx];exact ex⟩,?_,fun b hb=>(hf1 b hb).1⟩;exact ⟨⟨_,by rw [Int.natCast_add];exact ge2⟩,gi1.at fun o q=>sb.extBut _ o (Eu ne) q⟩
 done:=by
  intro X hP hw hK hc i pins s σ H E I hf st hg;subst hP hw hK;obtain ⟨⟨old,ge⟩,gi⟩:=st;obtain ⟨xs,hx,hl⟩:=hg;obtain ⟨its,r,pl,hz⟩:=I.list hx;have hn:=r.length;refine wpAny_pyNext_enum_end (I.ok.hd<|hc rfl) ge gi pl.isList (by simp;lia) fun h1 eb=>⟨rfl,I.turnedL (t':=s.toks) (ch:=[e,it]) (fun b o hb q=>eb b o (fun z=>hb<|by simp [z]) q) hf⟩
 self:=fun _ _ _ _ _ st h=>wpAny_pyIter_enum st.1.choose_spec h
section
variable {X:Cx}{K:Bs}
def abx (K:Bs)(ta:TA):TI:=fun σ H R=>ta σ H fun vs H1=>∃ a xs,vs=[.ref a]/\Fl K H1 a xs/\R (Ite K a) H1
theorem agv {e1:Expr}{ta:TA}{p pos tpos:Pos}{elts:List Expr}{kt:Nat}(hg:Gl X "enumerate")(hm:X.mg "enumerate" = Go)(ha:PA X [e1] ta)
  (hs:Ce [e1] X.env=(false,eval e1 X.env)::Ce [] X.env:=by rfl) (hpl:(HB pos (Ce [] X.env)).any (·.1)=false:=by rfl) :
  PI X (.Tuple elts kt tpos) (.Call (.Name "enumerate" p) [e1] [] pos) (abx X.K ta):=by
 intro pins s σ H R I h;refine RW<|nZ I hg hm boot_enumerate ?_ (by decide)<|by decide
 refine Tv (DW (ha pos pins s σ H _ I h) fun us s1 ⟨vs,H1,I1,r1,q1⟩=>?_) hs hpl;obtain ⟨a,xs,ev,hx,q⟩:=q1;subst ev;obtain ⟨u1,eu,ru1⟩:=vals1 r1;subst eu;cases ru1;obtain ⟨its,r,pl,hz⟩:=I1.list hx;refine call_enumerate_list pl.isList fun h' ge gi size all=>?_;refine wpAny_pyIter_enum (s:={ s1 with heap:=h' }) ge ?_;have I2:BZ X pins σ H1 { s1 with heap:=h' }:=I1.kept (t':=s1.toks) all;generalize hn:s1.heap.objs.size=n at ge gi size |-
 refine ⟨n+1,[n+1,n],_,_,H1,rfl,I2,aes<|jA<|show n+1≠n by lia,⟨⟨_,ge⟩,gi⟩,fun c hc=>?_,q⟩;have hc':n<=c:=by
  have h:c∈([n+1,n]:List Nat):=hc;simp only [Cr,Dl,or_false] at h;rcases h with h | h
  ·exact h ▸ Qz n
  ·exact h ▸ Dp n
 exact I1.fpOk (by rw [hn];exact hc')<|I1.hok.fresh (by rw [hn];exact hc')
def enW:Nat->List W->List W
 | _,[]=>[]
 | i,a::as=>.tup [.int (i:Int),a]::enW (i+1) as
theorem xq:∀ {as:List W} {j i:Nat} {w:W},(enW j as)[i]?=Dn w->∃ a,as[i]?=Dn a/\w=.tup [.int ((j+i:Nat):Int),a]
 | [],_,_,_,e=>by simp [enW] at e
 | a::as,j,0,w,e=>by
  have e:Dn (W.tup [.int (j:Int),a])=Dn w:=e;exact ⟨a,rfl,(Fj e).symm⟩
 | a::as,j,i+1,w,e=>by
  obtain ⟨x,h1,h2⟩:=xq (as:=as) (j:=j+1) (i:=i) (w:=w) (by simpa [enW] using e);exact ⟨x,by simpa using h1,by rw [h2,show j+1+i=j+(i+1) by lia]⟩
theorem yE:∀ {as:List W} {j:Nat},(enW j as).length=as.length
 | [],_=>rfl
 | a::as,j=>by rw [enW,Jb,yE,Jb]
def enS (h:Gh)(x:W):Option Src:=match x with
 | .lst as=>Dn ⟨enW 0 as,Go⟩
 | .kls as=>Dn ⟨enW 0 as,Go⟩
 | .loc n=>(match h.c n with
  | some (.lst as)=>Dn ⟨enW 0 as,Dn (n,as)⟩
  | _=>Go)
 | _=>Go
theorem YL {H:Hp}{μ : Mu}{h:Gh}{w:W}{v:V}{s:Src}(R:Ci K μ H h)(r:Bo K H μ w v)(e:enS h w=Dn s) :
  ∃ a ws o,v=.ref a/\s=⟨enW 0 ws,o⟩/\Src.chk ⟨ws,o⟩ h/\∀ {H2:Hp} {μ2:Mu} {h2:Gh},Ei K H μ H2 μ2->Ci K μ2 H2 h2->Src.chk ⟨ws,o⟩ h2->∃ xs,Fl K H2 a xs/\aN K H2 μ2 ws xs:=by
 cases w with
 | lst us=>
  cases (show Dn (⟨enW 0 us,Go⟩:Src)=Dn s from e)
  have r0:=r;rw [Bo] at r;obtain ⟨p,xs,ev,hs,rs⟩:=r;subst ev;refine ⟨p,us,Go,rfl,rfl,trivial,fun {H2 μ2 h2} x _ _=>?_⟩;have r2:=x.r _ _ r0;rw [Bo] at r2;obtain ⟨q,ys,ev,hs,rs⟩:=r2;cases ev;exact ⟨ys,hs.sq,rs⟩
 | kls us=>
  cases (show Dn (⟨enW 0 us,Go⟩:Src)=Dn s from e)
  have r0:=r;rw [Bo] at r;obtain ⟨p,xs,ev,hs,rs⟩:=r;subst ev;refine ⟨p,us,Go,rfl,rfl,trivial,fun {H2 μ2 h2} x _ _=>?_⟩;have r2:=x.r _ _ r0;rw [Bo] at r2;obtain ⟨q,ys,ev,hs,rs⟩:=r2;cases ev;exact ⟨ys,hs.sq,rs⟩
 | loc n=>
  have e:(match h.c n with
   | some (.lst as)=>Dn (⟨enW 0 as,Dn (n,as)⟩:Src)
   | _=>Go)=Dn s:=e
  split at e
  ·rename_i as ec;cases e;have r0:=r;rw [Bo] at r;obtain ⟨p,ev,hm⟩:=r;subst ev;refine ⟨p,as,Dn (n,as),rfl,rfl,ec,fun {H2 μ2 h2} x R2 ck=>?_⟩;have r2:=x.r _ _ r0;rw [Bo] at r2;obtain ⟨q,eq,hm2⟩:=r2;cases eq;obtain ⟨p',xs,hm',hx,rs⟩:=R2.lstAt (show h2.c n=Dn (.lst as) from ck);have ep:p'=p:=by rw [hm2] at hm';exact (Fj hm').symm
   subst ep;exact ⟨xs,.of hx,rs⟩
  ·cases e
 | _=>cases e
def Tt (ma:MA):MI:=fun σ h R=>ma σ h fun ws h1=>match ws with
 | [x]=>(match enS h1 x with
  | some s=>R s h1
  | none=>False)
 | _=>False
theorem afg {e1:Expr}{mr:MA}{p pos tpos:Pos}{elts:List Expr}{kt:Nat}(hg:Gl X "enumerate")(hm:X.mg "enumerate" = Go)(ha:Hr X [e1] mr)
  (hs:Ce [e1] X.env=(false,eval e1 X.env)::Ce [] X.env:=by rfl) (hpl:(HB pos (Ce [] X.env)).any (·.1)=false:=by rfl) :
  Mg X (.Tuple elts kt tpos) (.Call (.Name "enumerate" p) [e1] [] pos) (Tt mr):=PI.of (agv hg hm ha hs hpl) fun σ H Q ⟨μ,h,σw,Rw,R,S,m,k⟩=>by
 refine ⟨μ,h,σw,_,R,S,m,fun vs H1 ⟨μ1,ws,h1,e1,R1,r1,m1⟩=>?_⟩;split at m1
 ·split at m1
  ·rename_i x _ s es;obtain ⟨v,ev,rv⟩:=jz r1;obtain ⟨a,as,o,ea,es',ck1,fa⟩:=YL R1 rv es;subst es' ea;obtain ⟨xs,hxs,_⟩:=fa .refl R1 ck1;refine ⟨a,xs,ev,hxs,k _ _ ⟨μ1,⟨enW 0 as,o⟩,h1,e1,R1,?_,m1⟩⟩;intro H2 μ2 h2 i e2 R2 ck;obtain ⟨xs2,hxs2,rxs⟩:=fa e2 R2 ck;refine ⟨fun w ew=>?_,fun hl=>⟨xs2,hxs2,?_⟩⟩
   ·obtain ⟨p1,ep1,rfl⟩:=xq ew;obtain ⟨q1,eq1,rq1⟩:=rxs.get ep1;refine ⟨⟨xs2,q1,hxs2,eq1⟩,fun x' H3 ⟨pa,x1,hp,ex',eH3,f1⟩=>?_⟩;have g1:=f1 xs2 hxs2;rw [eq1] at g1;cases g1;subst ex' eH3;rw [S8];exact ⟨μ2,(Ex.laid hp).ext,R2.laid hp,.tupNew hp<|.cons (by rw [Bo])<|.one rq1⟩
   ·have l1:=rxs.len;have:as.length<=i:=by rw [<-yE (as:=as) (j:=0)];exact hl
    lia
  ·exact m1.elim
 ·exact m1.elim
end
section
variable {X:Cx}{mr:MA}{pos p:Pos}{e:Expr}{es:List Expr}{k:Nat}{fs:List (Addr×BK)}
inductive VFs (X:Cx) (k:Nat):List (Addr×BK)->Prop
 | nil:VFs X k []
 | cons {f:Addr} {fd:Ib} {ps:List Str} {ms:BK} {fs:List (Addr×BK)} (F:iW X.prog X.w X.K X.mg X.base Jj k f fd ps (lift X.K ms)) (hk:Lp X.K (.ref f)=true) (hb:Binds X.K fd ps []) (r:VFs X k fs):VFs X k ((f,ms)::fs)
end
def Cmp (P:CR)(w:CQ)(A:CT)(s:kI)(kd:Qv)(rk:JI->Nat)(good:JI->Prop):Prop:=
 ∀ (E:JI->kI->Prop) (Q:Bool->kI->Prop) (x y:JI),good x->good y->Q (decide (rk x<rk y)) s->Bu (Bx P w) A (keyLt' kd x y) Q E s
section
variable {P:CR}{w:CQ}{A:CT}{E:JI->kI->Prop}{s:kI}{kd:Qv}{rk:JI->Nat}{good:JI->Prop}
def Rk (rk:JI->Nat)(a:Array JG)(i:Nat):Nat:=match a[i]? with
 | some p=>rk p.1
 | none=>0
def FJ (rk:JI->Nat)(a:Array JG)(i j:Nat):Prop:=∀ p q,i<=p->p<q->q<j->Rk rk a p<Rk rk a q
structure Keys (rk:JI->Nat) (good:JI->Prop) (a:Array JG):Prop where
 good:∀ p∈a.toList,good p.1
 nd:(a.toList.map fun p=>rk p.1).Nodup
structure SOk (kd:Qv) (rk:JI->Nat) (good:JI->Prop) (st:Li):Prop where
 kind:Ke st=kd
 failed:failedOf st=Go
 keys:Keys rk good (arrOf st)
theorem w_lt (C:Cmp P w A s kd rk good){x y:JG}{st:Li}{Q:Option Bool->Li->Prop}(hk:Ke st=kd)(hx:good x.1)(hy:good y.1)(q:Q (Dn (decide (rk x.1<rk y.1))) st):wpS (Bx P w) A E s (lt' x y) Q st:=by
 rw [lt'_eq];refine wpS_bind<|wpS_get ?_
 rw [hk];exact wpS_bind<|wpS_lift<|RP<|C _ _ _ _ hx hy ⟨rfl,wpS_pure q⟩
structure Within (a b:Array JG) (lo hi:Nat):Prop where
 perm:b.Perm a
 out:∀ k,k<lo\/hi<=k->b[k]?=a[k]?
end
section
variable {P:CR}{w:CQ}{A:CT}{E:JI->kI->Prop}{s:kI}{d it:Addr}{es:Array DictEntry}{ep i:Nat}
end
section
variable {P:CR}{w:CQ}{A:CT}{E:JI->kI->Prop}{s:kI}{kd:Qv}{rk:JI->Nat}{good:JI->Prop}
structure adu (B:Nat->Bool) (n:Nat) (st:Li) (x:Nat) (c:Option (Option Nat)×Nat×Nat) (st':Li):Prop where
 s:st'=st
 e:c.1=Go
 a:c.2.1<=c.2.2
 b:c.2.2<=n
 d:c.2.2 - c.2.1<=n - x
 lo:∀ i,i<c.2.1->B i=true
 hi:∀ i,c.2.2<=i->i<n->B i=false
structure adx (B:Nat->Bool) (v:Bool) (mx:Nat) (st:Li) (x:Nat) (c:Option (Option Nat)×Nat×Nat) (st':Li):Prop where
 s:st'=st
 e:c.1=Go
 a:c.2.1<c.2.2
 b:x<c.2.2
 d:c.2.1<mx
 h:B c.2.1=v
end
section
variable {rk:JI->Nat}
def SL (rk:JI->Nat)(l:List JG):Prop:=l.Pairwise fun x y=>rk x.1<rk y.1
def Be (rk:JI->Nat)(xs ys:List JG):Prop:=∀ x∈xs,∀ y∈ys,rk x.1<rk y.1
def aeL (rk:JI->Nat)(A B out al bl:List JG):Prop:=∃ a1 b1,A=a1++al/\B=b1++bl/\out.Perm (a1++b1)/\SL rk out/\Be rk out al/\Be rk out bl
def Mrg (rk:JI->Nat)(A B r:List JG):Prop:=r.Perm (A++B)/\SL rk r
end
section
variable {P:CR}{w:CQ}{A:CT}{E:JI->kI->Prop}{s:kI}{kd:Qv}{rk:JI->Nat}{good:JI->Prop}
def Sx (st st':Li):Prop:=arrOf st'=arrOf st/\Ke st'=Ke st/\failedOf st'=failedOf st/\pendingOf st'=pendingOf st
structure Two (rk:JI->Nat) (good:JI->Prop) (a b:Array JG):Prop where
 sa:SL rk a.toList
 sb:SL rk b.toList
 ga:∀ p∈a.toList,good p.1
 gb:∀ p∈b.toList,good p.1
 ne:∀ x∈a.toList,∀ y∈b.toList,rk x.1≠rk y.1
structure zbq (rk:JI->Nat) (a b out:Array JG) (ia ib:Nat):Prop where
 ml:aeL rk a.toList b.toList out.toList (a.toList.drop ia) (b.toList.drop ib)
 ia:ia+1<a.size
 ib:ib<b.size
structure zab (rk:JI->Nat) (a b:Array JG) (st:Li) (n:Nat) {β : Type} (c:Option (Array JG)×Array JG×Nat×Nat×β) (st':Li):Prop where
 sm:Sx st st'
 e:c.1=Go
 li:zbq rk a b c.2.1 c.2.2.1 c.2.2.2.1
 le:n<=c.2.2.1+c.2.2.2.1
structure zaa (rk:JI->Nat) (a b:Array JG) (st:Li) {β : Type} (c:Option (Array JG)×β) (st':Li):Prop where
 sm:Sx st st'
 r:∃ l,c.1=Dn l/\Mrg rk a.toList b.toList l.toList
end
section
variable {rk:JI->Nat}
def aef (rk:JI->Nat)(A B o ah bh:List JG):Prop:=∃ a2 b2,A=ah++a2/\B=bh++b2/\o.Perm (a2++b2)/\SL rk o/\Be rk ah o/\Be rk bh o
end
section
variable {P:CR}{w:CQ}{A:CT}{E:JI->kI->Prop}{s:kI}{kd:Qv}{rk:JI->Nat}{good:JI->Prop}
structure aeu (rk:JI->Nat) (a b out:Array JG) (na nb:Nat):Prop where
 mh:aef rk a.toList b.toList out.toList.reverse (a.toList.take na) (b.toList.take nb)
 pa:0<na
 pb:1<nb
 la:na<=a.size
 lb:nb<=b.size
structure GoH (rk:JI->Nat) (a b:Array JG) (st:Li) (n:Nat) {β : Type} (c:Option (Array JG)×Nat×Nat×Array JG×β) (st':Li):Prop where
 sm:Sx st st'
 e:c.1=Go
 li:aeu rk a b c.2.2.2.1 c.2.1 c.2.2.1
 le:c.2.1+c.2.2.1+n<=a.size+b.size
structure Runs (rk:JI->Nat) (a:Array JG) (sa k sb n' e:Nat):Prop where
 h1:sa+k<=sb
 h2:sb+n'<=e
 h3:e<=a.size
 r1:FJ rk a sa sb
 r2:FJ rk a sb e
 lo:∀ p,sa<=p->p<sa+k->Rk rk a p<Rk rk a sb
 hi:∀ p,sb+n'<=p->p<e->Rk rk a (sb - 1)<Rk rk a p
def Cont (rk:JI->Nat)(a:Array JG):List (Nat×Nat×Nat)->Nat->Nat->Prop
 | [],i,j=>i=j
 | (s,n,_)::r,i,j=>s=i/\0<n/\FJ rk a i (i+n)/\Cont rk a r (i+n) j
structure adA (kd:Qv) (rk:JI->Nat) (good:JI->Prop) (a0:Array JG) (lo:Nat) (st:Li):Prop where
 ok:SOk kd rk good st
 perm:(arrOf st).Perm a0
 cont:Cont rk (arrOf st) (pendingOf st).toList 0 lo
end
section
variable {P:CR}{w:CQ}{A:CT}{E:JI->kI->Prop}{s:kI}
def rankOf (ks:List (List Int))(k:List Int):Nat:=ks.countP fun l=>decide (l<k)
structure KyT (T:Heap->JI->List Int->Prop):Prop where
 fn:∀ {h:Heap} {v:JI} {k l:List Int},T h v k->T h v l->k=l
 of:∀ {h h':Heap} {v:JI} {k:List Int},T h v k->(∀ b o,o.cls=.type "tuple"->h.get? b=Dn o->h'.get? b=Dn o)->T h' v k
abbrev PdT (T:Heap->JI->List Int->Prop)(h:Heap):List (List Int)->List JI->Prop:=Qt fun k v=>T h v k
section
variable {T:Heap->JI->List Int->Prop}(F:KyT T)
include F
open Classical in
noncomputable def keyV (_:KyT T)(h:Heap)(v:JI):List Int:=if e:∃ k,T h v k then e.choose else []
noncomputable def rkV (F:KyT T)(h:Heap)(ks:List (List Int))(v:JI):Nat:=rankOf ks (keyV F h v)
end
structure SkT (P:CR) (w:CQ) (A:CT) {T:Heap->JI->List Int->Prop} (F:KyT T) (kd:Qv) (ks:List (List Int)) (vs:List JI):Prop where
 kind:∀ {E:JI->kI->Prop} {s:kI} {Q:Qv->kI->Prop},2<=vs.length->PdT T s.heap ks vs->Q kd s->Bu (Bx P w) A (keyKind' vs.toArray) Q E s
 cmp:∀ {s:kI},PdT T s.heap ks vs->Cmp P w A s kd (rkV F s.heap ks) (·∈vs)
end
section
variable {X:Cx}{K:Bs}
end
section
variable {X:Cx}{o e1 e2:Expr}{mo:ME}{ma:MA}{apos cpos:Pos}
end
section
variable {X:Cx}{K:Bs}
variable {o e:Expr}{mo:ME}{ma:MA}{apos cpos:Pos}
end
section
variable {prog:CR}{w:CQ}{A:CT}{R:Result->kI->Prop}{E:JI->kI->Prop}{L I:Addr}{ns:List Int}{its:List JI}
end
section
variable {X:Cx}
end
section
open AutoSeq1 (wpAny_loadPart')
end
section
variable {prog:CR}{w:CQ}{A:CT}{E:JI->kI->Prop}{s:kI}
end
section
variable {X:Cx}{K:Bs}
end
section
variable {prog:CR}{w:CQ}{A:CT}{R:Result->kI->Prop}{L I:Addr}{its:List JI}
end
section
variable {X:Cx}{K:Bs}
def aa0 (h:Gh)(x y:W):Option Src:=match oX x,y with
 | some as,.loc n=>(match h.c n with
  | some (.lst bs)=>Dn ⟨pN as bs,Dn (n,bs)⟩
  | _=>Go)
 | _,_=>Go
end
section
variable {X:Cx}
end
section
variable {prog:CR}{w:CQ}{A:CT}{E:JI->kI->Prop}{s:kI}
end
section
variable {X:Cx}{K:Bs}
end
section
variable {prog:CR}{w:CQ}{A:CT}{E:JI->kI->Prop}{s:kI}{r l:Addr}{items:Array JI}
end
section
variable {X:Cx}
end
section
variable {P:CR}{w:CQ}{A:CT}{E:JI->kI->Prop}{s:kI}
end
section
variable {X:Cx}{K:Bs}
end
section
variable {X:Cx}{o e1 e2:Expr}{mo:ME}{ma:MA}{apos cpos:Pos}
end
section
variable {prog:CR}{w:CQ}{A:CT}{R:Result->kI->Prop}{E:JI->kI->Prop}{L I:Addr}{ns:List Int}{its:List JI}
end
section
variable {X:Cx}
end
section
variable {X:Cx}{a b o i:Expr}{ma mb:ME}{td ty:TE}{pos:Pos}
end
section
variable {P:CR}{w:CQ}{A:CT}{E:JI->kI->Prop}{s:kI}
end
section
variable {X:Cx}
end
def Fk (P:CR)(w:CQ)(K:Bs)(mg:Str->Option JI)(base:Heap)(k:Nat)(x:Str)(ms:BK):Prop:=∃ f fd ps,iW P w K mg base Jj k f fd ps (lift K ms)/\mg x=Dn (.ref f)/\Lp K (.ref f)=true/\Binds K fd ps []
def At (K:Bs)(mg:Str->Option JI)(x:Str)(st:Stmt)(ps:List Str):Prop:=∃ f fd,Pj K x x st f fd/\mg x=Dn (.ref f)/\Binds K fd ps []
section
variable {X:Cx}{e e2 e3 e4:Expr}{es:List Expr}{mr:MA}{ma mb mc md:ME}{pos:Pos}{k:Nat}{zl:List Str}{x:Str}{p:Pos}
theorem vV (i:Nat)(hN:X.N[i]?=Dn x:=by with_unfolding_all rfl)(hv:Vis X.env.scope x:=by with_unfolding_all first | exact Or.inl rfl | exact Or.inr (Or.inl rfl) | exact Or.inr (Or.inr rfl))(hd:(x==("__debug__" : Str))=false:=by decide)(hcd:(x==("__classdict__" : Str))=false:=by decide):DE X (.Name x pos) (aq i):=dv i (pv i hN hv hd hcd)
theorem aC (h1:DE X e ma)(h2:Hr X es mr)(s:Dh e=false:=by with_unfolding_all rfl):Hr X (e::es) (aj ma mr):=cV h1 h2 (aW s)
theorem a1 (h1:DE X e ma)(s:Dh e=false:=by with_unfolding_all rfl):Hr X [e] (aj ma aJ):=aC h1 fD s
theorem a2 (h1:DE X e ma)(h2:DE X e2 mb)(s1:Dh e=false:=by with_unfolding_all rfl)(s2:Dh e2=false:=by with_unfolding_all rfl):Hr X [e,e2] (aj ma (aj mb aJ)):=aC h1 (a1 h2 s2) s1
theorem a3 (h1:DE X e ma)(h2:DE X e2 mb)(h3:DE X e3 mc)(s1:Dh e=false:=by with_unfolding_all rfl)(s2:Dh e2=false:=by with_unfolding_all rfl)(s3:Dh e3=false:=by with_unfolding_all rfl):Hr X [e,e2,e3] (aj ma (aj mb (aj mc aJ))):=aC h1 (a2 h2 h3 s2 s3) s1
theorem CW {j:Nat}{ms:BK}(F:Fk X.prog X.w X.K X.mg X.base j x ms)(ha:Hr X (e::es) mr)(hr:fP k X.A:=by with_unfolding_all assumption)(hk:j<=k:=by decide)(hg:Gl X x:=by with_unfolding_all rfl)(hdb:(x==("__debug__" : Str))=false:=by decide)(h1:Dh e=false:=by with_unfolding_all rfl)(h2:noStar es=true:=by with_unfolding_all rfl) :
  DE X (.Call (.Name x p) (e::es) [] pos) (aG ms EF mr):=by
 obtain ⟨f,fd,ps,a,b,c,d⟩:=F;exact Wn (a.mono hk) hr hg b c d ha hdb (aW h1)<|bZ h2
theorem KR {id:String}{mc:MC}(hc:pR X (.builtin id) mc)(hv:Qo x=Dn (.builtin id))(ha:Hr X (e::es) mr)(z:∀ n∈zl,X.mg n=Go:=by with_unfolding_all assumption)(hz:x∈zl:=by decide)(hg:Gl X x:=by with_unfolding_all rfl)(hn:x ≠ "__name__":=by decide)(hdb:(x==("__debug__" : Str))=false:=by decide)
  (h1:Dh e=false:=by with_unfolding_all rfl) (h2:noStar es=true:=by with_unfolding_all rfl):DE X (.Call (.Name x p) (e::es) [] pos) (Fv mc mr):=zbO hc hg (z _ hz) hv ha hn hdb (aW h1) (bZ h2)
theorem dct {T:String}{mc:MC}(hc:pR X (.type T) mc)(hv:Qo x=Dn (.type T))(ha:Hr X (e::es) mr)(z:∀ n∈zl,X.mg n=Go:=by with_unfolding_all assumption)(hz:x∈zl:=by decide)(hg:Gl X x:=by with_unfolding_all rfl)(hn:x ≠ "__name__":=by decide)(hdb:(x==("__debug__" : Str))=false:=by decide)
  (h1:Dh e=false:=by with_unfolding_all rfl) (h2:noStar es=true:=by with_unfolding_all rfl):DE X (.Call (.Name x p) (e::es) [] pos) (Fv mc mr):=rW hc hg (z _ hz) hv ha hn hdb (aW h1) (bZ h2)
theorem Ec (i:Nat){pos':Pos}(he:DE X e ma)(hN:X.N.Nodup:=by with_unfolding_all assumption)(hi:X.N[i]?=Dn x:=by with_unfolding_all rfl)(hx:Loc X.env.scope x:=by with_unfolding_all first | exact Or.inl rfl | exact Or.inr rfl)(hs:QC e (Dn (.Name x pos')) pos.line X.env=pure false:=by with_unfolding_all rfl)
  (hf:X.fn x=true\/X.env.scope.names.lookup x=Dn .local:=by with_unfolding_all first | exact .inl rfl | exact .inr rfl):DS X (.Assign [.Name x pos'] e pos) (bQ ma (BW i)):=Nx hN hi hx he hs hf
theorem Kc (i:Nat)(hN:X.N.Nodup:=by with_unfolding_all assumption)(hi:X.N[i]?=Dn x:=by with_unfolding_all rfl)(hx:Loc X.env.scope x:=by with_unfolding_all first | exact Or.inl rfl | exact Or.inr rfl)(hf:X.fn x=true\/X.env.scope.names.lookup x=Dn .local:=by with_unfolding_all first | exact .inl rfl | exact .inr rfl):DG X (.Name x pos) (BW i):=xJ (lG hN hi hx hf)
theorem CG {a b:Expr}(ha:DE X a ma)(hb:DE X b mb)(hs:yq b:=by with_unfolding_all (intro _ _;rfl)):DE X (.Subscript a b pos) (AP Bw ma mb):=aaY ha hb hs
theorem Fq {a b:Expr}{op:CmpOp}{m2:M2}(ho:Ka X (KY op) m2)(ha:DE X a ma)(hb:DE X b mb)(hm:RN op b=false:=by with_unfolding_all first | exact FP _ | rfl):DT X (.Compare a [op] [b] pos) (bC (AP m2 ma mb)):=OD ho ha hb hm
theorem Lg {a b:Expr}{op:CmpOp}{m2:M2}(ho:Ka X (KY op) m2)(ha:DE X a ma)(hb:DE X b mb)(hm:RN op b=false:=by with_unfolding_all first | exact FP _ | rfl):DE X (.Compare a [op] [b] pos) (AP m2 ma mb):=aaA ho ha hb hm
theorem dl1 {scope:Scope}{iter elt:Expr}{ifs:List Expr}{mi:MI}{tt:MT}{te:ME}(ix:List Nat)(hi:Mg X (.Name x p) iter mi)(ht:∀ C s H fp,VL (blk X scope (gC X [x] ix) C s H fp) ifs tt)(he:∀ C s H fp,DE (blk X scope (gC X [x] ix) C s H fp) elt te)(B:gP X scope [x] ix:=by with_unfolding_all exact cZ rfl)(hc:X.calm=true:=by with_unfolding_all assumption)
  (hs:∀ v,R6 iter X.env v=pure v:=by with_unfolding_all (intro _;rfl)):DE X (.ListComp elt [⟨.Name x p,iter,ifs,0⟩] scope pos) (Er Gk ix mi tt te):=aaF ix hc B Cp (BR B) hi ht he hs
theorem Ms {scope:Scope}{iter elt:Expr}{mi:MI}{te:ME}(ix:List Nat)(hi:Mg X (.Name x p) iter mi)(he:∀ C s H fp,DE (blk X scope (gC X [x] ix) C s H fp) elt te)(B:gP X scope [x] ix:=by with_unfolding_all exact cZ rfl)(hc:X.calm=true:=by with_unfolding_all assumption)
  (hs:∀ v,R6 iter X.env v=pure v:=by with_unfolding_all (intro _;rfl)):DE X (.ListComp elt [⟨.Name x p,iter,[],0⟩] scope pos) (Er Gk ix mi kY te):=dl1 ix hi (fun _ _ _ _=>lO) he B hc hs
theorem qq (hr:fP k X.A:=by with_unfolding_all assumption):X.A.units+30<J7:=abQ hr
theorem hh (hc:X.calm=true:=by with_unfolding_all assumption):X.calm=true:=hc
theorem Py {a:Expr}{tg:Expr}(ha:Hr X [a] mr)(z:∀ n∈zl,X.mg n=Go:=by with_unfolding_all assumption)(hz:("range" : Str)∈zl:=by decide)(hg:Gl X "range":=by with_unfolding_all rfl)(hs:Dh a=false:=by with_unfolding_all rfl):Mg X tg (.Call (.Name "range" p) [a] [] pos) (jE mr):=zaN hg (z _ hz) ha (Nv hs)
end
theorem fk {P:CR}{w:CQ}{K:Bs}{mg:Str->Option JI}{base:Heap}{x:Str}{st:Stmt}{ps zl:List Str}(N:List Str){k:Nat}{pure:Bool}{body:CK->MS}(T:At K mg x st ps)(z:∀ n∈zl,mg n=Go)
  (hb:∀ (f:Addr) (cdv:JI) (A:CT) (outer:List Env) (s:kI) (H:Hp) (E:XK),fP k (A.deeper (M4 x (aQ st) s.heap.objs.size f cdv))->N.Nodup->(BX Jj P w K mg base N x (aQ st) f cdv A outer s H E).nox.calm=true->(∀ n∈zl,mg n=Go)->Pr (BX Jj P w K mg base N x (aQ st) f cdv A outer s H E).nox (cL st) (body EF))
  (S:eX N ps (aQ st):=by exact ⟨rfl,rfl,rfl,by decide +kernel,rfl,by decide +kernel,by decide +kernel⟩) (hk:9<=k:=by decide):Fk P w K mg base (k+1) x (Dc ps.length N.length pure body):=by
 obtain ⟨f,fd,F,m,b⟩:=T;exact ⟨f,fd,ps,ab3 F S fun cdv A outer s H E hr=>hb f cdv A outer s H E hr S.nd (hr.calm hk) z,m,F.kp,b⟩
section
variable {X:Cx}{e:Expr}{ma:ME}
end
section
variable {X:Cx}{o e1:Expr}{mo:ME}{ma:MA}{apos cpos:Pos}
end
section
variable {X:Cx}
end
section
variable {prog:CR}{w:CQ}{A:CT}{E:JI->kI->Prop}{s:kI}
end
section
variable {X:Cx}{K:Bs}
end
section
variable {X:Cx}{Γ : St->Prop}{c:Expr}{t:MT}
end
section
variable {X:Cx}
variable {o e:Expr}{es:List Expr}{mo:ME}{ma:MA}{name:Str}{apos cpos:Pos}{id:String}{r:V->List V->Hp->VK->Prop}{mr:MM}
end
section
variable {X:Cx}{e:Expr}{es:List Expr}{mr:MA}{pos p:Pos}{k j:Nat}{x y:Str}{ms:BK}{f:Addr}{fs:List (Addr×BK)}
end
theorem dc0 {X:Cx}{pos p:Pos}{k j:Nat}{x:Str}{ms:BK}(F:Fk X.prog X.w X.K X.mg X.base j x ms)(hr:fP k X.A:=by with_unfolding_all assumption)(hk:j<=k:=by decide)(hg:Gl X x:=by with_unfolding_all rfl)(hdb:(x==("__debug__" : Str))=false:=by decide):DE X (.Call (.Name x p) [] [] pos) (aG ms EF aJ):=by
 obtain ⟨f,fd,ps,a,b,c,d⟩:=F;exact agA (a.mono hk) hr hg b c d hdb
section
variable {X:Cx}
end
section
variable {X:Cx}{tg:Expr}{ma:ME}
def signs (x:Str):List W:=x.cps.toList.map fun c=>.str ⟨#[c]⟩
end
section
variable {prog:CR}{w:CQ}{A:CT}{E:JI->kI->Prop}{s:kI}
end
section
variable {X:Cx}
end
section
variable {X:Cx}{K:Bs}
end
theorem aeN {prog:CR}{w:CQ}{A:CT}{E:JI->kI->Prop}{s:kI}{env:Env}{K:Bs}{e C D:Addr}{n d:Str}{t:Expr}{b₀ : Stmt}{suite:List Stmt}{pos:Pos}{rest:List ExceptHandler}{Q:Flow->kI->Prop}
  (hx:j6 K C n=true) (hd:kW K D d=true) (hi:Gm n d=true)
  (h:Bu (Bx prog w) (A.mark (Dn (.ref e))) (eval t env) (fun c s₁=>c=.ref D/\K.In s₁.heap/\(∃ oe,s₁.heap.get? e=Dn oe/\oe.cls=.ref C) /\
   Bu (Bx prog w) (A.mark (Dn (.ref e))) (setFlight (.ref e) Go) (fun _ s₂=>
      Bu (Bx prog w) (A.mark (Dn (.ref e))) (execs (b₀::suite) env) Q (notedBy (Bx prog w) (A.mark (Dn (.ref e))) env (cameBackBy (Bx prog w) A env E)) s₂) (fun _ _=>False) s₁) (fun _ _=>False) s) :
  Bu (Bx prog w) A (handleBy (.ref e) env (.ExceptHandler (Dn t) Go (b₀::suite) pos::rest)) Q E s:=by
 refine wpAny_handleBy_cons (codeAny_handlers_test<|Ge h (fun c s₁ h₁=>?_) fun _ _ z=>z.elim) (by intro q;cases q);obtain ⟨rfl,X,⟨oe,he,hcls⟩,hk⟩:=h₁;refine p8 X he hcls hx hd ?_;rw [hi];exact codeAny_handlers_suite<|Ge hk (fun _ s₂ h₂=>Ge h₂ (fun _ _ z=>z) fun _ _ z=>z) fun _ _ z=>z.elim
def Qe (d:Str)(mb mh:CK->MS)(E:CK):MS:=fun D σ h=>mb (fun x h'=>El (Gm x.cls d) (mh E D σ h') False) D σ h
abbrev Cx.hndE (X:Cx)(a:Addr)(H0:Hp)(xe:JI->kI->Prop):Cx:={ X with A:=X.A.mark (Dn (.ref a)),H₀:=H0,calm:=false,xe:=xe }
section
variable {X:Cx}{Γ : St->Prop}{body:List Stmt}{b₀ : Stmt}{suite:List Stmt}{d:Str}{np hpos pos:Pos}{D:Addr}{mb mh:CK->MS}
theorem BZ.hndE {pins:List (Addr×Obj)}{σ : St}{H:Hp}{s:kI}{a:Addr}{H0:Hp}{xe:JI->kI->Prop}(I:BZ (X.hnd a H0) pins σ H s):BZ (X.hndE a H0 xe) pins σ H s:=
 ⟨⟨I.ok.mod,I.ok.kind,I.ok.glob,I.ok.blt,I.ok.above,I.ok.inj,I.ok.has,I.ok.cab,I.ok.hd,I.ok.qt,I.ok.frames,I.ok.stk,I.ok.exf,I.ok.bs,I.ok.bsz,I.ok.noex,I.ok.exfs,I.ok.funs,I.ok.frf⟩,I.os,I.bare,I.base,I.loc,I.cell,I.free,I.freeC,I.pin,I.hok,I.len⟩
theorem BZ.unhndE {pins:List (Addr×Obj)}{σ : St}{H:Hp}{s:kI}{a:Addr}{H0:Hp}{xe:JI->kI->Prop}(I:BZ (X.hndE a H0 xe) pins σ H s):BZ (X.hnd a H0) pins σ H s:=
 ⟨⟨I.ok.mod,I.ok.kind,I.ok.glob,I.ok.blt,I.ok.above,I.ok.inj,I.ok.has,I.ok.cab,I.ok.hd,I.ok.qt,I.ok.frames,I.ok.stk,I.ok.exf,I.ok.bs,I.ok.bsz,I.ok.noex,I.ok.exfs,I.ok.funs,I.ok.frf⟩,I.os,I.bare,I.base,I.loc,I.cell,I.free,I.freeC,I.pin,I.hok,I.len⟩
theorem New.unE {pins:List (Addr×Obj)}{H:Hp}{a b:Addr}{H0:Hp}{xe:JI->kI->Prop}(n:New (X.hndE a H0 xe) pins H b):New X pins H b:=⟨n.h,n.s,n.l,n.c,n.p,n.f⟩
theorem FN.unE {pins:List (Addr×Obj)}{σ : St}{H:Hp}{s:kI}{a e C:Addr}{od:Option Addr}{H0:Hp}{xe:JI->kI->Prop}(ok:X.Ok)(k:K5 X H0)(F:FN (X.hndE a H0 xe) pins σ H s e C od):FN X pins σ H s e C od:=
 ⟨BZ.unhnd ok k F.inv.unhndE,F.xn.mono (fun _ n=>n.unE) fun _ z=>z⟩
theorem SP.unE {pins:List (Addr×Obj)}{a:Addr}{H0:Hp}{xe:JI->kI->Prop}{De:Ends}{f:Flow}{s':kI}(ok:X.Ok)(k:K5 X H0)(h:SP (X.hndE a H0 xe) pins De f s'):SP X pins De f s':=by
 cases f with
 | next=>obtain ⟨σ',H',I,q⟩:=h;exact ⟨σ',H',BZ.unhnd ok k I.unhndE,q⟩
 | brk=>obtain ⟨σ',H',I,q⟩:=h;exact ⟨σ',H',BZ.unhnd ok k I.unhndE,q⟩
 | cont=>obtain ⟨σ',H',I,q⟩:=h;exact ⟨σ',H',BZ.unhnd ok k I.unhndE,q⟩
 | ret v=>obtain ⟨v,σ',H',I,r,q⟩:=h;exact ⟨v,σ',H',BZ.unhnd ok k I.unhndE,r,q⟩
theorem aeM (hg:Gl X d)(hm:X.mg d=Dn (.ref D))(hxd:kW X.K D d=true)(ht:Top X)(hx:X.ex=[])(hΓ : ∀ σ,Γ σ)
  (hb:∀ pins xe σ0,Dv (X.tr pins xe) (fun σ=>σ = σ0) body mb) (hh:∀ a H0 xe,V9 (X.hndE a H0 xe)->Dv (X.hndE a H0 xe) (fun _=>True) (b₀::suite) mh) (hdb:(d==("__debug__" : Str))=false:=by decide) :
  Pq X Γ (.Try body [.ExceptHandler (Dn (.Name d np)) Go (b₀::suite) hpos] [] [] pos) (fun E=>Qe d mb mh E):=by
 intro pins s σ H De I ⟨hσ,μ,h,σw,Dw,E,R,S,m,k,kx⟩;refine wpAny_Try_except<|DW (hb pins _ σ [] s σ H De I.tr ⟨rfl,μ,h,σw,Dw,_,R,S,m,k,fun ev s' xt=>?_⟩) fun f s' q=>?_
 ·obtain ⟨a,C,n,od,fs,pins',σ',H',μ',h',rfl,F,hxc,rfl,e1,R1,xd,q⟩:=xt;have F:=F.untr;cases hix:Gm n d with
  | false=>
   have q:El (Gm n d) _ False:=q;rw [hix] at q;exact q.elim
  | true=>
  have q:El (Gm n d) (mh E Dw σw h') False:=q;rw [hix] at q;have q:mh E Dw σw h':=q;refine F.note ht F.inv.ok.frames fun h1 F1=>F1.flight fun h2 F2=>?_;obtain ⟨_,oe0,vs0,he0,hc0,_⟩:=F2.xn;refine aeN hxc hxd hix ?_;refine VD F2.inv.ok.kind hg (Calls.loadGlobal_global (by rw [F2.inv.ok.glob];exact F2.inv.mod.glob.keeps F2.inv.bk) hm ⟨rfl,F2.inv.kIn,⟨oe0,he0,hc0⟩,?_⟩) hdb;refine F2.flight fun h3 F3=>?_;obtain ⟨nw,oe,vs,he,hc,hdd,hdt,_,⟨zz,hv2,hzz⟩,_⟩:=F3.xn;obtain ⟨H0,hok,hnew,Ih⟩:=F3.inv.hnd nw hx he hdt hv2 hzz;have Hn:H' a=Go:=nw.h;have e2:Ei X.K H μ (Cd H' a (.frz oe (rz a oe))) μ':=e1.trans (Ex.laid Hn).ext;refine Ge (hh a H0 (notedBy (Bx X.prog X.w) (X.A.mark (Dn (.ref a))) X.env (cameBackBy (Bx X.prog X.w) X.A X.env X.xe)) hnew pins _ _ _ De Ih.hndE
   ⟨trivial,μ',h',σw,Dw,E,R1.laid Hn,S.ext e2,q,k.trans e2,fun ev s5 xt=>?_⟩) (fun f s5 q5=>SP.unE F3.inv.ok hok q5) fun _ _ z=>z
  obtain ⟨b,C2,n2,od2,fs2,pins2,σ2,H2,μ2,hh2,rfl,G,hx2,_,e3,R2,xd2,q2⟩:=xt;refine G.note ⟨ht.1,ht.2⟩ G.inv.ok.frames fun h4 G1=>?_;have G2:=G1.unE F3.inv.ok hok;obtain ⟨_,o2,v2,g1,g2,g3,g4,g5,g6,T,oT,tt,g7,g8⟩:=G2.xn;refine BL<|HI g1 g4 g7 ?_
  rw [if_neg (show ¬ (Value.ref T==Value.none)=true from Hi)];refine G2.flight fun h5 G3=>?_;exact kx _ _ ⟨b,C2,n2,od2,fs2,pins2,σ2,H2,μ2,hh2,rfl,G3.fx,hx2,hΓ _,e2.trans e3,R2,xd2,q2⟩
 ·have q:=SP.untr q;cases f with
  | next=>exact Te q
  | brk=>exact q
  | cont=>exact q
  | ret v=>exact q
end
section
variable {X:Cx}{pins:List (Addr×Obj)}{σ : St}{H:Hp}{s:kI}
theorem BZ.drop {m:Str->Option JI}{i:Nat}{y:Str}{v:Option JI}{h':Heap}{t':Nat}(I:BZ X pins σ H s)(hN:X.N.Nodup)(hi:X.N[i]?=Dn y)(hm:s.heap.Ns X.env.locals m)(hn:h'.Ns X.env.locals (fun x=>if x=y then v else m x))(sb:Kh X.env.locals s.heap h') :
  BZ X pins (σ.set i Go) H { s with heap:=h',toks:=t' }:=by
 have J:=I.lost (t':=t') hn sb;obtain ⟨m0,hm0,hl⟩:=I.loc;have em:m0=m:=by
  obtain ⟨o,es,ep,ho,hd,_,hf⟩:=hm;obtain ⟨o',es',ep',ho',hd',_,hf'⟩:=hm0;rw [ho] at ho';cases ho'
  rw [hd] at hd';cases hd'
  funext x;rw [<-hf x,<-hf' x]
 subst em;refine ⟨J.ok,J.os,J.bare,J.base,⟨_,hn,fun j x w h1 h2 h3=>?_⟩,J.cell,J.free,J.freeC,J.pin,J.hok,by rw [Tp];exact I.len⟩;have ji:j≠i:=fun q=>by
  rw [q,List.getElem?_set] at h2;split at h2
  ·split at h2 <;> cases h2
  ·exact absurd rfl ‹¬ i=i›
 rw [V7 (Eu ji)] at h2;have xy:x≠y:=fun q=>ji ((List.getElem?_inj (K8.mp h1).1 hN).mp (by rw [h1,hi,q]))
 obtain ⟨u,ru,lk⟩:=hl j x w h1 h2 h3;refine ⟨u,ru,?_⟩;rcases lk with ⟨k1,k2⟩ | ⟨k1,c,k2,k3⟩
 ·exact .inl ⟨k1,by show (if x=y then v else m0 x)=Dn u;rw [if_neg xy];exact k2⟩
 ·refine .inr ⟨k1,c,k2,?_⟩;obtain ⟨o,ho,r⟩:=k3;exact ⟨o,(sb.2 c<|I.cne x c k2).trans ho,r⟩
end
def bA.drop (D:bA)(i:Nat):bA:={ D with nx:=fun σ h=>D.nx (σ.set i Go) h,bk:=fun σ h=>D.bk (σ.set i Go) h,ct:=fun σ h=>D.ct (σ.set i Go) h }
def Qa (i:Nat)(d:Str)(mb:CK->MS)(mh:MS):MS:=fun D σ h=>mb (fun x h'=>El (Gm x.cls d) (mh (D.drop i) (σ.set i (Dn (Ds x))) h') False) D σ h
theorem Slots.drop {K:Bs}{H:Hp}{μ : Mu}{σw:Sw}{σ : St}(S:Slots K H μ σw σ)(i:Nat):Slots K H μ (σw.set i Go) (σ.set i Go):=by
 refine ⟨by rw [Tp,Tp,S.len],fun j w q=>?_⟩;by_cases e:i=j
 ·subst e;rw [List.getElem?_set] at q;split at q
  ·split at q <;> cases q
  ·exact absurd rfl ‹¬ i=i›
 ·rw [V7 e] at q |-
  exact S.get j w q
section
variable {X:Cx}{body:List Stmt}{b₀ : Stmt}{suite:List Stmt}{y d:Str}{np hpos pos:Pos}{i:Nat}{D:Addr}{mb:CK->MS}{mh:MS}
theorem aeT (hN:X.N.Nodup)(hi:X.N[i]?=Dn y)(hy:X.env.scope.names.lookup y=Dn .local)(hg:Gl X d)(hm:X.mg d=Dn (.ref D))(hxd:kW X.K D d=true)(ht:Top X)(hx:X.ex=[])
  (hb:∀ pins xe σ0,Dv (X.tr pins xe) (fun σ=>σ = σ0) body mb) (hh:∀ a H0,Pr (X.hnd a H0).nox (b₀::suite) mh) (hdb:(d==("__debug__" : Str))=false:=by decide) :
  DS X (.Try body [.ExceptHandler (Dn (.Name d np)) (Dn y) (b₀::suite) hpos] [] [] pos) (Qa i d mb mh):=by
 intro pins s σ H De I ⟨μ,h,σw,Dw,R,S,m,k⟩;refine wpAny_Try_except<|DW (hb pins _ σ [] s σ H De I.tr ⟨rfl,μ,h,σw,Dw,_,R,S,m,k,fun ev s' xt=>?_⟩) fun f s' q=>?_
 ·obtain ⟨a,C,n,od,fs,pins',σ',H',μ',h',rfl,F,hxc,rfl,e1,R1,xd,q⟩:=xt;have F:=F.untr;cases hix:Gm n d with
  | false=>
   have q:El (Gm n d) _ False:=q;rw [hix] at q;exact q.elim
  | true=>
  have q:El (Gm n d) (mh (Dw.drop i) (σw.set i (Dn (Ds ⟨n,fs⟩))) h') False:=q;rw [hix] at q;have q:mh (Dw.drop i) (σw.set i (Dn (Ds ⟨n,fs⟩))) h':=q;refine F.note ht F.inv.ok.frames fun h1 F1=>F1.flight fun h2 F2=>?_;obtain ⟨_,oe0,vs0,he0,hc0,_⟩:=F2.xn;refine afh hxc hxd hix ?_;refine VD F2.inv.ok.kind hg (Calls.loadGlobal_global (by rw [F2.inv.ok.glob];exact F2.inv.mod.glob.keeps F2.inv.bk) hm ⟨rfl,F2.inv.kIn,⟨oe0,he0,hc0⟩,?_⟩) hdb;refine F2.flight fun h3 F3=>?_;obtain ⟨nw,oe,vs,he,hc,hdd,hdt,_,⟨zz,hv2,hzz⟩,_⟩:=F3.xn;obtain ⟨H0,hok,_,Ih⟩:=F3.inv.hnd nw hx he hdt hv2 hzz;have Hn:H' a=Go:=nw.h;refine jK (X:=X.hnd a H0) (v:=.ref a) Ih hN hi (.inl hy) rfl (fun s4 I4=>?_)<|.inr hy
  have e2:Ei X.K H μ (Cd H' a (.frz oe (rz a oe))) μ':=e1.trans (Ex.laid Hn).ext;have rx:Bo X.K (Cd H' a (.frz oe (rz a oe))) μ' (Ds ⟨n,fs⟩) (.ref a):=by
   have nc:PySem.W.notCls oe=true:=by
    unfold PySem.W.notCls;rw [hdt]
   rcases xd with ⟨rfl,rfl⟩ | ⟨dd,ws,xs,rfl,hxa,rfl,hl1,hl2,hdx,rs⟩
   ·show Bo X.K _ μ' (.exc n) (.ref a);rw [Bo];exact ⟨a,oe,_,rfl,aU,C,hc,hdd,nc,hxc⟩
   ·rw [agc hl1,Bo];exact ⟨a,oe,_,dd,_,xs,rfl,aU,⟨C,hc,hdd,nc,hxa⟩,by rw [aH<|aO hdx Hn];exact hdx,rfl,hl2,(Ex.laid Hn).ext.s rs⟩
  refine Ge (hh a H0 pins s4 _ _ ⟨fun σ5 H5=>De.nx (σ5.set i Go) H5,De.rt,fun σ5 H5=>De.bk (σ5.set i Go) H5,fun σ5 H5=>De.ct (σ5.set i Go) H5⟩ (I4.wish _)
   ⟨μ',h',σw.set i (Dn (Ds ⟨n,fs⟩)),Dw.drop i,R1.laid Hn,(S.ext e2).set rx i,q,⟨?_,?_,?_,?_⟩⟩) (fun f s5 q5=>?_) fun _ _ z=>z.elim
  ·rintro σ5 H5 ⟨μ5,σw5,h5,e5,R5,S5,m5⟩;exact k.nx _ _ ⟨μ5,_,h5,e2.trans e5,R5,S5.drop i,m5⟩
  ·rintro v H5 ⟨μ5,w5,h5,e5,R5,r5,m5⟩;exact k.rt _ _ ⟨μ5,w5,h5,e2.trans e5,R5,r5,m5⟩
  ·rintro σ5 H5 ⟨μ5,σw5,h5,e5,R5,S5,m5⟩;exact k.bk _ _ ⟨μ5,_,h5,e2.trans e5,R5,S5.drop i,m5⟩
  ·rintro σ5 H5 ⟨μ5,σw5,h5,e5,R5,S5,m5⟩;exact k.ct _ _ ⟨μ5,_,h5,e2.trans e5,R5,S5.drop i,m5⟩
  ·have gone:∀ {σ5:St} {H5:Hp} {Q5:Unit->kI->Prop},BZ (X.hnd a H0).nox pins σ5 H5 s5->(∀ s6,BZ X pins (σ5.set i Go) H5 s6->Q5 () s6)->Bu (Bx X.prog X.w) X.A (do bindName X.env y .none;unbindBehindTheSuite X.env y hpos) Q5 X.xe s5:=fun {σ5 H5 Q5} I5 h5=>by
    have I5':=I5.unwish;obtain ⟨mm,hns,_⟩:=I5'.loc;refine wpAny_nameGoes_keeps hy hns (by rw [show X.env.scope.kind=.function from F.inv.ok.kind];rfl) fun h6 v6 hn6 sb6=>h5 _<|BZ.unhnd F3.inv.ok hok<|I5'.drop hN hi hns hn6 sb6
   cases f with
   | next=>obtain ⟨σ5,H5,I5,z⟩:=q5;exact gone I5 fun s6 I6=>⟨_,H5,I6,z⟩
   | brk=>obtain ⟨σ5,H5,I5,z⟩:=q5;exact gone I5 fun s6 I6=>⟨_,H5,I6,z⟩
   | cont=>obtain ⟨σ5,H5,I5,z⟩:=q5;exact gone I5 fun s6 I6=>⟨_,H5,I6,z⟩
   | ret v=>obtain ⟨x5,σ5,H5,I5,r5,z⟩:=q5;exact gone I5 fun s6 I6=>⟨x5,_,H5,I6,r5,z⟩
 ·have q:=SP.untr q;cases f with
  | next=>exact Te q
  | brk=>exact q
  | cont=>exact q
  | ret v=>exact q
end
def Ls (P:CR)(w:CQ)(K:Bs)(mg:Str->Option JI)(base:Heap)(k:Nat)(x:Str)(ms:BK):Prop:=∃ f fd ps,iW P w K mg base (Qm P w) k f fd ps (Cg K ms)/\mg x=Dn (.ref f)/\Lp K (.ref f)=true/\Binds K fd ps []
theorem Ls.tame {P:CR}{w:CQ}{K:Bs}{mg:Str->Option JI}{base:Heap}{k:Nat}{x:Str}{ms:BK}(F:Ls P w K mg base k x ms):Fk P w K mg base k x ms:=
 let ⟨f,fd,ps,a,b⟩:=F
 ⟨f,fd,ps,a.tame,b⟩
theorem Hs {X:Cx}{Γ : St->Prop}{e:Expr}{es:List Expr}{mr:MA}{pos:Pos}{k:Nat}{x:Str}{p:Pos}{j:Nat}{ms:BK}(F:Ls X.prog X.w X.K X.mg X.base j x ms)(ha:Hr X (e::es) mr)(hr:fP k X.A:=by with_unfolding_all assumption)(hk:j<=k:=by decide)(hg:Gl X x:=by with_unfolding_all rfl)(hdb:(x==("__debug__" : Str))=false:=by decide)(h1:Dh e=false:=by with_unfolding_all rfl)(h2:noStar es=true:=by with_unfolding_all rfl) :
  DEx X Γ (.Call (.Name x p) (e::es) [] pos) (fun E=>aG ms E mr):=by
 obtain ⟨f,fd,ps,a,b,c,d⟩:=F;exact wJ (a.mono hk) hr hg b c d ha hdb (aW h1)<|bZ h2
theorem Pu {P:CR}{w:CQ}{K:Bs}{mg:Str->Option JI}{base:Heap}{x:Str}{st:Stmt}{ps zl:List Str}(N:List Str){k:Nat}{pure:Bool}{body:CK->MS}(T:At K mg x st ps)(z:∀ n∈zl,mg n=Go)
  (hb:∀ (f:Addr) (cdv:JI) (A:CT) (outer:List Env) (s:kI) (H:Hp) (E:XK),fP k (A.deeper (M4 x (aQ st) s.heap.objs.size f cdv))->N.Nodup->(BX (Qm P w) P w K mg base N x (aQ st) f cdv A outer s H E).calm=true->(∀ n∈zl,mg n=Go)->Dv (BX (Qm P w) P w K mg base N x (aQ st) f cdv A outer s H E) (fun _=>True) (cL st) body)
  (S:eX N ps (aQ st):=by exact ⟨rfl,rfl,rfl,by decide +kernel,rfl,by decide +kernel,by decide +kernel⟩) (hk:9<=k:=by decide):Ls P w K mg base (k+1) x (Dc ps.length N.length pure body):=by
 obtain ⟨f,fd,F,m,b⟩:=T;exact ⟨f,fd,ps,aaw F S fun cdv A outer s H E hr=>hb f cdv A outer s H E hr S.nd (hr.calm hk) z,m,F.kp,b⟩
end L2
namespace My
open PySem L2 PyProof.Rows
def mW:List (Key×W):=[(.inr "free",(.str "spot")),(.inr "join",(.str "line")),(.inr "meet",(.str "spot")),(.inr "curve",(.str "curve")),(.inr "about",(.str "line")),(.inr "pole",(.str "spot")),(.inr "other",(.str "spot"))]
def o9:W:=(.tup [(.tup [(.int 1),(.int 0),(.int 0)]),(.tup [(.int 0),(.int 1),(.int 0)]),(.tup [(.int 0),(.int 0),(.int 1)]),(.tup [(.int 1),(.int 1),(.int 1)])])
def top (i:Nat):Stmt:=PySem.Challenge.pw_easelroom_k65_curves_in_drawings.main.body.getD i (.Pass ⟨0,0,0,0⟩)
def adh (i j:Nat):Stmt:=match top i with
 | .ClassDef _ _ _ b _ _ _ _ _ _ _=>b.getD j (.Pass ⟨0,0,0,0⟩)
 | s=>s
abbrev T9:Stmt:=top 79
abbrev d7:Stmt:=adh 4 0
theorem tM:eX ["self", "at"] ["self", "at"] (aQ d7):=⟨rfl,rfl,rfl,by decide +kernel,rfl,by decide +kernel,by decide +kernel⟩
def j8 (E:CK):MS:=
  (bI (aq 0))
def gA:BK:=Dc 2 3 false fun E=>
  (aZ (bQ (Fv JX (aj (aq 0) aJ)) (BW 0))
  (aZ (bQ (Fv JX (aj (aq 1) aJ)) (BW 1))
  (aZ (Ar (bC (AP HW (aq 1) (mC (.int 0)))) (aZ (bQ (AP J1 (aq 0) (aq 1)) (BW 2))
  (aZ (bQ (aq 1) (BW 0))
  (bQ (aq 2) (BW 1)))))
  (j8 E))))
def gB:BK:=gA
def qb (c_divisor_of_two:BK)(E:CK):MS:=
  (bI (aq 1))
def uO (c_divisor_of_two:BK):BK:=Dc 1 3 false fun E=>
  (aZ (bQ (mC (.int 0)) (BW 1))
  (aZ (qX (GF (aq 0)) (BW 2) (bQ (aG c_divisor_of_two E (aj (aq 2) (aj (aq 1) aJ))) (BW 1)))
  (qb c_divisor_of_two E)))
def vQ:BK:=uO gB
def jm (E:CK):MS:=
  (bI (mC (.bl false)))
def mD:BK:=Dc 1 2 false fun E=>
  (aZ (qX (V0 (aj (aq 0) aJ)) (BW 1) (dY (bC (AP HW (aq 1) (mC (.int 0)))) (bI (AP kLt (aq 1) (mC (.int 0)))) bG))
  (jm E))
def mY:BK:=mD
def wu (c_divisor c_ends_below:BK)(E:CK):MS:=
  (bI (Fv uH (aj (Er Gk [1] (GF (aq 0)) kY (AP JW (aq 0) (aq 1))) aJ)))
def aeX (c_divisor c_ends_below:BK)(E:CK):MS:=
  (aZ (dY (yp (aG c_ends_below EF (aj (aq 0) aJ))) (bQ (mUn U5 (aq 1)) (BW 1)) bG)
  (wu c_divisor c_ends_below E))
def IV (c_divisor c_ends_below:BK):BK:=Dc 1 2 false fun E=>
  (aZ (bQ (aG c_divisor EF (aj (aq 0) aJ)) (BW 1))
  (aZ (dY (bC (AP Ez (aq 1) (mC (.int 0)))) (jk "Nothing" E) bG)
  (aeX c_divisor c_ends_below E)))
def jt:BK:=IV vQ mY
def GQ:BK:=Dc 2 2 false fun E=>
  (bI (AP bN (AP bN (AP cI (AP Bw (aq 0) (mC (.int 0))) (AP Bw (aq 1) (mC (.int 0)))) (AP cI (AP Bw (aq 0) (mC (.int 1))) (AP Bw (aq 1) (mC (.int 1))))) (AP cI (AP Bw (aq 0) (mC (.int 2))) (AP Bw (aq 1) (mC (.int 2))))))
def wR:BK:=GQ
def wZ:BK:=Dc 2 2 false fun E=>
  (bI (mJ (aj (AP ux (AP cI (AP Bw (aq 0) (mC (.int 1))) (AP Bw (aq 1) (mC (.int 2)))) (AP cI (AP Bw (aq 0) (mC (.int 2))) (AP Bw (aq 1) (mC (.int 1))))) (aj (AP ux (AP cI (AP Bw (aq 0) (mC (.int 2))) (AP Bw (aq 1) (mC (.int 0)))) (AP cI (AP Bw (aq 0) (mC (.int 0))) (AP Bw (aq 1) (mC (.int 2))))) (aj (AP ux (AP cI (AP Bw (aq 0) (mC (.int 0))) (AP Bw (aq 1) (mC (.int 1)))) (AP cI (AP Bw (aq 0) (mC (.int 1))) (AP Bw (aq 1) (mC (.int 0))))) aJ)))))
def lF:BK:=wZ
def Oz (c_dot c_cross:BK):BK:=Dc 3 3 false fun E=>
  (bI (aG c_dot E (aj (aG c_cross E (aj (aq 0) (aj (aq 1) aJ))) (aj (aq 2) aJ))))
def Ou:BK:=Oz wR lF
def vZ (c_dot:BK):BK:=Dc 2 2 false fun E=>
  (bI (AP Ez (aG c_dot E (aj (aq 0) (aj (aq 1) aJ))) (mC (.int 0))))
def oG:BK:=vZ wR
def rF (c_dot c_cross:BK)(E:CK):MS:=
  (aZ (bQ (aG c_cross E (aj (AP Bw (aq 0) (mC (.int 0))) (aj (AP Bw (aq 1) (mC (.int 0))) aJ))) (BW 2))
  (bI (Fv Vt (aj (Er Gk [2] (GF (aq 1)) kY (AP Ez (aG c_dot E (aj (aq 1) (aj (aq 0) aJ))) (mC (.int 0)))) aJ))))
def ou (c_dot c_cross:BK):BK:=Dc 1 3 false fun E=>
  (aZ (bQ (Er Gk [0] (GF (aq 0)) (bC (AP HW (aq 0) (AP Bw (aq 1) (mC (.int 0))))) (aq 0)) (BW 1))
  (aZ (dY (Ol (yp (aq 1))) (bI (mC (.bl true))) bG)
  (rF c_dot c_cross E)))
def gn:BK:=ou wR lF
def uq (c_share_one:BK):BK:=Dc 1 1 false fun E=>
  (bI (aG c_share_one E (aj (aq 0) aJ)))
def jM:BK:=uq gn
def jl (c_share_one:BK):BK:=Dc 1 1 false fun E=>
  (bI (aG c_share_one E (aj (aq 0) aJ)))
def jh:BK:=jl gn
def nQ (c_plain c_cross:BK)(E:CK):MS:=
  (bI (aG c_plain E (aj (aG c_cross EF (aj (aq 0) (aj (aq 1) aJ))) aJ)))
def gk (c_plain c_cross:BK):BK:=Dc 2 2 false fun E=>
  (aZ (dY (bC (AP Ez (aq 0) (aq 1))) (jk "Alike" E) bG)
  (nQ c_plain c_cross E))
def fQ:BK:=gk jt lF
def Nq (c_plain_cross:BK):BK:=Dc 2 2 false fun E=>
  (bI (aG c_plain_cross E (aj (aq 0) (aj (aq 1) aJ))))
def Bj:BK:=Nq fQ
def M5 (c_plain_cross:BK):BK:=Dc 2 2 false fun E=>
  (bI (aG c_plain_cross E (aj (aq 0) (aj (aq 1) aJ))))
def zJ:BK:=M5 fQ
def qY (E:CK):MS:=
  (bI (aq 2))
def tY:BK:=Dc 2 7 true fun E=>
  (aZ (bQ (Ac (aj (mJ aJ) aJ)) (BW 2))
  (aZ (qX (jE (aj (aq 1) aJ)) (BW 3) (aZ (bQ (sY aJ) (BW 4))
  (aZ (qX (GF (aq 2)) (BW 5) (aZ (bQ (mIf (bC (AP Qn (aq 3) (mC (.int 0)))) (AP bN (AP Bw (aq 5) (AP ux (aq 3) (mC (.int 1)))) (mC (.int 1))) (mC (.int 0))) (BW 6))
  (uI (Ov gM (aq 4) (aj (Er Gk [5] (Cu (aj (aq 6) (aj (aq 0) aJ))) kY (AP bN (aq 1) (mJ (aj (aq 0) aJ)))) aJ)))))
  (bQ (aq 4) (BW 2)))))
  (qY E)))
def zQ:BK:=tY
def tR:BK:=Dc 2 2 false fun E=>
  (bI (Er Gk [0] (GF (aq 1)) kY (AP Bw (aq 1) (aq 0))))
def z9:BK:=tR
def jx:BK:=Dc 1 1 false fun E=>
  (bI (AP kLt (Fv iU (aj (aq 0) aJ)) (Fv HF (aj (aq 0) aJ))))
def pB:BK:=jx
def gj (c_on_line c_rising c_picked:BK):BK:=Dc 2 2 false fun E=>
  (bI (Fv Ql (aj (Er Gk [0] (GF (aG c_rising E (aj (Fv HF (aj (aq 0) aJ)) (aj (aq 1) aJ)))) kY (aG c_on_line E (aj (aG c_picked E (aj (aq 1) (aj (aq 0) aJ))) aJ))) aJ)))
def kE:BK:=gj jM zQ z9
def vG:BK:=Dc 1 1 false fun E=>
  (bI (Ac (aj (LC wA (aq 0) (fY (mC (.int 0))) (fY (mC (.int 3)))) (aj (LC wA (aq 0) (fY (mC (.int 3))) (fY (mC (.int 6)))) (aj (LC wA (aq 0) (fY (mC (.int 6))) (fY (mC (.int 9)))) aJ)))))
def kj:BK:=vG
def ur (c_turn c_rows_of:BK):BK:=Dc 1 2 false fun E=>
  (aZ (bQ (aG c_rows_of E (aj (aq 0) aJ)) (BW 1))
  (bI (aG c_turn E (aj (AP Bw (aq 1) (mC (.int 0))) (aj (AP Bw (aq 1) (mC (.int 1))) (aj (AP Bw (aq 1) (mC (.int 2))) aJ))))))
def ud:BK:=ur Ou kj
def fH (c_dot c_rows_of:BK):BK:=Dc 2 2 false fun E=>
  (bI (Er Gk [1] (GF (aG c_rows_of E (aj (aq 0) aJ))) kY (aG c_dot E (aj (aq 0) (aj (aq 1) aJ)))))
def bK:BK:=fH wR kj
def zR (c_cross c_rows_of:BK):BK:=Dc 1 2 false fun E=>
  (aZ (bQ (aG c_rows_of E (aj (aq 0) aJ)) (BW 1))
  (bI (AP bN (AP bN (aG c_cross E (aj (AP Bw (aq 1) (mC (.int 1))) (aj (AP Bw (aq 1) (mC (.int 2))) aJ))) (aG c_cross E (aj (AP Bw (aq 1) (mC (.int 2))) (aj (AP Bw (aq 1) (mC (.int 0))) aJ)))) (aG c_cross E (aj (AP Bw (aq 1) (mC (.int 0))) (aj (AP Bw (aq 1) (mC (.int 1))) aJ))))))
def nO:BK:=zR lF kj
def yw:BK:=Dc 0 0 false fun E=>
  (bI (Fv qD (aj (mC o9) aJ)))
def Js:BK:=yw
def xX:BK:=Dc 2 6 false fun E=>
  (aZ (bQ (AP Bw (aq 1) (mC (.int 0))) (BW 2))
  (aZ (bQ (AP Bw (aq 1) (mC (.int 1))) (BW 3))
  (aZ (bQ (AP Bw (aq 1) (mC (.int 2))) (BW 4))
  (aZ (bQ (AP bN (AP bN (AP cI (AP cI (AP Bw (aq 0) (mC (.int 0))) (aq 2)) (aq 2)) (AP cI (AP cI (AP Bw (aq 0) (mC (.int 2))) (aq 3)) (aq 3))) (AP cI (AP cI (AP Bw (aq 0) (mC (.int 5))) (aq 4)) (aq 4))) (BW 5))
  (bI (AP bN (AP bN (AP bN (aq 5) (AP cI (AP cI (AP Bw (aq 0) (mC (.int 1))) (aq 2)) (aq 3))) (AP cI (AP cI (AP Bw (aq 0) (mC (.int 3))) (aq 2)) (aq 4))) (AP cI (AP cI (AP Bw (aq 0) (mC (.int 4))) (aq 3)) (aq 4))))))))
def Gu:BK:=xX
def fV (c_worth:BK):BK:=Dc 2 2 false fun E=>
  (bI (AP Ez (aG c_worth E (aj (aq 0) (aj (aq 1) aJ))) (mC (.int 0))))
def fZ:BK:=fV Gu
def lB:BK:=Dc 2 2 false fun E=>
  (bI (mJ (aj (AP cI (AP Bw (aq 0) (mC (.int 0))) (AP Bw (aq 1) (mC (.int 0)))) (aj (AP bN (AP cI (AP Bw (aq 0) (mC (.int 0))) (AP Bw (aq 1) (mC (.int 1)))) (AP cI (AP Bw (aq 0) (mC (.int 1))) (AP Bw (aq 1) (mC (.int 0))))) (aj (AP cI (AP Bw (aq 0) (mC (.int 1))) (AP Bw (aq 1) (mC (.int 1)))) (aj (AP bN (AP cI (AP Bw (aq 0) (mC (.int 0))) (AP Bw (aq 1) (mC (.int 2)))) (AP cI (AP Bw (aq 0) (mC (.int 2))) (AP Bw (aq 1) (mC (.int 0))))) (aj (AP bN (AP cI (AP Bw (aq 0) (mC (.int 1))) (AP Bw (aq 1) (mC (.int 2)))) (AP cI (AP Bw (aq 0) (mC (.int 2))) (AP Bw (aq 1) (mC (.int 1))))) (aj (AP cI (AP Bw (aq 0) (mC (.int 2))) (AP Bw (aq 1) (mC (.int 2)))) aJ))))))))
def qN:BK:=lB
def rA:BK:=Dc 1 1 false fun E=>
  (bI (mJ (aj (AP cI (mC (.int 2)) (AP Bw (aq 0) (mC (.int 0)))) (aj (AP Bw (aq 0) (mC (.int 1))) (aj (AP Bw (aq 0) (mC (.int 3))) (aj (AP Bw (aq 0) (mC (.int 1))) (aj (AP cI (mC (.int 2)) (AP Bw (aq 0) (mC (.int 2)))) (aj (AP Bw (aq 0) (mC (.int 4))) (aj (AP Bw (aq 0) (mC (.int 3))) (aj (AP Bw (aq 0) (mC (.int 4))) (aj (AP cI (mC (.int 2)) (AP Bw (aq 0) (mC (.int 5)))) aJ)))))))))))
def dh:BK:=rA
def iz (c_dot c_table_times_row:BK):BK:=Dc 3 3 false fun E=>
  (bI (aG c_dot E (aj (aq 1) (aj (aG c_table_times_row E (aj (aq 0) (aj (aq 2) aJ))) aJ))))
def eE:BK:=iz wR bK
def lR (c_size_of c_table_of:BK):BK:=Dc 1 1 false fun E=>
  (bI (AP HW (aG c_size_of E (aj (aG c_table_of E (aj (aq 0) aJ)) aJ)) (mC (.int 0))))
def iI:BK:=lR ud dh
def xQ (c_dot c_cross c_together:BK):BK:=Dc 1 7 false fun E=>
  (aZ (bQ (aG c_cross E (aj (AP Bw (aq 0) (mC (.int 0))) (aj (AP Bw (aq 0) (mC (.int 1))) aJ))) (BW 1))
  (aZ (bQ (aG c_cross E (aj (AP Bw (aq 0) (mC (.int 2))) (aj (AP Bw (aq 0) (mC (.int 3))) aJ))) (BW 2))
  (aZ (bQ (aG c_cross E (aj (AP Bw (aq 0) (mC (.int 0))) (aj (AP Bw (aq 0) (mC (.int 2))) aJ))) (BW 3))
  (aZ (bQ (aG c_cross E (aj (AP Bw (aq 0) (mC (.int 1))) (aj (AP Bw (aq 0) (mC (.int 3))) aJ))) (BW 4))
  (aZ (bQ (AP cI (aG c_dot E (aj (aq 1) (aj (AP Bw (aq 0) (mC (.int 4))) aJ))) (aG c_dot E (aj (aq 2) (aj (AP Bw (aq 0) (mC (.int 4))) aJ)))) (BW 5))
  (aZ (bQ (AP cI (aG c_dot E (aj (aq 3) (aj (AP Bw (aq 0) (mC (.int 4))) aJ))) (aG c_dot E (aj (aq 4) (aj (AP Bw (aq 0) (mC (.int 4))) aJ)))) (BW 6))
  (bI (Er (owT 2) [5,6] (ZD (aj (aG c_together E (aj (aq 3) (aj (aq 4) aJ))) (aj (aG c_together E (aj (aq 1) (aj (aq 2) aJ))) aJ))) kY (AP ux (AP cI (aq 2) (aq 0)) (AP cI (aq 3) (aq 1)))))))))))
def Iz:BK:=xQ wR lF qN
def oJ (c_plain c_has_alike c_has_on_line c_mixed:BK)(E:CK):MS:=
  (bI (aG c_plain E (aj (aG c_mixed EF (aj (aq 0) aJ)) aJ)))
def pG (c_plain c_has_alike c_has_on_line c_mixed:BK)(E:CK):MS:=
  (aZ (dY (yp (aG c_has_on_line EF (aj (aq 0) (aj (mC (.int 4)) aJ)))) (jk "FourOnLine" E) bG)
  (oJ c_plain c_has_alike c_has_on_line c_mixed E))
def oZ (c_plain c_has_alike c_has_on_line c_mixed:BK):BK:=Dc 1 1 false fun E=>
  (aZ (dY (yp (aG c_has_alike EF (aj (aq 0) aJ))) (jk "Alike" E) bG)
  (pG c_plain c_has_alike c_has_on_line c_mixed E))
def nW:BK:=oZ jt pB kE Iz
def oE:BK:=Dc 2 2 false fun E=>
  (bI (ZQ mW (AP Bw (AP Bw (aq 0) (aq 1)) (mC (.int 0)))))
def vq:BK:=oE
def oW (c_turned c_table_of c_both_sides:BK):BK:=Dc 2 2 false fun E=>
  (bI (AP Ez (aG c_both_sides E (aj (aG c_turned E (aj (aG c_table_of E (aj (aq 1) aJ)) aJ)) (aj (aq 0) (aj (aq 0) aJ)))) (mC (.int 0))))
def wg:BK:=oW nO dh eE
def uW (c_lies_on c_on_line c_through_spot c_is_on_curve c_is_round c_sort_of c_touches:BK)(E:CK):MS:=
  (bI (Sy (aG c_is_round E (aj (AP Bw (aq 3) (mC (.int 0))) aJ))))
def oR (c_lies_on c_on_line c_through_spot c_is_on_curve c_is_round c_sort_of c_touches:BK)(E:CK):MS:=
  (aZ (dY (bC (AP Ez (AP Bw (aq 2) (mC (.int 0))) (mC (.str "touch")))) (bI (aG c_touches E (aj (AP Bw (aq 3) (mC (.int 0))) (aj (AP Bw (aq 3) (mC (.int 1))) aJ)))) bG)
  (uW c_lies_on c_on_line c_through_spot c_is_on_curve c_is_round c_sort_of c_touches E))
def j9 (c_lies_on c_on_line c_through_spot c_is_on_curve c_is_round c_sort_of c_touches:BK)(E:CK):MS:=
  (aZ (dY (bC (AP Ez (AP Bw (aq 2) (mC (.int 0))) (mC (.str "bunch")))) (bI (aG c_through_spot E (aj (aq 3) aJ))) bG)
  (oR c_lies_on c_on_line c_through_spot c_is_on_curve c_is_round c_sort_of c_touches E))
def gR (c_lies_on c_on_line c_through_spot c_is_on_curve c_is_round c_sort_of c_touches:BK)(E:CK):MS:=
  (aZ (dY (bC (AP Ez (AP Bw (aq 2) (mC (.int 0))) (mC (.str "row")))) (bI (aG c_on_line E (aj (aq 3) aJ))) bG)
  (j9 c_lies_on c_on_line c_through_spot c_is_on_curve c_is_round c_sort_of c_touches E))
def dB (c_lies_on c_on_line c_through_spot c_is_on_curve c_is_round c_sort_of c_touches:BK)(E:CK):MS:=
  (aZ (dY (bC (AP Ez (AP Bw (aq 2) (mC (.int 0))) (mC (.str "on")))) (aZ (dY (bC (AP Ez (aG c_sort_of E (aj (aq 0) (aj (AP Bw (aq 2) (mC (.int 2))) aJ))) (mC (.str "line")))) (bI (aG c_lies_on E (aj (AP Bw (aq 3) (mC (.int 0))) (aj (AP Bw (aq 3) (mC (.int 1))) aJ)))) bG)
  (bI (aG c_is_on_curve E (aj (AP Bw (aq 3) (mC (.int 1))) (aj (AP Bw (aq 3) (mC (.int 0))) aJ))))) bG)
  (gR c_lies_on c_on_line c_through_spot c_is_on_curve c_is_round c_sort_of c_touches E))
def xO (c_lies_on c_on_line c_through_spot c_is_on_curve c_is_round c_sort_of c_touches:BK):BK:=Dc 3 4 false fun E=>
  (aZ (bQ (Er Gk [1] (GF (LC wA (aq 2) (fY (mC (.int 1))) dG)) kY (AP Bw (aq 1) (aq 0))) (BW 3))
  (aZ (dY (bC (AP Ez (AP Bw (aq 2) (mC (.int 0))) (mC (.str "same")))) (bI (AP Ez (AP Bw (aq 3) (mC (.int 0))) (AP Bw (aq 3) (mC (.int 1))))) bG)
  (dB c_lies_on c_on_line c_through_spot c_is_on_curve c_is_round c_sort_of c_touches E)))
def rJ:BK:=xO oG jM jh fZ iI vq wg
def iw (c_plain:BK):BK:=Dc 1 1 false fun E=>
  (bI (mIf (yp (Fv Ql (aj (Er Gk [] (GF (aq 0)) kY (AP HW (aq 0) (mC (.int 0)))) aJ))) (aG c_plain E (aj (aq 0) aJ)) (mC .non)))
def dO:BK:=iw jt
def qz (c_table_times_row c_table_of c_plain_or_none:BK)(E:CK):MS:=
  (bI (aq 2))
def mK (c_table_times_row c_table_of c_plain_or_none:BK):BK:=Dc 2 3 false fun E=>
  (aZ (bQ (aG c_plain_or_none EF (aj (aG c_table_times_row EF (aj (aG c_table_of EF (aj (aq 0) aJ)) (aj (aq 1) aJ))) aJ)) (BW 2))
  (aZ (dY (bC (AP kIs (aq 2) (mC .non))) (jk "Knot" E) bG)
  (qz c_table_times_row c_table_of c_plain_or_none E)))
def iy:BK:=mK bK dh dO
def jj (c_plain c_table_times_row c_turned c_table_of c_is_round:BK)(E:CK):MS:=
  (bI (aG c_plain E (aj (aG c_table_times_row EF (aj (aG c_turned EF (aj (aG c_table_of EF (aj (aq 0) aJ)) aJ)) (aj (aq 1) aJ))) aJ)))
def iu (c_plain c_table_times_row c_turned c_table_of c_is_round:BK):BK:=Dc 2 2 false fun E=>
  (aZ (dY (Ol (yp (aG c_is_round EF (aj (aq 0) aJ)))) (jk "NotRound" E) bG)
  (jj c_plain c_table_times_row c_turned c_table_of c_is_round E))
def gW:BK:=iu jt bK nO dh iI
def eZ (c_meet c_tiles:BK):BK:=Dc 2 3 false fun E=>
  (aZ (bQ (Er Gk [0] (GF (LC wA (aG c_tiles E aJ) dG (fY (mC (.int 3))))) (bC (AP HW (aq 0) (aq 1))) (aG c_meet E (aj (aq 1) (aj (aq 0) aJ)))) (BW 2))
  (bI (AP Bw (Er Gk [1] (GF (aq 2)) (bC (AP HW (aq 0) (aq 1))) (aq 0)) (mC (.int 0)))))
def jf:BK:=eZ zJ Js
def jN (c_lies_on c_is_on_curve c_table_of c_both_sides c_plain_or_none c_another_spot:BK)(E:CK):MS:=
  (bI (aq 7))
def jX (c_lies_on c_is_on_curve c_table_of c_both_sides c_plain_or_none c_another_spot:BK)(E:CK):MS:=
  (aZ (bQ (aG c_table_of EF (aj (aq 0) aJ)) (BW 3))
  (aZ (bQ (aG c_another_spot EF (aj (aq 2) (aj (aq 1) aJ))) (BW 4))
  (aZ (bQ (aG c_both_sides EF (aj (aq 3) (aj (aq 4) (aj (aq 4) aJ)))) (BW 5))
  (aZ (bQ (AP cI (mC (.int 2)) (aG c_both_sides EF (aj (aq 3) (aj (aq 1) (aj (aq 4) aJ))))) (BW 6))
  (aZ (bQ (aG c_plain_or_none EF (aj (Er (owT 2) [5,6] (ZD (aj (aq 1) (aj (aq 4) aJ))) kY (AP ux (AP cI (aq 2) (aq 0)) (AP cI (aq 3) (aq 1)))) aJ)) (BW 7))
  (aZ (dY (bC (AP kIs (aq 7) (mC .non))) (jk "InCurve" E) bG)
  (jN c_lies_on c_is_on_curve c_table_of c_both_sides c_plain_or_none c_another_spot E)))))))
def jC (c_lies_on c_is_on_curve c_table_of c_both_sides c_plain_or_none c_another_spot:BK):BK:=Dc 3 8 false fun E=>
  (aZ (dY (mOr (Ol (yp (aG c_is_on_curve EF (aj (aq 0) (aj (aq 1) aJ))))) (Ol (yp (aG c_lies_on EF (aj (aq 1) (aj (aq 2) aJ)))))) (jk "NotOn" E) bG)
  (jX c_lies_on c_is_on_curve c_table_of c_both_sides c_plain_or_none c_another_spot E))
def jB:BK:=jC oG fZ dh eE dO jf
def iB (c_join c_meet c_through c_line_about c_spot_about c_other_end:BK)(E:CK):MS:=
  (bI (aG c_other_end E (aj (AP Bw (aq 2) (mC (.int 0))) (aj (AP Bw (aq 2) (mC (.int 1))) (aj (aG c_join EF (aj (AP Bw (aq 2) (mC (.int 1))) (aj (AP Bw (aq 2) (mC (.int 2))) aJ))) aJ)))))
def dD (c_join c_meet c_through c_line_about c_spot_about c_other_end:BK)(E:CK):MS:=
  (aZ (dY (bC (AP Ez (AP Bw (aq 0) (mC (.int 0))) (mC (.str "pole")))) (bI (aG c_spot_about E (aj (AP Bw (aq 2) (mC (.int 0))) (aj (AP Bw (aq 2) (mC (.int 1))) aJ)))) bG)
  (iB c_join c_meet c_through c_line_about c_spot_about c_other_end E))
def cC (c_join c_meet c_through c_line_about c_spot_about c_other_end:BK)(E:CK):MS:=
  (aZ (dY (bC (AP Ez (AP Bw (aq 0) (mC (.int 0))) (mC (.str "about")))) (bI (aG c_line_about E (aj (AP Bw (aq 2) (mC (.int 0))) (aj (AP Bw (aq 2) (mC (.int 1))) aJ)))) bG)
  (dD c_join c_meet c_through c_line_about c_spot_about c_other_end E))
def bT (c_join c_meet c_through c_line_about c_spot_about c_other_end:BK)(E:CK):MS:=
  (aZ (dY (bC (AP Ez (AP Bw (aq 0) (mC (.int 0))) (mC (.str "curve")))) (bI (aG c_through E (aj (aq 2) aJ))) bG)
  (cC c_join c_meet c_through c_line_about c_spot_about c_other_end E))
def bL (c_join c_meet c_through c_line_about c_spot_about c_other_end:BK)(E:CK):MS:=
  (aZ (dY (bC (AP Ez (AP Bw (aq 0) (mC (.int 0))) (mC (.str "meet")))) (bI (aG c_meet E (aj (AP Bw (aq 2) (mC (.int 0))) (aj (AP Bw (aq 2) (mC (.int 1))) aJ)))) bG)
  (bT c_join c_meet c_through c_line_about c_spot_about c_other_end E))
def aF (c_join c_meet c_through c_line_about c_spot_about c_other_end:BK):BK:=Dc 2 3 false fun E=>
  (aZ (bQ (Er Gk [1] (GF (LC wA (aq 0) (fY (mC (.int 1))) dG)) kY (AP Bw (aq 1) (aq 0))) (BW 2))
  (aZ (dY (bC (AP Ez (AP Bw (aq 0) (mC (.int 0))) (mC (.str "join")))) (bI (aG c_join E (aj (AP Bw (aq 2) (mC (.int 0))) (aj (AP Bw (aq 2) (mC (.int 1))) aJ)))) bG)
  (bL c_join c_meet c_through c_line_about c_spot_about c_other_end E)))
def bM:BK:=aF Bj zJ nW iy gW jB
def qP (c_made_by_row:BK)(E:CK):MS:=
  (bI (aq 2))
def nC (c_made_by_row:BK):BK:=Dc 2 7 true fun E=>
  (aZ (bQ (sY aJ) (BW 2))
  (aZ (bQ (mC (.int 0)) (BW 3))
  (aZ (qX (Tt (aj (aq 0) aJ)) (uh 2 (qy (BW 4) (qy (BW 5) Wf))) (dY (bC (AP Ez (AP Bw (aq 5) (mC (.int 0))) (mC (.str "free")))) (aZ (uI (Ov jq (aq 2) (aj (AP Bw (aq 1) (aq 3)) aJ)))
  (bQ (AP bN (aq 3) (mC (.int 1))) (BW 3))) (aZ (Qe "EaselError" (fun E=>(bQ (aG c_made_by_row E (aj (aq 5) (aj (aq 2) aJ))) (BW 6))) (fun E=>(wK "Stuck" "at" (aq 4) E)) E)
  (uI (Ov jq (aq 2) (aj (aq 6) aJ))))))
  (qP c_made_by_row E))))
def eU:BK:=nC bM
def adD (E:CK):MS:=
  (bI (mC (.int 0)))
def zf:BK:=Dc 2 2 false fun E=>
  (aZ (dY (bC (AP kLt (aq 1) (Fv HF (aj (aq 0) aJ)))) (bI (AP Bw (aq 0) (aq 1))) bG)
  (adD E))
def Ba:BK:=zf
def Jd:BK:=Dc 1 1 false fun E=>
  (bI (sY (aj (AP Qs (Fv JX (aj (aq 0) aJ)) (Fv ZS (aj (AP kGe (Fv JX (aj (aq 0) aJ)) (AP abG (mC (.int 10)) (mC (.int 18)))) aJ))) (aj (AP J1 (Fv JX (aj (aq 0) aJ)) (mC (.int 2147483647))) aJ))))
def IK:BK:=Jd
def adY (E:CK):MS:=
  (aZ (bQ (AP J1 (AP bN (AP cI (AP Bw (aq 0) (mC (.int 1))) (mC (.int 48271))) (mC (.int 11))) (mC (.int 2147483647))) (Vg (aq 0) (mC (.int 1)) CZ))
  (bI (AP J1 (AP JW (AP J1 (AP cI (AP Bw (aq 0) (mC (.int 1))) (AP bN (AP JW (AP Bw (aq 0) (mC (.int 1))) (mC (.int 65536))) (mC (.int 7)))) (mC (.int 2147483629))) (mC (.int 32))) (aq 1))))
def Aq:BK:=Dc 2 3 false fun E=>
  (aZ (dY (bC (AP Qn (AP Bw (aq 0) (mC (.int 0))) (mC (.int 0)))) (aZ (bQ (AP J1 (AP Bw (aq 0) (mC (.int 0))) (aq 1)) (BW 2))
  (aZ (bQ (AP JW (AP Bw (aq 0) (mC (.int 0))) (aq 1)) (Vg (aq 0) (mC (.int 0)) CZ))
  (bI (aq 2)))) bG)
  (adY E))
def zP:BK:=Aq
def j7 (E:CK):MS:=
  (bI (aq 1))
def oM:BK:=Dc 1 4 false fun E=>
  (aZ (bQ (mC (.int 0)) (BW 1))
  (aZ (qX (GF (aq 0)) (BW 2) (aZ (bQ (Fv JX (aj (aq 2) aJ)) (BW 3))
  (Ar (bC (AP Qn (aq 3) (mC (.int 0)))) (aaG 1 3 (aj (aq 3) (aj (AP J1 (aq 1) (aq 3)) aJ))))))
  (j7 E)))
def pZ:BK:=oM
def pU (c_l_divisor:BK)(E:CK):MS:=
  (bI (Fv uH (aj (Er Gk [1] (GF (aq 0)) kY (AP JW (aq 0) (aq 1))) aJ)))
def vM (c_l_divisor:BK):BK:=Dc 1 3 false fun E=>
  (aZ (bQ (aG c_l_divisor E (aj (aq 0) aJ)) (BW 1))
  (aZ (bQ (AP Bw (Er Gk [] (GF (aq 0)) (bC (AP HW (aq 0) (mC (.int 0)))) (aq 0)) (mUn U5 (mC (.int 1)))) (BW 2))
  (aZ (dY (bC (AP kLt (aq 2) (mC (.int 0)))) (bQ (AP ux (mC (.int 0)) (aq 1)) (BW 1)) bG)
  (pU c_l_divisor E))))
def uP:BK:=vM pZ
def qg:BK:=Dc 2 8 false fun E=>
  (aZ (bQ (aq 0) (uh 3 (qy (BW 2) (qy (BW 3) (qy (BW 4) Wf)))))
  (aZ (bQ (aq 1) (uh 3 (qy (BW 5) (qy (BW 6) (qy (BW 7) Wf)))))
  (bI (mJ (aj (AP ux (AP cI (aq 3) (aq 7)) (AP cI (aq 4) (aq 6))) (aj (AP ux (AP cI (aq 4) (aq 5)) (AP cI (aq 2) (aq 7))) (aj (AP ux (AP cI (aq 2) (aq 6)) (AP cI (aq 3) (aq 5))) aJ)))))))
def uo:BK:=qg
def xY:BK:=Dc 2 2 false fun E=>
  (bI (AP bN (AP bN (AP cI (AP Bw (aq 0) (mC (.int 0))) (AP Bw (aq 1) (mC (.int 0)))) (AP cI (AP Bw (aq 0) (mC (.int 1))) (AP Bw (aq 1) (mC (.int 1))))) (AP cI (AP Bw (aq 0) (mC (.int 2))) (AP Bw (aq 1) (mC (.int 2))))))
def Gy:BK:=xY
def sZ (c_l_cross c_l_dot:BK):BK:=Dc 3 3 false fun E=>
  (bI (aG c_l_dot E (aj (aG c_l_cross E (aj (aq 0) (aj (aq 1) aJ))) (aj (aq 2) aJ))))
def nP:BK:=sZ uo Gy
def iM (c_l_draw c_l_plain:BK)(E:CK):MS:=
  (bI (aG c_l_plain E (aj (aq 2) aJ)))
def lX (c_l_draw c_l_plain:BK)(E:CK):MS:=
  (aZ (dY (bC (AP Ez (aq 2) (Ac (aj (mC (.int 0)) (aj (mC (.int 0)) (aj (mC (.int 0)) aJ)))))) (bQ (mC (.int 1)) (Vg (aq 2) (aG c_l_draw E (aj (aq 0) (aj (mC (.int 3)) aJ))) CZ)) bG)
  (iM c_l_draw c_l_plain E))
def tU (c_l_draw c_l_plain:BK):BK:=Dc 2 3 false fun E=>
  (aZ (bQ (sY (aj (AP ux (aG c_l_draw E (aj (aq 0) (aj (mC (.int 5)) aJ))) (mC (.int 2))) (aj (AP ux (aG c_l_draw E (aj (aq 0) (aj (mC (.int 5)) aJ))) (mC (.int 2))) (aj (AP Bw (Ac (aj (mC (.int 0)) (aj (mC (.int 1)) (aj (mC (.int 1)) (aj (mC (.int 1)) (aj (mC (.int 2)) (aj (mC (.int 1)) (aj (mC (.int 3)) (aj (mC (.int 1)) aJ))))))))) (aG c_l_draw E (aj (aq 0) (aj (mC (.int 8)) aJ)))) aJ)))) (BW 2))
  (aZ (dY (bC (AP Qn (aq 1) (mC (.int 0)))) (bQ (sY (aj (AP ux (aG c_l_draw E (aj (aq 0) (aj (AP cI (mC (.int 2)) (aq 1)) aJ))) (aq 1)) (aj (AP ux (aG c_l_draw E (aj (aq 0) (aj (AP cI (mC (.int 2)) (aq 1)) aJ))) (aq 1)) (aj (aG c_l_draw E (aj (aq 0) (aj (aq 1) aJ))) aJ)))) (BW 2)) bG)
  (lX c_l_draw c_l_plain E)))
def sJ:BK:=tU zP uP
def ju:BK:=Dc 0 1 false fun E=>
  (aZ (bQ (AP bN (Er Gk [] (jE (aj (mC (.int 6)) aJ)) kY (mJ (aj (mC (.str "free")) aJ))) (Ac (aj (mJ (aj (mC (.str "curve")) (aj (mC (.int 0)) (aj (mC (.int 1)) (aj (mC (.int 2)) (aj (mC (.int 3)) (aj (mC (.int 4)) aJ))))))) aJ))) (BW 0))
  (aZ (bQ (AP bN (AP bN (aq 0) (Er Gk [] (jE (aj (mC (.int 6)) aJ)) kY (mJ (aj (mC (.str "about")) (aj (mC (.int 6)) (aj (aq 0) aJ)))))) (Ac (aj (mJ (aj (mC (.str "pole")) (aj (mC (.int 6)) (aj (mC (.int 12)) aJ)))) aJ))) (BW 0))
  (bI (AP bN (aq 0) (Er Gk [] (Cu (aj (mC (.int 1)) (aj (mC (.int 5)) aJ))) kY (mJ (aj (mC (.str "other")) (aj (mC (.int 6)) (aj (mC (.int 0)) (aj (aq 0) aJ))))))))))
def pQ:BK:=ju
def dR (c_l_turn:BK)(E:CK):MS:=
  (bI (mC (.bl false)))
def cM (c_l_turn:BK):BK:=Dc 1 4 false fun E=>
  (aZ (qX (jE (aj (mC (.int 5)) aJ)) (BW 1) (qX (jE (aj (aq 1) aJ)) (BW 2) (qX (jE (aj (aq 2) aJ)) (BW 3) (dY (bC (AP Ez (aG c_l_turn E (aj (AP Bw (aq 0) (aq 1)) (aj (AP Bw (aq 0) (aq 2)) (aj (AP Bw (aq 0) (aq 3)) aJ)))) (mC (.int 0)))) (bI (mC (.bl true))) bG))))
  (dR c_l_turn E))
def fJ:BK:=cM nP
def eN (c_l_turn:BK)(E:CK):MS:=
  (bI (mC (.bl false)))
def cX (c_l_turn:BK):BK:=Dc 1 4 false fun E=>
  (aZ (qX (jE (aj (mC (.int 5)) aJ)) (BW 1) (aZ (bQ (AP bN (LC wA (aq 0) dG (fY (aq 1))) (LC wA (aq 0) (fY (AP bN (aq 1) (mC (.int 1)))) dG)) (BW 2))
  (aZ (bQ (Ac (aj (aG c_l_turn E (aj (AP Bw (aq 2) (mC (.int 0))) (aj (AP Bw (aq 2) (mC (.int 1))) (aj (AP Bw (aq 2) (mC (.int 2))) aJ)))) (aj (aG c_l_turn E (aj (AP Bw (aq 2) (mC (.int 0))) (aj (AP Bw (aq 2) (mC (.int 1))) (aj (AP Bw (aq 2) (mC (.int 3))) aJ)))) aJ))) (BW 3))
  (dY (bC (AP Ez (AP bN (aq 3) (Ac (aj (aG c_l_turn E (aj (AP Bw (aq 2) (mC (.int 0))) (aj (AP Bw (aq 2) (mC (.int 2))) (aj (AP Bw (aq 2) (mC (.int 3))) aJ)))) (aj (aG c_l_turn E (aj (AP Bw (aq 2) (mC (.int 1))) (aj (AP Bw (aq 2) (mC (.int 2))) (aj (AP Bw (aq 2) (mC (.int 3))) aJ)))) aJ)))) (Ac (aj (mC (.int 0)) (aj (mC (.int 0)) (aj (mC (.int 0)) (aj (mC (.int 0)) aJ))))))) (bI (mC (.bl true))) bG))))
  (eN c_l_turn E))
def gD:BK:=cX nP
def wH (c_placed:BK)(E:CK):MS:=
  (bI (mUn U5 (mC (.int 1))))
def qd (c_placed:BK):BK:=Dc 2 3 false fun E=>
  (aZ (Qa 2 "Stuck" (fun E=>(uI (aG c_placed E (aj (Fv qD (aj (aq 0) aJ)) (aj (Fv qD (aj (aq 1) aJ)) aJ))))) (bI (Sv "at" (aq 2))))
  (wH c_placed E))
def jY:BK:=qd eU
def nU (c_holds c_placed c_l_stuck:BK)(E:CK):MS:=
  (bI (Uc (AP Ez (aq 5) (AP Ez (AP Bw (aq 4) (mUn U5 (mC (.int 1)))) (AP Bw (aq 1) (mC (.int 0))))) (AP Ez (LC wA (aq 4) dG (fY (Fv HF (aj (aq 0) aJ)))) (aq 2))))
def pF (c_holds c_placed c_l_stuck:BK)(E:CK):MS:=
  (aZ (bQ (AP bN (aq 0) (Ac (aj (mJ (aj (mC (.str "join")) (aj (mC (.int 0)) (aj (mC (.int 5)) aJ)))) (aj (mJ (aj (mC (.str "pole")) (aj (mC (.int 6)) (aj (Fv HF (aj (aq 0) aJ)) aJ)))) (aj (mJ (aj (mC (.str "other")) (aj (mC (.int 6)) (aj (mC (.int 0)) (aj (mC (.int 5)) aJ))))) aJ))))) (BW 3))
  (aZ (bQ (aG c_placed E (aj (Fv qD (aj (aq 3) aJ)) (aj (Fv qD (aj (aq 1) aJ)) aJ))) (BW 4))
  (aZ (bQ (aG c_holds E (aj (aq 3) (aj (aq 4) (aj (mJ (aj (mC (.str "touch")) (aj (Fv HF (aj (aq 0) aJ)) (aj (mC (.int 6)) aJ)))) aJ)))) (BW 5))
  (aZ (dY (bC (AP HW (aq 5) (aG c_holds E (aj (aq 3) (aj (aq 4) (aj (mJ (aj (mC (.str "on")) (aj (AP bN (Fv HF (aj (aq 0) aJ)) (mC (.int 1))) (aj (Fv HF (aj (aq 0) aJ)) aJ)))) aJ)))))) (bI (mC (.bl false))) bG)
  (nU c_holds c_placed c_l_stuck E)))))
def qp (c_holds c_placed c_l_stuck:BK):BK:=Dc 3 6 false fun E=>
  (aZ (dY (bC (AP Ez (AP Bw (aq 1) (mC (.int 5))) (AP Bw (aq 1) (mC (.int 0))))) (bI (AP Ez (aG c_l_stuck E (aj (AP bN (aq 0) (Ac (aj (mJ (aj (mC (.str "join")) (aj (mC (.int 0)) (aj (mC (.int 5)) aJ)))) aJ))) (aj (aq 1) aJ))) (Fv HF (aj (aq 0) aJ)))) bG)
  (pF c_holds c_placed c_l_stuck E))
def oO:BK:=qp rJ eU jY
def Iw (c_holds c_placed c_l_cell c_l_bag c_l_spot c_l_drawing c_l_three_on_line c_l_four_on_line c_l_stuck c_l_sixth:BK)(E:CK):MS:=
  (bI (mC (.bl true)))
def S6 (c_holds c_placed c_l_cell c_l_bag c_l_spot c_l_drawing c_l_three_on_line c_l_four_on_line c_l_stuck c_l_sixth:BK):BK:=Dc 1 9 false fun E=>
  (aZ (bQ (aG c_l_bag E (aj (aG c_l_cell E (aj (aq 0) (aj (mC (.int 0)) aJ))) aJ)) (BW 1))
  (aZ (bQ (aG c_l_drawing E aJ) (BW 2))
  (aZ (qX (jE (aj (mC (.int 3)) aJ)) (BW 3) (aZ (bQ (Er Gk [1] (jE (aj (mC (.int 6)) aJ)) kY (aG c_l_spot E (aj (aq 1) (aj (mC (.int 0)) aJ)))) (BW 4))
  (aZ (bQ (LC wA (aq 4) dG (fY (mC (.int 5)))) (BW 5))
  (aZ (dY (mOr (bC (AP kLt (Fv iU (aj (aq 5) aJ)) (mC (.int 5)))) (yp (aG c_l_four_on_line E (aj (aq 5) aJ)))) (aZ (dY (bC (AP HW (aG c_l_stuck E (aj (aq 2) (aj (aq 4) aJ))) (mC (.int 6)))) (bI (mC (.bl false))) bG)
  Gx) bG)
  (aZ (dY (yp (aG c_l_three_on_line E (aj (aq 5) aJ))) (aZ (dY (bC (AP HW (aG c_l_stuck E (aj (AP bN (LC wA (aq 2) dG (fY (mC (.int 7)))) (Ac (aj (mJ (aj (mC (.str "join")) (aj (mC (.int 0)) (aj (mC (.int 1)) aJ)))) (aj (mJ (aj (mC (.str "pole")) (aj (mC (.int 6)) (aj (mC (.int 7)) aJ)))) aJ)))) (aj (aq 4) aJ))) (mC (.int 8)))) (bI (mC (.bl false))) bG)
  Gx) bG)
  (aZ (bQ (aG c_placed E (aj (Fv qD (aj (aq 2) aJ)) (aj (Fv qD (aj (aq 4) aJ)) aJ))) (BW 6))
  (aZ (qX (jE (aj (mC (.int 6)) aJ)) (BW 7) (aZ (bQ (aG c_holds E (aj (aq 2) (aj (aq 6) (aj (mJ (aj (mC (.str "on")) (aj (aq 7) (aj (mC (.int 6)) aJ)))) aJ)))) (BW 8))
  (dY (mOr (bC (AP HW (aG c_holds E (aj (aq 2) (aj (aq 6) (aj (mJ (aj (mC (.str "touch")) (aj (AP bN (mC (.int 7)) (aq 7)) (aj (mC (.int 6)) aJ)))) aJ)))) (aq 8))) (aaL (bC (AP kLt (aq 7) (mC (.int 5)))) (Ol (yp (aq 8))))) (bI (mC (.bl false))) bG)))
  (aZ (dY (mOr (yp (aG c_holds E (aj (aq 2) (aj (aq 6) (aj (mJ (aj (mC (.str "parted")) (aj (mC (.int 6)) aJ))) aJ))))) (mOr (bC (AP HW (AP Bw (aq 6) (mC (.int 13))) (AP Bw (aq 4) (mC (.int 5))))) (bC (AP HW (LC wA (aq 6) (fY (mC (.int 14))) dG) (LC wA (aq 4) (fY (mC (.int 1))) (fY (mC (.int 5)))))))) (bI (mC (.bl false))) bG)
  (dY (Ol (yp (aG c_l_sixth E (aj (aq 2) (aj (aq 4) (aj (aq 6) aJ)))))) (bI (mC (.bl false))) bG)))))))))
  (Iw c_holds c_placed c_l_cell c_l_bag c_l_spot c_l_drawing c_l_three_on_line c_l_four_on_line c_l_stuck c_l_sixth E))))
def Uk:BK:=S6 rJ eU Ba IK sJ pQ fJ gD jY oO
def zl:List Str:=["abs", "all", "any", "enumerate", "int", "len", "list", "range", "reversed", "set", "tuple", "zip"]
structure Ad where
 x_EaselError:Addr
 x_Nothing:Addr
 x_Alike:Addr
 x_Stuck:Addr
 x_FourOnLine:Addr
 x_Knot:Addr
 x_NotRound:Addr
 x_NotOn:Addr
 x_InCurve:Addr
 f_Stuck_init:Addr
 d_Stuck_init:Ib
structure Txt (P:CR) (w:CQ) (K:Bs) (mg:Str->Option JI) (base:Heap) (t:Ad):Prop where
 f0:At K mg "divisor_of_two" (top 11) ["one", "other"]
 f1:At K mg "divisor" (top 12) ["numbers"]
 f2:At K mg "ends_below" (top 13) ["numbers"]
 f3:At K mg "plain" (top 14) ["numbers"]
 f4:At K mg "dot" (top 16) ["one", "other"]
 f5:At K mg "cross" (top 17) ["one", "other"]
 f6:At K mg "turn" (top 18) ["one", "other", "third"]
 f7:At K mg "lies_on" (top 19) ["spot", "line"]
 f8:At K mg "share_one" (top 20) ["rows"]
 f9:At K mg "on_line" (top 21) ["spots"]
 f10:At K mg "through_spot" (top 22) ["lines"]
 f11:At K mg "plain_cross" (top 23) ["one", "other"]
 f12:At K mg "join" (top 24) ["one", "other"]
 f13:At K mg "meet" (top 25) ["one", "other"]
 f14:At K mg "rising" (top 27) ["many", "size"]
 f15:At K mg "picked" (top 28) ["things", "places"]
 f16:At K mg "has_alike" (top 29) ["things"]
 f17:At K mg "has_on_line" (top 30) ["spots", "size"]
 f18:At K mg "rows_of" (top 33) ["table"]
 f19:At K mg "size_of" (top 34) ["numbers"]
 f20:At K mg "table_times_row" (top 35) ["table", "row"]
 f21:At K mg "turned" (top 36) ["table"]
 f22:At K mg "tiles" (top 37) []
 f23:At K mg "worth" (top 39) ["curve", "spot"]
 f24:At K mg "is_on_curve" (top 40) ["curve", "spot"]
 f25:At K mg "together" (top 41) ["line", "other"]
 f26:At K mg "table_of" (top 42) ["curve"]
 f27:At K mg "both_sides" (top 43) ["table", "one", "other"]
 f28:At K mg "is_round" (top 44) ["curve"]
 f29:At K mg "mixed" (top 45) ["spots"]
 f30:At K mg "through" (top 46) ["spots"]
 f31:At K mg "sort_of" (top 49) ["rows", "k"]
 f32:At K mg "touches" (top 51) ["line", "curve"]
 f33:At K mg "holds" (top 52) ["rows", "things", "claim"]
 f34:At K mg "plain_or_none" (top 54) ["numbers"]
 f35:At K mg "line_about" (top 55) ["curve", "spot"]
 f36:At K mg "spot_about" (top 56) ["curve", "line"]
 f37:At K mg "another_spot" (top 57) ["line", "spot"]
 f38:At K mg "other_end" (top 58) ["curve", "spot", "line"]
 f39:At K mg "made_by_row" (top 60) ["row", "things"]
 f40:At K mg "placed" (top 61) ["rows", "spots"]
 f41:At K mg "_law_cell" (top 63) ["_law_script", "_law_k"]
 f42:At K mg "_law_bag" (top 64) ["_law_cell_here"]
 f43:At K mg "_law_draw" (top 65) ["_law_bag_here", "_law_many"]
 f44:At K mg "_law_divisor" (top 66) ["_law_numbers"]
 f45:At K mg "_law_plain" (top 67) ["_law_numbers"]
 f46:At K mg "_law_cross" (top 68) ["_law_one", "_law_other"]
 f47:At K mg "_law_dot" (top 69) ["_law_one", "_law_other"]
 f48:At K mg "_law_turn" (top 70) ["_law_one", "_law_other", "_law_third"]
 f49:At K mg "_law_spot" (top 73) ["_law_bag_here", "_law_top"]
 f50:At K mg "_law_drawing" (top 74) []
 f51:At K mg "_law_three_on_line" (top 75) ["_law_five"]
 f52:At K mg "_law_four_on_line" (top 76) ["_law_five"]
 f53:At K mg "_law_stuck" (top 77) ["_law_rows", "_law_spots"]
 f54:At K mg "_law_sixth" (top 78) ["_law_rows", "_law_spots", "_law_things"]
 z:∀ n∈zl,mg n=Go
 c_TILES:∃ a,mg "TILES" = Dn (.ref a)/\∀ H μ,Bo K H μ o9 (.ref a)
 K_MADE:∃ a,mg "MADE" = Dn (.ref a)/\ZG w K a mW
 xm_EaselError:mg "EaselError" = Dn (.ref t.x_EaselError)
 xd_EaselError:kW K t.x_EaselError "EaselError" = true
 xm_Nothing:mg "Nothing" = Dn (.ref t.x_Nothing)
 xd_Nothing:kW K t.x_Nothing "Nothing" = true
 xc_Nothing:j6 K t.x_Nothing "Nothing" = true
 xq_Nothing:Ko K t.x_Nothing J6 "ValueError.__new__" = true
 xm_Alike:mg "Alike" = Dn (.ref t.x_Alike)
 xd_Alike:kW K t.x_Alike "Alike" = true
 xc_Alike:j6 K t.x_Alike "Alike" = true
 xq_Alike:Ko K t.x_Alike J6 "ValueError.__new__" = true
 xm_Stuck:mg "Stuck" = Dn (.ref t.x_Stuck)
 xd_Stuck:kW K t.x_Stuck "Stuck" = true
 xm_FourOnLine:mg "FourOnLine" = Dn (.ref t.x_FourOnLine)
 xd_FourOnLine:kW K t.x_FourOnLine "FourOnLine" = true
 xc_FourOnLine:j6 K t.x_FourOnLine "FourOnLine" = true
 xq_FourOnLine:Ko K t.x_FourOnLine J6 "ValueError.__new__" = true
 xm_Knot:mg "Knot" = Dn (.ref t.x_Knot)
 xd_Knot:kW K t.x_Knot "Knot" = true
 xc_Knot:j6 K t.x_Knot "Knot" = true
 xq_Knot:Ko K t.x_Knot J6 "ValueError.__new__" = true
 xm_NotRound:mg "NotRound" = Dn (.ref t.x_NotRound)
 xd_NotRound:kW K t.x_NotRound "NotRound" = true
 xc_NotRound:j6 K t.x_NotRound "NotRound" = true
 xq_NotRound:Ko K t.x_NotRound J6 "ValueError.__new__" = true
 xm_NotOn:mg "NotOn" = Dn (.ref t.x_NotOn)
 xd_NotOn:kW K t.x_NotOn "NotOn" = true
 xc_NotOn:j6 K t.x_NotOn "NotOn" = true
 xq_NotOn:Ko K t.x_NotOn J6 "ValueError.__new__" = true
 xm_InCurve:mg "InCurve" = Dn (.ref t.x_InCurve)
 xd_InCurve:kW K t.x_InCurve "InCurve" = true
 xc_InCurve:j6 K t.x_InCurve "InCurve" = true
 xq_InCurve:Ko K t.x_InCurve J6 "ValueError.__new__" = true
 F_Stuck_init:Pj K "__init__" "Stuck.__init__" d7 t.f_Stuck_init t.d_Stuck_init
 b_Stuck_init:Binds K t.d_Stuck_init ["self", "at"] []
 xi_Stuck:Cj K t.x_Stuck t.f_Stuck_init J6 "ValueError.__new__" = true
 xf_Stuck:T3 K (.ref t.f_Stuck_init)=true
 xa_Stuck:Uo K t.x_Stuck "Stuck" = true
 xs_Stuck:ZJ K t.x_Stuck "at" = true
section
variable {P:CR}{w:CQ}{K:Bs}{mg:Str->Option JI}{base:Heap}{t:Ad}(T:Txt P w K mg base t)
include T
theorem adT:iW P w K mg base Jj 1 t.f_Stuck_init t.d_Stuck_init ["self", "at"] (spI t.x_Stuck "at"):=
 aga (k:=0) T.F_Stuck_init tM fun cdv A outer s H E hr=>wO (agI T.xs_Stuck (pv 0) (pv 1) (by rfl))
theorem lM:Fk P w K mg base 10 "divisor_of_two" gB:=by
 refine fk (k:=9) ["one", "other", "rest"] T.f0 T.z ?_;intro _ _ _ _ _ _ _ hr nd hc z;refine aA (Ec 0<|KR Bq boot_abs<|a1<|vV 0) ?_;refine aA (Ec 1<|KR Bq boot_abs<|a1<|vV 1) ?_;refine aA (Bh Mj (Fq (yR qq) (vV 1) ao)<|aA (Ec 2<|aX yt (vV 0)<|vV 1)<|aA (Ec 0<|vV 1)<|aB<|Ec 1<|vV 2) ?_;exact aB<|aL<|vV 0
theorem zak:Fk P w K mg base 11 "divisor" vQ:=by
 refine fk (k:=10) ["numbers", "found", "number"] T.f1 T.z ?_;intro _ _ _ _ _ _ _ hr nd hc z;refine aA (Ec 1 ao) ?_;refine aA (gY Mj hh (cY<|vV 0) (Kc 2)<|aB<|Ec 1<|CW (lM T)<|a2 (vV 2)<|vV 1) ?_;exact aB<|aL<|vV 1
theorem rR:Fk P w K mg base 10 "ends_below" mY:=by
 refine fk (k:=9) ["numbers", "number"] T.f2 T.z ?_;intro _ _ _ _ _ _ _ hr nd hc z;refine aA (gY Mj hh (ahk (by rfl) (by exact T.z _ (by decide)) (a1<|vV 0) (aW<|by rfl)<|bZ<|by rfl) (Kc 1)<|aB<|cU (Fq (yR qq) (vV 1) ao) (aB<|aL<|Lg U0 (vV 1) ao) bf) ?_;exact aB<|aL Ca
theorem kO:Ls P w K mg base 12 "plain" jt:=by
 refine Pu (k:=11) ["numbers", "factor"] T.f3 T.z ?_;intro _ _ _ _ _ _ _ hr nd hc z;refine aP (fun _=>trivial) ?_ ?_
 ·exact cH<|Ec 1<|CW (zak T)<|a1<|vV 0
 refine aP (fun _=>trivial) ?_ ?_
 ·exact dZ (Fq (lD qq) (vV 1) ao) (aR<|cQ hh (by rfl) T.xm_Nothing T.xq_Nothing T.xc_Nothing) bY
 refine aP (fun _=>trivial) ?_ ?_
 ·exact cH<|cU (fG<|CW (rR T)<|a1<|vV 0) (aB<|Ec 1<|Mx<|vV 1) bf
 refine aR ?_;exact cH<|aL<|dct Hh boot_tuple<|a1<|Ms [1] (cY<|vV 0)<|fun _ _ _ _=>(aX HN (vV 0)<|vV 1)
theorem zbD:Fk P w K mg base 12 "plain" jt:=(kO T).tame
theorem jT:Fk P w K mg base 10 "dot" wR:=by
 refine fk (k:=9) ["one", "other"] T.f4 T.z ?_;intro _ _ _ _ _ _ _ hr nd hc z;exact aB<|aL<|aX bF (aX bF (aX bx (CG (vV 0) ao)<|CG (vV 1) ao)<|aX bx (CG (vV 0) ao)<|CG (vV 1) ao)<|aX bx (CG (vV 0) ao)<|CG (vV 1) ao
theorem cP:Fk P w K mg base 10 "cross" lF:=by
 refine fk (k:=9) ["one", "other"] T.f5 T.z ?_;intro _ _ _ _ _ _ _ hr nd hc z;exact aB<|aL<|dX<|a3 (aX jR (aX bx (CG (vV 0) ao)<|CG (vV 1) ao)<|aX bx (CG (vV 0) ao)<|CG (vV 1) ao) (aX jR (aX bx (CG (vV 0) ao)<|CG (vV 1) ao)<|aX bx (CG (vV 0) ao)<|CG (vV 1) ao)<|aX jR (aX bx (CG (vV 0) ao)<|CG (vV 1) ao)<|aX bx (CG (vV 0) ao)<|CG (vV 1) ao
theorem zbK:Fk P w K mg base 11 "turn" Ou:=by
 refine fk (k:=10) ["one", "other", "third"] T.f6 T.z ?_;intro _ _ _ _ _ _ _ hr nd hc z;exact aB<|aL<|CW (jT T)<|a2 (CW (cP T)<|a2 (vV 0)<|vV 1)<|vV 2
theorem qO:Fk P w K mg base 11 "lies_on" oG:=by
 refine fk (k:=10) ["spot", "line"] T.f7 T.z ?_;intro _ _ _ _ _ _ _ hr nd hc z;exact aB<|aL<|Lg (lD qq) (CW (jT T)<|a2 (vV 0)<|vV 1) ao
theorem lY:Fk P w K mg base 11 "share_one" gn:=by
 refine fk (k:=10) ["rows", "unlike", "shared"] T.f8 T.z ?_;intro _ _ _ _ _ _ _ hr nd hc z;refine aA (Fx [0] (i:=1) (by assumption) (by rfl) (by exact Or.inl rfl) hh (cZ<|by rfl) Cp (BR<|cZ<|by rfl) (cY<|vV 0) (fun _ _ _ _=>(tO<|Fq (yR qq) (vV 0)<|CG (vV 1) ao))<|fun _ _ _ _=>(vV 0)) ?_;refine aA (cU (qZ<|fG<|vV 1) (aB<|aL Ca) bf) ?_;refine aA (Ec 2<|CW (cP T)<|a2 (CG (vV 0) ao)<|CG (vV 1) ao) ?_;exact aB<|aL<|KR (aaZ hh) boot_all<|a1<|Ms [2] (cY<|vV 1)<|fun _ _ _ _=>(Lg (lD qq) (CW (jT T)<|a2 (vV 1)<|vV 0) ao)
theorem qL:Fk P w K mg base 12 "on_line" jM:=by
 refine fk (k:=11) ["spots"] T.f9 T.z ?_;intro _ _ _ _ _ _ _ hr nd hc z;exact aB<|aL<|CW (lY T)<|a1<|vV 0
theorem pW:Fk P w K mg base 12 "through_spot" jh:=by
 refine fk (k:=11) ["lines"] T.f10 T.z ?_;intro _ _ _ _ _ _ _ hr nd hc z;exact aB<|aL<|CW (lY T)<|a1<|vV 0
theorem iH:Ls P w K mg base 13 "plain_cross" fQ:=by
 refine Pu (k:=12) ["one", "other"] T.f11 T.z ?_;intro _ _ _ _ _ _ _ hr nd hc z;refine aP (fun _=>trivial) ?_ ?_
 ·exact dZ (Fq (lD qq) (vV 0)<|vV 1) (aR<|cQ hh (by rfl) T.xm_Alike T.xq_Alike T.xc_Alike) bY
 refine aR ?_;exact dF<|Hs (kO T)<|a1<|CW (cP T)<|a2 (vV 0)<|vV 1
theorem z7:Ls P w K mg base 14 "join" Bj:=by
 refine Pu (k:=13) ["one", "other"] T.f12 T.z ?_;intro _ _ _ _ _ _ _ hr nd hc z;refine aR ?_;exact dF<|Hs (iH T)<|a2 (vV 0)<|vV 1
theorem agt:Fk P w K mg base 14 "join" Bj:=(z7 T).tame
theorem yV:Ls P w K mg base 14 "meet" zJ:=by
 refine Pu (k:=13) ["one", "other"] T.f13 T.z ?_;intro _ _ _ _ _ _ _ hr nd hc z;refine aR ?_;exact dF<|Hs (iH T)<|a2 (vV 0)<|vV 1
theorem afy:Fk P w K mg base 14 "meet" zJ:=(yV T).tame
theorem zaE:Fk P w K mg base 10 "rising" zQ:=by
 refine fk (k:=9) ["many", "size", "found", "taken", "longer", "places", "first"] T.f14 T.z ?_;intro _ _ _ _ _ _ _ hr nd hc z;refine aA ?_ ?_
 ·with_reducible exact Ec 2 (nu (a1 (dX fD)))
 refine aA (gY Mj hh (Py<|a1<|vV 1) (Kc 3)<|aA (Ec 4<|vJ fD)<|aA (gY Mj hh (cY<|vV 2) (Kc 5)<|aA (Ec 6<|ab5 (Fq ZM (vV 3) ao) (aX bF (CG (vV 5)<|aX jR (vV 3) ao) ao) ao)<|aB<|yr<|aeK (vV 4) (a1<|Ms [5] (vX (by rfl) (by exact T.z _ (by decide))<|a2 (vV 6)<|vV 0)<|fun _ _ _ _=>(aX bF (vV 1)<|dX<|a1<|vV 0)) (by rfl) (TX<|by rfl) (by rfl) (aW<|by rfl)<|by rfl)<|aB<|Ec 2<|vV 4) ?_;exact aB<|aL<|vV 2
theorem zaP:Fk P w K mg base 10 "picked" z9:=by
 refine fk (k:=9) ["things", "places"] T.f15 T.z ?_;intro _ _ _ _ _ _ _ hr nd hc z;exact aB<|aL<|Ms [0] (cY<|vV 1)<|fun _ _ _ _=>(CG (vV 1)<|vV 0)
theorem uM:Fk P w K mg base 10 "has_alike" pB:=by
 refine fk (k:=9) ["things"] T.f16 T.z ?_;intro _ _ _ _ _ _ _ hr nd hc z;exact aB<|aL<|Lg U0 (uU hh qq (by rfl) (by exact T.z _ (by decide)) (by rfl) (by exact T.z _ (by decide)) (vV 0) (aW<|by rfl)<|aW<|by rfl)<|KR tZ QK<|a1<|vV 0
theorem qx:Fk P w K mg base 13 "has_on_line" kE:=by
 refine fk (k:=12) ["spots", "size"] T.f17 T.z ?_;intro _ _ _ _ _ _ _ hr nd hc z;exact aB<|aL<|KR (Wb hh) boot_any<|a1<|Ms [0] (cY<|CW (zaE T)<|a2 (KR tZ QK<|a1<|vV 0)<|vV 1)<|fun _ _ _ _=>(CW (qL T)<|a1<|CW (zaP T)<|a2 (vV 1)<|vV 0)
theorem lE:Fk P w K mg base 10 "rows_of" kj:=by
 refine fk (k:=9) ["table"] T.f18 T.z ?_;intro _ _ _ _ _ _ _ hr nd hc z;exact aB<|aL<|nu<|a3 (lJ (vV 0) (bV ao)<|bV ao) (lJ (vV 0) (bV ao)<|bV ao)<|lJ (vV 0) (bV ao)<|bV ao
theorem adB:Fk P w K mg base 12 "size_of" ud:=by
 refine fk (k:=11) ["numbers", "rows"] T.f19 T.z ?_;intro _ _ _ _ _ _ _ hr nd hc z;refine aA (Ec 1<|CW (lE T)<|a1<|vV 0) ?_;exact aB<|aL<|CW (zbK T)<|a3 (CG (vV 1) ao) (CG (vV 1) ao)<|CG (vV 1) ao
theorem cB:Fk P w K mg base 11 "table_times_row" bK:=by
 refine fk (k:=10) ["table", "row"] T.f20 T.z ?_;intro _ _ _ _ _ _ _ hr nd hc z;exact aB<|aL<|Ms [1] (cY<|CW (lE T)<|a1<|vV 0)<|fun _ _ _ _=>(CW (jT T)<|a2 (vV 0)<|vV 1)
theorem vf:Fk P w K mg base 11 "turned" nO:=by
 refine fk (k:=10) ["table", "rows"] T.f21 T.z ?_;intro _ _ _ _ _ _ _ hr nd hc z;refine aA (Ec 1<|CW (lE T)<|a1<|vV 0) ?_;exact aB<|aL<|aX bF (aX bF (CW (cP T)<|a2 (CG (vV 1) ao)<|CG (vV 1) ao)<|CW (cP T)<|a2 (CG (vV 1) ao)<|CG (vV 1) ao)<|CW (cP T)<|a2 (CG (vV 1) ao)<|CG (vV 1) ao
theorem afj:Fk P w K mg base 10 "tiles" Js:=by
 refine fk (k:=9) [] T.f22 T.z ?_;intro _ _ _ _ _ _ _ hr nd hc z;obtain ⟨a_TILES,g_TILES,r_TILES⟩:=T.c_TILES;exact aB<|aL<|dct oh boot_list<|a1<|dc (v:=.ref a_TILES) (Gv (by rfl) g_TILES<|by rfl) r_TILES
theorem aew:Fk P w K mg base 10 "worth" Gu:=by
 refine fk (k:=9) ["curve", "spot", "x", "y", "z", "squares"] T.f23 T.z ?_;intro _ _ _ _ _ _ _ hr nd hc z;refine aA (Ec 2<|CG (vV 1) ao) ?_;refine aA (Ec 3<|CG (vV 1) ao) ?_;refine aA (Ec 4<|CG (vV 1) ao) ?_;refine aA (Ec 5<|aX bF (aX bF (aX bx (aX bx (CG (vV 0) ao)<|vV 2)<|vV 2)<|aX bx (aX bx (CG (vV 0) ao)<|vV 3)<|vV 3)<|aX bx (aX bx (CG (vV 0) ao)<|vV 4)<|vV 4) ?_;exact aB<|aL<|aX bF (aX bF (aX bF (vV 5)<|aX bx (aX bx (CG (vV 0) ao)<|vV 2)<|vV 3)<|aX bx (aX bx (CG (vV 0) ao)<|vV 2)<|vV 4)<|aX bx (aX bx (CG (vV 0) ao)<|vV 3)<|vV 4
theorem jg:Fk P w K mg base 11 "is_on_curve" fZ:=by
 refine fk (k:=10) ["curve", "spot"] T.f24 T.z ?_;intro _ _ _ _ _ _ _ hr nd hc z;exact aB<|aL<|Lg (lD qq) (CW (aew T)<|a2 (vV 0)<|vV 1) ao
theorem pO:Fk P w K mg base 10 "together" qN:=by
 refine fk (k:=9) ["line", "other"] T.f25 T.z ?_;intro _ _ _ _ _ _ _ hr nd hc z;exact aB<|aL<|dX<|aC (aX bx (CG (vV 0) ao)<|CG (vV 1) ao)<|aC (aX bF (aX bx (CG (vV 0) ao)<|CG (vV 1) ao)<|aX bx (CG (vV 0) ao)<|CG (vV 1) ao)<|aC (aX bx (CG (vV 0) ao)<|CG (vV 1) ao)<|a3 (aX bF (aX bx (CG (vV 0) ao)<|CG (vV 1) ao)<|aX bx (CG (vV 0) ao)<|CG (vV 1) ao) (aX bF (aX bx (CG (vV 0) ao)<|CG (vV 1) ao)<|aX bx (CG (vV 0) ao)<|CG (vV 1) ao)<|aX bx (CG (vV 0) ao)<|CG (vV 1) ao
theorem dH:Fk P w K mg base 10 "table_of" dh:=by
 refine fk (k:=9) ["curve"] T.f26 T.z ?_;intro _ _ _ _ _ _ _ hr nd hc z;exact aB<|aL<|dX<|aC (aX bx ao<|CG (vV 0) ao)<|aC (CG (vV 0) ao)<|aC (CG (vV 0) ao)<|aC (CG (vV 0) ao)<|aC (aX bx ao<|CG (vV 0) ao)<|aC (CG (vV 0) ao)<|a3 (CG (vV 0) ao) (CG (vV 0) ao)<|aX bx ao<|CG (vV 0) ao
theorem fX:Fk P w K mg base 12 "both_sides" eE:=by
 refine fk (k:=11) ["table", "one", "other"] T.f27 T.z ?_;intro _ _ _ _ _ _ _ hr nd hc z;exact aB<|aL<|CW (jT T)<|a2 (vV 1)<|CW (cB T)<|a2 (vV 0)<|vV 2
theorem oA:Fk P w K mg base 13 "is_round" iI:=by
 refine fk (k:=12) ["curve"] T.f28 T.z ?_;intro _ _ _ _ _ _ _ hr nd hc z;exact aB<|aL<|Lg (yR qq) (CW (adB T)<|a1<|CW (dH T)<|a1<|vV 0) ao
theorem zbf:Fk P w K mg base 11 "mixed" Iz:=by
 refine fk (k:=10) ["spots", "first", "second", "third", "last", "more", "less"] T.f29 T.z ?_;intro _ _ _ _ _ _ _ hr nd hc z;refine aA (Ec 1<|CW (cP T)<|a2 (CG (vV 0) ao)<|CG (vV 0) ao) ?_;refine aA (Ec 2<|CW (cP T)<|a2 (CG (vV 0) ao)<|CG (vV 0) ao) ?_;refine aA (Ec 3<|CW (cP T)<|a2 (CG (vV 0) ao)<|CG (vV 0) ao) ?_;refine aA (Ec 4<|CW (cP T)<|a2 (CG (vV 0) ao)<|CG (vV 0) ao) ?_;refine aA (Ec 5<|aX bx (CW (jT T)<|a2 (vV 1)<|CG (vV 0) ao)<|CW (jT T)<|a2 (vV 2)<|CG (vV 0) ao) ?_;refine aA (Ec 6<|aX bx (CW (jT T)<|a2 (vV 3)<|CG (vV 0) ao)<|CW (jT T)<|a2 (vV 4)<|CG (vV 0) ao) ?_;exact aB<|aL<|aaF [5,6] hh (cZ<|by rfl) YH (X3 hh<|cZ<|by rfl) (Nk (by rfl) (by exact T.z _ (by decide)) (a2 (CW (pO T)<|a2 (vV 3)<|vV 4)<|CW (pO T)<|a2 (vV 1)<|vV 2) (aW<|by rfl)<|bZ<|by rfl) (fun _ _ _ _=>lO)<|fun _ _ _ _=>(aX jR (aX bx (vV 2)<|vV 0)<|aX bx (vV 3)<|vV 1)
theorem wL:Ls P w K mg base 14 "through" nW:=by
 refine Pu (k:=13) ["spots"] T.f30 T.z ?_;intro _ _ _ _ _ _ _ hr nd hc z;refine aP (fun _=>trivial) ?_ ?_
 ·exact dZ (fG<|CW (uM T)<|a1<|vV 0) (aR<|cQ hh (by rfl) T.xm_Alike T.xq_Alike T.xc_Alike) bY
 refine aP (fun _=>trivial) ?_ ?_
 ·exact dZ (fG<|CW (qx T)<|a2 (vV 0) ao) (aR<|cQ hh (by rfl) T.xm_FourOnLine T.xq_FourOnLine T.xc_FourOnLine) bY
 refine aR ?_;exact dF<|Hs (kO T)<|a1<|CW (zbf T)<|a1<|vV 0
theorem zah:Fk P w K mg base 10 "sort_of" vq:=by
 refine fk (k:=9) ["rows", "k"] T.f31 T.z ?_;intro _ _ _ _ _ _ _ hr nd hc z;obtain ⟨_,g_MADE,K_MADE⟩:=T.K_MADE;exact aB<|aL<|aaS K_MADE (by rfl) g_MADE (CG (CG (vV 0)<|vV 1) ao) (by intro _ _;rfl)
theorem adR:Fk P w K mg base 13 "touches" wg:=by
 refine fk (k:=12) ["line", "curve"] T.f32 T.z ?_;intro _ _ _ _ _ _ _ hr nd hc z;exact aB<|aL<|Lg (lD qq) (CW (fX T)<|a3 (CW (vf T)<|a1<|CW (dH T)<|a1<|vV 1) (vV 0)<|vV 0) ao
theorem jV:Fk P w K mg base 14 "holds" rJ:=by
 refine fk (k:=13) ["rows", "things", "claim", "told"] T.f33 T.z ?_;intro _ _ _ _ _ _ _ hr nd hc z;refine aA (Fx [1] (i:=3) (by assumption) (by rfl) (by exact Or.inl rfl) hh (cZ<|by rfl) Cp (BR<|cZ<|by rfl) (cY<|lJ (vV 2) (bV ao) fU) (fun _ _ _ _=>lO)<|fun _ _ _ _=>(CG (vV 1)<|vV 0)) ?_;refine aA (cU (Fq (lD qq) (CG (vV 2) ao) cF) (aB<|aL<|Lg (lD qq) (CG (vV 3) ao)<|CG (vV 3) ao) bf) ?_;refine aA (cU (Fq (lD qq) (CG (vV 2) ao) cF) (aA (cU (Fq (lD qq) (CW (zah T)<|a2 (vV 0)<|CG (vV 2) ao) cF) (aB<|aL<|CW (qO T)<|a2 (CG (vV 3) ao)<|CG (vV 3) ao) bf)<|aB<|aL<|CW (jg T)<|a2 (CG (vV 3) ao)<|CG (vV 3) ao) bf) ?_;refine aA (cU (Fq (lD qq) (CG (vV 2) ao) cF) (aB<|aL<|CW (qL T)<|a1<|vV 3) bf) ?_;refine aA (cU (Fq (lD qq) (CG (vV 2) ao) cF) (aB<|aL<|CW (pW T)<|a1<|vV 3) bf) ?_;refine aA (cU (Fq (lD qq) (CG (vV 2) ao) cF) (aB<|aL<|CW (adR T)<|a2 (CG (vV 3) ao)<|CG (vV 3) ao) bf) ?_;exact aB<|aL<|aa9<|CW (oA T)<|a1<|CG (vV 3) ao
theorem gw:Fk P w K mg base 13 "plain_or_none" dO:=by
 refine fk (k:=12) ["numbers"] T.f34 T.z ?_;intro _ _ _ _ _ _ _ hr nd hc z;exact aB<|aL<|ab5 (fG<|KR (Wb hh) boot_any<|a1<|Ms [] (cY<|vV 0)<|fun _ _ _ _=>(Lg (yR qq) (vV 0) ao)) (CW (zbD T)<|a1<|vV 0) O7
theorem qw:Ls P w K mg base 14 "line_about" iy:=by
 refine Pu (k:=13) ["curve", "spot", "line"] T.f35 T.z ?_;intro _ _ _ _ _ _ _ hr nd hc z;refine aP (fun _=>trivial) ?_ ?_
 ·exact cH<|Ec 2<|CW (gw T)<|a1<|CW (cB T)<|a2 (CW (dH T)<|a1<|vV 0)<|vV 1
 refine aP (fun _=>trivial) ?_ ?_
 ·exact dZ (Fq abP (vV 2) O7) (aR<|cQ hh (by rfl) T.xm_Knot T.xq_Knot T.xc_Knot) bY
 refine aR ?_;exact cH<|aL<|vV 2
theorem qu:Ls P w K mg base 14 "spot_about" gW:=by
 refine Pu (k:=13) ["curve", "line"] T.f36 T.z ?_;intro _ _ _ _ _ _ _ hr nd hc z;refine aP (fun _=>trivial) ?_ ?_
 ·exact dZ (qZ<|fG<|CW (oA T)<|a1<|vV 0) (aR<|cQ hh (by rfl) T.xm_NotRound T.xq_NotRound T.xc_NotRound) bY
 refine aR ?_;exact dF<|Hs (kO T)<|a1<|CW (cB T)<|a2 (CW (vf T)<|a1<|CW (dH T)<|a1<|vV 0)<|vV 1
theorem nR:Fk P w K mg base 15 "another_spot" jf:=by
 refine fk (k:=14) ["line", "spot", "met"] T.f37 T.z ?_;intro _ _ _ _ _ _ _ hr nd hc z;refine aA (Fx [0] (i:=2) (by assumption) (by rfl) (by exact Or.inl rfl) hh (cZ<|by rfl) Cp (BR<|cZ<|by rfl) (cY<|lJ (dc0<|afj T) fU<|bV ao) (fun _ _ _ _=>(tO<|Fq (yR qq) (vV 0)<|vV 1))<|fun _ _ _ _=>(CW (afy T)<|a2 (vV 1)<|vV 0)) ?_;exact aB<|aL<|CG (dl1 [1] (cY<|vV 2) (fun _ _ _ _=>(tO<|Fq (yR qq) (vV 0)<|vV 1))<|fun _ _ _ _=>(vV 0)) ao
theorem tV:Ls P w K mg base 16 "other_end" jB:=by
 refine Pu (k:=15) ["curve", "spot", "line", "table", "another", "own", "shared", "end"] T.f38 T.z ?_;intro _ _ _ _ _ _ _ hr nd hc z;refine aP (fun _=>trivial) ?_ ?_
 ·exact dZ (GD (qZ<|fG<|CW (jg T)<|a2 (vV 0)<|vV 1)<|yQ<|qZ<|fG<|CW (qO T)<|a2 (vV 1)<|vV 2).pt (aR<|cQ hh (by rfl) T.xm_NotOn T.xq_NotOn T.xc_NotOn) bY
 refine aP (fun _=>trivial) ?_ ?_
 ·exact cH<|Ec 3<|CW (dH T)<|a1<|vV 0
 refine aP (fun _=>trivial) ?_ ?_
 ·exact cH<|Ec 4<|CW (nR T)<|a2 (vV 2)<|vV 1
 refine aP (fun _=>trivial) ?_ ?_
 ·exact cH<|Ec 5<|CW (fX T)<|a3 (vV 3) (vV 4)<|vV 4
 refine aP (fun _=>trivial) ?_ ?_
 ·exact cH<|Ec 6<|aX bx ao<|CW (fX T)<|a3 (vV 3) (vV 1)<|vV 4
 refine aP (fun _=>trivial) ?_ ?_
 ·exact cH<|Ec 7<|CW (gw T)<|a1<|aaF [5,6] hh (cZ<|by rfl) YH (X3 hh<|cZ<|by rfl) (Nk (by rfl) (by exact T.z _ (by decide)) (a2 (vV 1)<|vV 4) (aW<|by rfl)<|bZ<|by rfl) (fun _ _ _ _=>lO)<|fun _ _ _ _=>(aX jR (aX bx (vV 2)<|vV 0)<|aX bx (vV 3)<|vV 1)
 refine aP (fun _=>trivial) ?_ ?_
 ·exact dZ (Fq abP (vV 7) O7) (aR<|cQ hh (by rfl) T.xm_InCurve T.xq_InCurve T.xc_InCurve) bY
 refine aR ?_;exact cH<|aL<|vV 7
theorem pJ:Ls P w K mg base 17 "made_by_row" bM:=by
 refine Pu (k:=16) ["row", "things", "told"] T.f39 T.z ?_;intro _ _ _ _ _ _ _ hr nd hc z;refine aP (fun _=>trivial) ?_ ?_
 ·exact cH<|Fx [1] (i:=2) (by assumption) (by rfl) (by exact Or.inl rfl) hh (cZ<|by rfl) Cp (BR<|cZ<|by rfl) (cY<|lJ (vV 0) (bV ao) fU) (fun _ _ _ _=>lO)<|fun _ _ _ _=>(CG (vV 1)<|vV 0)
 refine aP (fun _=>trivial) ?_ ?_
 ·exact dZ (Fq (lD qq) (CG (vV 0) ao) cF) (aR<|dF<|Hs (z7 T)<|a2 (CG (vV 2) ao)<|CG (vV 2) ao) bY
 refine aP (fun _=>trivial) ?_ ?_
 ·exact dZ (Fq (lD qq) (CG (vV 0) ao) cF) (aR<|dF<|Hs (yV T)<|a2 (CG (vV 2) ao)<|CG (vV 2) ao) bY
 refine aP (fun _=>trivial) ?_ ?_
 ·exact dZ (Fq (lD qq) (CG (vV 0) ao) cF) (aR<|dF<|Hs (wL T)<|a1<|vV 2) bY
 refine aP (fun _=>trivial) ?_ ?_
 ·exact dZ (Fq (lD qq) (CG (vV 0) ao) cF) (aR<|dF<|Hs (qw T)<|a2 (CG (vV 2) ao)<|CG (vV 2) ao) bY
 refine aP (fun _=>trivial) ?_ ?_
 ·exact dZ (Fq (lD qq) (CG (vV 0) ao) cF) (aR<|dF<|Hs (qu T)<|a2 (CG (vV 2) ao)<|CG (vV 2) ao) bY
 refine aR ?_;exact dF<|Hs (tV T)<|a3 (CG (vV 2) ao) (CG (vV 2) ao)<|CW (agt T)<|a2 (CG (vV 2) ao)<|CG (vV 2) ao
theorem q9:Ls P w K mg base 18 "placed" eU:=by
 refine Pu (k:=17) ["rows", "spots", "things", "free", "k", "row", "made"] T.f40 T.z ?_;intro _ _ _ _ _ _ _ hr nd hc z;obtain ⟨_,_,_,o_made_by_row,bM,k_made_by_row,b_made_by_row⟩:=pJ T;refine aP (fun _=>trivial) ?_ ?_
 ·exact cH<|Ec 2<|vJ fD
 refine aP (fun _=>trivial) ?_ ?_
 ·exact cH<|Ec 3 ao
 refine aP (fun _=>trivial) ?_ ?_
 ·exact (zbL PassesOwn.leaving hc (fun _=>trivial) (afg (by rfl) (by exact T.z _ (by decide)) (cV (dv 0 (pv 0)) fD (aW (by rfl))) (aW (by rfl)) (bZ (by rfl))) (yF hc (d8 (xJ (lG (i:=4) nd (by rfl) (by exact Or.inl rfl))) (d8 (xJ (lG (i:=5) nd (by rfl) (by exact Or.inl rfl))) yH))) (aR (dZ (OD (lD (abQ hr)) (aaY (dv 5 (pv 5)) ao (by intro _ _;rfl)) cF (FP _)) (aP (fun _=>trivial) (cH (yr (Bc (dv 2 (pv 2)) (cV (aaY (dv 1 (pv 1)) (dv 3 (pv 3)) (by intro _ _;rfl)) fD (aW (by rfl))) (by rfl) (TX (by rfl)) (by rfl) (aW (by rfl)) (by rfl)))) (aR (cH (Nx (i:=3) nd (by rfl) (by exact Or.inl rfl) (aX bF (dv 3 (pv 3)) ao))))) (aP (fun _=>trivial) (aeM (by rfl) T.xm_EaselError T.xd_EaselError ⟨rfl,rfl⟩ rfl (fun _=>trivial) (fun pins xe σ0=>(aR (ahI (i:=6) nd (by rfl) (by exact Or.inl rfl) (wJ (o_made_by_row.mono (by decide)) hr (by rfl) (by exact bM) (by exact k_made_by_row) (by exact b_made_by_row) (cV (dv 5 (pv 5)) (cV (dv 2 (pv 2)) fD (aW (by rfl))) (aW (by rfl))) (by decide) (aW (by rfl)) (bZ (by rfl)))))) (fun a H0 xe hn=>by
  have hr:=zx (a:=a) hr (by decide);exact (aR (adV hn (by rfl) (by rfl) T.xm_Stuck T.xi_Stuck T.xf_Stuck ((adT T).mono (by decide)) hr (by exact T.b_Stuck_init) T.xa_Stuck (by rfl) (dv 4 (pv 4)))))) (aR (cH (yr (Bc (dv 2 (pv 2)) (cV (dv 6 (pv 6)) fD (aW (by rfl))) (by rfl) (TX (by rfl)) (by rfl) (aW (by rfl)) (by rfl)))))))))
 refine aR ?_;exact cH<|aL<|vV 2
theorem vL:Fk P w K mg base 18 "placed" eU:=(q9 T).tame
theorem zaI:Fk P w K mg base 10 "_law_cell" Ba:=by
 refine fk (k:=9) ["_law_script", "_law_k"] T.f41 T.z ?_;intro _ _ _ _ _ _ _ hr nd hc z;refine aA (cU (Fq U0 (vV 1)<|KR tZ QK<|a1<|vV 0) (aB<|aL<|CG (vV 0)<|vV 1) bf) ?_;exact aB<|aL ao
theorem zbb:Fk P w K mg base 10 "_law_bag" IK:=by
 refine fk (k:=9) ["_law_cell_here"] T.f42 T.z ?_;intro _ _ _ _ _ _ _ hr nd hc z;exact aB<|aL<|vJ<|a2 (aX Vl (KR Bq boot_abs<|a1<|vV 0)<|dct aaO boot_int<|a1<|Lg ac6 (KR Bq boot_abs<|a1<|vV 0)<|aX aa8 ao ao)<|aX yt (KR Bq boot_abs<|a1<|vV 0) ao
theorem dJ:Fk P w K mg base 10 "_law_draw" zP:=by
 refine fk (k:=9) ["_law_bag_here", "_law_many", "_law_found"] T.f43 T.z ?_;intro _ _ _ _ _ _ _ hr nd hc z;refine aA (cU (Fq ZM (CG (vV 0) ao) ao) (aA (Ec 2<|aX yt (CG (vV 0) ao)<|vV 1)<|aA (uV (aX HN (CG (vV 0) ao)<|vV 1)<|JL (vV 0) ao set_list rY)<|aB<|aL<|vV 2) bf) ?_;refine aA (uV (aX yt (aX bF (aX bx (CG (vV 0) ao) ao) ao) ao)<|JL (vV 0) ao set_list rY) ?_;exact aB<|aL<|aX yt (aX HN (aX yt (aX bx (CG (vV 0) ao)<|aX bF (aX HN (CG (vV 0) ao) ao) ao) ao) ao)<|vV 1
theorem uZ:Fk P w K mg base 10 "_law_divisor" pZ:=by
 refine fk (k:=9) ["_law_numbers", "_law_found", "_law_number", "_law_one"] T.f44 T.z ?_;intro _ _ _ _ _ _ _ hr nd hc z;refine aA (Ec 1 ao) ?_;refine aA (gY Mj hh (cY<|vV 0) (Kc 2)<|aA (Ec 3<|KR Bq boot_abs<|a1<|vV 2)<|aB<|Bh Mj (Fq ZM (vV 3) ao)<|aB<|aeb<|YG (i:=1) (j:=3) hh (by assumption) (by rfl) (by rfl) (by decide) (by rfl) (by rfl) (a2 (vV 3)<|aX yt (vV 1)<|vV 3)<|by rfl) ?_;exact aB<|aL<|vV 1
theorem zal:Fk P w K mg base 11 "_law_plain" uP:=by
 refine fk (k:=10) ["_law_numbers", "_law_by", "_law_last"] T.f45 T.z ?_;intro _ _ _ _ _ _ _ hr nd hc z;refine aA (Ec 1<|CW (uZ T)<|a1<|vV 0) ?_;refine aA (Ec 2<|CG (dl1 [] (cY<|vV 0) (fun _ _ _ _=>(tO<|Fq (yR qq) (vV 0) ao))<|fun _ _ _ _=>(vV 0))<|Mx ao) ?_;refine aA (cU (Fq U0 (vV 2) ao) (aB<|Ec 1<|aX jR ao<|vV 1) bf) ?_;exact aB<|aL<|dct Hh boot_tuple<|a1<|Ms [1] (cY<|vV 0)<|fun _ _ _ _=>(aX HN (vV 0)<|vV 1)
theorem zae:Fk P w K mg base 10 "_law_cross" uo:=by
 refine fk (k:=9) ["_law_one", "_law_other", "_law_a", "_law_b", "_law_c", "_law_d", "_law_e", "_law_f"] T.f46 T.z ?_;intro _ _ _ _ _ _ _ hr nd hc z;refine aA (uV (vV 0)<|yF hh<|d8 (Kc 2)<|d8 (Kc 3)<|d8 (Kc 4) yH) ?_;refine aA (uV (vV 1)<|yF hh<|d8 (Kc 5)<|d8 (Kc 6)<|d8 (Kc 7) yH) ?_;exact aB<|aL<|dX<|a3 (aX jR (aX bx (vV 3)<|vV 7)<|aX bx (vV 4)<|vV 6) (aX jR (aX bx (vV 4)<|vV 5)<|aX bx (vV 2)<|vV 7)<|aX jR (aX bx (vV 2)<|vV 6)<|aX bx (vV 3)<|vV 5
theorem zbo:Fk P w K mg base 10 "_law_dot" Gy:=by
 refine fk (k:=9) ["_law_one", "_law_other"] T.f47 T.z ?_;intro _ _ _ _ _ _ _ hr nd hc z;exact aB<|aL<|aX bF (aX bF (aX bx (CG (vV 0) ao)<|CG (vV 1) ao)<|aX bx (CG (vV 0) ao)<|CG (vV 1) ao)<|aX bx (CG (vV 0) ao)<|CG (vV 1) ao
theorem gU:Fk P w K mg base 11 "_law_turn" nP:=by
 refine fk (k:=10) ["_law_one", "_law_other", "_law_third"] T.f48 T.z ?_;intro _ _ _ _ _ _ _ hr nd hc z;exact aB<|aL<|CW (zbo T)<|a2 (CW (zae T)<|a2 (vV 0)<|vV 1)<|vV 2
theorem zaZ:Fk P w K mg base 12 "_law_spot" sJ:=by
 refine fk (k:=11) ["_law_bag_here", "_law_top", "_law_row"] T.f49 T.z ?_;intro _ _ _ _ _ _ _ hr nd hc z;refine aA ?_ ?_
 ·with_reducible exact Ec 2 (vJ (a3 (aX jR (CW (by with_unfolding_all exact dJ T) (a2 (vV 0) ao)) ao) (aX jR (CW (by with_unfolding_all exact dJ T) (a2 (vV 0) ao)) ao) (CG (nu (aC ao (aC ao (aC ao (aC ao (aC ao (a3 ao ao ao))))))) (CW (by with_unfolding_all exact dJ T) (a2 (vV 0) ao)))))
 refine aA (cU (Fq ZM (vV 1) ao) (aB<|Ec 2<|vJ<|a3 (aX jR (CW (dJ T)<|a2 (vV 0)<|aX bx ao<|vV 1)<|vV 1) (aX jR (CW (dJ T)<|a2 (vV 0)<|aX bx ao<|vV 1)<|vV 1)<|CW (dJ T)<|a2 (vV 0)<|vV 1) bf) ?_;refine aA (cU (Fq (lD qq) (vV 2)<|nu<|a3 ao ao ao) (aB<|uV ao<|JL (vV 2) (CW (dJ T)<|a2 (vV 0) ao) set_list rY) bf) ?_;exact aB<|aL<|CW (zal T)<|a1<|vV 2
theorem vW:Fk P w K mg base 10 "_law_drawing" pQ:=by
 refine fk (k:=9) ["_law_rows"] T.f50 T.z ?_;intro _ _ _ _ _ _ _ hr nd hc z;refine aA ?_ ?_
 ·with_reducible exact Ec 0 (aX bF (Ms [] (Py (a1 ao)) (fun _ _ _ _=>(dX (a1 cF)))) (nu (a1 (dX (aC cF (aC ao (aC ao (a3 ao ao ao))))))))
 refine aA ?_ ?_
 ·with_reducible exact Ec 0 (aX bF (aX bF (vV 0) (Ms [] (Py (a1 ao)) (fun _ _ _ _=>(dX (a3 cF ao (vV 0)))))) (nu (a1 (dX (a3 cF ao ao)))))
 exact aB<|aL<|aX bF (vV 0)<|Ms [] (vX (by rfl) (by exact T.z _ (by decide))<|a2 ao ao)<|fun _ _ _ _=>(dX<|aC cF<|a3 ao ao<|vV 0)
theorem jZ:Fk P w K mg base 12 "_law_three_on_line" fJ:=by
 refine fk (k:=11) ["_law_five", "_law_i", "_law_j", "_law_k"] T.f51 T.z ?_;intro _ _ _ _ _ _ _ hr nd hc z;refine aA (gY Mj hh (Py<|a1 ao) (Kc 1)<|aB<|gY Mj hh (Py<|a1<|vV 1) (Kc 2)<|aB<|gY Mj hh (Py<|a1<|vV 2) (Kc 3)<|aB<|cU (Fq (lD qq) (CW (gU T)<|a3 (CG (vV 0)<|vV 1) (CG (vV 0)<|vV 2)<|CG (vV 0)<|vV 3) ao) (aB<|aL Ca) bf) ?_;exact aB<|aL Ca
theorem lN:Fk P w K mg base 12 "_law_four_on_line" gD:=by
 refine fk (k:=11) ["_law_five", "_law_k", "_law_four", "_law_turns"] T.f52 T.z ?_;intro _ _ _ _ _ _ _ hr nd hc z;refine aA (gY Mj hh (Py<|a1 ao) (Kc 1)<|aA (Ec 2<|aX bF (lJ (vV 0) fU<|bV<|vV 1)<|lJ (vV 0) (bV<|aX bF (vV 1) ao) fU)<|aA (Ec 3<|nu<|a2 (CW (gU T)<|a3 (CG (vV 2) ao) (CG (vV 2) ao)<|CG (vV 2) ao)<|CW (gU T)<|a3 (CG (vV 2) ao) (CG (vV 2) ao)<|CG (vV 2) ao)<|aB<|cU (Fq (lD qq) (aX bF (vV 3)<|nu<|a2 (CW (gU T)<|a3 (CG (vV 2) ao) (CG (vV 2) ao)<|CG (vV 2) ao)<|CW (gU T)<|a3 (CG (vV 2) ao) (CG (vV 2) ao)<|CG (vV 2) ao)<|nu<|aC ao<|a3 ao ao ao) (aB<|aL Ca) bf) ?_;exact aB<|aL Ca
theorem lW:Fk P w K mg base 19 "_law_stuck" jY:=by
 refine fk (k:=18) ["_law_rows", "_law_spots", "_law_e"] T.f53 T.z ?_;intro _ _ _ _ _ _ _ hr nd hc z;obtain ⟨_,_,_,o_placed,eU,k_placed,b_placed⟩:=q9 T;refine aA ((aeT (i:=2) nd (by rfl) (by rfl) (by rfl) T.xm_Stuck T.xd_Stuck ⟨rfl,rfl⟩ rfl (fun pins xe σ0=>(aR (aep (wJ (o_placed.mono (by decide)) hr (by rfl) (by exact eU) (by exact k_placed) (by exact b_placed) (cV (rW oh (by rfl) (by exact T.z _ (by decide)) boot_list (cV (dv 0 (pv 0)) fD (aW (by rfl))) (by decide) (by decide) (aW (by rfl)) (bZ (by rfl))) (cV (rW oh (by rfl) (by exact T.z _ (by decide)) boot_list (cV (dv 1 (pv 1)) fD (aW (by rfl))) (by decide) (by decide) (aW (by rfl)) (bZ (by rfl))) fD (aW (by rfl))) (aW (by rfl))) (by decide) (aW (by rfl)) (bZ (by rfl)))))) (fun a H0=>by
  have hr:=zx (a:=a) hr (by decide);exact (aB (aL (Vh (dv 2 (pv 2)) (by rfl))))))) ?_
 exact aB<|aL<|Mx ao
theorem adF:Fk P w K mg base 20 "_law_sixth" oO:=by
 refine fk (k:=19) ["_law_rows", "_law_spots", "_law_things", "_law_more", "_law_said", "_law_touches"] T.f54 T.z ?_;intro _ _ _ _ _ _ _ hr nd hc z;refine aA ?_ ?_
 ·with_reducible exact cU (Fq (lD qq) (CG (vV 1) ao) (CG (vV 1) ao)) (aB (aL (Lg (lD qq) (CW (by with_unfolding_all exact lW T) (a2 (aX bF (vV 0) (nu (a1 (dX (a3 cF ao ao))))) (vV 1))) (KR tZ QK (a1 (vV 0)))))) bf
 refine aA ?_ ?_
 ·with_reducible exact Ec 3 (aX bF (vV 0) (nu (a3 (dX (a3 cF ao ao)) (dX (a3 cF ao (KR tZ QK (a1 (vV 0))))) (dX (aC cF (a3 ao ao ao))))))
 refine aA (Ec 4<|CW (vL T)<|a2 (dct oh boot_list<|a1<|vV 3)<|dct oh boot_list<|a1<|vV 1) ?_;refine aA (Ec 5<|CW (jV T)<|a3 (vV 3) (vV 4)<|dX<|a3 cF (KR tZ QK<|a1<|vV 0) ao) ?_;refine aA (cU (Fq (yR qq) (vV 5)<|CW (jV T)<|a3 (vV 3) (vV 4)<|dX<|a3 cF (aX bF (KR tZ QK<|a1<|vV 0) ao)<|KR tZ QK<|a1<|vV 0) (aB<|aL Ca) bf) ?_;exact aB<|aL<|abt (Lg (lD qq) (vV 5)<|Lg (lD qq) (CG (vV 4)<|Mx ao)<|CG (vV 1) ao)<|abd<|Lg (lD qq) (lJ (vV 4) fU<|bV<|KR tZ QK<|a1<|vV 0)<|vV 2
theorem Xd {f:Addr}{fd:Ib}(F:Pj K "law" "law" T9 f fd):iW P w K mg base Jj 21 f fd ["_law_script"] (lift K Uk):=by
 have S:eX ["_law_script", "_law_bag_here", "_law_rows", "_law_lap", "_law_spots", "_law_five", "_law_things", "_law_k", "_law_on"] ["_law_script"] (aQ T9):=⟨rfl,rfl,rfl,by decide +kernel,rfl,by decide +kernel,by decide +kernel⟩
 refine ab3 (k:=20) F S fun _ _ _ _ _ _ hr=>?_;have hc:=hr.calm (by decide);have nd:=S.nd;have z:=T.z;refine aA (Ec 1<|CW (zbb T)<|a1<|CW (zaI T)<|a2 (vV 0) ao) ?_;refine aA (Ec 2<|dc0<|vW T) ?_;refine aA ?_ ?_
 ·with_reducible exact gY (hs:=by with_unfolding_all (intro _;rfl)) (by with_unfolding_all exact Mj) hh (Py (a1 ao)) (Kc 3) (aA (Fx (hsw:=by with_unfolding_all rfl) (hf:=by with_unfolding_all first | exact .inl rfl | exact .inr rfl) (hs:=by with_unfolding_all (intro _;rfl)) [1] (i:=4) (by with_unfolding_all exact nd) (by with_unfolding_all rfl) (by with_unfolding_all exact Or.inl rfl) hh (by with_unfolding_all exact cZ rfl) Cp (BR (by with_unfolding_all exact cZ rfl)) (Py (a1 ao)) (fun _ _ _ _=>lO) (fun _ _ _ _=>(CW (by with_unfolding_all exact zaZ T) (a2 (vV 1) ao)))) (aA (Ec 5 (lJ (vV 4) fU (bV ao))) (aA (cU (GD (Fq U0 (uU hh qq (by with_unfolding_all rfl) (by with_unfolding_all exact T.z _ (by decide)) (by with_unfolding_all rfl) (by with_unfolding_all exact T.z _ (by decide)) (vV 5) (aW (by with_unfolding_all rfl)) (aW (by with_unfolding_all rfl))) ao) (yQ (fG (h:=by with_unfolding_all (intro _;rfl)) (CW (by with_unfolding_all exact lN T) (a1 (vV 5)))))).pt (aA (cU (Fq (yR qq) (CW (by with_unfolding_all exact lW T) (a2 (vV 2) (vV 4))) ao) (aB (aL Ca)) bf) (aB oU)) bf) (aA (cU (fG (h:=by with_unfolding_all (intro _;rfl)) (CW (by with_unfolding_all exact jZ T) (a1 (vV 5)))) (aA (cU (Fq (yR qq) (CW (by with_unfolding_all exact lW T) (a2 (aX bF (lJ (vV 2) fU (bV ao)) (nu (a2 (dX (a3 cF ao ao)) (dX (a3 cF ao ao))))) (vV 4))) ao) (aB (aL Ca)) bf) (aB oU)) bf) (aA (Ec 6 (CW (by with_unfolding_all exact vL T) (a2 (dct oh boot_list (a1 (vV 2))) (dct oh boot_list (a1 (vV 4)))))) (aA (gY (hs:=by with_unfolding_all (intro _;rfl)) (by with_unfolding_all exact Mj) hh (Py (a1 ao)) (Kc 7) (aA (Ec 8 (CW (by with_unfolding_all exact jV T) (a3 (vV 2) (vV 6) (dX (a3 cF (vV 7) ao))))) (aB (cU (GD (Fq (yR qq) (CW (by with_unfolding_all exact jV T) (a3 (vV 2) (vV 6) (dX (a3 cF (aX bF ao (vV 7)) ao)))) (vV 8)) (yQ (X5 (Fq U0 (vV 7) ao) (afw (qZ (fG (h:=by with_unfolding_all (intro _;rfl)) (vV 8))))).pt)).pt (aB (aL Ca)) bf)))) (aA (cU (GD (fG (h:=by with_unfolding_all (intro _;rfl)) (CW (by with_unfolding_all exact jV T) (a3 (vV 2) (vV 6) (dX (a2 cF ao))))) (GD (Fq (yR qq) (CG (vV 6) ao) (CG (vV 4) ao)) (yQ (Fq (yR qq) (lJ (vV 6) (bV ao) fU) (lJ (vV 4) (bV ao) (bV ao)))))).pt (aB (aL Ca)) bf) (aB (cU (qZ (fG (h:=by with_unfolding_all (intro _;rfl)) (CW (by with_unfolding_all exact adF T) (a3 (vV 2) (vV 4) (vV 6))))) (aB (aL Ca)) bf)))))))))
 exact aB<|aL Ca
end
def fO (x:Str)(s:Stmt)(oc:JI)(od:Option Addr)(kV dc pm:JI)(an:Option Addr)(cd ct:JI)(sl:Array (Option JI)):Option Obj:=Dn ⟨oc,od,.func (R8 x x (jF s) (cL s) (aQ s) .none kV dc pm an cd ct),sl⟩
def sR (f:Addr):Option (Option JI):=Dn (Dn (.ref f))
def fM (x q:Str)(s:Stmt)(oc:JI)(od:Option Addr)(kV dc pm:JI)(an:Option Addr)(cd ct:JI)(sl:Array (Option JI)):Option Obj:=Dn ⟨oc,od,.func (R8 x q (jF s) (cL s) (aQ s) .none kV dc pm an cd ct),sl⟩
def cG (K:Bs)(x:Str)(s:Stmt):Prop:=∃ f oc od kV dc pm an cd ct sl,Gs K Fg x=sR f/\K.lookup f=fO x s oc od kV dc pm an cd ct sl/\Tg K cd x=true/\Lp K (.ref f)=true
theorem MN {K:Bs}{x:Str}{s:Stmt}{f:Addr}{oc:JI}{od:Option Addr}{kV dc pm:JI}{an:Option Addr}{cd ct:JI}{sl:Array (Option JI)}(a:Gs K Fg x=sR f)(l:K.lookup f=fO x s oc od kV dc pm an cd ct sl)(c:Tg K cd x=true)(k:Lp K (.ref f)=true):cG K x s:=⟨f,oc,od,kV,dc,pm,an,cd,ct,sl,a,l,c,k⟩
theorem aY {K:Bs}{h:Heap}{mg:Str->Option JI}{x:Str}{st:Stmt}{ps:List Str}(X:K.In h)(G:h.Ns Fg mg)(H:cG K x st)(hb:∀ (kV doc pm:JI) (an:Option Addr) (cdv ct:JI) (us:List JI),us.length=ps.length->bindArgs (R8 x x (jF st) (cL st) (aQ st) .none kV doc pm an cdv ct) ⟨us,[]⟩=pure (ps.zip us):=by intro _ _ _ _ _ _ us hl;first | (match us,hl with | [],_=>rfl) | (match us,hl with | [_],_=>rfl) | (match us,hl with | [_,_],_=>rfl) | (match us,hl with | [_,_,_],_=>rfl)):At K mg x st ps:=by
 obtain ⟨f,oc,od,kV,dc,pm,an,cd,ct,sl,a,l,c,k⟩:=H;exact ⟨f,_,zV (st:=st) l c k,MF X G a,(zV (st:=st) l c k).binds hb⟩
theorem zc {mg:Str->Option JI}{n:Str}{l:List Str}(a:mg n=Go)(b:∀ m∈l,mg m=Go):∀ m∈n::l,mg m=Go:=List.forall_mem_cons.2 ⟨a,b⟩
theorem all_mk {l:PySem.W.OpenLaw}{w:CQ}{K:Bs}{h:Heap}{mg:Str->Option JI}{fa:Addr}(hlaw:∀ ns:List Int,ns.length<=63->Uk [.kls (ns.map W.int)] g0 (fun w _=>w=.bl true) EF)(X:K.In h)(G:h.Ns Fg mg)(hfa:mg "law" = Dn (.ref fa))
  (h0:cG K "divisor_of_two" (top 11))
  (h1:cG K "divisor" (top 12))
  (h2:cG K "ends_below" (top 13))
  (h3:cG K "plain" (top 14))
  (h4:cG K "dot" (top 16))
  (h5:cG K "cross" (top 17))
  (h6:cG K "turn" (top 18))
  (h7:cG K "lies_on" (top 19))
  (h8:cG K "share_one" (top 20))
  (h9:cG K "on_line" (top 21))
  (h10:cG K "through_spot" (top 22))
  (h11:cG K "plain_cross" (top 23))
  (h12:cG K "join" (top 24))
  (h13:cG K "meet" (top 25))
  (h14:cG K "rising" (top 27))
  (h15:cG K "picked" (top 28))
  (h16:cG K "has_alike" (top 29))
  (h17:cG K "has_on_line" (top 30))
  (h18:cG K "rows_of" (top 33))
  (h19:cG K "size_of" (top 34))
  (h20:cG K "table_times_row" (top 35))
  (h21:cG K "turned" (top 36))
  (h22:cG K "tiles" (top 37))
  (h23:cG K "worth" (top 39))
  (h24:cG K "is_on_curve" (top 40))
  (h25:cG K "together" (top 41))
  (h26:cG K "table_of" (top 42))
  (h27:cG K "both_sides" (top 43))
  (h28:cG K "is_round" (top 44))
  (h29:cG K "mixed" (top 45))
  (h30:cG K "through" (top 46))
  (h31:cG K "sort_of" (top 49))
  (h32:cG K "touches" (top 51))
  (h33:cG K "holds" (top 52))
  (h34:cG K "plain_or_none" (top 54))
  (h35:cG K "line_about" (top 55))
  (h36:cG K "spot_about" (top 56))
  (h37:cG K "another_spot" (top 57))
  (h38:cG K "other_end" (top 58))
  (h39:cG K "made_by_row" (top 60))
  (h40:cG K "placed" (top 61))
  (h41:cG K "_law_cell" (top 63))
  (h42:cG K "_law_bag" (top 64))
  (h43:cG K "_law_draw" (top 65))
  (h44:cG K "_law_divisor" (top 66))
  (h45:cG K "_law_plain" (top 67))
  (h46:cG K "_law_cross" (top 68))
  (h47:cG K "_law_dot" (top 69))
  (h48:cG K "_law_turn" (top 70))
  (h49:cG K "_law_spot" (top 73))
  (h50:cG K "_law_drawing" (top 74))
  (h51:cG K "_law_three_on_line" (top 75))
  (h52:cG K "_law_four_on_line" (top 76))
  (h53:cG K "_law_stuck" (top 77))
  (h54:cG K "_law_sixth" (top 78))
  (h55:cG K "law" (top 79))
  (z_abs:Gs K Fg "abs" = Dn Go)
  (z_all:Gs K Fg "all" = Dn Go)
  (z_any:Gs K Fg "any" = Dn Go)
  (z_enumerate:Gs K Fg "enumerate" = Dn Go)
  (z_int:Gs K Fg "int" = Dn Go)
  (z_len:Gs K Fg "len" = Dn Go)
  (z_list:Gs K Fg "list" = Dn Go)
  (z_range:Gs K Fg "range" = Dn Go)
  (z_reversed:Gs K Fg "reversed" = Dn Go)
  (z_set:Gs K Fg "set" = Dn Go)
  (z_tuple:Gs K Fg "tuple" = Dn Go)
  (z_zip:Gs K Fg "zip" = Dn Go)
  {mW:Addr} {nk_MADE:Nat} {t_MADE_0:_} {qk_MADE_0:_} {t_MADE_1:_} {qk_MADE_1:_} {t_MADE_2:_} {qk_MADE_2:_} {t_MADE_3:_} {qk_MADE_3:_} {t_MADE_4:_} {qk_MADE_4:_} {t_MADE_5:_} {qk_MADE_5:_} {t_MADE_6:_} {qk_MADE_6:_}
  (gk_MADE:Gs K Fg "MADE" = Dn (Dn (.ref mW))) (sk_MADE:(mW==sysModules)=false)
  (lk_MADE:K.lookup mW=Dn ⟨.type "dict",Go,.dict #[⟨Rb w.params "free",.str "free" qk_MADE_0,(.str "spot" t_MADE_0)⟩,⟨Rb w.params "join",.str "join" qk_MADE_1,(.str "line" t_MADE_1)⟩,⟨Rb w.params "meet",.str "meet" qk_MADE_2,(.str "spot" t_MADE_2)⟩,⟨Rb w.params "curve",.str "curve" qk_MADE_3,(.str "curve" t_MADE_3)⟩,⟨Rb w.params "about",.str "about" qk_MADE_4,(.str "line" t_MADE_4)⟩,⟨Rb w.params "pole",.str "pole" qk_MADE_5,(.str "spot" t_MADE_5)⟩,⟨Rb w.params "other",.str "other" qk_MADE_6,(.str "spot" t_MADE_6)⟩] nk_MADE,#[]⟩)
  {o9:Addr} {slk_TILES:Array (Option JI)} {nk_TILES:Nat} {k_TILES_0:Addr} {slk_TILES_0:Array (Option JI)} {nk_TILES_0:Nat} {t_TILES_0_0:_} {t_TILES_0_1:_} {t_TILES_0_2:_} {k_TILES_1:Addr} {slk_TILES_1:Array (Option JI)} {nk_TILES_1:Nat} {t_TILES_1_0:_} {t_TILES_1_1:_} {t_TILES_1_2:_} {k_TILES_2:Addr} {slk_TILES_2:Array (Option JI)} {nk_TILES_2:Nat} {t_TILES_2_0:_} {t_TILES_2_1:_} {t_TILES_2_2:_} {k_TILES_3:Addr} {slk_TILES_3:Array (Option JI)} {nk_TILES_3:Nat} {t_TILES_3_0:_} {t_TILES_3_1:_} {t_TILES_3_2:_}
  (gk_TILES:Gs K Fg "TILES" = Dn (Dn (.ref o9)))
  (lk_TILES:K.lookup o9=Dn ⟨.type "tuple",Go,.seq #[(.ref k_TILES_0),(.ref k_TILES_1),(.ref k_TILES_2),(.ref k_TILES_3)] nk_TILES,slk_TILES⟩)
  (lk_TILES_0:K.lookup k_TILES_0=Dn ⟨.type "tuple",Go,.seq #[(.int 1 t_TILES_0_0),(.int 0 t_TILES_0_1),(.int 0 t_TILES_0_2)] nk_TILES_0,slk_TILES_0⟩)
  (lk_TILES_1:K.lookup k_TILES_1=Dn ⟨.type "tuple",Go,.seq #[(.int 0 t_TILES_1_0),(.int 1 t_TILES_1_1),(.int 0 t_TILES_1_2)] nk_TILES_1,slk_TILES_1⟩)
  (lk_TILES_2:K.lookup k_TILES_2=Dn ⟨.type "tuple",Go,.seq #[(.int 0 t_TILES_2_0),(.int 0 t_TILES_2_1),(.int 1 t_TILES_2_2)] nk_TILES_2,slk_TILES_2⟩)
  (lk_TILES_3:K.lookup k_TILES_3=Dn ⟨.type "tuple",Go,.seq #[(.int 1 t_TILES_3_0),(.int 1 t_TILES_3_1),(.int 1 t_TILES_3_2)] nk_TILES_3,slk_TILES_3⟩)
  {x_EaselError:Addr}
  {x_Nothing:Addr}
  {x_Alike:Addr}
  {x_Stuck:Addr}
  {x_FourOnLine:Addr}
  {x_Knot:Addr}
  {x_NotRound:Addr}
  {x_NotOn:Addr}
  {x_InCurve:Addr}
  {fi_Stuck:Addr} {odi_Stuck ani_Stuck:Option Addr} {sli_Stuck:Array (Option JI)} {oci_Stuck kVi_Stuck dci_Stuck pmi_Stuck cdi_Stuck cti_Stuck:JI}
  (gx_EaselError:Gs K Fg "EaselError" = sR x_EaselError) (xd_EaselError:kW K x_EaselError "EaselError" = true)
  (gx_Nothing:Gs K Fg "Nothing" = sR x_Nothing) (xd_Nothing:kW K x_Nothing "Nothing" = true)
  (xc_Nothing:j6 K x_Nothing "Nothing" = true) (xq_Nothing:Ko K x_Nothing J6 "ValueError.__new__" = true)
  (gx_Alike:Gs K Fg "Alike" = sR x_Alike) (xd_Alike:kW K x_Alike "Alike" = true)
  (xc_Alike:j6 K x_Alike "Alike" = true) (xq_Alike:Ko K x_Alike J6 "ValueError.__new__" = true)
  (gx_Stuck:Gs K Fg "Stuck" = sR x_Stuck) (xd_Stuck:kW K x_Stuck "Stuck" = true)
  (gx_FourOnLine:Gs K Fg "FourOnLine" = sR x_FourOnLine) (xd_FourOnLine:kW K x_FourOnLine "FourOnLine" = true)
  (xc_FourOnLine:j6 K x_FourOnLine "FourOnLine" = true) (xq_FourOnLine:Ko K x_FourOnLine J6 "ValueError.__new__" = true)
  (gx_Knot:Gs K Fg "Knot" = sR x_Knot) (xd_Knot:kW K x_Knot "Knot" = true)
  (xc_Knot:j6 K x_Knot "Knot" = true) (xq_Knot:Ko K x_Knot J6 "ValueError.__new__" = true)
  (gx_NotRound:Gs K Fg "NotRound" = sR x_NotRound) (xd_NotRound:kW K x_NotRound "NotRound" = true)
  (xc_NotRound:j6 K x_NotRound "NotRound" = true) (xq_NotRound:Ko K x_NotRound J6 "ValueError.__new__" = true)
  (gx_NotOn:Gs K Fg "NotOn" = sR x_NotOn) (xd_NotOn:kW K x_NotOn "NotOn" = true)
  (xc_NotOn:j6 K x_NotOn "NotOn" = true) (xq_NotOn:Ko K x_NotOn J6 "ValueError.__new__" = true)
  (gx_InCurve:Gs K Fg "InCurve" = sR x_InCurve) (xd_InCurve:kW K x_InCurve "InCurve" = true)
  (xc_InCurve:j6 K x_InCurve "InCurve" = true) (xq_InCurve:Ko K x_InCurve J6 "ValueError.__new__" = true)
  (ai_Stuck:KJ K (.ref x_Stuck) "__init__" = sR fi_Stuck) (li_Stuck:K.lookup fi_Stuck=fM "__init__" "Stuck.__init__" d7 oci_Stuck odi_Stuck kVi_Stuck dci_Stuck pmi_Stuck ani_Stuck cdi_Stuck cti_Stuck sli_Stuck) (ci_Stuck:Tg K cdi_Stuck "Stuck.__init__" = true) (ki_Stuck:Lp K (.ref fi_Stuck)=true)
  (xi_Stuck:Cj K x_Stuck fi_Stuck J6 "ValueError.__new__" = true) (xf_Stuck:T3 K (.ref fi_Stuck)=true) (xa_Stuck:Uo K x_Stuck "Stuck" = true) (xs_Stuck:ZJ K x_Stuck "at" = true)
  : ∃ fd:Ib,(∀ (s:kI) (v:JI),BindsTo s fd ⟨[v],[]⟩ [("_law_script",v)])/\∀ base:Heap,K.In base->base.Ns Fg mg->iW l.prog w K mg base Jj 21 fa fd ["_law_script"] (K1 K):=by
 have Fi_Stuck:=zV (st:=d7) li_Stuck ci_Stuck ki_Stuck;have bi_Stuck:=Fi_Stuck.binds (ps:=["self", "at"]) fun _ _ _ _ _ _ us hl=>match us,hl with | [_,_],_=>rfl
 have T:∀ base,Txt l.prog w K mg base ⟨x_EaselError,x_Nothing,x_Alike,x_Stuck,x_FourOnLine,x_Knot,x_NotRound,x_NotOn,x_InCurve,fi_Stuck,_⟩:=fun _=>⟨aY X G h0,aY X G h1,aY X G h2,aY X G h3,aY X G h4,aY X G h5,aY X G h6,aY X G h7,aY X G h8,aY X G h9,aY X G h10,aY X G h11,aY X G h12,aY X G h13,aY X G h14,aY X G h15,aY X G h16,aY X G h17,aY X G h18,aY X G h19,aY X G h20,aY X G h21,aY X G h22,aY X G h23,aY X G h24,aY X G h25,aY X G h26,aY X G h27,aY X G h28,aY X G h29,aY X G h30,aY X G h31,aY X G h32,aY X G h33,aY X G h34,aY X G h35,aY X G h36,aY X G h37,aY X G h38,aY X G h39,aY X G h40,aY X G h41,aY X G h42,aY X G h43,aY X G h44,aY X G h45,aY X G h46,aY X G h47,aY X G h48,aY X G h49,aY X G h50,aY X G h51,aY X G h52,aY X G h53,aY X G h54,zc (PJ X G z_abs) (zc (PJ X G z_all) (zc (PJ X G z_any) (zc (PJ X G z_enumerate) (zc (PJ X G z_int) (zc (PJ X G z_len) (zc (PJ X G z_list) (zc (PJ X G z_range) (zc (PJ X G z_reversed) (zc (PJ X G z_set) (zc (PJ X G z_tuple) (zc (PJ X G z_zip) (fun _ h=>nomatch h)))))))))))),⟨_,MF X G gk_TILES,fun _ _=>((j4 lk_TILES (by simp <;> decide) (.cons ZF (.cons ZF (.cons ZF (.cons ZF .nil)))) fun _ _=>(iY ((j4 lk_TILES_0 (by simp <;> decide) (.cons Du (.cons Du (.cons Du .nil))) fun _ _=>(iY Dr (iY Dr (iY Dr Eo)))) _ _) (iY ((j4 lk_TILES_1 (by simp <;> decide) (.cons Du (.cons Du (.cons Du .nil))) fun _ _=>(iY Dr (iY Dr (iY Dr Eo)))) _ _) (iY ((j4 lk_TILES_2 (by simp <;> decide) (.cons Du (.cons Du (.cons Du .nil))) fun _ _=>(iY Dr (iY Dr (iY Dr Eo)))) _ _) (iY ((j4 lk_TILES_3 (by simp <;> decide) (.cons Du (.cons Du (.cons Du .nil))) fun _ _=>(iY Dr (iY Dr (iY Dr Eo)))) _ _) Eo))))) _ _)⟩,⟨_,MF X G gk_MADE,⟨sk_MADE,by decide +kernel,by decide,_,_,lk_MADE,(Bg.cons PN (fun _ _=>Uu) (Bg.cons PN (fun _ _=>Uu) (Bg.cons PN (fun _ _=>Uu) (Bg.cons PN (fun _ _=>Uu) (Bg.cons PN (fun _ _=>Uu) (Bg.cons PN (fun _ _=>Uu) (Bg.cons PN (fun _ _=>Uu) Bg.nil)))))))⟩⟩,MF X G gx_EaselError,xd_EaselError,MF X G gx_Nothing,xd_Nothing,xc_Nothing,xq_Nothing,MF X G gx_Alike,xd_Alike,xc_Alike,xq_Alike,MF X G gx_Stuck,xd_Stuck,MF X G gx_FourOnLine,xd_FourOnLine,xc_FourOnLine,xq_FourOnLine,MF X G gx_Knot,xd_Knot,xc_Knot,xq_Knot,MF X G gx_NotRound,xd_NotRound,xc_NotRound,xq_NotRound,MF X G gx_NotOn,xd_NotOn,xc_NotOn,xq_NotOn,MF X G gx_InCurve,xd_InCurve,xc_InCurve,xq_InCurve,Fi_Stuck,bi_Stuck,xi_Stuck,xf_Stuck,xa_Stuck,xs_Stuck⟩
 obtain ⟨f,oc,od,kV,dc,pm,an,cd,ct,sl,a,l,c,k⟩:=h55;have e:=hfa.symm.trans (MF X G a);cases e;exact ⟨_,fun s v=>.of_eq rfl,fun base _ _=>ahg hlaw<|Xd (T base)<|zV (st:=T9) l c k⟩
theorem walk {l:PySem.W.OpenLaw}{q:CR}{loose:List Str}{XP:(Str->Option JI)->Heap->Prop}{YP:CQ->Heap->Prop}{d:DefRec}{K:Params->Bs}(hn:l.most=Dn 63)(hdf:d.params.defaults=[])
  (hY:∀ (w:CQ) (h:Heap),YP w h->(K w.params).In h)
  (F:∀ (w:CQ) (mg:Str->Option JI) (fa:Addr) (h:Heap),(K w.params).In h->h.Ns Fg mg->mg d.name=Dn (.ref fa) ->
   ∃ fd:Ib,(∀ (s:kI) (u:JI),BindsTo s fd ⟨[u],[]⟩ [("_law_script",u)])/\∀ base:Heap,(K w.params).In base->base.Ns Fg mg->iW l.prog w (K w.params) mg base Jj 21 fa fd ["_law_script"] (K1 (K w.params))) :
  PySem.W.WalkO q loose XP YP l.row.toRowW d [] (fun f vs=>PySem.call f vs):=
 L2.En (n:=63) (k:=21) (x := "_law_script") (CX:=fun _=>Jj) (sp:=fun w=>K1 (K w.params)) hn (by decide) hdf ⟨fun _=>rfl,by decide,by decide⟩ hY F (fun _ _ a ns hl hO hS=>⟨a,ns,rfl,hS,hO,hl,fun _=>rfl⟩) fun _ _ _ _ _ z=>z
local macro_rules | `(tactic| trivial) => `(tactic| with_reducible exact Sm.lit (by decide))
local macro_rules | `(tactic| trivial) => `(tactic| with_reducible exact Sm.zero)
local macro_rules | `(tactic| trivial) => `(tactic| with_reducible exact Sm.neg (by trivial))
local macro_rules | `(tactic| trivial) => `(tactic| with_reducible exact Sm.sub (by trivial) (by trivial))
local macro_rules | `(tactic| trivial) => `(tactic| with_reducible exact Sm.add (by trivial) (by trivial))
local macro_rules | `(tactic| trivial) => `(tactic| with_reducible exact Sm.mul (by trivial) (by trivial))
local macro_rules | `(tactic| trivial) => `(tactic| with_reducible assumption)
theorem Jh (h:Gh)(n:Nat)(c:Cell):(h.set n c).c n=Dn c:=by show (if n=n then Dn c else h.c n)=Dn c;rw [if_pos rfl]
theorem yO {h:Gh}{n m:Nat}{c:Cell}(e:m≠n):(h.set n c).c m=h.c m:=by show (if m=n then Dn c else h.c m)=_;rw [if_neg e]
theorem Pz (h:Gh)(c:Cell):(h.new c).c h.nx=Dn c:=by show (if h.nx=h.nx then Dn c else h.c h.nx)=Dn c;rw [if_pos rfl]
theorem Gw {h:Gh}{m:Nat}{c:Cell}(e:m≠h.nx):(h.new c).c m=h.c m:=by show (if m=h.nx then Dn c else h.c m)=_;rw [if_neg e]
theorem nM {h:Gh}{n:Nat}{ws:List W}(e:h.c n=Dn (.lst ws)):view h (.loc n)=Dn ws:=by simp only [view,dW,e]
def Oth (n:Nat)(h h':Gh):Prop:=h'.nx=h.nx/\∀ m,m≠n->h'.c m=h.c m
theorem Oth.set {n:Nat}{h:Gh}{c:Cell}:Oth n h (h.set n c):=⟨rfl,fun _ e=>yO e⟩
theorem iR {a b:Int}(h:0<b):a.fmod b=a % b:=Int.fmod_eq_emod_of_nonneg a (Sg h)
theorem zp {a b:Int}(h:0<b):a.fdiv b=a / b:=Int.fdiv_eq_ediv_of_nonneg a (Sg h)
theorem Km {A B:Prop}{c:Bool}(e:c=true)(h:A):El c A B:=by subst e;exact h
theorem Yx {A B:Prop}{c:Bool}(e:c=false)(h:B):El c A B:=by subst e;exact h
theorem Yp {c:Prop} [Decidable c] {A B:Prop} (h1:c->A) (h2:¬ c->B):El (decide c) A B:=by
 by_cases h:c
 ·rw [decide_eq_true h];exact h1 h
 ·rw [decide_eq_false h];exact h2 h
theorem lK {ws ws0:List W}{g:MG}{b:MS}{D:bA}(I:Nat->Sw->Gh->Prop)
  (step:∀ (i:Nat) (w:W) (σ : Sw) (h:Gh) (N:Sw->Gh->Prop),(∀ σ' h',I (i+1) σ' h'->N σ' h')->ws[i]?=Dn w->I i σ h->g w σ h fun σ1 h1=>b { D with nx:=N,ct:=N,bk:=D.nx } σ1 h1)
  (fin:∀ σ h,I ws.length σ h->D.nx σ h):∀ {σ : Sw} {h:Gh},I 0 σ h->cT ⟨ws0,Go⟩ g b D ws σ h:=by
 induction ws generalizing I with
 | nil=>intro σ h h0;exact fin σ h h0
 | cons w ws ih=>
  intro σ h h0;refine step 0 w σ h _ (fun σ' h' q=>?_) rfl h0;exact ih (fun i=>I<|i+1) (fun i w σ h N hN e hi=>step (i+1) w σ h N hN (by simpa using e) hi) (fun σ h q=>fin σ h q) q
theorem jU {ws ws0:List W}{own:W->Option (List W)}{ix:List Nat}{tt:MT}{te:ME}{σ : Sw}{Q:WK}(I:Nat->List W->Gh->Prop)
  (step:∀ (i:Nat) (w:W) (acc:List W) (h:Gh) (N:List W->Gh->Prop),(∀ acc' h',I (i+1) acc' h'->N acc' h')->ws[i]?=Dn w->I i acc h ->
   ∃ vs,own w=Dn vs/\tt (vs.map Dn++nF ix σ) h fun c h1=>El c (te (vs.map Dn++nF ix σ) h1 fun v h2=>N (acc++[v]) h2) (N acc h1))
  (fin:∀ acc h,I ws.length acc h->Q (.lst acc) h):∀ {acc:List W} {h:Gh},I 0 acc h->lZ ⟨ws0,Go⟩ own ix tt te σ Q ws acc h:=by
 induction ws generalizing I with
 | nil=>intro acc h h0;exact fin acc h h0
 | cons w ws ih=>
  intro acc h h0;obtain ⟨vs,ev,q⟩:=step 0 w acc h _ (fun acc' h' q=>ih (fun i=>I (i+1)) (fun i w acc h N hN e hi=>step (i+1) w acc h N hN (by simpa using e) hi) (fun acc h q=>fin acc h q) q) rfl h0;show (match own w with
   | some vs=>_
   | none=>False)
  rw [ev];exact q
theorem afF {lo:Int}{n i:Nat}{w:W}(e:(wC lo n)[i]?=Dn w):i<n/\w=.int (lo+(i:Int)):=by
 have hi:i<n:=by
  have:=(K8.mp e).1
  simpa [wC] using this
 unfold wC at e;rw [Ir,List.getElem?_range hi] at e;exact ⟨hi,(Fj e).symm⟩
theorem Al {lo:Int}{n:Nat}:(wC lo n).length=n:=by simp [wC]
theorem aeI {ns:List Int}{k:Int}(h0:0<=k)(h1:k<((ns.map W.int).length:Int)):Ig (ns.map W.int) k=Dn (.int (ns.getD k.toNat 0)):=by
 have hk:k.toNat<ns.length:=by rw [Eh] at h1;lia
 have e:(ns.map W.int)[k.toNat]?=Dn (.int (ns.getD k.toNat 0)):=by
  rw [Ir,KN hk,S9,KN hk];rfl
 have:=cu e
 rwa [show ((k.toNat:Nat):Int)=k by lia] at this
def gF (f n:Int):Int:=((Lz n f:Nat):Int)
def gL (ns:List Int):Int:=ns.foldl gF 0
theorem Jf (ns:List Int)(n:Int):gL (ns++[n])=gF (gL ns) n:=by unfold gL;rw [List.foldl_append];rfl
theorem Yw (f n:Int):0<=gF f n:=Int.natCast_nonneg _
theorem Yb (ns:List Int):0<=gL ns:=by
 rcases List.eq_nil_or_concat ns with rfl | ⟨l,a,rfl⟩
 ·exact Int.le_refl _
 ·rw [List.concat_eq_append,Jf];exact Yw _ _
theorem yU {x y:Int}(hx:0<=x)(hy:0<y):Lz y (x.fmod y)=Lz x y/\0<=x.fmod y/\x.fmod y<y:=by
 rw [Int.fmod_eq_emod_of_nonneg x (Sg hy)];refine ⟨?_,Ru _<|by lia,SM _ hy⟩;obtain ⟨m,rfl⟩:=Int.eq_ofNat_of_zero_le hx;obtain ⟨n,rfl⟩:=Int.eq_ofNat_of_zero_le (Sg hy);rw [<-Int.natCast_emod,Int.gcd_natCast_natCast,Int.gcd_natCast_natCast,Nat.gcd_comm m n,Nat.gcd_rec n m,Nat.gcd_comm]
theorem JC (a:Int):0<=(if a<0 then -a else a):=by split <;> lia
theorem abs_eq (a:Int):(if a<0 then -a else a)=(a.natAbs:Int):=by split <;> lia
theorem zbM (a b:Int):Lz (if a<0 then -a else a) (if b<0 then -b else b)=Lz a b:=by
 rw [abs_eq,abs_eq];simp [Lz]
theorem qj {x:Int}(h:0<=x):((Lz x 0:Nat):Int)=x:=by
 rw [Int.gcd_zero_right];lia
def W6 (c:BK):Prop:=∀ {h:Gh} {a b:Int} {Q:WK} {E:CK},Q (.int (gF b a)) h->c [.int a,.int b] h Q E
theorem abH:W6 gA:=by
 intro h a b Q E q;conv=>whnf
 refine ⟨fun m σ h'=>h'=h/\∃ x y r,σ = [Dn<|.int x,Dn<|.int y,r]/\0<=x/\0<=y/\Lz x y=Lz a b/\m=y.toNat,⟨_,rfl,_,_,Go,rfl,JC a,JC b,zbM a b,rfl⟩,?_⟩;rintro m σ h' ⟨rfl,x,y,r,rfl,x0,y0,hg,rfl⟩;refine ⟨fun e=>?_,fun e=>?_⟩
 ·have hy:y≠0:=by simpa [Cq] using e
  obtain ⟨g1,g2,g3⟩:=yU x0 (by lia:0<y);conv=>whnf
  refine ⟨hy,?_⟩;refine ⟨(x.fmod y).toNat,by lia,rfl,y,x.fmod y,_,rfl,y0,g2,g1.trans hg,rfl⟩
 ·have hy:y=0:=by simpa [Cq] using e
  subst hy;have:gF b a=x:=by unfold gF;rw [<-hg];exact qj x0
  rw [this] at q;exact q
def Ints (w:W)(ns:List Int):Prop:=w=.lst (ns.map .int)\/w=.tup (ns.map .int)
def v7 (c:BK):Prop:=∀ {h:Gh} {w:W} {ns:List Int} {Q:WK} {E:CK},Ints w ns->Q (.int (gL ns)) h->c [w] h Q E
theorem ints_get {ns:List Int}{i:Nat}{w:W}(e:(ns.map W.int)[i]?=Dn w):∃ n,ns[i]?=Dn n/\w=.int n:=by
 rw [Ir] at e;cases q:ns[i]? with
 | none=>rw [q] at e;cases e
 | some n=>rw [q] at e;exact ⟨n,rfl,(Fj e).symm⟩
theorem Jl {ns:List Int}{i:Nat}{n:Int}(e:ns[i]?=Dn n):gL (ns.take (i+1))=gF (gL (ns.take i)) n:=by
 rw [Kq,e,<-Jf];rfl
theorem zaT {tw:BK}(ht:W6 tw):v7 (uO tw):=by
 intro h w ns Q E hw q;have key:cT ⟨ns.map .int,Go⟩ (BW 2) (bQ (aG tw E (aj (aq 2) (aj (aq 1) aJ))) (BW 1)) { nx:=qb tw E { nx:=fun _ h'=>Q .non h',rt:=fun w h'=>Q w h' },rt:=fun w h'=>Q w h' } (ns.map .int) [Dn w,Dn (.int 0),Go] h:=by
  refine lK (fun i σ h'=>h'=h/\∃ o,σ = [Dn w,Dn<|.int<|gL<|ns.take i,o]) ?_ ?_ ⟨rfl,Go,rfl⟩
  ·rintro i x σ h' N hN e ⟨rfl,o,rfl⟩;obtain ⟨n,en,rfl⟩:=ints_get e;conv=>whnf
   refine ht ?_;refine hN _ _ ⟨rfl,Dn<|.int n,?_⟩;rw [Jl en];rfl
  ·rintro σ h' ⟨rfl,o,rfl⟩;rw [Eh,Kg];exact q
 rcases hw with rfl | rfl <;> exact key
theorem Xa (f n k:Int)(hf:0<=f):gF (f*(k.natAbs:Int)) (n*k)=gF f n*(k.natAbs:Int):=by
 unfold gF;rw [<-Int.natCast_mul];congr 1
 unfold Lz;rw [U8,U8,Int.natAbs_natCast,Nat.gcd_mul_right]
theorem JT (k:Int)(ns:List Int):gL (ns.map (· * k))=gL ns*(k.natAbs:Int):=by
 have:∀ (ns:List Int) (f:Int),0<=f->(ns.map (· * k)).foldl gF (f*(k.natAbs:Int))=ns.foldl gF f*(k.natAbs:Int):=by
  intro ns;induction ns with
  | nil=>intro f _;rfl
  | cons n ns ih=>intro f hf;rw [K7,RD,RD,Xa f n k hf];exact ih _ (Yw _ _)
 have h:=this ns 0 (Int.le_refl _);rw [Int.zero_mul] at h;exact h
theorem aan {m:Nat}{f n:Int}(hf:Sm m f)(hn:Sm m n):Sm m (gF f n):=by
 unfold gF Sm at *;rw [Int.natAbs_natCast];unfold Lz;by_cases e:n.natAbs=0
 ·rw [e,Nat.gcd_zero_left];exact hf
 ·exact SN (Nat.gcd_le_left _<|Nat.pos_of_ne_zero e) hn
theorem Zk {m:Nat}{ns:List Int}(h:∀ n∈ns,Sm m n):Sm m (gL ns):=by
 have:∀ (ns:List Int) (f:Int),Sm m f->(∀ n∈ns,Sm m n)->Sm m (ns.foldl gF f):=by
  intro ns;induction ns with
  | nil=>intro f hf _;exact hf
  | cons n ns ih=>intro f hf h;exact ih _ (aan hf (h n (by simp))) fun x hx=>h x (by simp [hx])
 exact this ns 0 Sm.zero h
def jy:List Int->Int
 | []=>0
 | n::ns=>if n=0 then jy ns else n
def dU (ns:List Int):Int:=jy ns.reverse
def Jz (ns:List Int):Prop:=gL ns=1/\0<dU ns
def NZ (ns:List Int):Prop:=∃ n∈ns,n≠0
theorem bU {k:Int}(hk:k≠0)(x:Int):x*k=0↔x=0:=by
 rw [Ja];exact ⟨fun h=>h.elim id fun h=>absurd h hk,.inl⟩
theorem wj {k:Int}(hk:k≠0):∀ ns:List Int,jy (ns.map (· * k))=jy ns*k
 | []=>(Int.zero_mul k).symm
 | n::ns=>by
  rw [K7,jy,jy];by_cases h:n=0
  ·rw [if_pos h,if_pos ((bU hk n).mpr h),wj hk ns]
  ·rw [if_neg h,if_neg (fun e=>h ((bU hk n).mp e))]
theorem pP {k:Int}(hk:k≠0)(ns:List Int):dU (ns.map (· * k))=dU ns*k:=by
 unfold dU;rw [<-List.map_reverse,wj hk]
theorem aeD {ns:List Int}(h:NZ ns):jy ns≠0:=by
 induction ns with
 | nil=>obtain ⟨n,hn,_⟩:=h;cases hn
 | cons a ns ih=>
  rw [jy];by_cases e:a=0
  ·rw [if_pos e];refine ih ?_;obtain ⟨n,hn,n0⟩:=h;rcases Cr.mp hn with rfl | hn
   ·exact absurd e n0
   ·exact ⟨n,hn,n0⟩
  ·rw [if_neg e];exact e
theorem zG {ns:List Int}(h:NZ ns):dU ns≠0:=by
 obtain ⟨n,hn,n0⟩:=h;exact aeD ⟨n,List.mem_reverse.mpr hn,n0⟩
theorem Nj (f n:Int):gF f n ∣ f/\gF f n ∣ n:=⟨Int.gcd_dvd_right ..,Int.gcd_dvd_left ..⟩
theorem OJ {ns:List Int}:∀ n∈ns,gL ns ∣ n:=by
 have:∀ (ns:List Int) (f:Int),ns.foldl gF f ∣ f/\∀ n∈ns,ns.foldl gF f ∣ n:=by
  intro ns;induction ns with
  | nil=>intro f;exact ⟨Int.dvd_refl _,fun n hn=>absurd hn (by simp)⟩
  | cons a ns ih=>
   intro f;obtain ⟨h1,h2⟩:=ih (gF f a);refine ⟨Int.dvd_trans h1 (Nj f a).1,fun n hn=>?_⟩;rcases Cr.mp hn with rfl | hn
   ·exact Int.dvd_trans h1 (Nj f n).2
   ·exact h2 n hn
 exact (this ns 0).2
theorem Qu {ns:List Int}(h:NZ ns):0<gL ns:=by
 have h0:=Yb ns;obtain ⟨n,hn,n0⟩:=h;have hd:=OJ n hn;by_cases e:gL ns=0
 ·rw [e] at hd;exact absurd (Int.zero_dvd.mp hd) n0
 ·lia
theorem Jz.nz {ns:List Int}(h:Jz ns):NZ ns:=by
 have:∀ l:List Int,0<jy l->NZ l:=by
  intro l;induction l with
  | nil=>intro h;exact absurd h (by decide)
  | cons a l ih=>
   intro h;rw [jy] at h;by_cases e:a=0
   ·rw [if_pos e] at h;obtain ⟨n,hn,n0⟩:=ih h;exact ⟨n,Kw _ hn,n0⟩
   ·exact ⟨a,by simp,e⟩
 obtain ⟨n,hn,n0⟩:=this _ h.2;exact ⟨n,List.mem_reverse.mp hn,n0⟩
theorem z8 {ns:List Int}{by':Int}(h:NZ ns)(hb:by'=if dU ns<0 then 0 - gL ns else gL ns) :
  by'≠0/\Jz (ns.map (·.fdiv by'))/\ns=(ns.map (·.fdiv by')).map (· * by'):=by
 have g0:=Qu h;have hn:by'≠0:=by rw [hb];split <;> lia
 have hd:∀ t,gL ns ∣ t->by' ∣ t:=fun t ht=>by
  rw [hb];split
  ·rw [Int.zero_sub];exact Int.neg_dvd.mpr ht
  ·exact ht
 have e:ns=(ns.map (·.fdiv by')).map (· * by'):=by
  rw [List.map_map];conv=>lhs;rw [<-List.map_id ns]
  refine List.map_congr_left fun n hn'=>?_;obtain ⟨m,hm⟩:=hd n (OJ n hn');show n=n.fdiv by'*by'
  conv=>lhs;rw [hm]
  conv=>rhs;rw [hm]
  rw [Int.mul_fdiv_cancel_left _ hn,Int.mul_comm]
 refine ⟨hn,?_,e⟩;generalize hms:ns.map (·.fdiv by')=ms at e;have e1:gL ns=gL ms*(by'.natAbs:Int):=by rw [e];exact JT by' ms
 have e2:(by'.natAbs:Int)=gL ns:=by rw [hb];split <;> lia
 have e3:dU ns=dU ms*by':=by rw [e];exact pP hn ms
 have l0:=zG h;refine ⟨?_,?_⟩
 ·rw [e2] at e1;have e1':gL ms*gL ns=1*gL ns:=by rw [<-e1,Int.one_mul]
  exact Int.eq_of_mul_eq_mul_right (by lia) e1'
 ·by_cases hs:dU ns<0
  ·rw [if_pos hs] at hb;have:by'<0:=by lia
   rw [e3] at hs;by_cases q:0<dU ms
   ·exact q
   ·have:=Int.mul_nonneg_of_nonpos_of_nonpos (show dU ms<=0 by lia) (Sg this)
    lia
  ·rw [if_neg hs] at hb;have:0<by':=by lia
   have hp:0<dU ns:=by lia
   rw [e3] at hp;by_cases q:0<dU ms
   ·exact q
   ·have:=Int.mul_nonpos_of_nonpos_of_nonneg (show dU ms<=0 by lia) (Sg this)
    lia
theorem o7 {k:Int}(hk:k≠0):∀ {ns ms:List Int},ns.map (· * k)=ms.map (· * k)->ns=ms
 | [],[],_=>rfl
 | [],_::_,h=>by simp at h
 | _::_,[],h=>by simp at h
 | a::ns,b::ms,h=>by
  rw [K7,K7] at h;obtain ⟨h1,h2⟩:=List.cons.inj h;rw [Int.eq_of_mul_eq_mul_right hk h1,o7 hk h2]
theorem Nr {ns ms:List Int}(hn:Jz ns)(hm:Jz ms){s t:Int}(hs:s≠0)(ht:t≠0)(h:ns.map (· * s)=ms.map (· * t)):ns=ms:=by
 have e1:gL ns*(s.natAbs:Int)=gL ms*(t.natAbs:Int):=by rw [<-JT,<-JT,h]
 rw [hn.1,hm.1] at e1;have e2:dU ns*s=dU ms*t:=by rw [<-pP hs,<-pP ht,h]
 have a:=hn.2;have b:=hm.2;have st:s=t:=by
  rcases Int.lt_or_gt_of_ne hs with s0 | s0 <;> rcases Int.lt_or_gt_of_ne ht with t0 | t0
  ·lia
  ·have x:=Int.mul_neg_of_pos_of_neg a s0;have y:=Int.mul_pos b t0;lia
  ·have x:=Int.mul_pos a s0;have y:=Int.mul_neg_of_pos_of_neg b t0;lia
  ·lia
 subst st;exact o7 hs h
def Fy (c0:BK):Prop:=∀ {h:Gh} {w:W} {ns:List Int} {m:Nat} {Q:WK} {E:CK},Ints w ns->NZ ns->(∀ n∈ns,Sm m n)->m<=8000->ns.length<=1000 ->
 (∀ (ms:List Int) (k:Int),k≠0->ns=ms.map (· * k)->Jz ms->(∀ n∈ms,Sm m n)->Q (.tup (ms.map .int)) h)->c0 [w] h Q E
theorem bB (a b:Int):Cq (.int a) (.int b)=(a==b):=by rw [Cq]
theorem fu {m:Nat}{a a' k:Int}(h:Sm m a)(e:a=a'*k)(hk:k≠0):Sm m a':=by
 refine h.le ?_;rw [e,U8];exact Nat.le_mul_of_pos_right _<|by lia
theorem zE {m:Nat}{ns ms:List Int}{k:Int}(h:∀ n∈ns,Sm m n)(hk:k≠0)(e:ns=ms.map (· * k)):∀ n∈ms,Sm m n:=fun n hn=>
 fu (h (n*k) (by rw [e];exact Mv.mpr ⟨n,hn,rfl⟩)) rfl hk
theorem aek {ns:List Int}(h:NZ ns):Ig ((ns.filter (·≠0)).map W.int) (-1)=Dn (.int (dU ns)):=by
 have key:∀ l:List Int,jy l≠0->∃ r,l.filter (·≠0)=jy l::r:=by
  intro l;induction l with
  | nil=>intro h;exact absurd rfl h
  | cons a l ih=>
   intro h;rw [jy] at h |-
   by_cases e:a=0
   ·rw [if_pos e] at h |-
    obtain ⟨r,hr⟩:=ih h;exact ⟨r,by rw [List.filter_cons,if_neg<|by simp [e]];exact hr⟩
   ·rw [if_neg e];exact ⟨_,by rw [List.filter_cons,if_pos<|by simp [e]]⟩
 obtain ⟨r,hr⟩:=key ns.reverse (zG h);have hf:ns.filter (·≠0)=r.reverse++[dU ns]:=by
  rw [List.filter_reverse] at hr;have:=congrArg List.reverse hr
  rw [List.reverse_reverse,List.reverse_cons] at this;exact this
 rw [hf,Ug];exact zbh _ _
theorem XJ {ix:List Nat}{σ : Sw}{h:Gh}{Q:WK}{w:W}{ns:List Int}{by':Int}{m:Nat}(hs:uf h w=Dn ⟨ns.map .int,Go⟩)(hb:by'≠0)(hm:m<=8000)(hs':Sm m by')(hz:ns.length<=Dk)(hv:σ[0]?=Dn (Dn w))(hx:nF ix σ = [Dn (.int by')])(k:Q (.lst ((ns.map (·.fdiv by')).map .int)) h) :
  Er Gk ix (GF (aq 0)) kY (AP JW (aq 0) (aq 1)) σ h Q:=by
 unfold Er GF aq;rw [hv];dsimp only;rw [hs];refine jc.mk (by rw [Eh];exact hz) ?_;refine jU (fun i acc h'=>h'=h/\acc=((ns.take i).map (·.fdiv by')).map W.int) ?_ ?_ ⟨rfl,rfl⟩
 ·rintro i w acc h' N hN e ⟨rfl,rfl⟩;obtain ⟨n,en,rfl⟩:=ints_get e;refine ⟨[.int n],rfl,?_⟩;rw [hx];refine ⟨⟨hb,m,hm,hs'⟩,?_⟩;refine hN _ _ ⟨rfl,?_⟩;rw [Kq,en];simp
 ·rintro acc h' ⟨rfl,rfl⟩;rw [Eh,Kg];exact k
def Zb (c0:BK):Prop:=∀ {h:Gh} {w:W} {ns:List Int} {Q:WK} {E:CK},Ints w ns->Q (.bl (decide (dU ns<0))) h->c0 [w] h Q E
theorem ahq:Zb mD:=by
 intro h w ns Q E hw q;have key:∀ (l:List Int) (s:Src) (o:Option W),s.cell=Go->Q (.bl (decide (jy l<0))) h->cT s (BW 1) (dY (bC (AP HW (aq 1) (mC (.int 0)))) (bI (AP kLt (aq 1) (mC (.int 0)))) bG)
   { nx:=jm E { nx:=fun _ h'=>Q .non h',rt:=fun w h'=>Q w h' },rt:=fun w h'=>Q w h' } (l.map .int) [Dn w,o] h:=by
  intro l;induction l with
  | nil=>
   intro s o hs q;obtain ⟨ws,ix⟩:=s;cases hs;exact q
  | cons n l ih=>
   intro s o hs q;obtain ⟨ws,ix⟩:=s;cases hs;rw [jy] at q;refine ⟨fun e=>?_,fun e=>?_⟩
   ·rw [bB] at e;rw [if_neg (by simpa using e)] at q;exact q
   ·rw [bB] at e;rw [if_pos (by simpa using e)] at q;exact ih _ _ rfl q
 have k2:=key ns.reverse ⟨(ns.map .int).reverse,Go⟩ Go rfl q;rw [List.map_reverse] at k2;rcases hw with rfl | rfl <;> exact k2
theorem zax {dv en:BK}(hdv:v7 dv)(hen:Zb en):Fy (IV dv en):=by
 intro h w ns m Q E hw h0 hs hm hl q;have hg0:=Qu h0;have hgs:Sm m (gL ns):=Zk hs;have hz:ns.length<=Dk:=GK hl (by decide);have src:uf h w=Dn ⟨ns.map .int,Go⟩:=by rcases hw with rfl | rfl <;> rfl
 have fin:∀ by',(by'=if dU ns<0 then 0 - gL ns else gL ns)->wu dv en E { nx:=fun _ h'=>Q .non h',rt:=fun w h'=>Q w h' } [Dn w,Dn (.int by')] h:=by
  intro by' e
  obtain ⟨hn,pl,eq⟩:=z8 h0 e;have hbs:Sm m by':=by refine hgs.le ?_;rw [e];split <;> lia
  show Er Gk [1] (GF (aq 0)) kY (AP JW (aq 0) (aq 1)) [Dn w,Dn (.int by')] h _;refine XJ (w:=w) (ns:=ns) src hn hm hbs hz rfl rfl ?_;exact q _ by' hn eq pl<|zE hs hn eq
 refine hdv hw ?_;refine dj (by rw [bB];simp;lia) ?_;refine hen hw ?_;refine J4 (fun hl=>?_)<|fun hl=>?_
 ·exact fin _<|by rw [if_pos hl,Int.zero_sub]
 ·exact fin _<|by rw [if_neg hl]
abbrev Tr:=Int×Int×Int
def tl (t:Tr):List Int:=[t.1,t.2.1,t.2.2]
def tw (t:Tr):W:=.tup [.int t.1,.int t.2.1,.int t.2.2]
def Pl (t:Tr):Prop:=Jz (tl t)
def CN (m:Nat)(t:Tr):Prop:=Sm m t.1/\Sm m t.2.1/\Sm m t.2.2
def sc (k:Int)(t:Tr):Tr:=(t.1*k,t.2.1*k,t.2.2*k)
def Ej (u t:Tr):Prop:=∃ k,k≠0/\u=sc k t
def crs (p q:Tr):Tr:=(p.2.1*q.2.2 - p.2.2*q.2.1,p.2.2*q.1 - p.1*q.2.2,p.1*q.2.1 - p.2.1*q.1)
def dt3 (p q:Tr):Int:=p.1*q.1+p.2.1*q.2.1+p.2.2*q.2.2
theorem CN.mono {m n:Nat}{t:Tr}(h:CN m t)(e:m<=n):CN n t:=⟨h.1.mono e,h.2.1.mono e,h.2.2.mono e⟩
theorem CN.all {m:Nat}{t:Tr}(h:CN m t):∀ n∈tl t,Sm m n:=by
 intro n hn;simp only [tl,Cr,Dl,or_false] at hn;rcases hn with rfl | rfl | rfl
 ·exact h.1
 ·exact h.2.1
 ·exact h.2.2
theorem xR {t:Tr}:t=(0,0,0)↔t.1=0/\t.2.1=0/\t.2.2=0:=by
 obtain ⟨a,b,c⟩:=t;simp
theorem PL {t:Tr}(h:t≠(0,0,0)):NZ (tl t):=by
 by_cases a:t.1=0
 ·by_cases b:t.2.1=0
  ·by_cases c:t.2.2=0
   ·exact absurd (xR.mpr ⟨a,b,c⟩) h
   ·exact ⟨_,by simp [tl],c⟩
  ·exact ⟨_,by simp [tl],b⟩
 ·exact ⟨_,by simp [tl],a⟩
theorem GZ {t:Tr}{k:Int}{ms:List Int}(e:tl t=ms.map (· * k)):∃ u:Tr,ms=tl u/\t=sc k u:=by
 match ms,congrArg R0 e,e with
 | [a,b,c],_,e=>
  simp only [tl,K7,List.map_nil,List.cons.injEq,and_true] at e;exact ⟨(a,b,c),rfl,by obtain ⟨x,y,z⟩:=t;simp only [sc];simp only at e;rw [e.1,e.2.1,e.2.2]⟩
theorem Fy.tr {c0:BK}(hc:Fy c0){h:Gh}{w:W}{u:Tr}{m:Nat}{Q:WK}{E:CK}(hw:w=tw u\/w=.lst [.int u.1,.int u.2.1,.int u.2.2])(h0:u≠(0,0,0))(hs:CN m u)(hm:m<=8000)
  (q:∀ t:Tr,Pl t->Ej u t->CN m t->Q (tw t) h):c0 [w] h Q E:=by
 refine hc (ns:=tl u) (m:=m) ?_ (PL h0) hs.all hm (show 3<=1000 by decide) fun ms k hk e pl sm=>?_
 ·rcases hw with rfl | rfl
  ·exact .inr rfl
  ·exact .inl rfl
 ·obtain ⟨t,rfl,e'⟩:=GZ e;exact q t pl ⟨k,hk,e'⟩ ⟨sm _<|by simp [tl],sm _<|by simp [tl],sm _<|by simp [tl]⟩
theorem jw {k:Int}{t:Tr}(hk:k≠0):sc k t=(0,0,0)↔t=(0,0,0):=by
 rw [xR,xR];show (t.1*k=0/\t.2.1*k=0/\t.2.2*k=0)↔_;rw [bU hk,bU hk,bU hk]
theorem Pl.ne {t:Tr}(h:Pl t):t≠(0,0,0):=by
 rintro rfl;obtain ⟨n,hn,n0⟩:=h.nz;simp [tl] at hn;exact n0 hn
theorem zN {u p q:Tr}(hp:Pl p)(hq:Pl q)(h1:Ej u p)(h2:Ej u q):p=q:=by
 obtain ⟨s,hs,e⟩:=h1;obtain ⟨t,ht,e'⟩:=h2;have h:sc s p=sc t q:=by rw [<-e,<-e']
 have:=Nr hp hq hs ht (by
  have:=congrArg tl h
  simpa [tl,sc] using this)
 obtain ⟨a,b,c⟩:=p;obtain ⟨x,y,z⟩:=q;simp only [tl,List.cons.injEq,and_true] at this;rw [this.1,this.2.1,this.2.2]
theorem aay (a b:Int)(t:Tr):sc a (sc b t)=sc (b*a) t:=by simp only [sc,Int.mul_assoc]
theorem Ej.trans {u v w:Tr}(h:Ej u v)(h':Ej v w):Ej u w:=by
 obtain ⟨s,hs,rfl⟩:=h;obtain ⟨t,ht,rfl⟩:=h';exact ⟨t*s,fun e=>(Ja.mp e).elim ht hs,aay _ _ _⟩
theorem ray {p q:Tr}(hp:p≠(0,0,0))(h:crs p q=(0,0,0)):∃ s t:Int,s≠0/\sc s q=sc t p:=by
 obtain ⟨a,b,c⟩:=p;obtain ⟨x,y,z⟩:=q;have h1:b*z - c*y=0:=congrArg (·.1) h;have h2:c*x - a*z=0:=congrArg (·.2.1) h;have h3:a*y - b*x=0:=congrArg (·.2.2) h;by_cases ha:a=0
 ·by_cases hb:b=0
  ·by_cases hc:c=0
   ·exact absurd (by rw [ha,hb,hc]) hp
   ·refine ⟨c,z,hc,?_⟩;simp only [sc];refine Jm ?_ (Jm ?_ ?_) <;> simp only <;> grind
  ·refine ⟨b,y,hb,?_⟩;simp only [sc];refine Jm ?_ (Jm ?_ ?_) <;> simp only <;> grind
 ·refine ⟨a,x,ha,?_⟩;simp only [sc];refine Jm ?_ (Jm ?_ ?_) <;> simp only <;> grind
theorem sO {p q:Tr}(hp:Pl p)(hq:Pl q)(h:crs p q=(0,0,0)):p=q:=by
 obtain ⟨s,t,hs,e⟩:=ray hp.ne h;have ht:t≠0:=by
  rintro rfl;have:sc s q=(0,0,0):=by rw [e];simp [sc]
  exact hq.ne<|(jw hs).mp this
 exact zN (u:=sc t p) hp hq ⟨t,ht,rfl⟩ ⟨s,hs,e.symm⟩
theorem gG {p q:Tr}(hp:Pl p)(hq:Pl q)(h:p≠q):crs p q≠(0,0,0):=fun e=>h (sO hp hq e)
theorem flat {n p q r:Tr}(hn:n≠(0,0,0))(hp:dt3 n p=0)(hq:dt3 n q=0)(hr:dt3 n r=0):dt3 (crs p q) r=0:=by
 obtain ⟨n1,n2,n3⟩:=n;obtain ⟨p1,p2,p3⟩:=p;obtain ⟨q1,q2,q3⟩:=q;obtain ⟨r1,r2,r3⟩:=r;simp only [dt3,crs] at *;generalize hd:(p2*q3 - p3*q2)*r1+(p3*q1 - p1*q3)*r2+(p1*q2 - p2*q1)*r3=d;have e1:n1*d=0:=by grind
 have e2:n2*d=0:=by grind
 have e3:n3*d=0:=by grind
 by_cases h:d=0
 ·exact h
 ·have f:∀ x:Int,x*d=0->x=0:=fun x e=>by
   rcases Ja.mp e with e | e
   ·exact e
   ·exact absurd e h
  exact absurd (by rw [f _ e1,f _ e2,f _ e3]) hn
theorem bH (p q:Tr):dt3 p q=dt3 q p:=by simp only [dt3,Int.mul_comm]
theorem qJ (k:Int)(p q:Tr):dt3 (sc k p) q=dt3 p q*k:=by simp only [dt3,sc];grind
theorem fB (k:Int)(p q:Tr):dt3 p (sc k q)=dt3 p q*k:=by simp only [dt3,sc];grind
theorem Gg {u t n:Tr}(h:Ej u t):dt3 n u=0↔dt3 n t=0:=by
 obtain ⟨k,hk,rfl⟩:=h;rw [fB,bU hk]
theorem DP (k l:Int)(p q:Tr):crs (sc k p) (sc l q)=sc (k*l) (crs p q):=by
 simp only [crs,sc];refine Jm ?_ (Jm ?_ ?_) <;> simp only <;> grind
theorem Bf (a:Tr):crs a a=(0,0,0):=by
 simp only [crs];refine Jm ?_ (Jm ?_ ?_) <;> simp only <;> grind
theorem kJ (p q:Tr):dt3 (crs p q) p=0:=by simp only [dt3,crs];grind
theorem tB (p q:Tr):dt3 (crs p q) q=0:=by simp only [dt3,crs];grind
theorem c7 {m:Nat}{p q:Tr}(hp:CN m p)(hq:CN m q):CN (m+m+1) (crs p q):=
 ⟨(hp.2.1.mul hq.2.2).sub (hp.2.2.mul hq.2.1) |>.mono (by lia),(hp.2.2.mul hq.1).sub (hp.1.mul hq.2.2) |>.mono (by lia),(hp.1.mul hq.2.1).sub (hp.2.1.mul hq.1) |>.mono (by lia)⟩
theorem vH (p q:Tr):Cq (tw p) (tw q)=decide (p=q):=by
 obtain ⟨a,b,c⟩:=p;obtain ⟨x,y,z⟩:=q;unfold tw;rw [Cq,jG,jG,jG,jG,bB,bB,bB];by_cases ha:a=x <;> by_cases hb:b=y <;> by_cases hc:c=z <;> simp [ha,hb,hc]
theorem aar (a b c:Int):Cq (.lst [.int a,.int b,.int c]) (.lst [.int 0,.int 0,.int 0])=decide (a=0/\b=0/\c=0):=by
 rw [Cq,jG,jG,jG,jG,bB,bB,bB];by_cases ha:a=0 <;> by_cases hb:b=0 <;> by_cases hc:c=0 <;> simp [ha,hb,hc]
def wI (c0:BK):Prop:=∀ {h:Gh} {p q:Tr} {m:Nat} {Q:WK} {E:CK},m<=10000->CN m p->CN m q->Q (tw (crs p q)) h->c0 [tw p,tw q] h Q E
def wN (c0:BK):Prop:=∀ {h:Gh} {p q:Tr} {m:Nat} {Q:WK} {E:CK},m<=10000->CN m p->CN m q->Q (.int (dt3 p q)) h->c0 [tw p,tw q] h Q E
theorem zbd {h:Gh}{n:Nat}{ws:List W}(e:h.c n=Dn (.lst ws)):dW h (.loc n)=Dn ws:=by simp only [dW,e]
theorem rH:wI wZ:=by
 intro h p q m Q E hm hp hq k;obtain ⟨a,b,c⟩:=p;obtain ⟨x,y,z⟩:=q;obtain ⟨ha,hb,hc⟩:=hp;obtain ⟨hx,hy,hz⟩:=hq;simp only at ha hb hc hx hy hz
 ((conv=>whnf);repeat (refine And.intro (by exact fC.of (by trivial) (by trivial) (by lia) (by lia)) ?_;conv=>whnf))
 exact k
theorem Je:wN GQ:=by
 intro h p q m Q E hm hp hq k;obtain ⟨a,b,c⟩:=p;obtain ⟨x,y,z⟩:=q;obtain ⟨ha,hb,hc⟩:=hp;obtain ⟨hx,hy,hz⟩:=hq;simp only at ha hb hc hx hy hz
 ((conv=>whnf);repeat (refine And.intro (by exact fC.of (by trivial) (by trivial) (by lia) (by lia)) ?_;conv=>whnf))
 exact k
def JoinOk (c0:BK):Prop:=∀ {h:Gh} {p q:Tr} {m:Nat} {Q:WK} {E:CK},m<=3900->CN m p->CN m q->Pl p->Pl q->p≠q->(∀ t:Tr,Pl t->Ej (crs p q) t->CN (m+m+1) t->Q (tw t) h)->c0 [tw p,tw q] h Q E
theorem yZ {pl cr:BK}(hpl:Fy pl)(hcr:wI cr):JoinOk (gk pl cr):=by
 intro h p q m Q E hm sp sq pp pq hne k;show br (Cq (tw p) (tw q)) _ _;rw [vH];refine dj (decide_eq_false hne) ?_;show cr [tw p,tw q] h _ _;refine hcr (m:=m) (by lia) sp sq ?_;show pl [tw (crs p q)] h _ _;exact hpl.tr (u:=crs p q) (m:=m+m+1) (.inl rfl) (gG pp pq hne) (c7 sp sq) (by lia) k
theorem YS {pc:BK}(hpc:JoinOk pc):JoinOk (M5 pc):=by
 intro h p q m Q E hm sp sq pp pq hne k;show pc [tw p,tw q] h _ _;exact hpc hm sp sq pp pq hne k
def Ef (c0:BK):Prop:=∀ {h:Gh} {p q:Tr} {m:Nat} {Q:WK} {E:CK},m<=10000->CN m p->CN m q->Q (.bl (decide (dt3 p q=0))) h->c0 [tw p,tw q] h Q E
theorem Oo {dt:BK}(hdt:wN dt):Ef (vZ dt):=by
 intro h p q m Q E hm hp hq k;show dt [tw p,tw q] h _ _;refine hdt hm hp hq ?_;show Q (.bl (Cq (.int (dt3 p q)) (.int 0))) h;rw [bB];by_cases e:dt3 p q=0
 ·rw [decide_eq_true e] at k;rw [e];exact k
 ·rw [decide_eq_false e] at k;rw [show (dt3 p q==0)=false by simpa using e];exact k
def AllP (ts:List Tr):Prop:=∀ p∈ts,∀ q∈ts,∀ r∈ts,dt3 (crs q r) p=0
def Z3 (ts:List Tr)(a b c:Nat):Prop:=∀ p q r,ts[a]?=Dn p->ts[b]?=Dn q->ts[c]?=Dn r->dt3 (crs q r) p=0
open Classical in
noncomputable def eV (ts:List Tr):Bool:=decide (AllP ts)
open Classical in
theorem lC {ts:List Tr}(h:AllP ts):eV ts=true:=by unfold eV;exact decide_eq_true h
open Classical in
theorem uc {ts:List Tr}(h:¬ AllP ts):eV ts=false:=by unfold eV;exact decide_eq_false h
theorem oF (p q r:Tr):dt3 (crs q r) p=dt3 (crs r p) q:=by simp only [dt3,crs];grind
theorem aeJ (p q r:Tr):dt3 (crs q r) p = - dt3 (crs r q) p:=by simp only [dt3,crs];grind
theorem jP (p q:Tr):dt3 (crs q q) p=0:=by simp only [dt3,crs];grind
theorem mU {ts:List Tr}(H:∀ k j i,k<j->j<i->Z3 ts k j i):AllP ts:=by
 intro p hp q hq r hr;obtain ⟨a,ea⟩:=List.getElem?_of_mem hp;obtain ⟨b,eb⟩:=List.getElem?_of_mem hq;obtain ⟨c,ec⟩:=List.getElem?_of_mem hr;have rot:∀ {p q r:Tr},dt3 (crs q r) p=0->dt3 (crs r p) q=0:=fun {p q r} h=>by rw [<-oF];exact h
 have sw:∀ {p q r:Tr},dt3 (crs q r) p=0->dt3 (crs r q) p=0:=fun {p q r} h=>by rw [aeJ,h];rfl
 have ab:a=b->p=q:=fun e=>by subst e;rw [ea] at eb;exact Fj eb
 have bc:b=c->q=r:=fun e=>by subst e;rw [eb] at ec;exact Fj ec
 have ac:a=c->p=r:=fun e=>by subst e;rw [ea] at ec;exact Fj ec
 by_cases h1:a=b
 ·rw [ab h1];exact rot (jP r q)
 by_cases h2:b=c
 ·rw [bc h2];exact jP p r
 by_cases h3:a=c
 ·rw [ac h3];exact rot (rot (jP q r))
 by_cases l1:a<b
 ·by_cases l2:b<c
  ·exact H a b c l1 l2 _ _ _ ea eb ec
  ·by_cases l3:a<c
   ·exact sw<|H a c b l3 (by lia) _ _ _ ea ec eb
   ·exact rot<|H c a b (by lia) l1 _ _ _ ec ea eb
 ·by_cases l2:b<c
  ·by_cases l3:a<c
   ·exact sw<|rot<|H b a c (by lia) l3 _ _ _ eb ea ec
   ·exact rot<|rot<|H b c a l2 (by lia) _ _ _ eb ec ea
  ·exact sw<|rot<|rot<|H c b a (by lia) (by lia) _ _ _ ec eb ea
theorem agE (ts:List Tr)(h:ts.length<=2):AllP ts:=by
 refine mU fun k j i h1 h2 p q r _ _ e=>?_;have:=(K8.mp e).1
 lia
theorem zaQ {ts:List Tr}{t0 u:Tr}(h0:t0∈ts)(hu:u∈ts)(hne:u≠t0)(hp:∀ t∈ts,Pl t):(∀ t∈ts,t≠t0->dt3 (crs t0 u) t=0)↔AllP ts:=by
 refine ⟨fun H=>?_,fun H t ht _=>H t ht t0 h0 u hu⟩;have hn:=gG (hp _ h0) (hp _ hu) (Eu hne);have H':∀ t∈ts,dt3 (crs t0 u) t=0:=fun t ht=>by
  by_cases e:t=t0
  ·subst e;rw [oF,oF];exact jP _ _
  ·exact H t ht e
 intro p hp q hq r hr;exact flat hn (H' q hq) (H' r hr)<|H' p hp
theorem zbw {ts:List Tr}{t0:Tr}(H:∀ t∈ts,t=t0):AllP ts:=by
 intro p hp q hq r hr;rw [H q hq,H r hr];exact jP _ _
theorem zM {ts:List Tr}{i:Nat}{w:W}(e:(ts.map tw)[i]?=Dn w):∃ t,ts[i]?=Dn t/\w=tw t:=by
 rw [Ir] at e;cases q:ts[i]? with
 | none=>rw [q] at e;cases e
 | some n=>rw [q] at e;exact ⟨n,rfl,(Fj e).symm⟩
theorem NK:∀ ts:List Tr,jG (ts.map tw) (ts.map tw)=true
 | []=>rfl
 | t::ts=>by rw [K7,jG,NK ts,vH,Bool.and_true,decide_eq_true rfl]
theorem Vy (n:Nat)(t:Tr):Dq (n+1) (tw t)=true:=by cases n <;> rfl
theorem xV:∀ bs:List Bool,Jk (bs.map W.bl)=Dn bs
 | []=>rfl
 | b::bs=>by rw [K7,Jk,xV bs];rfl
theorem Gz {s:Src}{ws:List W}{own:W->Option (List W)}{ix:List Nat}{tt:MT}{te:ME}{σ : Sw}{Q:WK}(I:Nat->List W->Gh->Prop)
  (go:∀ i acc h,I i acc h->∀ P:Prop,P->s.go h P)
  (step:∀ (i:Nat) (w:W) (acc:List W) (h:Gh) (N:List W->Gh->Prop),(∀ acc' h',I (i+1) acc' h'->N acc' h')->ws[i]?=Dn w->I i acc h ->
   ∃ vs,own w=Dn vs/\tt (vs.map Dn++nF ix σ) h fun c h1=>El c (te (vs.map Dn++nF ix σ) h1 fun v h2=>N (acc++[v]) h2) (N acc h1))
  (fin:∀ acc h,I ws.length acc h->Q (.lst acc) h):∀ {acc:List W} {h:Gh},I 0 acc h->lZ s own ix tt te σ Q ws acc h:=by
 induction ws generalizing I with
 | nil=>intro acc h h0;exact go 0 acc h h0 _ (fin acc h h0)
 | cons w ws ih=>
  intro acc h h0;obtain ⟨vs,ev,q⟩:=step 0 w acc h _ (fun acc' h' q=>ih (fun i=>I (i+1)) (fun i=>go (i+1)) (fun i w acc h N hN e hi=>step (i+1) w acc h N hN (by simpa using e) hi) (fun acc h q=>fin acc h q) q) rfl h0;refine go 0 acc h h0 _ ?_;show (match own w with
   | some vs=>_
   | none=>False)
  rw [ev];exact q
theorem abM {own:W->Option (List W)}{i:Nat}{ix:List Nat}{te:ME}{σ : Sw}{h:Gh}{Q:WK}{w:W}{ws:List W}(hv:σ[i]?=Dn (Dn w))(hs:uf h w=Dn ⟨ws,Go⟩)(hz:ws.length<=Dk)(k:lZ ⟨ws,Go⟩ own ix kY te σ Q ws [] h):Er own ix (GF (aq i)) kY te σ h Q:=by
 unfold Er GF aq;rw [hv];dsimp only;rw [hs];exact jc.mk hz k
def wD (h:Gh)(w:W)(ts:List Tr):Prop:=w=.lst (ts.map tw)\/∃ n,w=.loc n/\h.c n=Dn (.lst (ts.map tw))
theorem wD.src {h:Gh}{w:W}{ts:List Tr}(e:wD h w ts):view h w=Dn (ts.map tw)/\∃ s:Src,uf h w=Dn s/\s.ws=ts.map tw/\∀ P:Prop,P->s.go h P:=by
 rcases e with rfl | ⟨n,rfl,e⟩
 ·exact ⟨rfl,_,rfl,rfl,fun _ p=>p⟩
 ·refine ⟨nM e,⟨ts.map tw,Dn (n,ts.map tw)⟩,by simp only [uf,e],rfl,fun P p=>⟨e,p⟩⟩
theorem yh (t0:Tr)(r:List Tr):Ig ((t0::r).map tw) 0=Dn (tw t0):=cu (j:=0) rfl
theorem zaV {h:Gh}{w:W}{t0:Tr}{r:List Tr}{o1 o2:Option W}{Q:WK}(e:wD h w (t0::r))(hl:(t0::r).length<=1000)(q:Q (.lst (((t0::r).filter (·≠t0)).map tw)) h) :
  Er Gk [0] (GF (aq 0)) (bC (AP HW (aq 0) (AP Bw (aq 1) (mC (.int 0))))) (aq 0) [Dn w,o1,o2] h Q:=by
 obtain ⟨ev,s,es,ew,go⟩:=e.src;generalize hts:t0::r=ts at *;have a0:Ig (ts.map tw) 0=Dn (tw t0):=by rw [<-hts];exact yh _ _
 show (match uf h w with
  | some s=>_
  | none=>False)
 rw [es];show jc s.ws.length (lZ s _ _ _ _ _ _ s.ws [] h);rw [ew];refine jc.mk (by rw [Eh];exact GK hl (by decide)) ?_;refine Gz (fun i acc h'=>h'=h/\acc=((ts.take i).filter (·≠t0)).map tw) ?_ ?_ ?_ ⟨rfl,rfl⟩
 ·rintro i acc h' ⟨rfl,_⟩;exact go
 ·rintro i w2 acc h' N hN e2 ⟨rfl,rfl⟩;obtain ⟨t,et,rfl⟩:=zM e2;refine ⟨[tw t],rfl,?_⟩;show (match view h' w with
   | some ws=>(match Ig ws 0 with
    | some w=>_
    | none=>False)
   | none=>False)
  rw [ev];dsimp only;rw [a0];show El (Dq 30 (tw t)&&Dq 30 (tw t0)) (El (!Cq (tw t) (tw t0)) (N (_++[tw t]) h') _) False;rw [Vy 29,Vy 29,vH];show El (!decide (t=t0)) _ _;by_cases h0:t=t0
  ·refine Yx (by simp [h0])<|hN _ _ ⟨rfl,?_⟩
   rw [Kq,et];simp [h0]
  ·refine Km (by simp [h0])<|hN _ _ ⟨rfl,?_⟩
   rw [Kq,et];simp [h0]
 ·rintro acc h' ⟨rfl,rfl⟩;rw [Eh,Kg];exact q
def eY (c0:BK):Prop:=∀ {h:Gh} {w:W} {ts:List Tr} {M:Nat} {Q:WK} {E:CK},wD h w ts->ts.length<=1000->M<=4000->(∀ t∈ts,Pl t/\CN M t)->Q (.bl (eV ts)) h->c0 [w] h Q E
theorem afX {dot cr:BK}(hdot:wN dot)(hcr:wI cr):eY (ou dot cr):=by
 intro h w ts M Q E e hl hM hs q;show Er Gk [0] (GF (aq 0)) (bC (AP HW (aq 0) (AP Bw (aq 1) (mC (.int 0))))) (aq 0) [Dn w,Go,Go] h _;match ts,e,hl,hs,q with
 | [],e,hl,hs,q=>
  obtain ⟨ev,s,es,ew,go⟩:=e.src;rw [lC (agE [] (by decide))] at q;show (match uf h w with
   | some s=>_
   | none=>False)
  rw [es];show jc s.ws.length (lZ s _ _ _ _ _ _ s.ws [] h);rw [ew];show s.go h _;refine go _ ?_;exact qM rfl q
 | t0::r,e,hl,hs,q=>
  refine zaV e hl ?_;generalize hts:t0::r=ts at *;have m0:t0∈ts:=by rw [<-hts];simp
  have hus:∀ t,t∈ts.filter (·≠t0)↔t∈ts/\t≠t0:=fun t=>by rw [Rz];simp
  have hlu:(ts.filter (·≠t0)).length<=ts.length:=List.length_filter_le ..;generalize ts.filter (·≠t0)=us at hus hlu;match us,hus,hlu with
  | [],hus,_=>
   rw [lC (zbw (t0:=t0) fun t ht=>by
    by_cases e:t=t0
    ·exact e
    ·exact absurd ((hus t).mpr ⟨ht,e⟩) (by simp))] at q
   exact qM rfl q
  | u::us,hus,hlu=>
   have hu:=(hus u).mp (by simp);refine dj rfl ?_;obtain ⟨ev,s,es,ew,go⟩:=e.src;show (match view h w with
    | some ws=>(match Ig ws 0 with
     | some w=>_
     | none=>False)
    | none=>False)
   rw [ev];dsimp only;rw [show Ig (ts.map tw) 0=Dn (tw t0) by rw [<-hts];exact yh _ _];show (match Ig ((u::us).map tw) 0 with
    | some w=>_
    | none=>False)
   rw [yh];show cr [tw t0,tw u] h _ _;refine hcr (m:=M) (by lia) (hs _ m0).2 (hs _ hu.1).2 ?_;have sc:=c7 (hs _ m0).2 (hs _ hu.1).2;have it:=zaQ (u:=u) m0 hu.1 hu.2 fun t ht=>(hs t ht).1
   generalize crs t0 u=n at sc it;generalize hvs:u::us=vs at *;show Er Gk [2] (GF (aq 1)) kY (AP Ez (aG dot E (aj (aq 1) (aj (aq 0) aJ))) (mC (.int 0))) [Dn w,Dn (.lst (vs.map tw)),Dn (tw n)] h _;refine abM (w:=.lst (vs.map tw)) (ws:=vs.map tw) rfl rfl (by rw [Eh];exact GK (GK hlu hl) (by decide)) ?_;refine jU (fun i acc h'=>h'=h/\acc=((vs.take i).map fun t=>dt3 n t==0).map W.bl) ?_ ?_ ⟨rfl,rfl⟩
   ·rintro i w2 acc h' N hN e2 ⟨rfl,rfl⟩;obtain ⟨t,et,rfl⟩:=zM e2;have mt:=(hus t).mp (Q8 et);refine ⟨[tw t],rfl,?_⟩;show dot [tw n,tw t] h' _ _;refine hdot (m:=M+M+1) (by lia) sc ((hs t mt.1).2.mono (by lia)) ?_;show N (_++[W.bl (Cq (.int (dt3 n t)) (.int 0))]) h';rw [bB];refine hN _ _ ⟨rfl,?_⟩;rw [Kq,et];simp
   ·rintro acc h' ⟨rfl,rfl⟩;rw [Eh,Kg];show (match Jk ((vs.map fun t=>dt3 n t==0).map W.bl) with
     | some bs=>Q (.bl (bs.all id)) h'
     | none=>False)
    rw [xV];have ef:(vs.map fun t=>dt3 n t==0).all id=eV ts:=by
     by_cases H:AllP ts
     ·rw [lC H,QS];intro b hb;obtain ⟨t,ht,rfl⟩:=Mv.mp hb;have:=it.mpr H t ((hus t).mp ht).1 ((hus t).mp ht).2
      simp [this]
     ·rw [uc H];refine Bool.eq_false_iff.mpr fun hb=>H<|it.mp fun t ht hne=>?_
      rw [QS] at hb;have:=hb _ (Mv.mpr ⟨t,(hus t).mpr ⟨ht,hne⟩,rfl⟩)
      simpa using this
    dsimp only;rw [ef];exact q
theorem zaH {sh:BK}(hsh:eY sh):eY (uq sh):=by
 intro h w ts M Q E e hl hM hs q;show sh [w] h _ _;exact hsh e hl hM hs q
theorem za {s:Src}{ws:List W}{g:MG}{b:MS}{D:bA}(I:Nat->Sw->Gh->Prop)(go:∀ i σ h,I i σ h->∀ P:Prop,P->s.go h P)
  (step:∀ (i:Nat) (w:W) (σ : Sw) (h:Gh) (N:Sw->Gh->Prop),(∀ σ' h',I (i+1) σ' h'->N σ' h')->ws[i]?=Dn w->I i σ h->g w σ h fun σ1 h1=>b { D with nx:=N,ct:=N,bk:=D.nx } σ1 h1)
  (fin:∀ σ h,I ws.length σ h->D.nx σ h):∀ {σ : Sw} {h:Gh},I 0 σ h->cT s g b D ws σ h:=by
 induction ws generalizing I with
 | nil=>intro σ h h0;exact go 0 σ h h0 _ (fin σ h h0)
 | cons w ws ih=>
  intro σ h h0;refine go 0 σ h h0 _ ?_;refine step 0 w σ h _ (fun σ' h' q=>?_) rfl h0;exact ih (fun i=>I<|i+1) (fun i=>go<|i+1) (fun i w σ h N hN e hi=>step (i+1) w σ h N hN (by simpa using e) hi) (fun σ h q=>fin σ h q) q
theorem Vq {h:Gh}{n:Nat}{us:List W}{w:W}{Q:WK}(e:h.c n=Dn (.lst us))(hz:us.length<Dk)(k:Q .non (h.set n (.lst (us++[w])))):jq (.loc n) [w] h Q:=by
 show (match h.c n with
  | some (Cell.lst us)=>_
  | _=>False)
 rw [e];exact ⟨hz,k⟩
theorem Yd {h:Gh}{n:Nat}{us zs:List W}{Q:WK}(e:h.c n=Dn (.lst us))(hz:us.length+zs.length<=Dk)(k:Q .non (h.set n (.lst (us++zs)))):gM (.loc n) [.lst zs] h Q:=by
 dsimp only [gM];rw [e];exact jc.mk hz k
theorem Zj {ma:MA}{j:Int}{own:W->Option (List W)}{ix:List Nat}{tt:MT}{te:ME}{σ : Sw}{h:Gh}{Q:WK}(hm:∀ R,ma σ h R=R [.int j] h)(h1:-(2^62)<=j)(h2:j<2^62)(hz:j.toNat<=Dk)(I:Nat->List W->Gh->Prop)
  (step:∀ (i:Nat) (acc:List W) (h:Gh) (N:List W->Gh->Prop),(∀ acc' h',I (i+1) acc' h'->N acc' h')->i<j.toNat->I i acc h ->
   ∃ vs,own (.int (i:Int))=Dn vs/\tt (vs.map Dn++nF ix σ) h fun c h1=>El c (te (vs.map Dn++nF ix σ) h1 fun v h2=>N (acc++[v]) h2) (N acc h1))
  (fin:∀ acc h,I j.toNat acc h->Q (.lst acc) h) (h0:I 0 [] h):Er own ix (jE ma) tt te σ h Q:=by
 unfold Er jE;rw [hm];refine wB.mk h1 h2<|jc.mk (by rw [Al];exact hz) ?_
 refine jU I (fun i w acc h N hN e hi=>?_) (fun acc h q=>fin acc h (by rw [Al] at q;exact q)) h0;obtain ⟨hlt,rfl⟩:=afF e;rw [Int.zero_add];exact step i acc h N hN hlt hi
abbrev Mt:=Tr×Tr×Tr
def vm (M:Mt)(v:Tr):Tr:=(dt3 M.1 v,dt3 M.2.1 v,dt3 M.2.2 v)
def tr (M:Mt):Mt:=((M.1.1,M.2.1.1,M.2.2.1),(M.1.2.1,M.2.1.2.1,M.2.2.2.1),(M.1.2.2,M.2.1.2.2,M.2.2.2.2))
def mm (M N:Mt):Mt:=(vm (tr N) M.1,vm (tr N) M.2.1,vm (tr N) M.2.2)
def KC (M:Mt):Mt:=(crs M.2.1 M.2.2,crs M.2.2 M.1,crs M.1 M.2.1)
def adj (M:Mt):Mt:=tr (KC M)
def det (M:Mt):Int:=dt3 (crs M.1 M.2.1) M.2.2
def sM (k:Int)(M:Mt):Mt:=(sc k M.1,sc k M.2.1,sc k M.2.2)
def idM:Mt:=((1,0,0),(0,1,0),(0,0,1))
theorem Ly {p q:Tr}(h1:p.1=q.1)(h2:p.2.1=q.2.1)(h3:p.2.2=q.2.2):p=q:=Jm h1 (Jm h2 h3)
theorem mt3 {M N:Mt}(h1:M.1=N.1)(h2:M.2.1=N.2.1)(h3:M.2.2=N.2.2):M=N:=Jm h1 (Jm h2 h3)
theorem uy (x:Tr)(N:Mt)(v:Tr):dt3 (vm (tr N) x) v=dt3 x (vm N v):=by
 simp only [dt3,vm,tr];grind
theorem QD (M N:Mt)(v:Tr):vm (mm M N) v=vm M (vm N v):=by
 simp only [mm];exact Ly (uy _ _ _) (uy _ _ _)<|uy _ _ _
theorem v8 (M:Mt)(k:Int)(v:Tr):vm M (sc k v)=sc k (vm M v):=Ly (fB _ _ _) (fB _ _ _) (fB _ _ _)
theorem Ry (M:Mt)(k:Int)(v:Tr):vm (sM k M) v=sc k (vm M v):=Ly (qJ _ _ _) (qJ _ _ _) (qJ _ _ _)
theorem Rj (v:Tr):vm idM v=v:=by
 obtain ⟨a,b,c⟩:=v;simp [vm,idM,dt3]
theorem agD (M:Mt):mm M (adj M)=sM (det M) idM:=by
 obtain ⟨⟨a,b,c⟩,⟨d,e,f⟩,⟨g,h,i⟩⟩:=M;simp only [mm,vm,adj,tr,KC,det,sM,idM,sc,dt3,crs];refine mt3 (Ly ?_ ?_ ?_) (Ly ?_ ?_ ?_) (Ly ?_ ?_ ?_) <;> simp only <;> grind
theorem Il (M:Mt):mm (adj M) M=sM (det M) idM:=by
 obtain ⟨⟨a,b,c⟩,⟨d,e,f⟩,⟨g,h,i⟩⟩:=M;simp only [mm,vm,adj,tr,KC,det,sM,idM,sc,dt3,crs];refine mt3 (Ly ?_ ?_ ?_) (Ly ?_ ?_ ?_) (Ly ?_ ?_ ?_) <;> simp only <;> grind
theorem Ek (M:Mt)(p q:Tr):crs (vm M p) (vm M q)=vm (KC M) (crs p q):=by
 obtain ⟨⟨a,b,c⟩,⟨d,e,f⟩,⟨g,h,i⟩⟩:=M;obtain ⟨p1,p2,p3⟩:=p;obtain ⟨q1,q2,q3⟩:=q;simp only [vm,KC,dt3,crs];refine Ly ?_ ?_ ?_ <;> simp only <;> grind
theorem agp (M:Mt)(x v:Tr):dt3 (vm (KC M) x) (vm M v)=det M*dt3 x v:=by
 show dt3 (vm (tr (adj M)) x) (vm M v)=_;rw [uy,<-QD,Il,Ry,Rj,fB,Int.mul_comm]
theorem Ij (M:Mt)(p q r:Tr):dt3 (crs (vm M p) (vm M q)) (vm M r)=det M*dt3 (crs p q) r:=by rw [Ek,agp]
theorem Xo (M:Mt):det (tr M)=det M:=by
 obtain ⟨⟨a,b,c⟩,⟨d,e,f⟩,⟨g,h,i⟩⟩:=M;simp only [det,tr,dt3,crs];grind
theorem Xf (M N:Mt):det (mm M N)=det M*det N:=by
 show dt3 (crs (vm (tr N) M.1) (vm (tr N) M.2.1)) (vm (tr N) M.2.2)=_;rw [Ij,Xo,Int.mul_comm];rfl
theorem Ny (k:Int)(M:Mt):det (sM k M)=det M*(k*k*k):=by
 simp only [det,sM];rw [DP,qJ,fB];grind
theorem adL {k:Int}{M:Mt}(hk:k≠0):det (sM k M)≠0↔det M≠0:=by
 rw [Ny];have:k*k*k≠0:=fun h=>(Ja.mp h).elim (fun h=>(Ja.mp h).elim hk hk) hk
 rw [ne_eq,bU this]
theorem agj:det idM=1:=by decide
theorem sG {M:Mt}(h:det M≠0):det (adj M)≠0:=by
 have e:=Xf M (adj M);rw [agD,Ny,agj] at e;intro z;rw [z,Int.mul_zero,Int.one_mul] at e;exact (Ja.mp e).elim (fun e=>(Ja.mp e).elim h h) h
theorem uJ {M:Mt}{v:Tr}(h:det M≠0)(hv:v≠(0,0,0)):vm M v≠(0,0,0):=by
 intro e;have e2:vm (adj M) (vm M v)=(0,0,0):=by rw [e];simp [vm,dt3]
 rw [<-QD,Il,Ry,Rj] at e2;exact hv<|(jw h).mp e2
def ml (M:Mt):List Int:=tl M.1++(tl M.2.1++tl M.2.2)
def mw (M:Mt):W:=.tup [.int M.1.1,.int M.1.2.1,.int M.1.2.2,.int M.2.1.1,.int M.2.1.2.1,.int M.2.1.2.2,.int M.2.2.1,.int M.2.2.2.1,.int M.2.2.2.2]
def mwl (M:Mt):W:=.lst [.int M.1.1,.int M.1.2.1,.int M.1.2.2,.int M.2.1.1,.int M.2.1.2.1,.int M.2.1.2.2,.int M.2.2.1,.int M.2.2.2.1,.int M.2.2.2.2]
def Mq (m:Nat)(M:Mt):Prop:=CN m M.1/\CN m M.2.1/\CN m M.2.2
theorem Mq.mono {m n:Nat}{M:Mt}(h:Mq m M)(e:m<=n):Mq n M:=⟨h.1.mono e,h.2.1.mono e,h.2.2.mono e⟩
theorem jH {m n:Nat}{p q:Tr}(hp:CN m p)(hq:CN n q):Sm (m+n+2) (dt3 p q):=
 ((hp.1.mul hq.1).add (hp.2.1.mul hq.2.1)).add (hp.2.2.mul hq.2.2) |>.mono (by lia)
theorem Bt {m n:Nat}{M:Mt}{v:Tr}(h:Mq m M)(hv:CN n v):CN (m+n+2) (vm M v):=⟨jH h.1 hv,jH h.2.1 hv,jH h.2.2 hv⟩
theorem Bb {m:Nat}{M:Mt}(h:Mq m M):Mq (m+m+1) (KC M):=⟨c7 h.2.1 h.2.2,c7 h.2.2 h.1,c7 h.1 h.2.1⟩
def sH (h:Gh)(w:W)(ns:List Int):Prop:=w=.lst (ns.map .int)\/w=.tup (ns.map .int)\/∃ n,w=.loc n/\h.c n=Dn (.lst (ns.map .int))
theorem sH.src {h:Gh}{w:W}{ns:List Int}(e:sH h w ns):∃ s:Src,uf h w=Dn s/\s.ws=ns.map .int/\∀ h',sH h' w ns->∀ P:Prop,P->s.go h' P:=by
 rcases e with rfl | rfl | ⟨n,rfl,e⟩
 ·exact ⟨_,rfl,rfl,fun _ _ _ p=>p⟩
 ·exact ⟨_,rfl,rfl,fun _ _ _ p=>p⟩
 ·refine ⟨⟨ns.map .int,Dn (n,ns.map .int)⟩,by simp only [uf,e],rfl,fun h' e' P p=>⟨?_,p⟩⟩;rcases e' with e' | e' | ⟨m,e',q⟩
  ·cases e'
  ·cases e'
  ·cases e';exact q
theorem adO {i:Nat}{g:MG}{b:MS}{D:bA}{σ : Sw}{h:Gh}{w:W}{ns:List Int}(hv:σ[i]?=Dn (Dn w))(e:sH h w ns)(I:Nat->Sw->Gh->Prop)
  (go:∀ i σ h',I i σ h'->sH h' w ns)
  (step:∀ (i:Nat) (t:Int) (σ : Sw) (h:Gh) (N:Sw->Gh->Prop),(∀ σ' h',I (i+1) σ' h'->N σ' h')->ns[i]?=Dn t->I i σ h->g (.int t) σ h fun σ1 h1=>b { D with nx:=N,ct:=N,bk:=D.nx } σ1 h1)
  (fin:∀ σ h,I ns.length σ h->D.nx σ h) (h0:I 0 σ h):qX (GF (aq i)) g b D σ h:=by
 unfold qX GF aq;rw [hv];dsimp only;obtain ⟨s,es,ew,hg⟩:=e.src;rw [es];show cT s g b D s.ws σ h;rw [ew];refine za I (fun i σ h' hi=>hg h'<|go i σ h' hi) (fun i w σ h N hN e hi=>?_) (fun σ h q=>fin σ h<|by rwa [Eh] at q) h0;obtain ⟨t,et,rfl⟩:=ints_get e;exact step i t σ h N hN et hi
theorem JF {i:Nat}{ix:List Nat}{tt:MT}{te:ME}{σ : Sw}{h:Gh}{Q:WK}{w:W}{ns:List Int}(hv:σ[i]?=Dn (Dn w))(e:sH h w ns)(hz:ns.length<=Dk)(I:Nat->List W->Gh->Prop)
  (go:∀ i acc h',I i acc h'->sH h' w ns)
  (step:∀ (i:Nat) (t:Int) (acc:List W) (h:Gh) (N:List W->Gh->Prop),(∀ acc' h',I (i+1) acc' h'->N acc' h')->ns[i]?=Dn t->I i acc h ->
   tt (Dn (.int t)::nF ix σ) h fun c h1=>El c (te (Dn (.int t)::nF ix σ) h1 fun v h2=>N (acc++[v]) h2) (N acc h1))
  (fin:∀ acc h,I ns.length acc h->Q (.lst acc) h) (h0:I 0 [] h):Er Gk ix (GF (aq i)) tt te σ h Q:=by
 unfold Er GF aq;rw [hv];dsimp only;obtain ⟨s,es,ew,hg⟩:=e.src;rw [es];show jc s.ws.length (lZ s Gk ix tt te σ Q s.ws [] h);rw [ew];refine jc.mk (by rw [Eh];exact hz) ?_;refine Gz I (fun i acc h' hi=>hg h'<|go i acc h' hi) (fun i w acc h N hN e hi=>?_) (fun acc h q=>fin acc h<|by rwa [Eh] at q) h0;obtain ⟨t,et,rfl⟩:=ints_get e;exact ⟨[.int t],rfl,step i t acc h N hN et hi⟩
def zy (c:BK):Prop:=∀ {h:Gh} {w:W} {ns:List Int} {Q:WK} {E:CK},sH h w ns->Q (.int (gL ns)) h->c [w] h Q E
def ZV (c0:BK):Prop:=∀ {h:Gh} {w:W} {ns:List Int} {m:Nat} {Q:WK} {E:CK},sH h w ns->NZ ns->(∀ n∈ns,Sm m n)->m<=8000->ns.length<=1000 ->
 (∀ (ms:List Int) (k:Int),k≠0->ns=ms.map (· * k)->Jz ms->(∀ n∈ms,Sm m n)->Q (.tup (ms.map .int)) h)->c0 [w] h Q E
def lw (t:Tr):W:=.lst [.int t.1,.int t.2.1,.int t.2.2]
def J9 (b:Bool)(t:Tr):W:=if b then tw t else lw t
def MwB (b:Bool)(M:Mt):W:=if b then mw M else mwl M
def abb (c0:BK):Prop:=∀ {h:Gh} {p q:Tr} {m:Nat} {Q:WK} {E:CK} (b b':Bool),m<=10000->CN m p->CN m q->Q (tw (crs p q)) h->c0 [J9 b p,J9 b' q] h Q E
def acB (c0:BK):Prop:=∀ {h:Gh} {p q:Tr} {m:Nat} {Q:WK} {E:CK} (b b':Bool),m<=10000->CN m p->CN m q->Q (.int (dt3 p q)) h->c0 [J9 b p,J9 b' q] h Q E
theorem Ak:abb wZ:=by
 intro h p q m Q E b b' hm hp hq k;obtain ⟨x,y,z⟩:=q;obtain ⟨a,b2,c⟩:=p;obtain ⟨ha,hb,hc⟩:=hp;obtain ⟨hx,hy,hz⟩:=hq;simp only at ha hb hc hx hy hz;cases b <;> cases b'
 ·((conv=>whnf);repeat (refine And.intro (by exact fC.of (by trivial) (by trivial) (by lia) (by lia)) ?_;conv=>whnf))
  exact k
 ·((conv=>whnf);repeat (refine And.intro (by exact fC.of (by trivial) (by trivial) (by lia) (by lia)) ?_;conv=>whnf))
  exact k
 ·((conv=>whnf);repeat (refine And.intro (by exact fC.of (by trivial) (by trivial) (by lia) (by lia)) ?_;conv=>whnf))
  exact k
 ·((conv=>whnf);repeat (refine And.intro (by exact fC.of (by trivial) (by trivial) (by lia) (by lia)) ?_;conv=>whnf))
  exact k
theorem YK:acB GQ:=by
 intro h p q m Q E b b' hm hp hq k;obtain ⟨x,y,z⟩:=q;obtain ⟨a,b2,c⟩:=p;obtain ⟨ha,hb,hc⟩:=hp;obtain ⟨hx,hy,hz⟩:=hq;simp only at ha hb hc hx hy hz;cases b <;> cases b'
 ·((conv=>whnf);repeat (refine And.intro (by exact fC.of (by trivial) (by trivial) (by lia) (by lia)) ?_;conv=>whnf))
  exact k
 ·((conv=>whnf);repeat (refine And.intro (by exact fC.of (by trivial) (by trivial) (by lia) (by lia)) ?_;conv=>whnf))
  exact k
 ·((conv=>whnf);repeat (refine And.intro (by exact fC.of (by trivial) (by trivial) (by lia) (by lia)) ?_;conv=>whnf))
  exact k
 ·((conv=>whnf);repeat (refine And.intro (by exact fC.of (by trivial) (by trivial) (by lia) (by lia)) ?_;conv=>whnf))
  exact k
def zK (c0:BK):Prop:=∀ {h:Gh} {M:Mt} {Q:WK} {E:CK} (b:Bool),Q (.lst [J9 b M.1,J9 b M.2.1,J9 b M.2.2]) h->c0 [MwB b M] h Q E
theorem Ey:zK vG:=by
  intro h M Q E b k;cases b
  . exact k
  . first
    | exact k
    | (refine And.intro (by decide:¬ ((0:Nat)=0/\(3:Nat)=9)) (And.intro (by decide:¬ ((3:Nat)=0/\(6:Nat)=9)) (And.intro (by decide:¬ ((6:Nat)=0/\(9:Nat)=9)) ?_))
       exact k)
def nA (c0:BK):Prop:=∀ {h:Gh} {M:Mt} {m:Nat} {Q:WK} {E:CK} (b:Bool),m<=10000->Mq m M->Q (mw (KC M)) h->c0 [MwB b M] h Q E
theorem zbx {cr ro:BK}(hcr:abb cr)(hro:zK ro):nA (zR cr ro):=by
 intro h M m Q E b hm hs k;show ro [MwB b M] h _ _;refine hro b ?_;show cr [J9 b M.2.1,J9 b M.2.2] h _ _;refine hcr b b hm hs.2.1 hs.2.2 ?_;show cr [J9 b M.2.2,J9 b M.1] h _ _;refine hcr b b hm hs.2.2 hs.1 ?_;show cr [J9 b M.1,J9 b M.2.1] h _ _;refine hcr b b hm hs.1 hs.2.1 ?_;exact k
def Oc (c0:BK):Prop:=∀ {h:Gh} {M:Mt} {m:Nat} {Q:WK} {E:CK} (b:Bool),m<=4000->Mq m M->Q (.int (det M)) h->c0 [MwB b M] h Q E
def Yn (c0:BK):Prop:=∀ {h:Gh} {p q r:Tr} {m:Nat} {Q:WK} {E:CK} (b:Bool),m<=4000->CN m p->CN m q->CN m r->Q (.int (dt3 (crs p q) r)) h->c0 [J9 b p,J9 b q,J9 b r] h Q E
theorem ahj {dt cr:BK}(hdt:acB dt)(hcr:abb cr):Yn (Oz dt cr):=by
 intro h p q r m Q E b hm hp hq hr k;show cr [J9 b p,J9 b q] h _ _;refine hcr (m:=m) b b (by lia) hp hq ?_;show dt [J9 true (crs p q),J9 b r] h _ _;exact hdt (m:=m+m+1) true b (by lia) (c7 hp hq) (hr.mono<|by lia) k
theorem w_size {tu ro:BK}(htu:Yn tu)(hro:zK ro):Oc (ur tu ro):=by
 intro h M m Q E b hm hs k;show ro [MwB b M] h _ _;refine hro b ?_;show tu [J9 b M.1,J9 b M.2.1,J9 b M.2.2] h _ _;exact htu b hm hs.1 hs.2.1 hs.2.2 k
def tK (Q:Bool->Gh->Prop):WK:=fun w h=>match w with
 | .bl c=>Q c h
 | _=>False
def uK (Q:Bool->Gh->Prop):WK:=fun w h=>match ZP h w with
 | some b=>Q b h
 | none=>False
def aK (b:ME)(σ : Sw)(Q:WK):WK:=fun x h=>match x with
 | .bl true=>b σ h Q
 | .bl false=>Q (.bl false) h
 | _=>False
def oK (b:ME)(σ : Sw)(Q:WK):WK:=fun x h=>match x with
 | .bl false=>b σ h Q
 | .bl true=>Q (.bl true) h
 | _=>False
def nK (Q:WK):WK:=fun x h=>match x with
 | .bl c=>Q (.bl (!c)) h
 | _=>False
def iK (R:Src->Gh->Prop):WK:=fun w h=>match uf h w with
 | some s=>R s h
 | none=>False
def xK (f:Str->Bool)(Q:WK):WK:=fun w h=>match w with
 | .exc n=>Q (.bl (f n)) h
 | .exa n _=>Q (.bl (f n)) h
 | _=>False
def pK (Q:Option Int->Gh->Prop):WK:=fun w h=>match w with
 | .int i=>Q (Dn i) h
 | _=>False
def abY (g:MG)(b:MS)(D:bA)(σ : Sw):Src->Gh->Prop:=fun s h=>cT s g b D s.ws σ h
def lcK (own:W->Option (List W))(ix:List Nat)(tt:MT)(te:ME)(σ : Sw)(Q:WK):Src->Gh->Prop:=fun s h=>jc s.ws.length (lZ s own ix tt te σ Q s.ws [] h)
def rgK (R:Src->Gh->Prop):List W->Gh->Prop:=fun ws h=>match ws with
 | [.int j]=>wB j (R ⟨wC 0 j.toNat,Go⟩ h)
 | _=>False
def zpK (R:Src->Gh->Prop):List W->Gh->Prop:=fun ws h=>match ws with
 | [x,y]=>(match Np h x y with
  | some s=>R s h
  | none=>False)
 | _=>False
theorem bw {m u:MS}{D:bA}{σ : Sw}{h:Gh}(x:m { D with nx:=u D } σ h):aZ m u D σ h:=x
theorem gK {N b c:Sw->Gh->Prop}{r:WK}{σ : Sw}{h:Gh}(x:N σ h):bA.nx ⟨N,r,b,c⟩ σ h:=x
theorem acL {N b c:Sw->Gh->Prop}{r:WK}{σ : Sw}{h:Gh}(x:b σ h):bA.bk ⟨N,r,b,c⟩ σ h:=x
theorem acT {N b c:Sw->Gh->Prop}{r:WK}{σ : Sw}{h:Gh}(x:c σ h):bA.ct ⟨N,r,b,c⟩ σ h:=x
theorem Sd {N b c:Sw->Gh->Prop}{r:WK}{w:W}{h:Gh}(x:r w h):bA.rt ⟨N,r,b,c⟩ w h:=x
theorem afC {D:bA}{w:W}{h:Gh}(x:D.rt w h):bA.rt (bA.lost D) w h:=x
theorem agg {D:bA}{σ : Sw}{h:Gh}(x:D.nx (σ.map fun _=>Go) h):bA.nx (bA.lost D) σ h:=x
theorem zbG {D:bA}{σ : Sw}{h:Gh}(x:D.nx σ h):bG D σ h:=x
theorem agF {D:bA}{σ : Sw}{h:Gh}(x:D.ct σ h):Gx D σ h:=x
theorem cg {m:ME}{g:MG}{D:bA}{σ : Sw}{h:Gh}(x:m σ h fun w h1=>g w σ h1 D.nx):bQ m g D σ h:=x
theorem pD {m:ME}{D:bA}{σ : Sw}{h:Gh}(x:m σ h fun _ h1=>D.nx σ h1):uI m D σ h:=x
theorem mV {m:ME}{D:bA}{σ : Sw}{h:Gh}(x:m σ h D.rt):bI m D σ h:=x
theorem zbg {c:Str}{E:CK}{D:bA}{σ : Sw}{h:Gh}(x:E ⟨c,[]⟩ h):jk c E D σ h:=x
theorem iC {t:MT}{a b:MS}{D:bA}{σ : Sw}{h:Gh}(x:t σ h fun c h1=>br c (a D σ h1) (b D σ h1)):dY t a b D σ h:=x
theorem Wx {t:MT}{a b:ME}{Q:WK}{σ : Sw}{h:Gh}(x:t σ h fun c h1=>br c (a σ h1 Q) (b σ h1 Q)):mIf t a b σ h Q:=x
theorem X8 {i:Nat}{d:Str}{mb:CK->MS}{mh:MS}{D:bA}{σ : Sw}{h:Gh}(x:mb (fun x h'=>El (Gm x.cls d) (mh D.lost (σ.set i (Dn (Ds x))) h') False) D σ h):acI i d mb mh D σ h:=x
theorem Jt {n:Nat}{g:Mf}{w:W}{ws:List W}{σ : Sw}{h:Gh}{N:Sw->Gh->Prop}(e:w=.tup ws)(b:KD ws.length n=true)(x:g ws σ h N):uh n g w σ h N:=by
 subst e;unfold uh;dsimp only;rw [b];exact x
theorem ago {n:Nat}{g:Mf}{w:W}{ws:List W}{σ : Sw}{h:Gh}{N:Sw->Gh->Prop}(e:w=.lst ws)(b:KD ws.length n=true)(x:g ws σ h N):uh n g w σ h N:=by
 subst e;unfold uh;dsimp only;rw [b];exact x
theorem Vx {n:Nat}{g:Mf}{w:W}{ws:List W}{σ : Sw}{h:Gh}{N:Sw->Gh->Prop}(e:w=.tup ws)(b:KD ws.length n=true)(x:g ws σ h N):acu n g w σ h N:=by
 subst e;unfold acu;dsimp only;rw [b];exact x
theorem yd {g:MG}{r:Mf}{w:W}{ws:List W}{σ : Sw}{h:Gh}{N:Sw->Gh->Prop}(x:g w σ h fun σ1 h1=>r ws σ1 h1 N):qy g r (w::ws) σ h N:=x
theorem Nh {σ : Sw}{h:Gh}{N:Sw->Gh->Prop}(x:N σ h):Wf [] σ h N:=x
theorem aD {i:Nat}{w:W}{σ : Sw}{h:Gh}{Q:WK}(e:σ[i]?=Dn (Dn w))(x:Q w h):aq i σ h Q:=by
 unfold aq;rw [e];exact x
theorem cA {w:W}{σ : Sw}{h:Gh}{Q:WK}(x:Q w h):mC w σ h Q:=x
theorem bJ {r:M2}{ma mb:ME}{σ : Sw}{h:Gh}{Q:WK}(x:ma σ h fun a h1=>mb σ h1 fun b h2=>r a b h2 Q):AP r ma mb σ h Q:=x
theorem Z1 {r:W->Gh->WK->Prop}{ma:ME}{σ : Sw}{h:Gh}{Q:WK}(x:ma σ h fun a h1=>r a h1 Q):mUn r ma σ h Q:=x
theorem agq {i:Int}{h:Gh}{Q:WK}(x:Q (.int (-i)) h):U5 (.int i) h Q:=x
theorem au {a:ME}{r:MA}{σ : Sw}{h:Gh}{Q:List W->Gh->Prop}(x:a σ h fun w h1=>r σ h1 fun ws h2=>Q (w::ws) h2):aj a r σ h Q:=x
theorem aM {σ : Sw}{h:Gh}{Q:List W->Gh->Prop}(x:Q [] h):aJ σ h Q:=x
theorem cj {n:Nat}{P:Prop}(e:Nat.ble n 1000=true)(x:P):jc n P:=by
 unfold jc;rw [e];exact x
theorem d9 {t:MA}{σ : Sw}{h:Gh}{Q:WK}(x:t σ h fun ws h1=>jc ws.length (Q (.tup ws) h1)):mJ t σ h Q:=x
theorem vo {t:MA}{σ : Sw}{h:Gh}{Q:WK}(x:t σ h fun ws h1=>jc ws.length (Q (.lst ws) h1)):Ac t σ h Q:=x
theorem bD {c:BK}{E:CK}{ma:MA}{σ : Sw}{h:Gh}{Q:WK}(x:ma σ h fun ws h1=>c ws h1 Q E):aG c E ma σ h Q:=x
theorem iZ {r:MC}{ma:MA}{σ : Sw}{h:Gh}{Q:WK}(x:ma σ h fun ws h1=>r ws h1 Q):Fv r ma σ h Q:=x
theorem cO {m:ME}{σ : Sw}{h:Gh}{Q:Bool->Gh->Prop}(x:m σ h (tK Q)):bC m σ h Q:=x
theorem Dy {c:Bool}{h:Gh}{Q:Bool->Gh->Prop}(x:Q c h):tK Q (.bl c) h:=x
theorem qU {m:ME}{σ : Sw}{h:Gh}{Q:Bool->Gh->Prop}(x:m σ h (uK Q)):yp m σ h Q:=x
theorem UW {w:W}{b:Bool}{h:Gh}{Q:Bool->Gh->Prop}(e:ZP h w=Dn b)(x:Q b h):uK Q w h:=by
 unfold uK;rw [e];exact x
theorem Fb {t:MT}{σ : Sw}{h:Gh}{Q:Bool->Gh->Prop}(x:t σ h fun c h1=>Q (!c) h1):Ol t σ h Q:=x
theorem Ng {t u:MT}{σ : Sw}{h:Gh}{Q:Bool->Gh->Prop}(x:t σ h fun c h1=>br c (u σ h1 Q) (Q false h1)):aaL t u σ h Q:=x
theorem JM {t u:MT}{σ : Sw}{h:Gh}{Q:Bool->Gh->Prop}(x:t σ h fun c h1=>br c (Q true h1) (u σ h1 Q)):mOr t u σ h Q:=x
theorem qQ {σ : Sw}{h:Gh}{Q:Bool->Gh->Prop}(x:Q true h):kY σ h Q:=x
theorem Hu {a b:ME}{σ : Sw}{h:Gh}{Q:WK}(x:a σ h (aK b σ Q)):Uc a b σ h Q:=x
theorem Xz {a b:ME}{σ : Sw}{h:Gh}{Q:WK}(x:a σ h (oK b σ Q)):acV a b σ h Q:=x
theorem aho {a:ME}{σ : Sw}{h:Gh}{Q:WK}(x:a σ h (nK Q)):Sy a σ h Q:=x
theorem acR {b:ME}{σ : Sw}{h:Gh}{Q:WK}{c:Bool}(x:br c (b σ h Q) (Q (.bl false) h)):aK b σ Q (.bl c) h:=by
 cases c with
 | true=>exact x.1 rfl
 | false=>exact x.2 rfl
theorem acE {b:ME}{σ : Sw}{h:Gh}{Q:WK}{c:Bool}(x:br c (Q (.bl true) h) (b σ h Q)):oK b σ Q (.bl c) h:=by
 cases c with
 | true=>exact x.1 rfl
 | false=>exact x.2 rfl
theorem ac4 {h:Gh}{Q:WK}{c:Bool}(x:Q (.bl (!c)) h):nK Q (.bl c) h:=x
theorem Zf {f:Str->Bool}{m:ME}{σ : Sw}{h:Gh}{Q:WK}(x:m σ h (xK f Q)):acJ f m σ h Q:=x
theorem acM {f:Str->Bool}{n:Str}{h:Gh}{Q:WK}(x:Q (.bl (f n)) h):xK f Q (.exc n) h:=x
theorem yC {a b:Prop}(x:a):br true a b:=qM rfl x
theorem nY {a b:Prop}(x:b):br false a b:=dj rfl x
theorem Wr {a b:Prop}(x:b):br (!true) a b:=nY x
theorem Ww {a b:Prop}(x:a):br (!false) a b:=yC x
theorem pI {a b:Prop}(x:a):El true a b:=x
theorem Vs {a b:Prop}(x:b):El false a b:=x
theorem Nt {i j:Int}{h:Gh}{Q:WK}(x:Q (.int (i - j)) h):ux (.int i) (.int j) h Q:=x
theorem lU {i j:Int}{h:Gh}{Q:WK}(x:Q (.int (i+j)) h):bN (.int i) (.int j) h Q:=x
theorem Xb {i j:Int}{h:Gh}{Q:WK}(c:fC i j)(x:Q (.int (i*j)) h):cI (.int i) (.int j) h Q:=⟨c,x⟩
theorem O9 {i j:Int}{h:Gh}{Q:WK}(x:Q (.bl (decide (i<j))) h):kLt (.int i) (.int j) h Q:=x
theorem Wu {i j:Int}{h:Gh}{Q:WK}(x:Q (.bl (decide (i>j))) h):Qn (.int i) (.int j) h Q:=x
theorem YD {i j:Int}{h:Gh}{Q:WK}(x:Q (.bl (decide (i=j))) h):Ez (.int i) (.int j) h Q:=by
 have e:Cq (.int i) (.int j)=decide (i=j):=bB i j;show Q (.bl (Cq (.int i) (.int j))) h;rw [e];exact x
theorem Qd {i j:Int}{h:Gh}{Q:WK}(x:Q (.bl (decide (i≠j))) h):HW (.int i) (.int j) h Q:=by
 have e:(!Cq (.int i) (.int j))=decide (i≠j):=by rw [bB];by_cases z:i=j <;> simp [z]
 show Q (.bl (!Cq (.int i) (.int j))) h;rw [e];exact x
theorem Z6 {i j:Bool}{h:Gh}{Q:WK}(x:Q (.bl (decide (i=j))) h):Ez (.bl i) (.bl j) h Q:=by
 have e:Cq (.bl i) (.bl j)=decide (i=j):=by rw [Cq];cases i <;> cases j <;> rfl
 show Q (.bl (Cq (.bl i) (.bl j))) h;rw [e];exact x
theorem RX {i j:Bool}{h:Gh}{Q:WK}(x:Q (.bl (decide (i≠j))) h):HW (.bl i) (.bl j) h Q:=by
 have e:(!Cq (.bl i) (.bl j))=decide (i≠j):=by rw [Cq];cases i <;> cases j <;> rfl
 show Q (.bl (!Cq (.bl i) (.bl j))) h;rw [e];exact x
theorem TF {p q:Tr}{h:Gh}{Q:WK}(x:Q (.bl (decide (p=q))) h):Ez (tw p) (tw q) h Q:=by
 show Q (.bl (Cq (tw p) (tw q))) h;rw [vH];exact x
theorem YJ {p q:Tr}{h:Gh}{Q:WK}(x:Q (.bl (decide (p≠q))) h):HW (tw p) (tw q) h Q:=by
 have e:(!Cq (tw p) (tw q))=decide (p≠q):=by rw [vH];by_cases z:p=q <;> simp [z]
 show Q (.bl (!Cq (tw p) (tw q))) h;rw [e];exact x
theorem abq {p:Tr}{a b c:Int}{h:Gh}{Q:WK}(x:Q (.bl (decide (p=(a,b,c)))) h):Ez (tw p) (.tup [.int a,.int b,.int c]) h Q:=TF (q:=(a,b,c)) x
theorem aa4 {p:Tr}{a b c:Int}{h:Gh}{Q:WK}(x:Q (.bl (decide (p≠(a,b,c)))) h):HW (tw p) (.tup [.int a,.int b,.int c]) h Q:=YJ (q:=(a,b,c)) x
theorem jd {x w:W}{i:Int}{ws:List W}{h:Gh}{Q:WK}(e:view h x=Dn ws)(a:Ig ws i=Dn w)(k:Q w h):Bw x (.int i) h Q:=by
 unfold Bw;dsimp only;rw [e];dsimp only;rw [a];exact k
theorem Yr {w:W}{T:String}{b:Bool}{h:Gh}{Q:WK}(e:acs h w T=Dn b)(x:Q (.bl b) h):acz [w,.ty T] h Q:=by
 unfold acz;dsimp only;rw [e];exact x
theorem mG {w:W}{xs:List W}{h:Gh}{Q:WK}(e:view h w=Dn xs)(x:Q (.int (xs.length:Int)) h):HF [w] h Q:=by
 unfold HF;dsimp only;rw [e];exact x
theorem zbm {us:List W}{h:Gh}{Q:WK}(x:Q (.tup us) h):uH [.lst us] h Q:=x
theorem Oh {w:W}{us:List W}{bs:List Bool}{h:Gh}{Q:WK}(e:dW h w=Dn us)(b:Jk us=Dn bs)(x:Q (.bl (bs.any id)) h):Ql [w] h Q:=by
 unfold Ql;dsimp only;rw [e];dsimp only;rw [b];exact x
theorem YZ {w:W}{us:List W}{bs:List Bool}{h:Gh}{Q:WK}(e:dW h w=Dn us)(b:Jk us=Dn bs)(x:Q (.bl (bs.all id)) h):Vt [w] h Q:=by
 unfold Vt;dsimp only;rw [e];dsimp only;rw [b];exact x
theorem Xx {w:W}{us:List W}{ns:List Int}{h:Gh}{Q:WK}(e:dW h w=Dn us)(b:Pg us=Dn ns)(x:Q (.int ns.sum) h):acg [w] h Q:=by
 unfold acg;dsimp only;rw [e];dsimp only;rw [b];exact x
theorem YC {i:Int}{h:Gh}{Q:WK}(x:Q (.int (if i<0 then -i else i)) h):JX [.int i] h Q:=x
theorem Wt {b:Bool}{h:Gh}{Q:WK}(x:Q (.int (if b then 1 else 0)) h):ZS [.bl b] h Q:=x
theorem jQ {mi:MI}{g:MG}{b:MS}{D:bA}{σ : Sw}{h:Gh}(x:mi σ h (abY g b D σ)):qX mi g b D σ h:=x
theorem j5 {ws:List W}{o:Option (Nat×List W)}{g:MG}{b:MS}{D:bA}{σ : Sw}{h:Gh}(x:cT ⟨ws,o⟩ g b D ws σ h):abY g b D σ ⟨ws,o⟩ h:=x
theorem agd {ws:List W}{g:MG}{b:MS}{D:bA}{σ : Sw}{h:Gh}(x:D.nx σ h):cT ⟨ws,Go⟩ g b D [] σ h:=x
theorem Hq {ws r:List W}{w:W}{g:MG}{b:MS}{D:bA}{σ : Sw}{h:Gh}(x:g w σ h fun σ1 h1=>b { D with nx:=cT ⟨ws,Go⟩ g b D r,ct:=cT ⟨ws,Go⟩ g b D r,bk:=D.nx } σ1 h1):cT ⟨ws,Go⟩ g b D (w::r) σ h:=x
theorem Jp {m:ME}{R:Src->Gh->Prop}{σ : Sw}{h:Gh}(x:m σ h (iK R)):GF m σ h R:=x
theorem Ss {w:W}{ws:List W}{o:Option (Nat×List W)}{h:Gh}{R:Src->Gh->Prop}(e:uf h w=Dn ⟨ws,o⟩)(x:R ⟨ws,o⟩ h):iK R w h:=by
 unfold iK;rw [e];exact x
theorem iG {ma:MA}{R:Src->Gh->Prop}{σ : Sw}{h:Gh}(x:ma σ h (rgK R)):jE ma σ h R:=x
theorem aak {R:Src->Gh->Prop}{h:Gh}(x:R ⟨[.int 0,.int 1,.int 2],Go⟩ h):rgK R [.int 3] h:=x
theorem aad {R:Src->Gh->Prop}{h:Gh}(x:R ⟨[.int 0,.int 1],Go⟩ h):rgK R [.int 2] h:=x
theorem Xr {ma:MA}{R:Src->Gh->Prop}{σ : Sw}{h:Gh}(x:ma σ h (zpK R)):ZD ma σ h R:=x
theorem aa6 {a b:W}{as bs:List W}{zs:List W}{R:Src->Gh->Prop}{h:Gh}(e:oX a=Dn as)(e':oX b=Dn bs)(z:pN as bs=zs)(x:R ⟨zs,Go⟩ h):zpK R [a,b] h:=by
 subst z;have es:Np h a b=Dn ⟨pN as bs,Go⟩:=by unfold Np;rw [e,e']
 unfold zpK;dsimp only;rw [es];exact x
theorem aac {n:Nat}{b:W}{as bs:List W}{zs:List W}{R:Src->Gh->Prop}{h:Gh}(e:h.c n=Dn (.lst as))(e':oX b=Dn bs)(z:pN as bs=zs)(x:R ⟨zs,Dn (n,as)⟩ h):zpK R [.loc n,b] h:=by
 subst z;have es:Np h (.loc n) b=Dn ⟨pN as bs,Dn (n,as)⟩:=by unfold Np;rw [e'];dsimp only [oX];rw [e]
 unfold zpK;dsimp only;rw [es];exact x
theorem ab1 {bs:List W}:pN [] bs=[]:=by cases bs <;> rfl
theorem abZ {a:W}{as:List W}:pN (a::as) []=[]:=rfl
theorem aa0 {a b:W}{as bs l:List W}(e:pN as bs=l):pN (a::as) (b::bs)=.tup [a,b]::l:=by rw [pN,e]
theorem Cw {own:W->Option (List W)}{ix:List Nat}{mi:MI}{tt:MT}{te:ME}{σ : Sw}{h:Gh}{Q:WK}(x:mi σ h (lcK own ix tt te σ Q)):Er own ix mi tt te σ h Q:=x
theorem MJ {ws:List W}{o:Option (Nat×List W)}{own:W->Option (List W)}{ix:List Nat}{tt:MT}{te:ME}{σ : Sw}{h:Gh}{Q:WK}(e:Nat.ble ws.length 1000=true)(x:lZ ⟨ws,o⟩ own ix tt te σ Q ws [] h):lcK own ix tt te σ Q ⟨ws,o⟩ h:=cj e x
theorem ahx {ws acc:List W}{own:W->Option (List W)}{ix:List Nat}{tt:MT}{te:ME}{σ : Sw}{h:Gh}{Q:WK}(x:Q (.lst acc) h):lZ ⟨ws,Go⟩ own ix tt te σ Q [] acc h:=x
theorem Zt {ws r acc vs:List W}{w:W}{own:W->Option (List W)}{ix:List Nat}{tt:MT}{te:ME}{σ : Sw}{h:Gh}{Q:WK}(e:own w=Dn vs)(x:tt (vs.map Dn++nF ix σ) h fun c h1=>El c (te (vs.map Dn++nF ix σ) h1 fun v h2=>lZ ⟨ws,Go⟩ own ix tt te σ Q r (acc++[v]) h2) (lZ ⟨ws,Go⟩ own ix tt te σ Q r acc h1)):lZ ⟨ws,Go⟩ own ix tt te σ Q (w::r) acc h:=by
 unfold lZ;show match own w with
  | some vs=>tt (vs.map Dn++nF ix σ) h fun c h1=>El c (te (vs.map Dn++nF ix σ) h1 fun v h2=>lZ ⟨ws,Go⟩ own ix tt te σ Q r (acc++[v]) h2) (lZ ⟨ws,Go⟩ own ix tt te σ Q r acc h1)
  | none=>False
 rw [e];exact x
theorem aaT {n N:Nat}{body:CK->MS}{ws:List W}{h:Gh}{Q:WK}{E:CK}(hl:KD ws.length n=true)(x:body E { nx:=fun _ h'=>Q .non h',rt:=Q } (ws.map Dn++Mz (N - ws.length) Go) h):Dc n N false body ws h Q E:=by
 unfold Dc;rw [hl];exact x
theorem qH {r:W->Option Int->Option Int->Gh->WK->Prop}{m:ME}{l u:MO}{σ : Sw}{h:Gh}{Q:WK}(x:m σ h fun a h1=>l σ h1 fun lo h2=>u σ h2 fun hi h3=>r a lo hi h3 Q):LC r m l u σ h Q:=x
theorem dz {m:ME}{σ : Sw}{h:Gh}{Q:Option Int->Gh->Prop}(x:m σ h (pK Q)):fY m σ h Q:=x
theorem Ik {i:Int}{h:Gh}{Q:Option Int->Gh->Prop}(x:Q (Dn i) h):pK Q (.int i) h:=x
def p3K (i j k:Nat)(D:bA)(σ : Sw):List W->Gh->Prop:=fun ws h=>match ws with
 | [x,y,z]=>D.nx (((σ.set i (Dn x)).set j (Dn y)).set k (Dn z)) h
 | _=>False
theorem agK {i j k:Nat}{ta:MA}{D:bA}{σ : Sw}{h:Gh}(x:ta σ h (p3K i j k D σ)):Z5 i j k ta D σ h:=x
theorem Vn {xs:List W}{n:Int}{a b:Prop}(e:decide ((xs.length:Int)≠n)=false)(x:b):br (decide ((xs.length:Int)≠n)) a b:=dj e x
theorem zbF {bs:List Bool}{a b:Prop}(e:bs.all id=true)(x:b):br (!(bs.all id)) a b:=dj (by rw [e];rfl) x
theorem Gp {c:Prop} [Decidable c] {a b:Prop} (x:¬ c->a) (y:c->b):br (!decide c) a b:=⟨fun e=>x (by simpa using e),fun e=>y (by simpa using e)⟩
theorem aaH {n d:Str}{a b:Prop}(e:Gm n d=true)(x:a):El (Gm n d) a b:=Km e x
theorem abE {n d:Str}{a b:Prop}(e:Gm n d=true)(x:a):br (Gm n d) a b:=qM e x
theorem aaK {n d:Str}{a b:Prop}(e:Gm n d=false)(x:b):br (Gm n d) a b:=dj e x
theorem UL {α : Type}{a x:α}{l:List α}:(a::l).set 0 x=x::l:=rfl
theorem U4 {α : Type}{a x:α}{l l':List α}{n:Nat}(e:l.set n x=l'):(a::l).set (n+1) x=a::l':=by rw [List.set_cons_succ,e]
theorem dI {i:Nat}{w:W}{σ σ':Sw}{h:Gh}{N:Sw->Gh->Prop}(e:σ.set i (Dn w) = σ')(x:N σ' h):BW i w σ h N:=by
 subst e;exact x
theorem nV {i:Nat}{w:W}{σ σ':Sw}{h:Gh}{N:Sw->Gh->Prop}(x:N σ' h)(e:σ.set i (Dn w) = σ':=by repeat (first | with_reducible exact UL | with_reducible apply U4)):BW i w σ h N:=dI e x
theorem aa2 {i j k:Nat}{D:bA}{σ σ1 σ2 σ3:Sw}{h:Gh}{x y z:W}(e1:σ.set i (Dn x) = σ1)(e2:σ1.set j (Dn y) = σ2)(e3:σ2.set k (Dn z) = σ3)(q:D.nx σ3 h):p3K i j k D σ [x,y,z] h:=by
 subst e1 e2 e3;exact q
def ini (ws:List W)(n:Nat):Sw:=ws.map Dn++Mz (n - ws.length) Go
theorem acA:ini [] 0=[]:=rfl
theorem ab6 {n:Nat}{l:Sw}(e:ini [] n=l):ini [] (n+1)=Go::l:=by
 subst e;rfl
theorem ab8 {n:Nat}{w:W}{ws:List W}{l:Sw}(e:ini ws n=l):ini (w::ws) (n+1)=Dn w::l:=by
 subst e;unfold ini;rw [Jb,Nat.add_sub_add_right];rfl
theorem jO {n N:Nat}{body:CK->MS}{ws:List W}{σ : Sw}{h:Gh}{Q:WK}{E:CK}(hl:KD ws.length n=true)(e:ini ws N = σ)(x:body E { nx:=fun _ h'=>Q .non h',rt:=Q } σ h):Dc n N false body ws h Q E:=by
 subst e;exact aaT hl x
theorem abJ {i:Nat}{n d:Str}{fs:List (Str×W)}{mh:MS}{D:bA}{σ σ':Sw}{h:Gh}(e:Gm n d=true)(s:σ.set i (Dn (Ds ⟨n,fs⟩)) = σ')(x:mh D σ' h):El (Gm (Xw.mk n fs).cls d) (mh D (σ.set i (Dn (Ds (Xw.mk n fs)))) h) False:=by
 subst s;exact Km e x
theorem W0 {own:W->Option (List W)}{ix:List Nat}{mi:MI}{tt:MT}{te:ME}{σ : Sw}{h:Gh}{Q:WK}(x:Er own ix mi tt te σ h (abX Q)):ac8 own ix mi tt te σ h Q:=x
theorem afO {mo mi:ME}{ms:Xn}{w:W}{σ : Sw}{h:Gh}{N:Sw->Gh->Prop}(x:mo σ h fun o h1=>mi σ h1 fun i h2=>ms o i w h2 fun h3=>N σ h3):Vg mo mi ms w σ h N:=x
theorem wQ {n j:Nat}{k:Int}{w:W}{ws ws':List W}{h:Gh}{N:Gh->Prop}(e:h.c n=Dn (.lst ws))(i:LI ws.length k=Dn j)(s:ws.set j w=ws')(x:∀ g:Gh,g.c n=Dn (.lst ws')->(∀ m,m≠n->g.c m=h.c m)->g.nx=h.nx->N g):CZ (.loc n) (.int k) w h N:=by
 subst s;show (match h.c n with
  | some (Cell.lst ws)=>(match LI ws.length k with
   | some j=>N (h.set n (.lst (ws.set j w)))
   | none=>False)
  | _=>False)
 rw [e];dsimp only;rw [i];exact x _ (Jh _ _ _) (fun _ e=>yO e) rfl
theorem ahv {ws r us:List W}{n:Nat}{w:W}{g:MG}{b:MS}{D:bA}{σ : Sw}{h:Gh}(e:h.c n=Dn (.lst us))(x:g w σ h fun σ1 h1=>b { D with nx:=cT ⟨ws,Dn (n,us)⟩ g b D r,ct:=cT ⟨ws,Dn (n,us)⟩ g b D r,bk:=D.nx } σ1 h1):cT ⟨ws,Dn (n,us)⟩ g b D (w::r) σ h:=⟨e,x⟩
theorem afn {ws us:List W}{n:Nat}{g:MG}{b:MS}{D:bA}{σ : Sw}{h:Gh}(e:h.c n=Dn (.lst us))(x:D.nx σ h):cT ⟨ws,Dn (n,us)⟩ g b D [] σ h:=⟨e,x⟩
theorem agi {ws us acc:List W}{n:Nat}{own:W->Option (List W)}{ix:List Nat}{tt:MT}{te:ME}{σ : Sw}{h:Gh}{Q:WK}(e:h.c n=Dn (.lst us))(x:Q (.lst acc) h):lZ ⟨ws,Dn (n,us)⟩ own ix tt te σ Q [] acc h:=⟨e,x⟩
theorem zbQ {ws us r acc vs:List W}{n:Nat}{w:W}{own:W->Option (List W)}{ix:List Nat}{tt:MT}{te:ME}{σ : Sw}{h:Gh}{Q:WK}(ec:h.c n=Dn (.lst us))(e:own w=Dn vs)(x:tt (vs.map Dn++nF ix σ) h fun c h1=>El c (te (vs.map Dn++nF ix σ) h1 fun v h2=>lZ ⟨ws,Dn (n,us)⟩ own ix tt te σ Q r (acc++[v]) h2) (lZ ⟨ws,Dn (n,us)⟩ own ix tt te σ Q r acc h1)):lZ ⟨ws,Dn (n,us)⟩ own ix tt te σ Q (w::r) acc h:=by
 unfold lZ;refine ⟨ec,?_⟩;show match own w with
  | some vs=>tt (vs.map Dn++nF ix σ) h fun c h1=>El c (te (vs.map Dn++nF ix σ) h1 fun v h2=>lZ ⟨ws,Dn (n,us)⟩ own ix tt te σ Q r (acc++[v]) h2) (lZ ⟨ws,Dn (n,us)⟩ own ix tt te σ Q r acc h1)
  | none=>False
 rw [e];exact x
theorem ac7 {n:Nat}{ws:List W}{h:Gh}{R:Src->Gh->Prop}(e:h.c n=Dn (.lst ws))(x:R ⟨ws,Dn (n,ws)⟩ h):iK R (.loc n) h:=Ss (by simp only [uf,e]) x
theorem aby {n:Nat}{w:W}{i:Int}{ws:List W}{h:Gh}{Q:WK}(e:h.c n=Dn (.lst ws))(a:Ig ws i=Dn w)(k:Q w h):Bw (.loc n) (.int i) h Q:=jd (nM e) a k
theorem FQ {n N:Nat}{body:CK->MS}{ws:List W}{σ : Sw}{h:Gh}{Q:WK}{E:CK}(hl:KD ws.length n=true)(e:ini ws N = σ)(x:body E { nx:=fun _ h'=>vU true h .non h' Q,rt:=fun w h'=>vU true h w h' Q } σ h):Dc n N true body ws h Q E:=by
 subst e;unfold Dc;rw [hl];exact x
theorem aeH {a b:List W}{h:Gh}{Q:WK}(e:Nat.ble (a.length+b.length) 1000=true)(x:Q (.lst (a++b)) h):bN (.lst a) (.lst b) h Q:=cj e x
theorem abl {a b:Bool}{h:Gh}{Q:WK}(x:Q (.bl (a==b)) h):kIs (.bl a) (.bl b) h Q:=x
theorem afU {a b:Bool}{h:Gh}{Q:WK}(x:Q (.bl (!(a==b))) h):aa1 (.bl a) (.bl b) h Q:=x
theorem aam {a b:Str}{h:Gh}{Q:WK}(x:Q (.bl (decide (a=b))) h):Ez (.str a) (.str b) h Q:=by
 have e:Cq (.str a) (.str b)=decide (a=b):=by rw [Cq];by_cases z:a=b <;> simp [z]
 show Q (.bl (Cq (.str a) (.str b))) h;rw [e];exact x
theorem abe {a b:Str}{h:Gh}{Q:WK}(x:Q (.bl (decide (a≠b))) h):HW (.str a) (.str b) h Q:=by
 have e:(!Cq (.str a) (.str b))=decide (a≠b):=by rw [Cq];by_cases z:a=b <;> simp [z]
 show Q (.bl (!Cq (.str a) (.str b))) h;rw [e];exact x
theorem Xk {bs:List Bool}{a b:Prop}(e:bs.any id=false)(x:b):br (bs.any id) a b:=dj e x
local macro_rules | `(tactic| rfl') => `(tactic| repeat (first
 | with_reducible (first | refine bw ?_ | refine cg ?_ | refine bD ?_ | refine au ?_ | refine aM ?_)
 | ((with_reducible apply aD);exact rfl) | with_reducible refine cA ?_ | with_reducible refine bJ ?_ | with_reducible refine dI (by repeat (first | with_reducible exact UL | with_reducible apply U4)) ?_ | with_reducible (first | refine afC ?_ | refine agg ?_ | refine gK ?_ | refine Sd ?_ | refine acL ?_ | refine acT ?_)
 | with_reducible (first | refine iC ?_ | refine Wx ?_ | refine mV ?_ | refine pD ?_ | refine zbG ?_ | refine X8 ?_ | refine zbg ?_)
 | with_reducible (first | refine cO ?_ | refine Dy ?_ | refine qU ?_) | ((with_reducible apply UW);exact rfl) | with_reducible (first | refine Fb ?_ | refine Ng ?_ | refine JM ?_ | refine qQ ?_)
 | with_reducible (first | refine Hu ?_ | refine Xz ?_ | refine aho ?_ | refine acR ?_ | refine acE ?_ | refine ac4 ?_ | refine Zf ?_ | refine acM ?_)
 | with_reducible (first | refine yC ?_ | refine nY ?_ | refine Wr ?_ | refine Ww ?_ | refine pI ?_ | refine Vs ?_)
 | with_reducible refine d9 ?_ | with_reducible refine vo ?_ | ((with_reducible apply cj);exact rfl) | with_reducible (first | refine iZ ?_ | refine Z1 ?_ | refine agq ?_)
 | ((with_reducible apply Jt);exact rfl;exact rfl) | ((with_reducible apply ago);exact rfl;exact rfl) | ((with_reducible apply Vx);exact rfl;exact rfl) | with_reducible refine yd ?_ | with_reducible refine Nh ?_
 | with_reducible refine Nt ?_ | with_reducible refine lU ?_ | ((with_reducible apply Xb);exact fC.of (by trivial) (by trivial) (by lia) (by lia)) | with_reducible refine O9 ?_ | with_reducible refine Wu ?_
 | with_reducible (first | refine YD ?_ | refine Qd ?_ | refine Z6 ?_ | refine RX ?_ | refine TF ?_ | refine YJ ?_ | refine abq ?_ | refine aa4 ?_)
 | ((with_reducible apply jd);exact rfl;exact rfl) | ((with_reducible apply Yr);exact rfl) | ((with_reducible apply mG);exact rfl) | with_reducible refine zbm ?_ | ((with_reducible apply Oh);exact rfl;exact rfl) | ((with_reducible apply YZ);exact rfl;exact rfl) | ((with_reducible apply Xx);exact rfl;exact rfl) | with_reducible refine Wt ?_ | with_reducible refine YC ?_
 | with_reducible (first | refine jQ ?_ | refine j5 ?_ | refine agd ?_ | refine Hq ?_ | refine Jp ?_) | ((with_reducible apply Ss);exact rfl) | with_reducible (first | refine iG ?_ | refine aak ?_ | refine aad ?_ | refine Xr ?_) | ((with_reducible apply aa6);exact rfl;exact rfl;(repeat (first | with_reducible exact ab1 | with_reducible exact abZ | with_reducible apply aa0)))
 | with_reducible refine Cw ?_ | ((with_reducible apply MJ);exact rfl) | with_reducible refine ahx ?_ | ((with_reducible apply Zt);exact rfl) | ((with_reducible apply jO);exact rfl;repeat (first | with_reducible exact acA | with_reducible apply ab8 | with_reducible apply ab6)) | with_reducible (first | refine qH ?_ | refine dz ?_ | refine Ik ?_ | refine agK ?_) | with_reducible refine aa2 (by repeat (first | with_reducible exact UL | with_reducible apply U4)) (by repeat (first | with_reducible exact UL | with_reducible apply U4)) (by repeat (first | with_reducible exact UL | with_reducible apply U4)) ?_ | ((with_reducible apply Vn);exact rfl) | ((with_reducible apply zbF);exact rfl) | ((with_reducible apply abJ);decide +kernel;(repeat (first | with_reducible exact UL | with_reducible apply U4))) | ((with_reducible apply aaH);decide +kernel) | ((with_reducible apply abE);decide +kernel) | ((with_reducible apply aaK);decide +kernel) | with_reducible refine W0 ?_ | with_reducible refine afO ?_ | ((with_reducible apply ac7);(with_reducible assumption)) | ((with_reducible apply ahv);(with_reducible assumption)) | ((with_reducible apply afn);(with_reducible assumption)) | ((with_reducible apply agi);(with_reducible assumption)) | ((with_reducible apply zbQ);(with_reducible assumption);exact rfl) | ((with_reducible apply aby);(with_reducible assumption);exact rfl) | ((with_reducible apply aac);(with_reducible assumption);exact rfl;(repeat (first | with_reducible exact ab1 | with_reducible exact abZ | with_reducible apply aa0))) | ((with_reducible apply FQ);exact rfl;(repeat (first | with_reducible exact acA | with_reducible apply ab8 | with_reducible apply ab6))) | ((with_reducible apply aeH);exact rfl) | with_reducible (first | refine abl ?_ | refine afU ?_ | refine aam ?_ | refine abe ?_) | ((with_reducible apply Xk);decide +kernel)))
theorem afd (a b:Str):Cq (.str a) (.str b)=(a==b):=by rw [Cq]
def Mh (h:Gh)(n:Nat):Prop:=∃ a b,h.c n=Dn (.lst [.int a,.int b])/\0<=b/\b<2147483647
def Nm (c:BK):Prop:=∀ {h:Gh} {n:Nat} {many:Int} {Q:WK} {E:CK},Mh h n->0<many->Sm 60 many->(∀ d h',0<=d->d<many->Mh h' n->Oth n h h'->Q (.int d) h')->c [.loc n,.int many] h Q E
theorem WY:Nm Aq:=by
 intro h n many Q E hb hm hs k;obtain ⟨a,b,e,b0,b1⟩:=hb;have hm0:many≠0:=by lia
 have ev:=nM e;have bag:∀ {h':Gh} {a b:Int},h'.c n=Dn (.lst [.int a,.int b])->0<=b->b<2147483647->Mh h' n:=fun e h0 h1=>⟨_,_,e,h0,h1⟩
 show (match view h (.loc n) with
  | some ws=>_
  | none=>False)
 rw [ev];refine J4 (fun _=>?_)<|fun _=>?_
 ·show (match view h (.loc n) with
   | some ws=>_
   | none=>False)
  rw [ev];refine And.intro hm0 ?_;show (match view h (.loc n) with
   | some ws=>_
   | none=>False)
  rw [ev];refine And.intro ⟨hm0,60,by decide,hs⟩ ?_;show (match h.c n with
   | some (Cell.lst ws)=>_
   | _=>False)
  rw [e];show Q (.int (a.fmod many)) (h.set n _);rw [iR hm];exact k _ _ (Ru _ hm0) (SM _ hm) (bag (Jh _ _ _) b0 b1) Oth.set
 ·show (match view h (.loc n) with
   | some ws=>_
   | none=>False)
  rw [ev];refine And.intro (.of (m:=31) (n:=64) (MK (by lia)<|by lia) (.lit rfl) (by decide)<|by decide) ?_;refine And.intro (show (2147483647:Int)≠0 by decide) ?_;show (match h.c n with
   | some (Cell.lst ws)=>_
   | _=>False)
  rw [e];have c0:0<=(b*48271+11).fmod 2147483647:=by rw [iR (by decide)];exact Ru _ (by decide)
  have c1:(b*48271+11).fmod 2147483647<2147483647:=by rw [iR (by decide)];exact SM _ (by decide)
  have e2:(h.set n (.lst [.int a,.int ((b*48271+11).fmod 2147483647)])).c n=Dn (.lst [.int a,.int ((b*48271+11).fmod 2147483647)]):=Jh _ _ _;have ev2:=nM e2;have o2:Oth n h (h.set n (.lst [.int a,.int ((b*48271+11).fmod 2147483647)])):=Oth.set;show (match view (h.set n (.lst [.int a,.int ((b*48271+11).fmod 2147483647)])) (.loc n) with
   | some ws=>_
   | none=>False)
  rw [ev2];show (match view (h.set n (.lst [.int a,.int ((b*48271+11).fmod 2147483647)])) (.loc n) with
   | some ws=>_
   | none=>False)
  rw [ev2];generalize (b*48271+11).fmod 2147483647=c at *;refine And.intro ⟨by decide,64,by decide,.lit rfl⟩ ?_;have q0:0<=c.fdiv 65536:=by rw [zp (by decide)];lia
  have q1:c.fdiv 65536<2147483647:=by rw [zp (by decide)];lia
  refine And.intro (.of (m:=31) (n:=40) (MK (by lia)<|by lia) (MK (by lia)<|by lia) (by decide)<|by decide) ?_;refine And.intro (show (2147483629:Int)≠0 by decide) ?_;refine And.intro ⟨by decide,64,by decide,.lit rfl⟩ ?_;refine And.intro hm0 ?_;show Q (.int (Int.fmod _ many)) (h.set n (.lst [.int a,.int c]));rw [iR hm];exact k _ _ (Ru _ hm0) (SM _ hm) (bag e2 c0 c1) o2
def FT (c:BK):Prop:=∀ {h:Gh} {ns:List Int} {k:Int} {Q:WK} {E:CK},0<=k->Q (.int (ns.getD k.toNat 0)) h->c [.kls (ns.map .int),.int k] h Q E
theorem ahc:FT zf:=by
 intro h ns k Q E h0 q;show br (decide (k<((ns.map W.int).length:Int))) _ _;refine J4 (fun hk=>?_)<|fun hk=>?_
 ·conv=>whnf
  rw [aeI h0 hk];exact q
 ·have e:ns.getD k.toNat 0=0:=by
   rw [S9,List.getElem?_eq_none (by rw [Eh] at hk;lia)];rfl
  rw [e] at q;exact q
abbrev C6:=Int×Int×Int×Int×Int×Int
def GJ (c:C6):W:=.tup [.int c.1,.int c.2.1,.int c.2.2.1,.int c.2.2.2.1,.int c.2.2.2.2.1,.int c.2.2.2.2.2]
def Ht (c:C6):List Int:=[c.1,c.2.1,c.2.2.1,c.2.2.2.1,c.2.2.2.2.1,c.2.2.2.2.2]
def Et (m:Nat)(c:C6):Prop:=Sm m c.1/\Sm m c.2.1/\Sm m c.2.2.1/\Sm m c.2.2.2.1/\Sm m c.2.2.2.2.1/\Sm m c.2.2.2.2.2
def aV (c:C6):Mt:=((2*c.1,c.2.1,c.2.2.2.1),(c.2.1,2*c.2.2.1,c.2.2.2.2.1),(c.2.2.2.1,c.2.2.2.2.1,2*c.2.2.2.2.2))
theorem Ah {m:Nat}{x:Int}(h:Sm m x):Sm (m+1) (2*x):=by
 unfold Sm at h |-
 rw [U8,Nat.pow_succ,Nat.mul_comm];exact Nat.mul_lt_mul_of_pos_right h<|by decide
theorem gZ {m:Nat}{c:C6}(h:Et m c):Mq (m+1) (aV c):=by
 obtain ⟨h1,h2,h3,h4,h5,h6⟩:=h;exact ⟨⟨Ah h1,h2.mono<|by lia,h4.mono<|by lia⟩,⟨h2.mono<|by lia,Ah h3,h5.mono<|by lia⟩,⟨h4.mono<|by lia,h5.mono<|by lia,Ah h6⟩⟩
theorem yD (c:C6)(p q:Tr):dt3 (vm (aV c) p) q=dt3 (vm (aV c) q) p:=by
 obtain ⟨p1,p2,p3⟩:=p;obtain ⟨q1,q2,q3⟩:=q;simp only [dt3,vm,aV];grind
def TabOk (c0:BK):Prop:=∀ {h:Gh} {c:C6} {m:Nat} {Q:WK} {E:CK},m<=5000->Et m c->Q (mw (aV c)) h->c0 [GJ c] h Q E
theorem w_tab:TabOk rA:=by
 intro h c m Q E hm hs k;obtain ⟨c1,c2,c3,c4,c5,c6⟩:=c;obtain ⟨h1,h2,h3,h4,h5,h6⟩:=hs;simp only at h1 h2 h3 h4 h5 h6
 ((conv=>whnf);repeat (refine And.intro (by exact fC.of (by trivial) (by trivial) (by lia) (by lia)) ?_;conv=>whnf))
 exact k
def Gi (c0:BK):Prop:=∀ {h:Gh} {M:Mt} {p:Tr} {m:Nat} {Q:WK} {E:CK},m<=5000->Mq m M->CN m p->Q (.lst [.int (vm M p).1,.int (vm M p).2.1,.int (vm M p).2.2]) h->c0 [mw M,tw p] h Q E
theorem aaQ {dt ro:BK}(hdt:wN dt)(hro:zK ro):Gi (fH dt ro):=by
 intro h M p m Q E hm hs hp k;show ro [MwB true M] h _ _;refine hro true ?_;show dt [tw M.1,tw p] h _ _;refine hdt (m:=m) (by lia) hs.1 hp ?_;show dt [tw M.2.1,tw p] h _ _;refine hdt (m:=m) (by lia) hs.2.1 hp ?_;show dt [tw M.2.2,tw p] h _ _;refine hdt (m:=m) (by lia) hs.2.2 hp ?_;exact k
def QZ (c0:BK):Prop:=∀ {h:Gh} {t:Tr} {m:Nat} {Q:WK} {E:CK},m<=8000->CN m t->(t≠(0,0,0)->∀ u,Pl u->Ej t u->CN m u->Q (tw u) h)->(t=(0,0,0)->Q .non h)->c0 [.lst [.int t.1,.int t.2.1,.int t.2.2]] h Q E
theorem Ym {pl:BK}(hpl:Fy pl):QZ (iw pl):=by
 intro h t m Q E hm hs k k0;obtain ⟨a,b,c⟩:=t;show br (!Cq (.int a) (.int 0)||(!Cq (.int b) (.int 0)||(!Cq (.int c) (.int 0)||false))) _ _;by_cases e:(a,b,c)=((0,0,0):Tr)
 ·have e1:a=0:=congrArg (·.1) e;have e2:b=0:=congrArg (·.2.1) e;have e3:c=0:=congrArg (·.2.2) e;refine dj (by rw [bB,bB,bB,e1,e2,e3];rfl) ?_;exact k0 e
 ·refine qM ?_ ?_
  ·rw [bB,bB,bB];by_cases e1:a=0 <;> by_cases e2:b=0 <;> by_cases e3:c=0 <;> simp [e1,e2,e3]
   exact e<|by rw [e1,e2,e3]
  ·show pl [.lst [.int a,.int b,.int c]] h _ _;exact hpl.tr (u:=(a,b,c)) (m:=m) (.inr rfl) e hs hm<|k e
def xW (c0:BK):Prop:=∀ {h:Gh} {c:C6} {p:Tr} {m:Nat} {Q:WK} {E:CK},m<=3000->Et m c->CN m p->(vm (aV c) p≠(0,0,0)->∀ u,Pl u->Ej (vm (aV c) p) u->CN (m+m+4) u->Q (tw u) h)->(vm (aV c) p=(0,0,0)->E ⟨"Knot",[]⟩ h)->c0 [GJ c,tw p] h Q E
theorem Wz {tt ta po:BK}(htt:Gi tt)(hta:TabOk ta)(hpo:QZ po):xW (mK tt ta po):=by
 intro h c p m Q E hm hc hp k kx;refine hta (m:=m) (by lia) hc ?_;refine htt (m:=m+1) (by lia) (gZ hc) (hp.mono<|by lia) ?_;have sv:CN (m+m+4) (vm (aV c) p):=(Bt (gZ hc) (hp.mono (show m<=m+1 by lia))).mono (by lia);refine hpo (m:=m+m+4) (by lia) sv (fun e u pu par su=>?_) fun e=>?_
 ·refine dj rfl ?_;exact k e u pu par su
 ·refine qM rfl ?_;exact kx e
def qI (p q:Tr):C6:=(p.1*q.1,p.1*q.2.1+p.2.1*q.1,p.2.1*q.2.1,p.1*q.2.2+p.2.2*q.1,p.2.1*q.2.2+p.2.2*q.2.1,p.2.2*q.2.2)
theorem Et.mono {m n:Nat}{c:C6}(h:Et m c)(e:m<=n):Et n c:=⟨h.1.mono e,h.2.1.mono e,h.2.2.1.mono e,h.2.2.2.1.mono e,h.2.2.2.2.1.mono e,h.2.2.2.2.2.mono e⟩
theorem rD {m:Nat}{p q:Tr}(hp:CN m p)(hq:CN m q):Et (m+m+1) (qI p q):=
 ⟨(hp.1.mul hq.1).mono (by lia),((hp.1.mul hq.2.1).add (hp.2.1.mul hq.1)).mono (by lia),(hp.2.1.mul hq.2.1).mono (by lia),((hp.1.mul hq.2.2).add (hp.2.2.mul hq.1)).mono (by lia),((hp.2.1.mul hq.2.2).add (hp.2.2.mul hq.2.1)).mono (by lia),(hp.2.2.mul hq.2.2).mono (by lia)⟩
theorem Et.all {m:Nat}{c:C6}(h:Et m c):∀ n∈Ht c,Sm m n:=by
 intro n hn;simp only [Ht,Cr,Dl,or_false] at hn;rcases hn with rfl | rfl | rfl | rfl | rfl | rfl
 ·exact h.1
 ·exact h.2.1
 ·exact h.2.2.1
 ·exact h.2.2.2.1
 ·exact h.2.2.2.2.1
 ·exact h.2.2.2.2.2
def Ck (c:C6)(p:Tr):Int:=c.1*p.1*p.1+c.2.2.1*p.2.1*p.2.1+c.2.2.2.2.2*p.2.2*p.2.2+c.2.1*p.1*p.2.1+c.2.2.2.1*p.1*p.2.2+c.2.2.2.2.1*p.2.1*p.2.2
def Yt (c0:BK):Prop:=∀ {h:Gh} {c:C6} {p:Tr} {m:Nat} {Q:WK} {E:CK},m<=4000->Et m c->CN m p->Q (.int (Ck c p)) h->c0 [GJ c,tw p] h Q E
theorem Hl:Yt xX:=by
 intro h c p m Q E hm hc hp k;obtain ⟨c1,c2,c3,c4,c5,c6⟩:=c;obtain ⟨x,y,z⟩:=p;obtain ⟨h1,h2,h3,h4,h5,h6⟩:=hc;obtain ⟨hx,hy,hz⟩:=hp;simp only at h1 h2 h3 h4 h5 h6 hx hy hz;unfold xX;rfl'
 exact k
def aae (c0:BK):Prop:=∀ {h:Gh} {c:C6} {p:Tr} {m:Nat} {Q:WK} {E:CK},m<=4000->Et m c->CN m p->Q (.bl (decide (Ck c p=0))) h->c0 [GJ c,tw p] h Q E
theorem w_on {wo:BK}(hwo:Yt wo):aae (fV wo):=by
 intro h c p m Q E hm hc hp k;unfold fV;rfl'
 refine hwo hm hc hp ?_;rfl'
 exact k
theorem Z0 {k:Int}(c:C6)(p:Tr):Ck (c.1*k,c.2.1*k,c.2.2.1*k,c.2.2.2.1*k,c.2.2.2.2.1*k,c.2.2.2.2.2*k) p=Ck c p*k:=by
 simp only [Ck];grind
def kC (k:Int)(c:C6):C6:=(c.1*k,c.2.1*k,c.2.2.1*k,c.2.2.2.1*k,c.2.2.2.2.1*k,c.2.2.2.2.2*k)
theorem Fy.c6p {c0:BK}(hpl:Fy c0){h:Gh}{w:W}{c:C6}{m:Nat}{Q:WK}{E:CK}(hw:w=.lst [.int c.1,.int c.2.1,.int c.2.2.1,.int c.2.2.2.1,.int c.2.2.2.2.1,.int c.2.2.2.2.2]\/w=GJ c)(hz:NZ (Ht c))(hs:Et m c)(hm:m<=8000)(k:∀ (x:C6) (j:Int),j≠0->c=kC j x->Jz (Ht x)->Et m x->Q (GJ x) h):c0 [w] h Q E:=by
 refine hpl (m:=m) (ns:=Ht c) hw hz hs.all hm (by show 6<=1000;decide) fun ms j hj em pm sm=>?_;have hl:ms.length=6:=by have:=congrArg R0 em;rw [Eh] at this;exact this.symm
 match ms,hl,sm,em,pm with
 | [x1,x2,x3,x4,x5,x6],_,sm,em,pm=>
  refine k (x1,x2,x3,x4,x5,x6) j hj ?_ pm ⟨sm _<|by simp,sm _<|by simp,sm _<|by simp,sm _<|by simp,sm _<|by simp,sm _<|by simp⟩;obtain ⟨u1,u2,u3,u4,u5,u6⟩:=c
  simpa [Ht,kC] using em
theorem afq {x y:C6}{s t:Int}(hx:Jz (Ht x))(hy:Jz (Ht y))(hs:s≠0)(ht:t≠0)(e:kC s x=kC t y):x=y:=by
 have e1:(Ht x).map (· * s)=(Ht y).map (· * t):=congrArg Ht e;have e2:=Nr hx hy hs ht e1;obtain ⟨u1,u2,u3,u4,u5,u6⟩:=x;obtain ⟨v1,v2,v3,v4,v5,v6⟩:=y
 simpa [Ht] using e2
theorem abp (k:Int)(c:C6):aV (kC k c)=sM k (aV c):=by
 simp only [aV,kC,sM,sc,Int.mul_assoc]
theorem Yi (k:Int)(c:C6)(p:Tr):Ck (kC k c) p=Ck c p*k:=Z0 c p
theorem iV (l o s:Tr):Ck (qI l o) s=dt3 l s*dt3 o s:=by
 simp only [Ck,qI,dt3];grind
def Ln (c0:BK):Prop:=∀ {h:Gh} {c:C6} {m:Nat} {Q:WK} {E:CK},m<=2000->Et m c->Q (.bl (decide (det (aV c)≠0))) h->c0 [GJ c] h Q E
theorem ahG {sz ta:BK}(hsz:Oc sz)(hta:TabOk ta):Ln (lR sz ta):=by
 intro h c m Q E hm hc k;unfold lR;rfl'
 refine hta (m:=m) (by lia) hc ?_;rfl'
 refine hsz (M:=aV c) (m:=m+1) true (by lia) (gZ hc) ?_;rfl'
 exact k
def oN (c0:BK):Prop:=∀ {h:Gh} {p q:Tr} {m:Nat} {Q:WK} {E:CK},m<=3900->CN m p->CN m q->Pl p->Pl q->(p≠q->∀ t:Tr,Pl t->Ej (crs p q) t->CN (m+m+1) t->Q (tw t) h)->(p=q->E ⟨"Alike",[]⟩ h)->c0 [tw p,tw q] h Q E
theorem zaS {pl cr:BK}(hpl:Fy pl)(hcr:wI cr):oN (gk pl cr):=by
 intro h p q m Q E hm sp sq pp pq k kx;by_cases e:p=q
 ·show br (Cq (tw p) (tw q)) _ _;rw [vH];exact qM (decide_eq_true e)<|kx e
 ·exact yZ hpl hcr hm sp sq pp pq e<|k e
theorem ags {pc:BK}(hpc:oN pc):oN (Nq pc):=by
 intro h p q m Q E hm sp sq pp pq k kx;show pc [tw p,tw q] h _ _;exact hpc hm sp sq pp pq k kx
theorem Zq (a b c:Int):crs (a,b,c) (1,0,0)=(0,c,-b):=by simp [crs]
theorem YX (a b c:Int):crs (a,b,c) (0,1,0)=(-c,0,a):=by simp [crs]
theorem Yy (a b c:Int):crs (a,b,c) (0,0,1)=(b,-a,0):=by simp [crs]
theorem agO {l p:Tr}(l0:l≠(0,0,0))(h1:crs l (1,0,0)=(0,0,0)\/Ej (crs l (1,0,0)) p)(h2:crs l (0,1,0)=(0,0,0)\/Ej (crs l (0,1,0)) p)(h3:crs l (0,0,1)=(0,0,0)\/Ej (crs l (0,0,1)) p):False:=by
 obtain ⟨a,b,c⟩:=l;obtain ⟨x,y,z⟩:=p;rw [Zq] at h1;rw [YX] at h2;rw [Yy] at h3;simp only [Ej,sc,Td] at h1 h2 h3;have nz:∀ {s t:Int},s*t≠0->t≠0->s≠0:=fun h _ z=>h (by rw [z,Int.zero_mul])
 by_cases a0:a=0
 ·by_cases b0:b=0
  ·have c0:c≠0:=fun c0=>l0 (by rw [a0,b0,c0])
   rcases h1 with h1 | ⟨k,hk,e1,e2,e3⟩
   ·exact c0 h1.2.1
   ·rcases h2 with h2 | ⟨j,hj,f1,f2,f3⟩
    ·exact c0<|by lia
    ·have x0:x=0:=(Ja.mp e1.symm).resolve_right hk;rw [x0] at f1;lia
  ·rcases h1 with h1 | ⟨k,hk,e1,e2,e3⟩
   ·exact b0<|by lia
   ·rcases h3 with h3 | ⟨j,hj,f1,f2,f3⟩
    ·exact b0 h3.1
    ·have x0:x=0:=(Ja.mp e1.symm).resolve_right hk;rw [x0] at f1;lia
 ·rcases h2 with h2 | ⟨k,hk,e1,e2,e3⟩
  ·exact a0 h2.2.2
  ·rcases h3 with h3 | ⟨j,hj,f1,f2,f3⟩
   ·exact a0<|by lia
   ·have y0:y=0:=(Ja.mp e2.symm).resolve_right hk;rw [y0] at f2;lia
theorem Gd {r:MM}{mo:ME}{ma:MA}{σ : Sw}{h:Gh}{Q:WK}(x:mo σ h fun x h1=>Dg h1 x (ma σ h1 fun xs h2=>r x xs h2 Q)):Ov r mo ma σ h Q:=x
theorem wU {n:Nat}{us:List W}{h:Gh}{P:Prop}(e:h.c n=Dn (.lst us))(p:P):Dg h (.loc n) P:=by
 simp only [Dg,e];exact p
theorem Jw {ma:MA}{ws:List W}{σ : Sw}{h:Gh}{Q:WK}(hm:∀ R,ma σ h R=R ws h)(hz:Nat.ble ws.length 1000=true)(x:∀ g:Gh,g.c h.nx=Dn (.lst ws)->(∀ n,n≠h.nx->g.c n=h.c n)->g.nx=h.nx+1->Q (.loc h.nx) g):sY ma σ h Q:=by
 unfold sY;rw [hm];exact cj hz<|x _ (Pz _ _) (fun _ e=>Gw e) rfl
theorem Z2 {h:Gh}{n:Nat}{us zs:List W}{Q:WK}(e:h.c n=Dn (.lst us))(hz:us.length+zs.length<=1000)(k:∀ g:Gh,g.c n=Dn (.lst (us++zs))->(∀ m,m≠n->g.c m=h.c m)->g.nx=h.nx->Q .non g):gM (.loc n) [.lst zs] h Q:=
 Yd e (GK hz (by decide)) (k _ (Jh _ _ _) (fun _ e=>yO e) rfl)
theorem Vv {h:Gh}{n:Nat}{us:List W}{w:W}{Q:WK}(e:h.c n=Dn (.lst us))(hz:us.length<=1000)(k:∀ g:Gh,g.c n=Dn (.lst (us++[w]))->(∀ m,m≠n->g.c m=h.c m)->g.nx=h.nx->Q .non g):jq (.loc n) [w] h Q:=
 Vq e (SN hz (by decide)) (k _ (Jh _ _ _) (fun _ e=>yO e) rfl)
theorem Wc {α β : Type}{v:α->W}{ws0:List W}{g:MG}{b:MS}{D:bA}(f:α->Option β)(R:β->Prop)(I:Sw->Gh->Prop):∀ (xs:List α),
  (∀ x,x∈xs->∀ σ h N,I σ h->(f x=Go->∀ σ' h',I σ' h'->N σ' h')->(∀ y,f x=Dn y->R y)->g (v x) σ h fun σ1 h1=>b { D with nx:=N,ct:=N,bk:=D.nx } σ1 h1) ->
  (xs.findSome? f=Go->∀ σ h,I σ h->D.nx σ h)->(∀ y,xs.findSome? f=Dn y->R y)->∀ (σ : Sw) (h:Gh),I σ h->cT ⟨ws0,Go⟩ g b D (xs.map v) σ h
 | [],_,fin,_,σ,h,h0=>fin rfl σ h h0
 | x::xs,step,fin,ret,σ,h,h0=>by
  refine Hq<|step x LR σ h _ h0 (fun e σ' h' h1=>?_) fun y e=>ret y ?_
  ·refine Wc f R I xs (fun z hz=>step z<|Kw _ hz) (fun e2=>fin ?_) (fun y e2=>ret y ?_) σ' h' h1
   ·rw [List.findSome?_cons,e];exact e2
   ·rw [List.findSome?_cons,e];exact e2
  ·rw [List.findSome?_cons,e]
theorem aaN {α β : Type}{v:α->W}{ws0:List W}{g:MG}{b:MS}{D:bA}(f:α->Option β)(R:β->Prop)(I:Sw->Gh->Prop)(xs:List α)
  (step:∀ x,x∈xs->∀ σ h N,I σ h->(f x=Go->∀ σ' h',I σ' h'->N σ' h')->(∀ y,f x=Dn y->R y)->g (v x) σ h fun σ1 h1=>b { D with nx:=N,ct:=N,bk:=D.nx } σ1 h1)
  (fin:xs.findSome? f=Go->∀ σ h,I σ h->D.nx σ h) (ret:∀ y,xs.findSome? f=Dn y->R y) {σ : Sw} {h:Gh} (h0:I σ h):cT ⟨ws0,Go⟩ g b D (xs.map v) σ h:=Wc f R I xs step fin ret σ h h0
def rng (a m:Nat):List Nat:=List.range' a (m - a)
theorem cW {a m x:Nat}:x∈rng a m↔a<=x/\x<m:=by
 unfold rng;rw [List.mem_range'_1];lia
theorem zj (a m:Nat):wC (a:Int) ((m:Int) - (a:Int)).toNat=(rng a m).map fun x:Nat=>W.int (x:Int):=by
 unfold wC rng;rw [List.range'_eq_map_range,List.map_map,show ((m:Int) - (a:Int)).toNat=m - a by lia];refine List.map_congr_left fun x _=>?_;simp
theorem zaK (m:Nat):wC 0 ((m:Nat):Int).toNat=(rng 0 m).map fun x:Nat=>W.int (x:Int):=by
 have:=zj 0 m
 rw [show ((m:Int) - ((0:Nat):Int)).toNat=((m:Nat):Int).toNat by lia] at this;exact this
def abU (R:Src->Gh->Prop):List W->Gh->Prop:=fun ws h=>match ws with
 | [.int i,.int j]=>wB i (wB j (R ⟨wC i (j - i).toNat,Go⟩ h))
 | _=>False
theorem zbN {ma:MA}{R:Src->Gh->Prop}{σ : Sw}{h:Gh}(x:ma σ h (abU R)):Cu ma σ h R:=x
theorem Yv {R:Src->Gh->Prop}{h:Gh}{a:Int}{m n:Nat}(ha:a=(n:Int))(h1:n<=1000)(h2:m<=1000)(x:R ⟨(rng n m).map fun x:Nat=>W.int (x:Int),Go⟩ h):abU R [.int a,.int (m:Int)] h:=by
 subst ha;rw [<-zj] at x;exact wB.mk (by lia) (by lia)<|wB.mk (by lia) (by lia) x
theorem yG {R:Src->Gh->Prop}{h:Gh}{m:Nat}(h2:m<=1000)(x:R ⟨(rng 0 m).map fun x:Nat=>W.int (x:Int),Go⟩ h):rgK R [.int (m:Int)] h:=by
 rw [<-zaK] at x;exact wB.mk (by lia) (by lia) x
def nxt (l:List Nat):Nat:=match l.getLast? with
 | none=>0
 | some x=>x+1
def grow (m:Nat)(l:List Nat):List (List Nat):=(rng (nxt l) m).map fun p=>l++[p]
def Dz (m:Nat):Nat->List (List Nat)
 | 0=>[[]]
 | k+1=>(Dz m k).flatMap (grow m)
def qG (l:List Nat):W:=.tup (l.map fun x:Nat=>.int (x:Int))
theorem rO {m:Nat}:∀ {k:Nat} {l:List Nat},l∈Dz m k->l.length=k
 | 0,l,h=>by
  rw [Dz,La] at h;rw [h];rfl
 | k+1,l,h=>by
  rw [Dz,List.mem_flatMap] at h;obtain ⟨u,hu,hl⟩:=h;obtain ⟨p,_,rfl⟩:=Mv.mp hl;rw [Lr,rO hu];rfl
theorem Zd {m:Nat}:∀ {k:Nat} {l:List Nat},l∈Dz m k->nxt l<=m
 | 0,l,h=>by
  rw [Dz,La] at h;rw [h];exact O8 _
 | k+1,l,h=>by
  rw [Dz,List.mem_flatMap] at h;obtain ⟨u,hu,hl⟩:=h;obtain ⟨p,hp,rfl⟩:=Mv.mp hl;have:=(cW.mp hp).2
  unfold nxt;rw [List.getLast?_append];simp;lia
theorem qW:∀ m,m<=12->∀ k,k<=4->(Dz m k).length<=1000:=by
 have:(Jo 13).all (fun m=>(Jo 5).all fun k=>decide ((Dz m k).length<=1000))=true:=by decide +kernel
 intro m hm k hk;rw [QS] at this;have h1:=this m (Mw.mpr (by lia));rw [QS] at h1;exact of_decide_eq_true<|h1 k<|Mw.mpr<|by lia
def ZK (h:Gh)(w:W)(ws:List W):Prop:=w=.lst ws\/∃ n,w=.loc n/\h.c n=Dn (.lst ws)
theorem zbv {i:Nat}{g:MG}{b:MS}{D:bA}{σ : Sw}{h:Gh}{w:W}{α : Type}{v:α->W}{xs:List α}(hv:σ[i]?=Dn (Dn w))(e:ZK h w (xs.map v))(I:Nat->Sw->Gh->Prop)
  (go:∀ i σ h',I i σ h'->ZK h' w (xs.map v))
  (step:∀ (i:Nat) (x:α) (σ : Sw) (h:Gh) (N:Sw->Gh->Prop),(∀ σ' h',I (i+1) σ' h'->N σ' h')->xs[i]?=Dn x->I i σ h->g (v x) σ h fun σ1 h1=>b { D with nx:=N,ct:=N,bk:=D.nx } σ1 h1)
  (fin:∀ σ h,I xs.length σ h->D.nx σ h) (h0:I 0 σ h):qX (GF (aq i)) g b D σ h:=by
 unfold qX GF aq;rw [hv];dsimp only;have gen:∀ s:Src,uf h w=Dn s->s.ws=xs.map v->(∀ h',ZK h' w (xs.map v)->∀ P:Prop,P->s.go h' P)->(match uf h w with
   | some s=>cT s g b D s.ws σ h
   | none=>False):=by
  intro s es ew hg;rw [es];show cT s g b D s.ws σ h;rw [ew];refine za I (fun i σ h' hi=>hg h'<|go i σ h' hi) (fun i w σ h N hN e hi=>?_) (fun σ h q=>fin σ h<|by rwa [Eh] at q) h0;rw [Ir] at e;cases q:xs[i]? with
  | none=>rw [q] at e;cases e
  | some x=>
   rw [q] at e;cases e;exact step i x σ h N hN q hi
 rcases e with rfl | ⟨n,rfl,e⟩
 ·exact gen ⟨xs.map v,Go⟩ rfl rfl fun _ _ _ p=>p
 ·refine gen ⟨xs.map v,Dn (n,xs.map v)⟩ (by simp only [uf,e]) rfl fun h' e' P p=>⟨?_,p⟩;rcases e' with e' | ⟨n',e',q⟩
  ·cases e'
  ·cases e';exact q
theorem zbk {a b:List W}{h:Gh}{Q:WK}(hz:a.length+b.length<=1000)(x:Q (.tup (a++b)) h):bN (.tup a) (.tup b) h Q:=by
 cases a with
 | nil=>exact x
 | cons a0 a=>exact jc.mk (GK (by simpa using hz) (by decide:1000<=Dk)) x
theorem agV {m:Nat}{l:List Nat}{σ : Sw}{h:Gh}{Q:WK}(hm:m<=12)(hl:l.length<=4)(hn:nxt l<=m)(h5:σ[5]?=Dn (Dn (qG l)))(h6:σ[6]?=Dn (Dn (.int (nxt l:Int))))(h0:σ[0]?=Dn (Dn (.int (m:Int))))(x:Q (.lst ((grow m l).map qG)) h) :
  Er Gk [5] (Cu (aj (aq 6) (aj (aq 0) aJ))) kY (AP bN (aq 1) (mJ (aj (aq 0) aJ))) σ h Q:=by
 refine Cw<|zbN<|au<|aD h6<|au<|aD h0<|aM ?_
 refine Yv rfl (by lia) (by lia) ?_;have hb:nF [5] σ = [Dn (qG l)]:=by
  show [(σ[5]?).getD Go]=_;rw [h5];rfl
 have hz:((rng (nxt l) m).map fun x:Nat=>W.int (x:Int)).length<=Dk:=by
  rw [Eh];unfold rng;rw [List.length_range'];exact GK (by lia) (by decide:12<=Dk)
 refine jc.mk hz ?_;refine jU (fun i acc h'=>h'=h/\acc=(((rng (nxt l) m).take i).map fun p=>l++[p]).map qG) ?_ ?_ ⟨rfl,rfl⟩
 ·rintro i w acc h' N hN e ⟨rfl,rfl⟩;rw [Ir] at e;cases q:(rng (nxt l) m)[i]? with
  | none=>rw [q] at e;cases e
  | some p=>
   rw [q] at e;cases e;refine ⟨[W.int (p:Int)],rfl,?_⟩;rw [hb];refine qQ<|pI<|bJ<|aD rfl<|d9<|au<|aD rfl<|aM<|cj rfl ?_
   refine zbk (a:=l.map fun x:Nat=>.int (x:Int)) (by rw [Eh];simp;lia) ?_;refine hN _ _ ⟨rfl,?_⟩;rw [Kq,q];simp [qG]
 ·rintro acc h' ⟨rfl,rfl⟩;rw [Eh,Kg];exact x
def Ga (c0:BK):Prop:=∀ {h:Gh} {m k:Nat} {Q:WK} {E:CK},m<=12->k<=4->Q (.lst ((Dz m k).map qG)) h->c0 [.int (m:Int),.int (k:Int)] h Q E
theorem aeO {l:List Nat}{i:Nat}(h:l.length=i+1):∃ x,l.getLast?=Dn x/\Ig (l.map fun x:Nat=>W.int (x:Int)) (i:Int)=Dn (.int (x:Int)):=by
 have hi:i<l.length:=by lia
 refine ⟨l[i],?_,?_⟩
 ·rw [List.getLast?_eq_getElem?,h,Nat.add_sub_cancel,KN hi]
 ·exact cu (by rw [Ir,KN hi];rfl)
theorem abS (n:Nat):∀ l:List Nat,Iu n (l.map fun x:Nat=>W.int (x:Int))
 | []=>by simp [Iu]
 | x::l=>by
  have:=abS n l
  rw [K7,Iu];exact ⟨by simp [Lo],this⟩
theorem ahr (n:Nat)(l:List Nat):Lo n (qG l):=by
 unfold qG;rw [Lo];exact abS n l
theorem rK (n:Nat):∀ ls:List (List Nat),Iu n (ls.map qG)
 | []=>by simp [Iu]
 | l::ls=>by
  have:=rK n ls
  rw [K7,Iu];exact ⟨ahr n l,this⟩
theorem wW {a m i x:Nat}(e:(rng a m)[i]?=Dn x):x=a+i/\x<m:=by
 have hx:=cW.mp (Q8 e);unfold rng at e;have hl:=(K8.mp e).1;rw [List.length_range'] at hl;rw [KN (by rw [List.length_range'];exact hl),List.getElem_range'] at e;have:=Fj e
 lia
theorem afz:Ga tY:=by
 intro h m k Q E hm hk q;unfold tY;refine FQ rfl (σ:=[Dn<|.int (m:Int),Dn<|.int (k:Int),Go,Go,Go,Go,Go]) rfl ?_;refine bw<|cg<|vo<|au<|d9<|aM<|cj rfl<|aM<|cj rfl ?_
 refine nV<|gK ?_
 refine bw<|jQ<|iG<|au<|aD rfl<|aM<|yG (by lia)<|j5 ?_
 refine lK (fun i σ h'=>∃ w s3 s4 s5 s6,σ = [Dn<|.int (m:Int),Dn<|.int (k:Int),Dn w,s3,s4,s5,s6]/\(w=.lst ((Dz m i).map qG)\/∃ n,w=.loc n/\h.nx<=n/\n<h'.nx/\h'.c n=Dn (.lst<|(Dz m i).map qG))/\h.nx<=h'.nx/\∀ n,n<h.nx->h'.c n=h.c n) ?_ ?_ ⟨_,_,_,_,_,rfl,.inl rfl,Dp _,fun _ _=>rfl⟩
 ·rintro i w0 σ h' N hN e ⟨w,s3,s4,s5,s6,rfl,hw,hx,ho⟩;rw [Ir] at e;cases qe:(rng 0 k)[i]? with
  | none=>rw [qe] at e;cases e
  | some i'=>
   rw [qe] at e;cases e;obtain ⟨ei,hik⟩:=wW qe;rw [S8] at ei;subst ei;refine nV ?_;refine bw<|cg<|Jw (ws:=[]) (fun R=>rfl) rfl fun g eg og xg=>?_
   refine nV<|gK ?_
   refine bw ?_;have sw:∀ g':Gh,(∀ n,n≠h'.nx->g'.c n=h'.c n)->ZK g' w ((Dz m i').map qG):=by
    intro g' hg;rcases hw with rfl | ⟨n,rfl,h1,h2,h3⟩
    ·exact .inl rfl
    ·exact .inr ⟨n,rfl,by rw [hg n<|by lia];exact h3⟩
   refine zbv (i:=2) (w:=w) (v:=qG) (xs:=Dz m i') rfl (sw g og) (fun j σ g'=>∃ s5 s6,σ = [Dn<|.int (m:Int),Dn<|.int (k:Int),Dn w,Dn<|.int (i':Int),Dn<|.loc h'.nx,s5,s6]/\g'.c h'.nx=Dn (.lst<|(((Dz m i').take j).flatMap (grow m)).map qG)/\g'.nx=h'.nx+1/\∀ n,n≠h'.nx->g'.c n=h'.c n) ?_ ?_ ?_ ⟨_,_,rfl,eg,xg,og⟩
   ·rintro j σ g' ⟨s5,s6,rfl,h1,h2,h3⟩;exact sw g' h3
   ·rintro j l σ g' N2 hN2 el ⟨s5,s6,rfl,h1,h2,h3⟩;have ml:=Q8 el;have ll:=rO ml;have ln:=Zd ml;refine nV ?_;have fin:∀ σ,σ = [Dn (.int (m:Int)),Dn (.int (k:Int)),Dn w,Dn (.int (i':Int)),Dn (.loc h'.nx),Dn (qG l),Dn (.int (nxt l:Int))]->uI (Ov gM (aq 4) (aj (Er Gk [5] (Cu (aj (aq 6) (aj (aq 0) aJ))) kY (AP bN (aq 1) (mJ (aj (aq 0) aJ)))) aJ)) { nx:=N2,rt:=fun w h'=>vU true h w h' Q,bk:=fun _ _=>False,ct:=N2 } σ g':=by
     rintro σ rfl;refine pD<|Gd<|aD rfl<|wU h1<|au<|agV hm (by lia) ln rfl rfl rfl<|aM<|Z2 h1 ?_ fun g2 e2 o2 x2=>?_
     ·rw [Eh,Eh,<-Lr,show grow m l=[l].flatMap (grow m) by simp,<-List.flatMap_append];have hp:(Dz m i').take (j+1)=(Dz m i').take j++[l]:=by rw [Kq,el];rfl
      rw [<-hp];have hr:=qW m hm (i'+1) (by lia);rw [Dz,<-List.take_append_drop (j+1) (Dz m i'),List.flatMap_append,Lr] at hr;lia
     ·refine hN2 _ _ ⟨_,_,rfl,?_,by rw [x2];exact h2,fun n hn=>by rw [o2 n hn];exact h3 n hn⟩;rw [e2,Kq,el,List.flatMap_append,Ug];simp
    refine bw<|cg<|Wx<|cO<|bJ<|aD rfl<|cA<|Wu<|Dy ?_
    refine J4 (fun hp=>?_) fun hp=>?_
    ·obtain ⟨x,ex,ax⟩:=aeO (l:=l) (i:=i' - 1) (by lia);have en:nxt l=x+1:=by unfold nxt;rw [ex]
     refine bJ<|bJ<|aD rfl<|bJ<|aD rfl<|cA<|Nt<|jd (x:=qG l) (i:=(i':Int) - 1) (w:=.int (x:Int)) rfl ?_<|cA<|lU ?_
     ·rw [show (i':Int) - 1=((i' - 1:Nat):Int) by lia];exact ax
     ·refine dI (σ':=[Dn<|.int (m:Int),Dn<|.int (k:Int),Dn w,Dn<|.int (i':Int),Dn<|.loc h'.nx,Dn<|qG l,Dn<|.int (nxt l:Int)]) (by rw [en];rfl)<|gK<|fin _ rfl
    ·have l0:l=[]:=V3 (by lia);have en:nxt l=0:=by rw [l0];rfl
     refine cA ?_;refine dI (σ':=[Dn<|.int (m:Int),Dn<|.int (k:Int),Dn w,Dn<|.int (i':Int),Dn<|.loc h'.nx,Dn<|qG l,Dn<|.int (nxt l:Int)]) (by rw [en];rfl)<|gK<|fin _ rfl
   ·rintro σ g' ⟨s5,s6,rfl,h1,h2,h3⟩;rw [Kg] at h1;refine gK ?_;refine cg ?_;refine aD rfl ?_;refine nV<|gK ?_
    exact hN _ _ ⟨_,_,_,_,_,rfl,.inr ⟨_,rfl,hx,by lia,h1⟩,by lia,fun n hn=>by rw [h3 n<|by lia];exact ho n hn⟩
 ·rintro σ h' ⟨w,s3,s4,s5,s6,rfl,hw,hx,ho⟩;have hl:((rng 0 k).map fun x:Nat=>W.int (x:Int)).length=k:=by
   rw [Eh];unfold rng;rw [List.length_range'];lia
  rw [hl] at hw;unfold qY;refine gK ?_;refine mV ?_;refine aD rfl ?_;refine Sd ?_;refine ⟨fun n c hn e=>by rw [ho n hn];exact e,?_⟩;rcases hw with rfl | ⟨n,rfl,h1,h2,h3⟩
  ·exact .inl ⟨by rw [Lo];exact rK _ _,q⟩
  ·exact .inr ⟨n,_,rfl,h1,h3,rK _ _,q⟩
def gt (ts:List Tr)(i:Nat):Tr:=ts.getD i (0,0,0)
def Ma (m:Nat)(ts:List Tr):Prop:=∀ t∈ts,Pl t/\CN m t
theorem p7 {ts:List Tr}{i:Nat}(hi:i<ts.length):gt ts i∈ts:=by
 unfold gt;rw [S9,KN hi];exact Uh hi
theorem Wk {ts:List Tr}{i:Nat}(hi:i<ts.length):ts[i]?=Dn (gt ts i):=by
 unfold gt;rw [S9,KN hi];rfl
theorem wD.at {h:Gh}{w:W}{ts:List Tr}(e:wD h w ts){i:Nat}(hi:i<ts.length){Q:WK}(k:Q (tw (gt ts i)) h):Bw w (.int (i:Int)) h Q:=
 jd e.src.1 (cu (by rw [Ir,Wk hi];rfl)) k
theorem Yk {h:Gh}{w:W}{ts:List Tr}(e:wD h w ts){Q:WK}(k:Q (.int (ts.length:Int)) h):HF [w] h Q:=by
 refine mG e.src.1 ?_;rw [Eh];exact k
def X4 (c0:BK):Prop:=∀ {h:Gh} {w:W} {ts:List Tr} {l:List Nat} {Q:WK} {E:CK},wD h w ts->(∀ i∈l,i<ts.length)->l.length<=1000->Q (.lst ((l.map (gt ts)).map tw)) h->c0 [w,qG l] h Q E
theorem aer:X4 tR:=by
 intro h w ts l Q E e hl hz q;unfold tR;refine jO rfl (σ:=[Dn w,Dn<|qG l]) rfl<|mV<|Cw<|Jp<|aD rfl<|Ss (ws:=l.map fun x:Nat=>.int (x:Int)) (o:=Go) rfl ?_
 refine jc.mk (by rw [Eh];exact GK hz (by decide)) ?_;refine jU (fun i acc h'=>h'=h/\acc=((l.take i).map (gt ts)).map tw) ?_ ?_ ⟨rfl,rfl⟩
 ·rintro i w2 acc h' N hN e2 ⟨rfl,rfl⟩;rw [Ir] at e2;cases qe:l[i]? with
  | none=>rw [qe] at e2;cases e2
  | some p=>
   rw [qe] at e2;cases e2;refine ⟨[W.int (p:Int)],rfl,?_⟩;refine qQ<|bJ<|aD rfl<|aD rfl<|e.at (hl p<|Q8 qe) ?_
   refine hN _ _ ⟨rfl,?_⟩;rw [Kq,qe];simp
 ·rintro acc h' ⟨rfl,rfl⟩;rw [Eh,Kg];exact Sd q
theorem Io {m:Nat}:∀ {k:Nat} {l:List Nat},l∈Dz m k->∀ i∈l,i<m
 | 0,l,h=>by
  rw [Dz,La] at h;subst h;intro i hi;cases hi
 | k+1,l,h=>by
  rw [Dz,List.mem_flatMap] at h;obtain ⟨u,hu,hl⟩:=h;obtain ⟨p,hp,rfl⟩:=Mv.mp hl;intro i hi;rcases Rv.mp hi with hi | hi
  ·exact Io hu i hi
  ·rw [La.mp hi];exact (cW.mp hp).2
def aag (us:List Tr):Prop:=∃ a b c,a<b/\b<c/\c<us.length/\dt3 (crs (gt us a) (gt us b)) (gt us c)=0
theorem ahp {us:List Bool}{h:Gh}{Q:WK}(k:Q (.bl (us.any id)) h):Ql [.lst (us.map .bl)] h Q:=Oh rfl (xV us) k
def Five (a b c d e:Tr):Prop:=¬ aag [a,b,c,d,e]
theorem zaD {a b c d e:Tr}(h:Five a b c d e):dt3 (crs a b) c≠0/\dt3 (crs a b) d≠0/\dt3 (crs a b) e≠0/\dt3 (crs a c) d≠0/\dt3 (crs a c) e≠0/\dt3 (crs a d) e≠0/\dt3 (crs b c) d≠0/\dt3 (crs b c) e≠0/\dt3 (crs b d) e≠0/\dt3 (crs c d) e≠0:=by
 have g:∀ i j k,i<j->j<k->k<5->dt3 (crs (gt [a,b,c,d,e] i) (gt [a,b,c,d,e] j)) (gt [a,b,c,d,e] k)≠0:=fun i j k h1 h2 h3 z=>h ⟨i,j,k,h1,h2,h3,z⟩
 exact ⟨g 0 1 2 (by decide) (by decide)<|by decide,g 0 1 3 (by decide) (by decide)<|by decide,g 0 1 4 (by decide) (by decide)<|by decide,g 0 2 3 (by decide) (by decide)<|by decide,g 0 2 4 (by decide) (by decide)<|by decide,g 0 3 4 (by decide) (by decide)<|by decide,g 1 2 3 (by decide) (by decide)<|by decide,g 1 2 4 (by decide) (by decide)<|by decide,g 1 3 4 (by decide) (by decide)<|by decide,g 2 3 4 (by decide) (by decide)<|by decide⟩
theorem cD {σ : Sw}{h:Gh}{Q:Option Int->Gh->Prop}(x:Q Go h):dG σ h Q:=x
theorem mO {ws us:List W}{lo hi:Option Int}{h:Gh}{Q:WK}(e:vO ws lo hi=us)(x:Q (.lst us) h):wA (.lst ws) lo hi h Q:=by
 subst e;exact x
def r6 (a b c d e f:Tr):W:=.lst [tw a,tw b,tw c,tw d,tw e,tw f]
structure Rd (a b c d e f:Tr):Prop where
 pa:Pl a
 pb:Pl b
 pc:Pl c
 pd:Pl d
 pe:Pl e
 pf:Pl f
 sa:CN 60 a
 sb:CN 60 b
 sc:CN 60 c
 sd:CN 60 d
 se:CN 60 e
 sf:CN 1800 f
def Bp (a b c:Tr):Int:=dt3 (crs a b) c
theorem adq (u v w:Tr):Bp u v w=Bp v w u:=by
 obtain ⟨u1,u2,u3⟩:=u;obtain ⟨v1,v2,v3⟩:=v;obtain ⟨w1,w2,w3⟩:=w;simp only [Bp,crs,dt3];grind
def Bm (c0:BK):Prop:=∀ {h:Gh} {p q r:Tr} {m:Nat} {Q:WK} {E:CK},m<=4000->CN m p->CN m q->CN m r->Q (.int (dt3 (crs p q) r)) h->c0 [tw p,tw q,tw r] h Q E
def z3 (ts:List Tr)(i j k:Nat):Option Unit:=if dt3 (crs (gt ts i) (gt ts j)) (gt ts k)=0 then Dn () else Go
theorem gt5 {a b c d e f:Tr}{i:Nat}(h:i<5):gt [a,b,c,d,e,f] i=gt [a,b,c,d,e] i:=by
 rcases (show i=0\/i=1\/i=2\/i=3\/i=4 by lia) with rfl | rfl | rfl | rfl | rfl <;> rfl
open Classical in
noncomputable def Hf (a b c d e:Tr):Bool:=decide (Five a b c d e)
open Classical in
theorem JQ {a b c d e:Tr}(h:Five a b c d e):Hf a b c d e=true:=by unfold Hf;exact decide_eq_true h
open Classical in
theorem Ji {a b c d e:Tr}(h:¬ Five a b c d e):Hf a b c d e=false:=by unfold Hf;exact decide_eq_false h
def J5 (a b c d:Tr):C6:=qI (crs a b) (crs c d)
def JZ (a b c d:Tr):C6:=qI (crs a c) (crs b d)
theorem N5 {m n:Nat}{c:C6}{p:Tr}(hc:Et m c)(hp:CN n p):Sm (m+n+n+5) (Ck c p):=by
 obtain ⟨h1,h2,h3,h4,h5,h6⟩:=hc;obtain ⟨hx,hy,hz⟩:=hp;unfold Ck;exact ((((((h1.mul hx).mul hx).add ((h3.mul hy).mul hy)).add ((h6.mul hz).mul hz)).add ((h2.mul hx).mul hy)).add ((h4.mul hx).mul hz)).add ((h5.mul hy).mul hz) |>.mono (by lia)
def WR (h t:Int)(o n:C6):C6:=(h*o.1 - t*n.1,h*o.2.1 - t*n.2.1,h*o.2.2.1 - t*n.2.2.1,h*o.2.2.2.1 - t*n.2.2.2.1,h*o.2.2.2.2.1 - t*n.2.2.2.2.1,h*o.2.2.2.2.2 - t*n.2.2.2.2.2)
theorem ahb (h t:Int)(o n:C6)(x:Tr):Ck (WR h t o n) x=h*Ck o x - t*Ck n x:=by
 simp only [Ck,WR];grind
theorem rm {c:C6}{x:Tr}(h:Ck c x≠0):NZ (Ht c):=by
 obtain ⟨c1,c2,c3,c4,c5,c6⟩:=c;by_cases z:c1=0/\c2=0/\c3=0/\c4=0/\c5=0/\c6=0
 ·obtain ⟨rfl,rfl,rfl,rfl,rfl,rfl⟩:=z;refine absurd ?_ h;simp [Ck]
 ·have:∃ n∈[c1,c2,c3,c4,c5,c6],n≠0:=by
   by_cases z1:c1=0
   ·by_cases z2:c2=0
    ·by_cases z3:c3=0
     ·by_cases z4:c4=0
      ·by_cases z5:c5=0
       ·by_cases z6:c6=0
        ·exact absurd ⟨z1,z2,z3,z4,z5,z6⟩ z
        ·exact ⟨c6,by simp,z6⟩
       ·exact ⟨c5,by simp,z5⟩
      ·exact ⟨c4,by simp,z4⟩
     ·exact ⟨c3,by simp,z3⟩
    ·exact ⟨c2,by simp,z2⟩
   ·exact ⟨c1,by simp,z1⟩
  exact this
def wz (s t:Int)(p q:Tr):Tr:=(s*p.1 - t*q.1,s*p.2.1 - t*q.2.1,s*p.2.2 - t*q.2.2)
theorem bR (x y:Tr):Bp x y y=0/\Bp x x y=0/\Bp x y x=0:=by
 refine ⟨?_,?_,?_⟩ <;> simp only [Bp,crs,dt3] <;> grind
theorem brr (s t:Int)(u v p q:Tr):Bp p q (wz s t u v)=s*Bp p q u - t*Bp p q v:=by
 simp only [Bp,crs,dt3,wz];grind
theorem cN (a b c:Tr):Bp b c a=Bp a b c:=(adq a b c).symm
theorem cJ (a b c:Tr):Bp a c b = - Bp a b c:=by
 simp only [Bp,crs,dt3];grind
theorem Zh (a b c:Tr):Bp c b a = - Bp a b c:=by rw [cN a c b,cJ]
theorem f1 (a b c d e:Tr):Bp b d e*Bp a c d - Bp a d e*Bp b c d=Bp a b d*Bp c d e:=by
 simp only [Bp,crs,dt3];grind
theorem f2 (a b c d e:Tr):Bp a c e*Bp a b d - Bp a d e*Bp a b c=Bp a b e*Bp a c d:=by
 simp only [Bp,crs,dt3];grind
theorem f3 (a b c d e:Tr):Bp a b c*Bp c d e+Bp a c e*Bp b c d=Bp a c d*Bp b c e:=by
 simp only [Bp,crs,dt3];grind
theorem f4 (a b c d e:Tr):Bp a b e*Bp b c d+Bp a b c*Bp b d e=Bp a b d*Bp b c e:=by
 simp only [Bp,crs,dt3];grind
theorem cl2 (b c l:Tr):crs (crs b c) l=wz (dt3 l b) (dt3 l c) c b:=by
 simp only [crs,dt3,wz];refine Jm ?_<|Jm ?_ ?_
 ·simp only;grind
 ·simp only;grind
 ·simp only;grind
def je (a b c d e:Tr):C6:=WR (Ck (J5 a b c d) e) (Ck (JZ a b c d) e) (JZ a b c d) (J5 a b c d)
theorem Es (a b c d e x:Tr):Ck (je a b c d e) x=Bp a b e*Bp c d e*(Bp a c x*Bp b d x) - Bp a c e*Bp b d e*(Bp a b x*Bp c d x):=by
 have v1:∀ x,Ck (J5 a b c d) x=Bp a b x*Bp c d x:=fun x=>iV _ _ _
 have v2:∀ x,Ck (JZ a b c d) x=Bp a c x*Bp b d x:=fun x=>iV _ _ _
 unfold je;rw [ahb,v1,v2,v1,v2]
theorem aeo (h t:Int)(o n:C6)(e x:Tr):dt3 (vm (aV (WR h t o n)) e) x=h*dt3 (vm (aV o) e) x - t*dt3 (vm (aV n) e) x:=by
 simp only [dt3,vm,aV,WR];grind
theorem Aw (u v e x:Tr):dt3 (vm (aV (qI u v)) e) x=dt3 u e*dt3 v x+dt3 u x*dt3 v e:=by
 simp only [dt3,vm,aV,qI];grind
theorem aeB (t l c d:Tr):dt3 (crs t l) (crs c d)=dt3 t c*dt3 l d - dt3 t d*dt3 l c:=by
 simp only [dt3,crs];grind
section
variable {a b c d e l:Tr}
end
structure G5 (ts:List Tr):Prop where
 pl:∀ t∈ts,Pl t
 nd:ts.Nodup
 four:∀ n:Tr,n≠(0,0,0)->∀ x∈ts,∃ y∈ts,y≠x/\dt3 n y≠0
theorem G5.no {ts:List Tr}(G:G5 ts){p q r s t:Tr}(h:∀ y∈ts,y=p\/y=q\/y=r\/y=s\/y=t)(hp:p∈ts)(hq:q∈ts)(ht:t∈ts)(pq:p≠q):¬ (Bp p q r=0/\Bp p q s=0):=fun z=>by
 obtain ⟨y,hy,ne,d⟩:=G.four (crs p q) (gG (G.pl p hp) (G.pl q hq) pq) t ht;rcases h y hy with rfl | rfl | rfl | rfl | rfl
 ·exact d<|kJ _ _
 ·exact d<|tB _ _
 ·exact d z.1
 ·exact d z.2
 ·exact ne rfl
structure Br (a b c d e:Tr):Prop where
 n1:¬ (Bp a b c=0/\Bp a b d=0)
 n2:¬ (Bp a b c=0/\Bp a b e=0)
 n3:¬ (Bp a b d=0/\Bp a b e=0)
 n4:¬ (Bp a b c=0/\Bp a c d=0)
 n5:¬ (Bp a b c=0/\Bp a c e=0)
 n6:¬ (Bp a c d=0/\Bp a c e=0)
 n7:¬ (Bp a b d=0/\Bp a c d=0)
 n8:¬ (Bp a b d=0/\Bp a d e=0)
 n9:¬ (Bp a c d=0/\Bp a d e=0)
 n10:¬ (Bp a b e=0/\Bp a c e=0)
 n11:¬ (Bp a b e=0/\Bp a d e=0)
 n12:¬ (Bp a c e=0/\Bp a d e=0)
 n13:¬ (Bp a b c=0/\Bp b c d=0)
 n14:¬ (Bp a b c=0/\Bp b c e=0)
 n15:¬ (Bp b c d=0/\Bp b c e=0)
 n16:¬ (Bp a b d=0/\Bp b c d=0)
 n17:¬ (Bp a b d=0/\Bp b d e=0)
 n18:¬ (Bp b c d=0/\Bp b d e=0)
 n19:¬ (Bp a b e=0/\Bp b c e=0)
 n20:¬ (Bp a b e=0/\Bp b d e=0)
 n21:¬ (Bp b c e=0/\Bp b d e=0)
 n22:¬ (Bp a c d=0/\Bp b c d=0)
 n23:¬ (Bp a c d=0/\Bp c d e=0)
 n24:¬ (Bp b c d=0/\Bp c d e=0)
 n25:¬ (Bp a c e=0/\Bp b c e=0)
 n26:¬ (Bp a c e=0/\Bp c d e=0)
 n27:¬ (Bp b c e=0/\Bp c d e=0)
 n28:¬ (Bp a d e=0/\Bp b d e=0)
 n29:¬ (Bp a d e=0/\Bp c d e=0)
 n30:¬ (Bp b d e=0/\Bp c d e=0)
theorem Br.of {a b c d e:Tr}(G:G5 [a,b,c,d,e]):Br a b c d e:=by
 have nd:=G.nd;simp only [Lq,Cr,Dl,or_false,not_or,not_false_eq_true,List.nodup_nil,and_true] at nd;obtain ⟨⟨ab,ac,ad,ae⟩,⟨bc,bd,be⟩,⟨cd,ce⟩,de⟩:=nd;exact {
  n1:=fun z=>G.no (p:=a) (q:=b) (r:=c) (s:=d) (t:=e) (fun y hy=>by simp only [Cr,Dl,or_false] at hy;rcases hy with h | h | h | h | h <;> simp [h]) (by simp) (by simp) (by simp) ab ⟨z.1,z.2⟩
  n2:=fun z=>G.no (p:=a) (q:=b) (r:=c) (s:=e) (t:=d) (fun y hy=>by simp only [Cr,Dl,or_false] at hy;rcases hy with h | h | h | h | h <;> simp [h]) (by simp) (by simp) (by simp) ab ⟨z.1,z.2⟩
  n3:=fun z=>G.no (p:=a) (q:=b) (r:=d) (s:=e) (t:=c) (fun y hy=>by simp only [Cr,Dl,or_false] at hy;rcases hy with h | h | h | h | h <;> simp [h]) (by simp) (by simp) (by simp) ab ⟨z.1,z.2⟩
  n4:=fun z=>G.no (p:=a) (q:=c) (r:=b) (s:=d) (t:=e) (fun y hy=>by simp only [Cr,Dl,or_false] at hy;rcases hy with h | h | h | h | h <;> simp [h]) (by simp) (by simp) (by simp) ac ⟨(by rw [cJ a b c,z.1];rfl),z.2⟩
  n5:=fun z=>G.no (p:=a) (q:=c) (r:=b) (s:=e) (t:=d) (fun y hy=>by simp only [Cr,Dl,or_false] at hy;rcases hy with h | h | h | h | h <;> simp [h]) (by simp) (by simp) (by simp) ac ⟨(by rw [cJ a b c,z.1];rfl),z.2⟩
  n6:=fun z=>G.no (p:=a) (q:=c) (r:=d) (s:=e) (t:=b) (fun y hy=>by simp only [Cr,Dl,or_false] at hy;rcases hy with h | h | h | h | h <;> simp [h]) (by simp) (by simp) (by simp) ac ⟨z.1,z.2⟩
  n7:=fun z=>G.no (p:=a) (q:=d) (r:=b) (s:=c) (t:=e) (fun y hy=>by simp only [Cr,Dl,or_false] at hy;rcases hy with h | h | h | h | h <;> simp [h]) (by simp) (by simp) (by simp) ad ⟨(by rw [cJ a b d,z.1];rfl),(by rw [cJ a c d,z.2];rfl)⟩
  n8:=fun z=>G.no (p:=a) (q:=d) (r:=b) (s:=e) (t:=c) (fun y hy=>by simp only [Cr,Dl,or_false] at hy;rcases hy with h | h | h | h | h <;> simp [h]) (by simp) (by simp) (by simp) ad ⟨(by rw [cJ a b d,z.1];rfl),z.2⟩
  n9:=fun z=>G.no (p:=a) (q:=d) (r:=c) (s:=e) (t:=b) (fun y hy=>by simp only [Cr,Dl,or_false] at hy;rcases hy with h | h | h | h | h <;> simp [h]) (by simp) (by simp) (by simp) ad ⟨(by rw [cJ a c d,z.1];rfl),z.2⟩
  n10:=fun z=>G.no (p:=a) (q:=e) (r:=b) (s:=c) (t:=d) (fun y hy=>by simp only [Cr,Dl,or_false] at hy;rcases hy with h | h | h | h | h <;> simp [h]) (by simp) (by simp) (by simp) ae ⟨(by rw [cJ a b e,z.1];rfl),(by rw [cJ a c e,z.2];rfl)⟩
  n11:=fun z=>G.no (p:=a) (q:=e) (r:=b) (s:=d) (t:=c) (fun y hy=>by simp only [Cr,Dl,or_false] at hy;rcases hy with h | h | h | h | h <;> simp [h]) (by simp) (by simp) (by simp) ae ⟨(by rw [cJ a b e,z.1];rfl),(by rw [cJ a d e,z.2];rfl)⟩
  n12:=fun z=>G.no (p:=a) (q:=e) (r:=c) (s:=d) (t:=b) (fun y hy=>by simp only [Cr,Dl,or_false] at hy;rcases hy with h | h | h | h | h <;> simp [h]) (by simp) (by simp) (by simp) ae ⟨(by rw [cJ a c e,z.1];rfl),(by rw [cJ a d e,z.2];rfl)⟩
  n13:=fun z=>G.no (p:=b) (q:=c) (r:=a) (s:=d) (t:=e) (fun y hy=>by simp only [Cr,Dl,or_false] at hy;rcases hy with h | h | h | h | h <;> simp [h]) (by simp) (by simp) (by simp) bc ⟨(by rw [cN a b c];exact z.1),z.2⟩
  n14:=fun z=>G.no (p:=b) (q:=c) (r:=a) (s:=e) (t:=d) (fun y hy=>by simp only [Cr,Dl,or_false] at hy;rcases hy with h | h | h | h | h <;> simp [h]) (by simp) (by simp) (by simp) bc ⟨(by rw [cN a b c];exact z.1),z.2⟩
  n15:=fun z=>G.no (p:=b) (q:=c) (r:=d) (s:=e) (t:=a) (fun y hy=>by simp only [Cr,Dl,or_false] at hy;rcases hy with h | h | h | h | h <;> simp [h]) (by simp) (by simp) (by simp) bc ⟨z.1,z.2⟩
  n16:=fun z=>G.no (p:=b) (q:=d) (r:=a) (s:=c) (t:=e) (fun y hy=>by simp only [Cr,Dl,or_false] at hy;rcases hy with h | h | h | h | h <;> simp [h]) (by simp) (by simp) (by simp) bd ⟨(by rw [cN a b d];exact z.1),(by rw [cJ b c d,z.2];rfl)⟩
  n17:=fun z=>G.no (p:=b) (q:=d) (r:=a) (s:=e) (t:=c) (fun y hy=>by simp only [Cr,Dl,or_false] at hy;rcases hy with h | h | h | h | h <;> simp [h]) (by simp) (by simp) (by simp) bd ⟨(by rw [cN a b d];exact z.1),z.2⟩
  n18:=fun z=>G.no (p:=b) (q:=d) (r:=c) (s:=e) (t:=a) (fun y hy=>by simp only [Cr,Dl,or_false] at hy;rcases hy with h | h | h | h | h <;> simp [h]) (by simp) (by simp) (by simp) bd ⟨(by rw [cJ b c d,z.1];rfl),z.2⟩
  n19:=fun z=>G.no (p:=b) (q:=e) (r:=a) (s:=c) (t:=d) (fun y hy=>by simp only [Cr,Dl,or_false] at hy;rcases hy with h | h | h | h | h <;> simp [h]) (by simp) (by simp) (by simp) be ⟨(by rw [cN a b e];exact z.1),(by rw [cJ b c e,z.2];rfl)⟩
  n20:=fun z=>G.no (p:=b) (q:=e) (r:=a) (s:=d) (t:=c) (fun y hy=>by simp only [Cr,Dl,or_false] at hy;rcases hy with h | h | h | h | h <;> simp [h]) (by simp) (by simp) (by simp) be ⟨(by rw [cN a b e];exact z.1),(by rw [cJ b d e,z.2];rfl)⟩
  n21:=fun z=>G.no (p:=b) (q:=e) (r:=c) (s:=d) (t:=a) (fun y hy=>by simp only [Cr,Dl,or_false] at hy;rcases hy with h | h | h | h | h <;> simp [h]) (by simp) (by simp) (by simp) be ⟨(by rw [cJ b c e,z.1];rfl),(by rw [cJ b d e,z.2];rfl)⟩
  n22:=fun z=>G.no (p:=c) (q:=d) (r:=a) (s:=b) (t:=e) (fun y hy=>by simp only [Cr,Dl,or_false] at hy;rcases hy with h | h | h | h | h <;> simp [h]) (by simp) (by simp) (by simp) cd ⟨(by rw [cN a c d];exact z.1),(by rw [cN b c d];exact z.2)⟩
  n23:=fun z=>G.no (p:=c) (q:=d) (r:=a) (s:=e) (t:=b) (fun y hy=>by simp only [Cr,Dl,or_false] at hy;rcases hy with h | h | h | h | h <;> simp [h]) (by simp) (by simp) (by simp) cd ⟨(by rw [cN a c d];exact z.1),z.2⟩
  n24:=fun z=>G.no (p:=c) (q:=d) (r:=b) (s:=e) (t:=a) (fun y hy=>by simp only [Cr,Dl,or_false] at hy;rcases hy with h | h | h | h | h <;> simp [h]) (by simp) (by simp) (by simp) cd ⟨(by rw [cN b c d];exact z.1),z.2⟩
  n25:=fun z=>G.no (p:=c) (q:=e) (r:=a) (s:=b) (t:=d) (fun y hy=>by simp only [Cr,Dl,or_false] at hy;rcases hy with h | h | h | h | h <;> simp [h]) (by simp) (by simp) (by simp) ce ⟨(by rw [cN a c e];exact z.1),(by rw [cN b c e];exact z.2)⟩
  n26:=fun z=>G.no (p:=c) (q:=e) (r:=a) (s:=d) (t:=b) (fun y hy=>by simp only [Cr,Dl,or_false] at hy;rcases hy with h | h | h | h | h <;> simp [h]) (by simp) (by simp) (by simp) ce ⟨(by rw [cN a c e];exact z.1),(by rw [cJ c d e,z.2];rfl)⟩
  n27:=fun z=>G.no (p:=c) (q:=e) (r:=b) (s:=d) (t:=a) (fun y hy=>by simp only [Cr,Dl,or_false] at hy;rcases hy with h | h | h | h | h <;> simp [h]) (by simp) (by simp) (by simp) ce ⟨(by rw [cN b c e];exact z.1),(by rw [cJ c d e,z.2];rfl)⟩
  n28:=fun z=>G.no (p:=d) (q:=e) (r:=a) (s:=b) (t:=c) (fun y hy=>by simp only [Cr,Dl,or_false] at hy;rcases hy with h | h | h | h | h <;> simp [h]) (by simp) (by simp) (by simp) de ⟨(by rw [cN a d e];exact z.1),(by rw [cN b d e];exact z.2)⟩
  n29:=fun z=>G.no (p:=d) (q:=e) (r:=a) (s:=c) (t:=b) (fun y hy=>by simp only [Cr,Dl,or_false] at hy;rcases hy with h | h | h | h | h <;> simp [h]) (by simp) (by simp) (by simp) de ⟨(by rw [cN a d e];exact z.1),(by rw [cN c d e];exact z.2)⟩
  n30:=fun z=>G.no (p:=d) (q:=e) (r:=b) (s:=c) (t:=a) (fun y hy=>by simp only [Cr,Dl,or_false] at hy;rcases hy with h | h | h | h | h <;> simp [h]) (by simp) (by simp) (by simp) de ⟨(by rw [cN b d e];exact z.1),(by rw [cN c d e];exact z.2)⟩ }
section
variable {a b c d e:Tr}
theorem yg (a b c d e:Tr):∀ x∈[a,b,c,d,e],Ck (je a b c d e) x=0:=by
 intro x hx;simp only [Cr,Dl,or_false] at hx;rw [Es];rcases hx with rfl | rfl | rfl | rfl | rfl
 ·rw [(bR x c).2.2,(bR x b).2.2];simp
 ·rw [(bR x d).2.2,(bR a x).1];simp
 ·rw [(bR a x).1,(bR x d).2.2];simp
 ·rw [(bR b x).1,(bR c x).1];simp
 ·grind
theorem Ks (p q u v:Tr):Bp p q (wz 1 (-1) u v)=Bp p q u+Bp p q v:=by
 rw [brr];lia
theorem nG {x y:Int}(hx:x≠0)(hy:y≠0):x*y≠0:=Int.mul_ne_zero hx hy
theorem O5 (B:Br a b c d e):NZ (Ht (je a b c d e)):=by
 have x1:Ck (je a b c d e) (wz 1 (-1) a b) = - (Bp a b e*Bp c d e*(Bp a b c*Bp a b d)):=by
  rw [Es,Ks,Ks,Ks,Ks,(bR a c).2.2,(bR b d).2.2,(bR a b).2.2,(bR a b).1,cJ a b c,cN a b d];grind
 have x2:Ck (je a b c d e) (wz 1 (-1) c d) = - (Bp a b e*Bp c d e*(Bp a c d*Bp b c d)):=by
  rw [Es,Ks,Ks,Ks,Ks,(bR a c).1,(bR b d).1,(bR c d).2.2,(bR c d).1,cJ b c d];grind
 have x3:Ck (je a b c d e) (wz 1 (-1) b d) = - (Bp a c e*Bp b d e*(Bp a b d*Bp b c d)):=by
  rw [Es,Ks,Ks,Ks,Ks,(bR b d).2.2,(bR b d).1,(bR a b).1,(bR c d).1,cN b c d];grind
 have x4:Ck (je a b c d e) (wz 1 (-1) a c) = - (Bp a c e*Bp b d e*(Bp a b c*Bp a c d)):=by
  rw [Es,Ks,Ks,Ks,Ks,(bR a c).2.2,(bR a c).1,(bR a b).2.2,(bR c d).2.2,cN a c d];grind
 have neg:∀ {i:Int},i≠0->-i≠0:=fun h z=>h (by lia)
 by_cases H:Bp a b e*Bp c d e=0
 ·have K:Bp a c e*Bp b d e≠0:=fun K=>by
   rcases Ja.mp H with h | h <;> rcases Ja.mp K with k | k
   ·exact B.n10 ⟨h,k⟩
   ·exact B.n20 ⟨h,k⟩
   ·exact B.n26 ⟨k,h⟩
   ·exact B.n30 ⟨k,h⟩
  by_cases z:Bp a b d=0
  ·exact rm (x:=wz 1 (-1) a c) (by rw [x4];exact neg (nG K<|nG (fun y=>B.n1 ⟨y,z⟩) fun y=>B.n7 ⟨z,y⟩))
  ·by_cases z2:Bp b c d=0
   ·exact rm (x:=wz 1 (-1) a c) (by rw [x4];exact neg (nG K<|nG (fun y=>B.n13 ⟨y,z2⟩) fun y=>B.n22 ⟨y,z2⟩))
   ·exact rm (x:=wz 1 (-1) b d) (by rw [x3];exact neg (nG K<|nG z z2))
 ·by_cases z:Bp a b c=0
  ·exact rm (x:=wz 1 (-1) c d) (by rw [x2];exact neg (nG H<|nG (fun y=>B.n4 ⟨z,y⟩) fun y=>B.n13 ⟨z,y⟩))
  ·by_cases z2:Bp a b d=0
   ·exact rm (x:=wz 1 (-1) c d) (by rw [x2];exact neg (nG H<|nG (fun y=>B.n7 ⟨z2,y⟩) fun y=>B.n16 ⟨z2,y⟩))
   ·exact rm (x:=wz 1 (-1) a b) (by rw [x1];exact neg (nG H<|nG z z2))
def pol (C:C6)(p q:Tr):Int:=dt3 (vm (aV C) p) q
def P3 (C:C6)(a b c:Tr):Tr:=(pol C a b,pol C a c,pol C b c)
def uu (a b c x:Tr):Tr:=(Bp x b c*Bp a x c,Bp x b c*Bp a b x,Bp a x c*Bp a b x)
theorem ahs {n p q:Tr}(h0:n≠(0,0,0))(hp:crs n p=(0,0,0))(hq:crs n q=(0,0,0)):crs p q=(0,0,0):=by
 obtain ⟨n1,n2,n3⟩:=n;obtain ⟨p1,p2,p3⟩:=p;obtain ⟨q1,q2,q3⟩:=q;simp only [crs,Td] at hp hq |-
 obtain ⟨a1,a2,a3⟩:=hp;obtain ⟨b1,b2,b3⟩:=hq;have key:∀ {k x:Int},k≠0->k*x=0->x=0:=fun h z=>(Ja.mp z).resolve_left h
 by_cases z1:n1=0
 ·by_cases z2:n2=0
  ·have z3:n3≠0:=fun z3=>h0 (by rw [z1,z2,z3])
   subst z1 z2;have c1:p1=0:=key z3 (by simpa using a2);have c2:p2=0:=key z3 (by lia);have c3:q1=0:=key z3 (by simpa using b2);have c4:q2=0:=key z3 (by lia);subst c1 c2 c3 c4;simp
  ·refine ⟨key z2 ?_,key z2 ?_,key z2 ?_⟩ <;> grind
 ·refine ⟨key z1 ?_,key z1 ?_,key z1 ?_⟩ <;> grind
theorem ab7 (C:C6)(a b c:Tr)(ha:Ck C a=0)(hb:Ck C b=0)(hc:Ck C c=0):Bp a b c*(det (aV C)*Bp a b c)=2*(pol C a b*pol C a c*pol C b c):=by
 have h1:=Ij (aV C) a b c;have h2:=Ij (a,b,c) (vm (aV C) a) (vm (aV C) b) (vm (aV C) c);rw [h1] at h2;have e0:∀ p,Ck C p=0->dt3 p (vm (aV C) p)=0:=fun p hp=>by
  have:dt3 (vm (aV C) p) p=2*Ck C p:=by
   simp only [dt3,vm,aV,Ck];grind
  rw [bH,this,hp];rfl
 have v1:vm (a,b,c) (vm (aV C) a)=(0,pol C a b,pol C a c):=Ly (e0 a ha) (bH _ _) (bH _ _);have v2:vm (a,b,c) (vm (aV C) b)=(pol C a b,0,pol C b c):=Ly (by show dt3 a _=_;rw [bH,yD];rfl) (e0 b hb) (bH _ _);have v3:vm (a,b,c) (vm (aV C) c)=(pol C a c,pol C b c,0):=Ly (by show dt3 a _=_;rw [bH,yD];rfl) (by show dt3 b _=_;rw [bH,yD];rfl) (e0 c hc);rw [v1,v2,v3] at h2;have e1:det (a,b,c)=Bp a b c:=rfl;have e2:dt3 (crs a b) c=Bp a b c:=rfl;rw [e1,e2] at h2;rw [<-h2];simp only [dt3,crs];grind
theorem rG (a b c d e p q:Tr):pol (je a b c d e) p q=Bp a b e*Bp c d e*(Bp a c p*Bp b d q+Bp a c q*Bp b d p) - Bp a c e*Bp b d e*(Bp a b p*Bp c d q+Bp a b q*Bp c d p):=by
 have v1:Ck (J5 a b c d) e=Bp a b e*Bp c d e:=iV _ _ _;have v2:Ck (JZ a b c d) e=Bp a c e*Bp b d e:=iV _ _ _;unfold pol je;rw [aeo,v1,v2];unfold J5 JZ;rw [Aw,Aw];rfl
theorem f5 (a b c d e:Tr):Bp a b e*Bp c d e - Bp a c e*Bp b d e = - (Bp a d e*Bp b c e):=by
 simp only [Bp,crs,dt3];grind
theorem Hx (h:Bp a b c≠0):det (aV (je a b c d e)) = -2*(Bp a b c*(Bp a b e*Bp c d e)*(Bp a c e*Bp b d e)*(Bp a b d*Bp a c d*Bp b c d)*(Bp a d e*Bp b c e)):=by
 have v:=yg a b c d e;have k:=ab7 (je a b c d e) a b c (v a (by simp)) (v b (by simp)) (v c (by simp));have p1:pol (je a b c d e) a b = - (Bp a b e*Bp c d e*(Bp a b c*Bp a b d)):=by
  rw [rG,(bR a c).2.2,(bR a b).2.2,(bR a b).1,cJ a b c,cN a b d];grind
 have p2:pol (je a b c d e) a c = - (Bp a c e*Bp b d e*(Bp a b c*Bp a c d)):=by
  rw [rG,(bR a c).2.2,(bR a c).1,(bR a b).2.2,cN a c d];grind
 have p3:pol (je a b c d e) b c = - (Bp a b c*Bp b c d*(Bp a d e*Bp b c e)):=by
  rw [rG,(bR a c).1,(bR b d).2.2,(bR a b).1,(bR c d).2.2,cJ a b c,cJ b c d,cN b c d];have:=f5 a b c d e
  grind
 rw [p1,p2,p3] at k;refine Int.eq_of_mul_eq_mul_left (nG h h) ?_;grind
theorem aej (h:Bp a b c=0)(h2:Bp a b d≠0):det (aV (je a b c d e))=0:=by
 have v:=yg a b c d e;have k:=ab7 (je a b c d e) a b d (v a (by simp)) (v b (by simp)) (v d (by simp));have p1:pol (je a b c d e) a b=0:=by
  rw [rG,(bR a c).2.2,(bR a b).2.2,(bR a b).1,cJ a b c,h];simp
 rw [p1] at k;have:Bp a b d*Bp a b d*det (aV (je a b c d e))=0:=by grind
 exact (Ja.mp this).resolve_left (nG h2 h2)
theorem agL (h1:Bp a b c≠0)(h2:Bp a b d≠0)(h3:Bp a b e≠0)(h4:Bp a c d≠0)(h5:Bp a c e≠0)(h6:Bp a d e≠0)(h7:Bp b c d≠0)(h8:Bp b c e≠0)(h9:Bp b d e≠0)(h10:Bp c d e≠0):Five a b c d e:=by
 rintro ⟨i,j,l,hi,hj,hl,z⟩;have hl:l<5:=hl;rcases (show l=2\/l=3\/l=4 by lia) with rfl | rfl | rfl
 ·rcases (show j=1 by lia) with rfl;rcases (show i=0 by lia) with rfl;exact h1 z
 ·rcases (show j=1\/j=2 by lia) with rfl | rfl
  ·rcases (show i=0 by lia) with rfl;exact h2 z
  ·rcases (show i=0\/i=1 by lia) with rfl | rfl
   ·exact h4 z
   ·exact h7 z
 ·rcases (show j=1\/j=2\/j=3 by lia) with rfl | rfl | rfl
  ·rcases (show i=0 by lia) with rfl;exact h3 z
  ·rcases (show i=0\/i=1 by lia) with rfl | rfl
   ·exact h5 z
   ·exact h8 z
  ·rcases (show i=0\/i=1\/i=2 by lia) with rfl | rfl | rfl
   ·exact h6 z
   ·exact h9 z
   ·exact h10 z
theorem aei (G:G5 [a,b,c,d,e]){C:C6}{k:Int}(k0:k≠0)(e0:je a b c d e=kC k C):det (aV C)≠0↔Five a b c d e:=by
 have B:=Br.of G;have hd:det (aV (je a b c d e))≠0↔det (aV C)≠0:=by
  rw [e0,abp];exact adL k0
 rw [<-hd];constructor
 ·intro n;have h:Bp a b c≠0:=fun h=>n (aej h fun z=>B.n1 ⟨h,z⟩)
  rw [Hx h] at n;exact agL h (fun z=>n (by rw [z];simp)) (fun z=>n (by rw [z];simp)) (fun z=>n (by rw [z];simp)) (fun z=>n (by rw [z];simp)) (fun z=>n (by rw [z];simp)) (fun z=>n (by rw [z];simp)) (fun z=>n (by rw [z];simp)) (fun z=>n (by rw [z];simp))<|fun z=>n (by rw [z];simp)
 ·intro F;obtain ⟨tabc,tabd,tabe,tacd,tace,tade,tbcd,tbce,tbde,tcde⟩:=zaD F;rw [Hx tabc];exact nG (by decide)<|nG (nG (nG (nG tabc<|nG tabe tcde)<|nG tace tbde)<|nG (nG tabd tacd) tbcd)<|nG tade tbce
end
theorem uR:∀ (l acc:List (List Int)),((l.foldl K4 acc).length=acc.length+l.length↔(∀ k∈l,k∉acc)/\l.Nodup)
 | [],acc=>by simp
 | k::r,acc=>by
  rw [RD];have le:=iQ r (K4 acc k);by_cases hk:k∈acc
  ·have e:K4 acc k=acc:=by unfold K4;rw [if_pos hk]
   rw [e] at le |-
   constructor
   ·intro h;rw [Jb] at h;lia
   ·rintro ⟨h,_⟩;exact absurd hk<|h k<|by simp
  ·have e:K4 acc k=acc++[k]:=by unfold K4;rw [if_neg hk]
   have ih:=uR r (acc++[k]);rw [e];rw [Lr,List.length_singleton] at ih;rw [Jb,show acc.length+(r.length+1)=acc.length+1+r.length by lia,ih,Lq];constructor
   ·rintro ⟨h1,h2⟩;refine ⟨fun x hx=>?_,fun hx=>?_,h2⟩
    ·rcases Cr.mp hx with rfl | hx
     ·exact hk
     ·exact fun z=>h1 x hx<|Tw _ z
    ·exact h1 k hx<|by simp
   ·rintro ⟨h1,h2,h3⟩;refine ⟨fun x hx z=>?_,h3⟩;rcases Rv.mp z with z | z
    ·exact h1 x (Kw _ hx) z
    ·rw [La.mp z] at hx;exact h2 hx
theorem Y7 {p q:Tr}:tl p=tl q↔p=q:=by
 obtain ⟨a,b,c⟩:=p;obtain ⟨d,e,f⟩:=q;simp [tl]
theorem Jy:∀ ts:List Tr,vI (ts.map tw)=Dn (ts.map tl)
 | []=>rfl
 | t::ts=>by
  rw [K7,tw,vI,Jy ts];rfl
theorem U6:∀ {ts:List Tr},(ts.map tl).Nodup↔ts.Nodup
 | []=>by simp
 | t::ts=>by
  rw [K7,Lq,Lq,U6];have:tl t∈ts.map tl↔t∈ts:=by
   rw [Mv];constructor
   ·rintro ⟨u,hu,e⟩;rw [Y7] at e;rw [<-e];exact hu
   ·exact fun h=>⟨t,h,rfl⟩
  rw [this]
theorem Ed (ts:List Tr):decide (((Lf (ts.map tl)).length:Int)<(ts.length:Int)) = !decide ts.Nodup:=by
 have le:=iQ (ts.map tl) [];have iff:=uR (ts.map tl) [];rw [U6] at iff;simp only [List.length_nil,S8,Eh] at le iff;unfold Lf;by_cases h:ts.Nodup
 ·have:=iff.mpr ⟨by simp,h⟩
  rw [decide_eq_true h,decide_eq_false (by lia)];rfl
 ·have:¬ (List.foldl K4 [] (ts.map tl)).length=ts.length:=fun e=>h (iff.mp e).2
  rw [decide_eq_false h,decide_eq_true (by lia)];rfl
theorem wD.vl {h:Gh}{w:W}{ts:List Tr}(e:wD h w ts):dW h w=Dn (ts.map tw):=by
 rcases e with rfl | ⟨n,rfl,ec⟩
 ·rfl
 ·exact zbd ec
theorem acy {ts:List Tr}{h:Gh}{w:W}{Q:WK}(e:wD h w ts)(hl:ts.length<=5)(k:Q (.int ((Lf (ts.map tl)).length:Nat)) h):iU [w] h Q:=by
 show (match dW h w with
  | some us=>(match vI us with
   | some kss=>kss.length<=5/\Q (.int (Lf kss).length) h
   | none=>False)
  | none=>False)
 rw [e.vl];dsimp only;rw [Jy];exact ⟨by rw [Eh];exact hl,k⟩
def N7 (c0:BK):Prop:=∀ {h:Gh} {w:W} {ts:List Tr} {Q:WK} {E:CK},wD h w ts->ts.length<=5->Q (.bl (!decide ts.Nodup)) h->c0 [w] h Q E
theorem zbr:N7 jx:=by
 intro h w ts Q E e hl k;unfold jx;refine jO rfl (σ:=[Dn w]) rfl ?_;rfl'
 refine acy e hl ?_;rfl'
 refine Yk e ?_;rfl'
 rw [Ed];exact k
noncomputable def Ft (ts:List Tr):List Nat->Bool
 | [a,b,c,d]=>eV [gt ts a,gt ts b,gt ts c,gt ts d]
 | _=>false
noncomputable def sy (ts:List Tr):Bool:=((Dz ts.length 4).map (Ft ts)).any id
def abO (c0:BK):Prop:=∀ {h:Gh} {w:W} {us:List Tr} {m:Nat} {Q:WK} {E:CK},m<=4000->wD h w us->us.length<=12->Ma m us->Q (.bl (sy us)) h->c0 [w,.int 4] h Q E
theorem Ve {ol ri pi:BK}(hol:eY ol)(hri:Ga ri)(hpi:X4 pi):abO (gj ol ri pi):=by
 intro h w us m Q E hm e hl hs k;unfold gj;refine jO rfl (σ:=[Dn w,Dn<|.int 4]) rfl<|mV<|iZ<|au<|Cw<|Jp<|bD<|au<|iZ<|au<|aD rfl<|aM<|Yk e ?_
 refine au<|aD rfl<|aM<|hri (m:=us.length) (k:=4) hl (by decide)<|Ss rfl ?_
 refine jc.mk (by rw [Eh];exact GK (qW _ hl 4<|by decide) (by decide)) ?_;refine jU (fun i acc h'=>h'=h/\acc=(((Dz us.length 4).take i).map (Ft us)).map W.bl) ?_ ?_ ⟨rfl,rfl⟩
 ·rintro i w2 acc h' N hN e2 ⟨rfl,rfl⟩;rw [Ir] at e2;cases qe:(Dz us.length 4)[i]? with
  | none=>rw [qe] at e2;cases e2
  | some l=>
   rw [qe] at e2;cases e2;have ml:=Q8 qe;have ll:=rO ml;have li:=Io ml;refine ⟨[qG l],rfl,?_⟩;have fin:∀ b:Bool,b=Ft us l->N ((((Dz us.length 4).take i).map (Ft us)).map W.bl++[W.bl b]) h':=fun b hb=>hN _ _ ⟨rfl,by rw [Kq,qe,hb];simp⟩
   match l,ll with
   | [a,b,c,d],_=>
    refine qQ<|pI<|bD<|au<|bD<|au<|aD rfl<|au<|aD rfl<|aM<|hpi e li (by simp) ?_
    refine aM<|hol (ts:=[gt us a,gt us b,gt us c,gt us d]) (M:=m) (.inl rfl) (by simp) hm ?_<|fin _ rfl
    intro t ht;simp only [Cr,Dl,or_false] at ht;rcases ht with rfl | rfl | rfl | rfl
    ·exact hs _<|p7<|li a<|by simp
    ·exact hs _<|p7<|li b<|by simp
    ·exact hs _<|p7<|li c<|by simp
    ·exact hs _<|p7<|li d<|by simp
 ·rintro acc h' ⟨rfl,rfl⟩;rw [Eh,Kg];refine aM<|ahp ?_
  exact Sd k
theorem Wa:Dz 5 4=[[0,1,2,3],[0,1,2,4],[0,1,3,4],[0,2,3,4],[1,2,3,4]]:=by decide +kernel
theorem Zz (a b c d e:Tr):sy [a,b,c,d,e]=(eV [a,b,c,d]||(eV [a,b,c,e]||(eV [a,b,d,e]||(eV [a,c,d,e]||eV [b,c,d,e])))):=by
 unfold sy;rw [show ([a,b,c,d,e]:List Tr).length=5 from rfl,Wa];simp [Ft,gt]
theorem uQ {n:Tr}{ts:List Tr}(hn:n≠(0,0,0))(h:∀ t∈ts,dt3 n t=0):AllP ts:=fun p hp q hq r hr=>flat hn (h q hq) (h r hr) (h p hp)
theorem m6 {n:Tr}{ts:List Tr}(hn:n≠(0,0,0))(h:eV ts=false):∃ y∈ts,dt3 n y≠0:=by
 apply P0;intro q;rw [lC (uQ hn fun t ht=>P0 fun z=>q ⟨t,ht,z⟩)] at h;cases h
theorem Pa {a b c d e:Tr}(pl:∀ t∈[a,b,c,d,e],Pl t)(nd:[a,b,c,d,e].Nodup)(h:sy [a,b,c,d,e]=false):G5 [a,b,c,d,e]:=by
 refine ⟨pl,nd,fun n hn x hx=>?_⟩;rw [Zz] at h;simp only [Bool.or_eq_false_iff] at h;obtain ⟨h1,h2,h3,h4,h5⟩:=h;simp only [Lq,Cr,Dl,or_false,not_or,not_false_eq_true,List.nodup_nil,and_true] at nd;obtain ⟨⟨ab,ac,ad,ae⟩,⟨bc,bd,be⟩,⟨cd,ce⟩,de⟩:=nd;simp only [Cr,Dl,or_false] at hx;rcases hx with rfl | rfl | rfl | rfl | rfl
 ·obtain ⟨y,hy,d0⟩:=m6 hn h5;simp only [Cr,Dl,or_false] at hy;rcases hy with rfl | rfl | rfl | rfl
  ·exact ⟨y,by simp,Eu ab,d0⟩
  ·exact ⟨y,by simp,Eu ac,d0⟩
  ·exact ⟨y,by simp,Eu ad,d0⟩
  ·exact ⟨y,by simp,Eu ae,d0⟩
 ·obtain ⟨y,hy,d0⟩:=m6 hn h4;simp only [Cr,Dl,or_false] at hy;rcases hy with rfl | rfl | rfl | rfl
  ·exact ⟨y,by simp,ab,d0⟩
  ·exact ⟨y,by simp,Eu bc,d0⟩
  ·exact ⟨y,by simp,Eu bd,d0⟩
  ·exact ⟨y,by simp,Eu be,d0⟩
 ·obtain ⟨y,hy,d0⟩:=m6 hn h3;simp only [Cr,Dl,or_false] at hy;rcases hy with rfl | rfl | rfl | rfl
  ·exact ⟨y,by simp,ac,d0⟩
  ·exact ⟨y,by simp,bc,d0⟩
  ·exact ⟨y,by simp,Eu cd,d0⟩
  ·exact ⟨y,by simp,Eu ce,d0⟩
 ·obtain ⟨y,hy,d0⟩:=m6 hn h2;simp only [Cr,Dl,or_false] at hy;rcases hy with rfl | rfl | rfl | rfl
  ·exact ⟨y,by simp,ad,d0⟩
  ·exact ⟨y,by simp,bd,d0⟩
  ·exact ⟨y,by simp,cd,d0⟩
  ·exact ⟨y,by simp,Eu de,d0⟩
 ·obtain ⟨y,hy,d0⟩:=m6 hn h1;simp only [Cr,Dl,or_false] at hy;rcases hy with rfl | rfl | rfl | rfl
  ·exact ⟨y,by simp,ae,d0⟩
  ·exact ⟨y,by simp,be,d0⟩
  ·exact ⟨y,by simp,ce,d0⟩
  ·exact ⟨y,by simp,de,d0⟩
theorem ahw {p q r s:Tr}(hp:Pl p)(hq:Pl q)(pq:p≠q):eV [p,q,r,s]=true↔Bp p q r=0/\Bp p q s=0/\Bp p r s=0/\Bp q r s=0:=by
 constructor
 ·intro h;have all:AllP [p,q,r,s]:=P0 fun z=>by rw [uc z] at h;cases h
  refine ⟨all r (by simp) p (by simp) q<|by simp,all s (by simp) p (by simp) q<|by simp,all s (by simp) p (by simp) r<|by simp,all s (by simp) q (by simp) r<|by simp⟩
 ·rintro ⟨h1,h2,_,_⟩;refine lC<|uQ (gG hp hq pq) fun t ht=>?_
  simp only [Cr,Dl,or_false] at ht;rcases ht with rfl | rfl | rfl | rfl
  ·exact kJ _ _
  ·exact tB _ _
  ·exact h1
  ·exact h2
def XM (c0:BK):Prop:=∀ {h:Gh} {p q:Tr} {m:Nat} {Q:WK} {E:CK},m<=4000->CN m p->CN m q->Q (GJ (qI p q)) h->c0 [tw p,tw q] h Q E
theorem aaD:XM lB:=by
 intro h p q m Q E hm sp sq k;obtain ⟨p1,p2,p3⟩:=p;obtain ⟨q1,q2,q3⟩:=q;obtain ⟨a1,a2,a3⟩:=sp;obtain ⟨b1,b2,b3⟩:=sq;simp only at a1 a2 a3 b1 b2 b3;unfold lB;rfl'
 exact k
def U3 (m:Nat):Nat:=10*m+15
theorem GX {a b c d e:Tr}{m:Nat}(sa:CN m a)(sb:CN m b)(sc:CN m c)(sd:CN m d)(se:CN m e):Et (U3 m) (je a b c d e):=by
 have so6:Et (4*m+3) (J5 a b c d):=Et.mono (rD (c7 sa sb) (c7 sc sd)) (by lia);have st6:Et (4*m+3) (JZ a b c d):=Et.mono (rD (c7 sa sc) (c7 sb sd)) (by lia);have hh:Sm (6*m+8) (Ck (J5 a b c d) e):=(N5 so6 se).mono (by lia);have ht:Sm (6*m+8) (Ck (JZ a b c d) e):=(N5 st6 se).mono (by lia);unfold je U3;exact ⟨((hh.mul st6.1).sub (ht.mul so6.1)).mono (by lia),((hh.mul st6.2.1).sub (ht.mul so6.2.1)).mono (by lia),((hh.mul st6.2.2.1).sub (ht.mul so6.2.2.1)).mono (by lia),((hh.mul st6.2.2.2.1).sub (ht.mul so6.2.2.2.1)).mono (by lia),((hh.mul st6.2.2.2.2.1).sub (ht.mul so6.2.2.2.2.1)).mono (by lia),((hh.mul st6.2.2.2.2.2).sub (ht.mul so6.2.2.2.2.2)).mono (by lia)⟩
def c6L (c:C6):W:=.lst [.int c.1,.int c.2.1,.int c.2.2.1,.int c.2.2.2.1,.int c.2.2.2.2.1,.int c.2.2.2.2.2]
def acq (c0:BK):Prop:=∀ {h:Gh} {w:W} {a b c d e:Tr} {m:Nat} {Q:WK} {E:CK},wD h w [a,b,c,d,e]->m<=300->CN m a->CN m b->CN m c->CN m d->CN m e->Q (c6L (je a b c d e)) h->c0 [w] h Q E
theorem agb {dt cr to:BK}(hdt:wN dt)(hcr:wI cr)(hto:XM to):acq (xQ dt cr to):=by
 intro h w a b c d e m Q E src hm sa sb sc sd se k;have at0:∀ {Q:WK},Q (tw a) h->Bw w (.int 0) h Q:=fun {Q} k=>src.at (i:=0) (by simp) k
 have at1:∀ {Q:WK},Q (tw b) h->Bw w (.int 1) h Q:=fun {Q} k=>src.at (i:=1) (by simp) k
 have at2:∀ {Q:WK},Q (tw c) h->Bw w (.int 2) h Q:=fun {Q} k=>src.at (i:=2) (by simp) k
 have at3:∀ {Q:WK},Q (tw d) h->Bw w (.int 3) h Q:=fun {Q} k=>src.at (i:=3) (by simp) k
 have at4:∀ {Q:WK},Q (tw e) h->Bw w (.int 4) h Q:=fun {Q} k=>src.at (i:=4) (by simp) k
 have s1:=c7 sa sb;have s2:=c7 sc sd;have s3:=c7 sa sc;have s4:=c7 sb sd;have d1:=jH s1 se;have d2:=jH s2 se;have d3:=jH s3 se;have d4:=jH s4 se;have so6:Et (4*m+3) (J5 a b c d):=Et.mono (rD s1 s2) (by lia);have st6:Et (4*m+3) (JZ a b c d):=Et.mono (rD s3 s4) (by lia);have v1:Ck (J5 a b c d) e=dt3 (crs a b) e*dt3 (crs c d) e:=iV _ _ _;have v2:Ck (JZ a b c d) e=dt3 (crs a c) e*dt3 (crs b d) e:=iV _ _ _;unfold je at k;rw [v1,v2] at k;unfold xQ;refine jO rfl (σ:=[Dn w,Go,Go,Go,Go,Go,Go]) rfl ?_;rfl'
 refine at0 ?_;rfl'
 refine at1 ?_;rfl'
 refine hcr (m:=m) (by lia) sa sb ?_;rfl'
 refine at2 ?_;rfl'
 refine at3 ?_;rfl'
 refine hcr (m:=m) (by lia) sc sd ?_;rfl'
 refine at0 ?_;rfl'
 refine at2 ?_;rfl'
 refine hcr (m:=m) (by lia) sa sc ?_;rfl'
 refine at1 ?_;rfl'
 refine at3 ?_;rfl'
 refine hcr (m:=m) (by lia) sb sd ?_;rfl'
 refine at4 ?_;rfl'
 refine hdt (m:=m+m+1) (by lia) s1 (se.mono<|by lia) ?_;rfl'
 refine at4 ?_;rfl'
 refine hdt (m:=m+m+1) (by lia) s2 (se.mono<|by lia) ?_;rfl'
 refine at4 ?_;rfl'
 refine hdt (m:=m+m+1) (by lia) s3 (se.mono<|by lia) ?_;rfl'
 refine at4 ?_;rfl'
 refine hdt (m:=m+m+1) (by lia) s4 (se.mono<|by lia) ?_;have hh:Sm (8*m+10) (dt3 (crs a b) e*dt3 (crs c d) e):=(d1.mul d2).mono (by lia);have ht:Sm (8*m+10) (dt3 (crs a c) e*dt3 (crs b d) e):=(d3.mul d4).mono (by lia);rfl'
 refine hto (m:=m+m+1) (by lia) s3 s4 ?_;rfl'
 refine hto (m:=m+m+1) (by lia) s1 s2 ?_;generalize dt3 (crs a b) e*dt3 (crs c d) e=hr at hh k;generalize dt3 (crs a c) e*dt3 (crs b d) e=th at ht k;unfold J5 at k so6;unfold JZ at k st6;generalize qI (crs a b) (crs c d)=o at so6 k;generalize qI (crs a c) (crs b d)=t at st6 k;obtain ⟨o1,o2,o3,o4,o5,o6⟩:=o;obtain ⟨t1,t2,t3,t4,t5,t6⟩:=t;obtain ⟨so1,so2,so3,so4,so5,so6⟩:=so6;obtain ⟨st1,st2,st3,st4,st5,st6⟩:=st6;simp only at so1 so2 so3 so4 so5 so6 st1 st2 st3 st4 st5 st6;rfl'
 exact k
def xu (c0:BK):Prop:=∀ {h:Gh} {w:W} {a b c d e:Tr} {m:Nat} {Q:WK} {E:CK},wD h w [a,b,c,d,e]->m<=300->Ma m [a,b,c,d,e]->(G5 [a,b,c,d,e]->∀ (C:C6) (k:Int),k≠0->je a b c d e=kC k C->Jz (Ht C)->Et (U3 m) C->Q (GJ C) h)->(¬ [a,b,c,d,e].Nodup->E ⟨"Alike",[]⟩ h)->([a,b,c,d,e].Nodup->sy [a,b,c,d,e]=true->E ⟨"FourOnLine",[]⟩ h)->c0 [w] h Q E
theorem zaX {pl al ho mi:BK}(hpl:Fy pl)(hal:N7 al)(hho:abO ho)(hmi:acq mi):xu (oZ pl al ho mi):=by
 intro h w a b c d e m Q E src hm hs k k1 k2;unfold oZ;refine jO rfl (σ:=[Dn w]) rfl ?_;rfl'
 refine hal src (by simp) ?_;by_cases nd:[a,b,c,d,e].Nodup
 ·rw [decide_eq_true nd];rfl'
  unfold pG;rfl'
  refine hho (m:=m) (by lia) src (by simp) hs ?_;by_cases f:sy [a,b,c,d,e]=true
  ·rw [f];rfl'
   exact k2 nd f
  ·have f:sy [a,b,c,d,e]=false:=by simpa using f
   have G:=Pa (fun t ht=>(hs t ht).1) nd f;rw [f];rfl'
   unfold oJ;rfl'
   refine hmi src hm (hs a<|by simp).2 (hs b<|by simp).2 (hs c<|by simp).2 (hs d<|by simp).2 (hs e<|by simp).2 ?_;rfl'
   refine hpl.c6p (c:=je a b c d e) (m:=U3 m) (.inl rfl) (O5<|Br.of G) (GX (hs a<|by simp).2 (hs b<|by simp).2 (hs c<|by simp).2 (hs d<|by simp).2 (hs e<|by simp).2) (by unfold U3;lia) fun C j j0 eC pC sC=>?_;exact k G C j j0 eC pC sC
 ·rw [decide_eq_false nd];rfl'
  exact k1 nd
def pom (c:C6)(p q:Tr):Int:=dt3 p (vm (aV c) q)
def GR (x:Int)(p:Tr)(y:Int)(q:Tr):Tr:=(x*p.1+y*q.1,x*p.2.1+y*q.2.1,x*p.2.2+y*q.2.2)
theorem rP (c:C6)(p q:Tr)(x y:Int):Ck c (GR x p y q)=x*x*Ck c p+y*y*Ck c q+x*y*pom c p q:=by
 obtain ⟨c1,c2,c3,c4,c5,c6⟩:=c;obtain ⟨p1,p2,p3⟩:=p;obtain ⟨q1,q2,q3⟩:=q;simp only [Ck,pom,dt3,vm,aV,GR];grind
theorem afv (c:C6)(p q:Tr)(x y:Int):pom c p (GR x p y q)=x*(2*Ck c p)+y*pom c p q:=by
 obtain ⟨c1,c2,c3,c4,c5,c6⟩:=c;obtain ⟨p1,p2,p3⟩:=p;obtain ⟨q1,q2,q3⟩:=q;simp only [Ck,pom,dt3,vm,aV,GR];grind
theorem Jq (c:C6)(k:Int)(p:Tr):Ck c (sc k p)=k*k*Ck c p:=by
 simp only [Ck,sc];grind
theorem Xh (c:C6)(k:Int)(p q:Tr):pom c p (sc k q)=k*pom c p q:=by
 simp only [pom,dt3,vm,aV,sc];grind
theorem fW (c:C6)(p:Tr):pom c p p=2*Ck c p:=by
 simp only [pom,dt3,vm,aV,Ck];grind
theorem G9 (l p q:Tr)(x y:Int):dt3 l (GR x p y q)=x*dt3 l p+y*dt3 l q:=by
 simp only [dt3,GR];grind
theorem G4 (p q:Tr)(x y z w:Int):crs (GR x p y q) (GR z p w q)=sc (x*w - y*z) (crs p q):=by
 simp only [crs,GR,sc];refine Jm ?_ (Jm ?_ ?_) <;> simp only <;> grind
theorem aaB {t:Tr}(h:t≠(0,0,0)):dt3 t t≠0:=by
 obtain ⟨a,b,c⟩:=t;intro e;simp only [dt3] at e;have n:∀ x:Int,0<=x*x:=fun x=>by
  rcases Int.le_total 0 x with q | q
  ·exact Int.mul_nonneg q q
  ·have:=Int.mul_nonneg (show 0<=-x by lia) (show 0<=-x by lia)
   rwa [Int.neg_mul_neg] at this
 have ea:=n a;have eb:=n b;have ec:=n c;have z:∀ x:Int,x*x=0->x=0:=fun x h=>(Ja.mp h).elim id id
 exact h<|by rw [z a<|by lia,z b<|by lia,z c<|by lia]
theorem span {l p b x:Tr}(l0:l≠(0,0,0))(hp:Pl p)(hb:Pl b)(ne:b≠p)(lp:dt3 l p=0)(lb:dt3 l b=0)(lx:dt3 l x=0):∃ k s t:Int,k≠0/\sc k x=GR s p t b:=by
 have n0:crs p b≠(0,0,0):=gG hp hb fun e=>ne e.symm
 have d0:dt3 (crs p b) x=0:=flat l0 lp lb lx;refine ⟨dt3 (crs p b)<|crs p b,dt3 (crs x b)<|crs p b,dt3 (crs p x)<|crs p b,aaB n0,?_⟩;obtain ⟨p1,p2,p3⟩:=p;obtain ⟨b1,b2,b3⟩:=b;obtain ⟨x1,x2,x3⟩:=x;simp only [dt3,crs] at d0;simp only [sc,GR,dt3,crs];refine Jm ?_ (Jm ?_ ?_) <;> simp only <;> grind
theorem Nf {p b x:Tr}{k s t:Int}(hp:Pl p)(hx:Pl x)(k0:k≠0)(e:sc k x=GR s p t b)(ne:x≠p):t≠0:=by
 rintro rfl;have e':sc k x=sc s p:=by
  rw [e];simp only [GR,sc];refine Jm ?_ (Jm ?_ ?_) <;> simp only <;> grind
 have s0:s≠0:=by
  rintro rfl;refine hx.ne<|(jw k0).mp ?_
  rw [e'];simp [sc]
 exact ne<|zN (u:=sc k x) hx hp ⟨k,k0,rfl⟩ ⟨s,s0,e'⟩
def InC (c:C6)(l:Tr):Prop:=∀ x,dt3 l x=0->Ck c x=0
def Cy (c:C6)(p l u:Tr):Prop:=Pl u/\dt3 l u=0/\Ck c u=0/\(∀ x,Pl x->dt3 l x=0->Ck c x=0->x=p\/x=u)/\∀ x,Pl x->dt3 l x=0->x≠p->(u=p↔pom c p x=0)
theorem mz {a b:Int}(h:a*b=0)(h0:a≠0):b=0:=(Ja.mp h).resolve_left h0
theorem Nz {c:C6}{l p b:Tr}(l0:l≠(0,0,0))(hp:Pl p)(hb:Pl b)(ne:b≠p)(lp:dt3 l p=0)(lb:dt3 l b=0)(wp:Ck c p=0)(wb:Ck c b=0)(g:pom c p b=0):InC c l:=by
 intro x lx;obtain ⟨k,s,t,k0,e⟩:=span l0 hp hb ne lp lb lx;have w:=Jq c k x;rw [e,rP,wp,wb,g] at w;refine mz (a:=k*k) ?_<|Int.mul_ne_zero k0 k0
 rw [<-w];simp
theorem Pn {c:C6}{l p b:Tr}(lp:dt3 l p=0)(lb:dt3 l b=0)(i:InC c l):pom c p b=0:=by
 have e:=rP c p b 1 1;rw [i _ lp,i _ lb,i (GR 1 p 1 b) (by rw [G9,lp,lb];rfl)] at e;lia
theorem W5 {c:C6}{l p b:Tr}(lp:dt3 l p=0)(lb:dt3 l b=0)(i:InC c l):GR (pom c b b) p (-(2*pom c p b)) b=(0,0,0):=by
 rw [Pn lp lb i,Pn lb lb i];simp [GR]
theorem DR {c:C6}{l p b u:Tr}(l0:l≠(0,0,0))(hp:Pl p)(hb:Pl b)(ne:b≠p)(lp:dt3 l p=0)(lb:dt3 l b=0)(wp:Ck c p=0)(hu:Pl u)(par:Ej (GR (pom c b b) p (-(2*pom c p b)) b) u):Cy c p l u:=by
 have c0:crs p b≠(0,0,0):=gG hp hb fun e=>ne e.symm
 have lu:dt3 l u=0:=by
  rw [<-Gg par,G9,lp,lb];simp
 obtain ⟨j,j0,e⟩:=par;rw [fW] at e;have cE:∀ s t:Int,crs (GR s p t b) u=(0,0,0)↔s*pom c p b+t*Ck c b=0:=by
  intro s t;have q:crs (GR s p t b) (sc j u)=sc (-2*(s*pom c p b+t*Ck c b)) (crs p b):=by
   rw [<-e,G4];congr 1
   grind
  have q1:crs (GR s p t b) (sc j u)=sc j (crs (GR s p t b) u):=by
   have:=DP 1 j (GR s p t b) u
   simp only [Int.one_mul] at this;rw [<-this];congr 1
   simp [sc]
  rw [q1] at q;constructor
  ·intro z;rw [z] at q;have:-2*(s*pom c p b+t*Ck c b)=0:=P0 fun n=>c0 ((jw n).mp (by rw [<-q];simp [sc]))
   lia
  ·intro z;refine (jw j0).mp ?_;rw [q,z];simp [sc]
 have onlyx:∀ x,Pl x->dt3 l x=0->Ck c x=0->x=p\/x=u:=by
  intro x px lx wx;obtain ⟨k,s,t,k0,ex⟩:=span l0 hp hb ne lp lb lx;by_cases xp:x=p
  ·exact .inl xp
  ·have t0:=Nf hp px k0 ex xp;have w:=Jq c k x;rw [ex,rP,wp,wx] at w;have z:s*pom c p b+t*Ck c b=0:=mz (a:=t) (by grind) t0;have:=(cE s t).mpr z
   rw [<-ex] at this;refine .inr<|sO px hu<|(jw k0).mp ?_
   have q:=DP k 1 x u;have u1:sc 1 u=u:=by simp [sc]
   rw [u1,this,Int.mul_one] at q;exact q.symm
 have up:u=p↔pom c p b=0:=by
  constructor
  ·rintro rfl;have:crs (GR 1 u 0 b) u=(0,0,0):=by
    have:GR 1 u 0 b=u:=by simp [GR]
    rw [this,Bf]
   have:=(cE 1 0).mp this
   lia
  ·intro g;refine (sO hp hu ?_).symm;have:GR 1 p 0 b=p:=by simp [GR]
   rw [<-this];exact (cE 1 0).mpr (by lia)
 refine ⟨hu,lu,?_,onlyx,?_⟩
 ·have w:=Jq c j u;rw [<-e,rP,wp] at w;refine mz (a:=j*j) ?_<|Int.mul_ne_zero j0 j0
  rw [<-w];grind
 ·intro x px lx xp;obtain ⟨k,s,t,k0,ex⟩:=span l0 hp hb ne lp lb lx;have t0:=Nf hp px k0 ex xp;have w:=Xh c k p x;rw [ex,afv,wp] at w;rw [up];constructor
  ·intro g;rw [g] at w;exact mz (a:=k) (by lia) k0
  ·intro g;rw [g] at w;exact mz (a:=t) (by lia) t0
theorem zas {c:C6}{l p b u v:Tr}(hb:Pl b)(lb:dt3 l b=0)(ne:b≠p)(h1:Cy c p l u)(h2:Cy c p l v):u=v:=by
 obtain ⟨a1,a2,a3,a4,a5⟩:=h1;obtain ⟨b1,b2,b3,b4,b5⟩:=h2;rcases a4 v b1 b2 b3 with e | e
 ·exact ((a5 b hb lb ne).mpr ((b5 b hb lb ne).mp e)).trans e.symm
 ·exact e.symm
def Wy (c0:BK):Prop:=∀ {h:Gh} {Q:WK} {E:CK},Q (.lst (([(1,0,0),(0,1,0),(0,0,1),(1,1,1)]:List Tr).map tw)) h->c0 [] h Q E
theorem agx:Wy yw:=by
 intro h Q E k;unfold yw;rfl'
 exact k
def Zc (c0:BK):Prop:=∀ {h:Gh} {l p:Tr} {m:Nat} {Q:WK} {E:CK},1<=m->m<=2000->CN m l->Pl l->Pl p->(∀ b,Pl b->dt3 l b=0->b≠p->CN (m+m+1) b->Q (tw b) h)->c0 [tw l,tw p] h Q E
theorem aaW {me ti:BK}(hme:JoinOk me)(hti:Wy ti):Zc (eZ me ti):=by
 intro h l p m Q E h1 hm hl pl pp k;have s1:Sm m 1:=.mono (m:=1) (by unfold Sm;decide) h1;have s0:Sm m 0:=.mono (m:=1) (by unfold Sm;decide) h1;have se:∀ e∈([(1,0,0),(0,1,0),(0,0,1)]:List Tr),CN m e/\Pl e:=by
  intro e he;simp only [Cr,Dl,or_false] at he;rcases he with rfl | rfl | rfl
  ·exact ⟨⟨s1,s0,s0⟩,by unfold Pl Jz;decide +kernel⟩
  ·exact ⟨⟨s0,s1,s0⟩,by unfold Pl Jz;decide +kernel⟩
  ·exact ⟨⟨s0,s0,s1⟩,by unfold Pl Jz;decide +kernel⟩
 unfold eZ;rfl'
 refine hti ?_;rfl'
 refine cD ?_;rfl'
 refine mO (us:=([(1,0,0),(0,1,0),(0,0,1)]:List Tr).map tw) rfl ?_;refine Ss rfl<|MJ rfl ?_
 refine jU (fun i acc h'=>h'=h/\∃ ts:List Tr,acc=ts.map tw/\ts.length<=i/\(∀ t∈ts,Pl t/\dt3 l t=0/\CN (m+m+1) t)/\∀ j,j<i->∀ e,([(1,0,0),(0,1,0),(0,0,1)]:List Tr)[j]?=Dn e->(crs l e=(0,0,0)\/∃ t∈ts,Ej (crs l e) t)) ?_ ?_ ⟨rfl,[],rfl,Dp _,fun t ht=>absurd ht<|by simp,fun j hj=>absurd hj<|by lia⟩
 ·rintro i w acc h' N hN ew ⟨rfl,ts,rfl,hlen,good,old⟩;obtain ⟨e,ee,rfl⟩:=zM ew;obtain ⟨hse,ple⟩:=se e (Q8 ee);refine ⟨[tw e],rfl,?_⟩;have nxt:∀ ts':List Tr,ts'.length<=ts.length+1->(∀ t∈ts,t∈ts')->(∀ t∈ts',Pl t/\dt3 l t=0/\CN (m+m+1) t)->(crs l e=(0,0,0)\/∃ t∈ts',Ej (crs l e) t)->N (ts'.map tw) h':=fun ts' q1 q2 q3 q4=>hN _ _ ⟨rfl,ts',rfl,by lia,q3,fun j hj e' he'=>by
   by_cases q:j<i
   ·exact (old j q e' he').imp id fun ⟨t,ht,pt⟩=>⟨t,q2 t ht,pt⟩
   ·have ej:j=i:=by lia
    rw [ej,ee] at he';cases he'
    exact q4⟩
  rfl'
  refine Yp (fun z=>?_) fun z=>?_
  ·rfl'
   refine hme (m:=m) (by lia) hl hse pl ple (fun q=>z q.symm) fun t pt par st=>?_;have:=nxt (ts++[t]) (by simp) (fun x hx=>Tw _ hx) (fun x hx=>by
    rcases Rv.mp hx with q | q
    ·exact good x q
    ·rw [La.mp q];exact ⟨pt,(Gg par).mp (by rw [bH];exact kJ _ _),st⟩) (.inr ⟨t,by simp,par⟩)
   rw [Ug] at this;exact this
  ·have el:e=l:=P0 fun q=>z q
   subst el;exact nxt ts (by lia) (fun _ h=>h) good<|.inl<|Bf _
 ·rintro acc h' ⟨rfl,ts,rfl,hlen,good,old⟩;have ex:∃ t∈ts,t≠p:=P0 fun n=>by
   have al:∀ t∈ts,t=p:=fun t ht=>P0 fun q=>n ⟨t,ht,q⟩
   have o:∀ j,j<3->∀ e,([(1,0,0),(0,1,0),(0,0,1)]:List Tr)[j]?=Dn e->(crs l e=(0,0,0)\/Ej (crs l e) p):=fun j hj e he=>(old j hj e he).imp id fun ⟨t,ht,pt⟩=>by rw [<-al t ht];exact pt
   exact agO pl.ne (o 0 (by decide) _ rfl) (o 1 (by decide) _ rfl)<|o 2 (by decide) _ rfl
  have hlen:ts.length<=3:=hlen;rfl'
  refine MJ (Nat.ble_eq_true_of_le (by rw [Eh];lia)) ?_;refine jU (fun i acc h2=>h2=h'/\acc=((ts.take i).filter (·≠p)).map tw) ?_ ?_ ⟨rfl,rfl⟩
  ·rintro i w acc h2 N hN ew ⟨rfl,rfl⟩;obtain ⟨t,et,rfl⟩:=zM ew;refine ⟨[tw t],rfl,?_⟩;rfl'
   refine Yp (fun z=>?_) fun z=>?_
   ·rfl'
    refine hN _ _ ⟨rfl,?_⟩;rw [Kq,et];simp [z]
   ·refine hN _ _ ⟨rfl,?_⟩;rw [Kq,et];simp [Classical.not_not.mp z]
  ·rintro acc h2 ⟨rfl,rfl⟩;rw [Eh,Kg];cases q:ts.filter (·≠p) with
   | nil=>
    obtain ⟨t,ht,tp⟩:=ex;have:t∈ts.filter (·≠p):=Rz.mpr ⟨ht,by simp [tp]⟩
    rw [q] at this;exact absurd this<|by simp
   | cons b r=>
    have hb:b∈ts.filter (·≠p):=by rw [q];exact LR
    obtain ⟨hb1,hb2⟩:=Rz.mp hb;obtain ⟨g1,g2,g3⟩:=good b hb1;rw [K7];refine jd (x:=.lst (tw b::r.map tw)) (i:=0) (w:=tw b) (ws:=tw b::r.map tw) rfl (by unfold Ig LI;simp) ?_;rfl'
    exact k b g1 g2 (by simpa using hb2) g3
theorem Xm:zy oM:=by
 intro h w ns Q E hw q;suffices key:qX (GF (aq 0)) (BW 2) (aZ (bQ (Fv JX (aj (aq 2) aJ)) (BW 3)) (Ar (bC (AP Qn (aq 3) (mC (.int 0)))) (aaG 1 3 (aj (aq 3) (aj (AP J1 (aq 1) (aq 3)) aJ)))))
   { nx:=j7 E { nx:=fun _ h'=>Q .non h',rt:=fun w h'=>Q w h' },rt:=fun w h'=>Q w h' } [Dn w,Dn (.int 0),Go,Go] h from key
 refine adO (w:=w) (ns:=ns) rfl hw (fun i σ h'=>h'=h/\∃ o2 o3,σ = [Dn w,Dn<|.int<|gL<|ns.take i,o2,o3]) (fun i σ h' e=>by rw [e.1];exact hw) ?_ ?_ ⟨rfl,Go,Go,rfl⟩
 ·rintro i n σ h' N hN en ⟨rfl,o2,o3,rfl⟩;have f0:=Yb (ns.take i);generalize hf:gL (ns.take i)=f at f0;conv=>whnf
  refine ⟨fun m σ h2=>h2=h'/\∃ x y,σ = [Dn w,Dn<|.int x,Dn<|.int n,Dn<|.int y]/\0<=x/\0<=y/\Lz x y=Lz n f/\m=y.toNat,⟨_,rfl,f,_,rfl,f0,JC n,?_,rfl⟩,?_⟩
  ·rw [abs_eq,Int.gcd_comm];simp [Lz]
  ·rintro m σ h2 ⟨rfl,x,y,rfl,x0,y0,hg,rfl⟩;refine ⟨fun e=>?_,fun e=>?_⟩
   ·have hy:0<y:=by simpa using e
    obtain ⟨g1,g2,g3⟩:=yU x0 hy;conv=>whnf
    refine ⟨by lia,?_⟩;refine ⟨(x.fmod y).toNat,by lia,rfl,y,x.fmod y,rfl,y0,g2,g1.trans hg,rfl⟩
   ·have hy:y=0:=by
     have:¬ 0<y:=by simpa using e
     lia
    subst hy;refine hN _ _ ⟨rfl,Dn<|.int n,Dn<|.int 0,?_⟩;have:gL (ns.take (i+1))=x:=by rw [Jl en,hf];unfold gF;rw [<-hg];exact qj x0
    rw [this]
 ·rintro σ h' ⟨rfl,o2,o3,rfl⟩;rw [Kg];exact q
theorem zbl {ld:BK}(hld:zy ld):ZV (vM ld):=by
 intro h w ns m Q E hw h0 hs hm hl q;have hg0:=Qu h0;have hgs:Sm m (gL ns):=Zk hs;have hz:ns.length<=Dk:=GK hl (by decide);have fin:∀ by',(by'=if dU ns<0 then 0 - gL ns else gL ns)->∀ o2,pU ld E { nx:=fun _ h'=>Q .non h',rt:=fun w h'=>Q w h' } [Dn w,Dn (.int by'),o2] h:=by
  intro by' e o2
  obtain ⟨hn,pl,eq⟩:=z8 h0 e;have hbs:Sm m by':=by refine hgs.le ?_;rw [e];split <;> lia
  show Er Gk [1] (GF (aq 0)) kY (AP JW (aq 0) (aq 1)) [Dn w,Dn (.int by'),o2] h _;refine JF (w:=w) (ns:=ns) rfl hw hz (fun i acc h'=>h'=h/\acc=((ns.take i).map (·.fdiv by')).map W.int) (fun i acc h' e=>by rw [e.1];exact hw) ?_ ?_ ⟨rfl,rfl⟩
  ·rintro i t acc h' N hN et ⟨rfl,rfl⟩;refine And.intro ⟨hn,m,hm,hbs⟩ ?_;refine hN _ _ ⟨rfl,?_⟩;rw [Kq,et];simp
  ·rintro acc h' ⟨rfl,rfl⟩;rw [Kg];exact q _ by' hn eq pl<|zE hs hn eq
 refine hld hw ?_;show Er Gk [] (GF (aq 0)) (bC (AP HW (aq 0) (mC (.int 0)))) (aq 0) [Dn w,Dn (.int (gL ns)),Go] h _;refine JF (w:=w) (ns:=ns) rfl hw hz (fun i acc h'=>h'=h/\acc=((ns.take i).filter (·≠0)).map W.int) (fun i acc h' e=>by rw [e.1];exact hw) ?_ ?_ ⟨rfl,rfl⟩
 ·rintro i n acc h' N hN en ⟨rfl,rfl⟩;show El (!Cq (.int n) (.int 0)) (N (_++[W.int n]) h') _;rw [bB];by_cases h0:n=0
  ·refine Yx (by simp [h0])<|hN _ _ ⟨rfl,?_⟩
   rw [Kq,en];simp [h0]
  ·refine Km (by simp [h0])<|hN _ _ ⟨rfl,?_⟩
   rw [Kq,en];simp [h0]
 ·rintro acc h' ⟨rfl,rfl⟩;rw [Kg];have el:=aek h0;generalize (ns.filter (·≠0)).map W.int=F at el;show (match Ig F (-1) with
    | some w=>_
    | none=>False)
  rw [el];refine J4 (fun hl=>?_)<|fun hl=>?_
  ·exact fin _ (by rw [if_pos hl]) _
  ·exact fin _ (by rw [if_neg hl]) _
theorem ZV.tr {c0:BK}(hc:ZV c0){h:Gh}{n:Nat}{u:Tr}{m:Nat}{Q:WK}{E:CK}(hw:h.c n=Dn (.lst [.int u.1,.int u.2.1,.int u.2.2]))(h0:u≠(0,0,0))(hs:CN m u)(hm:m<=8000)(k:∀ t,Pl t->CN m t->Q (tw t) h):c0 [.loc n] h Q E:=by
 refine hc (ns:=tl u) (m:=m) (.inr<|.inr ⟨n,rfl,hw⟩) (PL h0) hs.all hm (by simp [tl]) fun ms f f0 e pm sm=>?_;obtain ⟨v,rfl,_⟩:=GZ e;exact k v pm ⟨sm _<|by simp [tl],sm _<|by simp [tl],sm _<|by simp [tl]⟩
def V2 (c0:BK):Prop:=∀ {h:Gh} {a:Int} {Q:WK} {E:CK},(∀ h',Mh h' h.nx->h'.nx=h.nx+1->(∀ m,m≠h.nx->h'.c m=h.c m)->Q (.loc h.nx) h')->c0 [.int a] h Q E
theorem abn:V2 Jd:=by
 intro h a Q E k;refine And.intro ⟨by decide,by decide,by decide⟩ ?_;refine And.intro (.inr<|.inr ?_) ?_
 ·have g:∀ b:Bool,Sm 64 (if b=true then (1:Int) else 0):=fun b=>by
   cases b
   ·exact Sm.zero
   ·exact .lit rfl
  exact g _
 refine And.intro (show (2147483647:Int)≠0 by decide) ?_;refine k _ ⟨_,_,Pz _ _,?_,?_⟩ rfl fun m hm=>Gw hm
 ·rw [iR (by decide)];exact Ru _ (by decide)
 ·rw [iR (by decide)];exact SM _ (by decide)
theorem aeS {t:MA}{σ : Sw}{h:Gh}{Q:WK}(x:t σ h fun ws h1=>jc ws.length (Q (.loc h1.nx) (h1.new (.lst ws)))):sY t σ h Q:=x
theorem ix8 {d:Int}{h:Gh}{Q:WK}(h0:0<=d)(h1:d<8)(k:∀ j:Int,0<=j->j<=3->Q (.int j) h):Bw (.lst [.int 0,.int 1,.int 1,.int 1,.int 2,.int 1,.int 3,.int 1]) (.int d) h Q:=by
 rcases (show d=0\/d=1\/d=2\/d=3\/d=4\/d=5\/d=6\/d=7 by lia) with rfl | rfl | rfl | rfl | rfl | rfl | rfl | rfl
 ·exact k 0 (by decide)<|by decide
 ·exact k 1 (by decide)<|by decide
 ·exact k 1 (by decide)<|by decide
 ·exact k 1 (by decide)<|by decide
 ·exact k 2 (by decide)<|by decide
 ·exact k 1 (by decide)<|by decide
 ·exact k 3 (by decide)<|by decide
 ·exact k 1 (by decide)<|by decide
theorem afG {n:Nat}{a b c:Int}{h:Gh}{Q:WK}(e:h.c n=Dn (.lst [.int a,.int b,.int c]))(k:Q (.bl (decide ((a,b,c)=((0,0,0):Tr)))) h):Ez (.loc n) (.lst [.int 0,.int 0,.int 0]) h Q:=by
 have d:Df h (.loc n)=Dn (.lst [.int a,.int b,.int c]):=by
  show (match h.c n with
   | some (.lst ws)=>Dn (W.lst ws)
   | _=>Go)=_
  rw [e]
 unfold Ez;rw [d];show Q (.bl (Cq (.lst [.int a,.int b,.int c]) (.lst [.int 0,.int 0,.int 0]))) h;rw [aar,show decide (a=0/\b=0/\c=0)=decide ((a,b,c)=((0,0,0):Tr)) from decide_eq_decide.mpr (by simp)];exact k
def wds:List Str:=["free", "join", "meet", "curve", "about", "pole", "other"]
def Zg (x:Str):Str:=if x = "join" then "line" else if x = "about" then "line" else if x = "curve" then "curve" else "spot"
theorem afk {x:Str}(hx:x∈wds):Fe mW (.inr x)=Dn (.str (Zg x)):=by
 unfold wds at hx;simp only [Cr,Dl,or_false] at hx;rcases hx with e | e | e | e | e | e | e <;> subst e <;> rfl
def Row (w:W):Prop:=∃ x ns,x∈wds/\w=.tup (.str x::(ns:List Int).map .int)
def srt:W->Str
 | .tup (.str x::_)=>Zg x
 | _ => ""
inductive Th (h:Gh):W->Prop
 | int {i:Int}:Th h (.int i)
 | bl {b:Bool}:Th h (.bl b)
 | str {s:Str}:Th h (.str s)
 | non:Th h .non
 | tup {ws:List W}:Th h (.tup ws)
 | lst {ws:List W}:Th h (.lst ws)
 | loc {n:Nat} {ws:List W} (e:h.c n=Dn (.lst ws)) (l:n<h.nx):Th h (.loc n)
theorem abr {tbl:List (Key×W)}{x:Str}{w:W}{mb:ME}{σ : Sw}{h:Gh}{Q:WK}(e:Fe tbl (.inr x)=Dn w)(m:∀ R:WK,R (.str x) h->mb σ h R)(k:Q w h):ZQ tbl mb σ h Q:=m _ (by
 show (match Fe tbl (.inr x) with
  | some w=>Q w h
  | none=>False)
 rw [e];exact k)
def acw (c0:BK):Prop:=∀ {h:Gh} {w r:W} {rws:List W} {j:Nat} {Q:WK} {E:CK},view h w=Dn rws->rws[j]?=Dn r->Row r->Q (.str (srt r)) h->c0 [w,.int j] h Q E
theorem adW:acw oE:=by
 intro h w r rws j Q E ev er hr k;obtain ⟨x,ns,hx,rfl⟩:=hr;unfold oE;refine jO rfl (σ:=[Dn w,Dn<|.int j]) rfl ?_;refine (abr (afk hx) (fun R q=>?_) k:ZQ mW _ _ _ _);exact bJ<|bJ<|aD rfl<|aD rfl<|jd ev (cu er)<|cA<|jd (ws:=.str x::ns.map .int) (w:=.str x) rfl (cu (j:=0) rfl) q
theorem Lj {a b:List W}{h:Gh}{Q:WK}(hz:a.length+b.length<=1000)(x:Q (.lst (a++b)) h):bN (.lst a) (.lst b) h Q:=jc.mk (GK hz (by decide:1000<=Dk)) x
def acn (c0:BK):Prop:=∀ {h:Gh} {p q:Tr} {m:Nat} {Q:WK} {E:CK},m<=10000->CN m p->CN m q->Q (.int (dt3 p q)) h->c0 [tw p,.lst [.int q.1,.int q.2.1,.int q.2.2]] h Q E
theorem X7:acn GQ:=by
 intro h p q m Q E hm hp hq k;obtain ⟨a,b,c⟩:=p;obtain ⟨d,e,f⟩:=q;obtain ⟨h1,h2,h3⟩:=hp;obtain ⟨h4,h5,h6⟩:=hq;simp only at h1 h2 h3 h4 h5 h6;unfold GQ;rfl'
 exact k
def zA (c0:BK):Prop:=∀ {h:Gh} {M:Mt} {p q:Tr} {m:Nat} {Q:WK} {E:CK},m<=4000->Mq m M->CN m p->CN m q->Q (.int (dt3 p (vm M q))) h->c0 [mw M,tw p,tw q] h Q E
theorem Wo {dt tt:BK}(hdt:acn dt)(htt:Gi tt):zA (iz dt tt):=by
 intro h M p q m Q E hm hM hp hq k;unfold iz;rfl'
 refine htt (m:=m) (by lia) hM hq ?_;rfl'
 refine hdt (m:=m+m+2) (by lia) (hp.mono<|by lia) (Bt hM hq) ?_;rfl'
 exact k
theorem Vu {sh:BK}(hsh:eY sh):eY (jl sh):=by
 intro h w ts M Q E e hl hM hs q;show sh [w] h _ _;exact hsh e hl hM hs q
def abV (c0:BK):Prop:=∀ {h:Gh} {l:Tr} {c:C6} {m:Nat} {Q:WK} {E:CK},m<=1000->CN m l->Et m c->Q (.bl (decide (dt3 l (vm (KC (aV c)) l)=0))) h->c0 [tw l,GJ c] h Q E
theorem zaR {tu ta bo:BK}(htu:nA tu)(hta:TabOk ta)(hbo:zA bo):abV (oW tu ta bo):=by
 intro h l c m Q E hm sl sc k;unfold oW;rfl'
 refine hta (by lia) sc ?_;rfl'
 refine htu (m:=m+1) true (by lia) (gZ sc) ?_;rfl'
 have s1:=Bb (gZ sc);refine hbo (m:=m+1+(m+1)+1) (by lia) s1 (sl.mono<|by lia) (sl.mono<|by lia) ?_;rfl'
 exact k
inductive Cm:Str->List Str->List W->Prop->Prop
 | same {s:Str} {a b:W} (pa:Dq 30 a=true) (pb:Dq 30 b=true) (e:Cq a b=true↔a=b):Cm "same" [s,s] [a,b] (a=b)
 | onl {p l:Tr} (hp:CN 300 p) (hl:CN 300 l):Cm "on" ["spot", "line"] [tw p,tw l] (dt3 p l=0)
 | onc {p:Tr} {c:C6} (hp:CN 300 p) (hc:Et 300 c):Cm "on" ["spot", "curve"] [tw p,GJ c] (Ck c p=0)
 | row {p q r:Tr} (hp:Pl p/\CN 300 p) (hq:Pl q/\CN 300 q) (hr:Pl r/\CN 300 r):Cm "row" ["spot", "spot", "spot"] [tw p,tw q,tw r] (dt3 (crs p q) r=0)
 | bunch {p q r:Tr} (hp:Pl p/\CN 300 p) (hq:Pl q/\CN 300 q) (hr:Pl r/\CN 300 r):Cm "bunch" ["line", "line", "line"] [tw p,tw q,tw r] (dt3 (crs p q) r=0)
 | touch {l:Tr} {c:C6} (hl:CN 300 l) (hc:Et 300 c):Cm "touch" ["line", "curve"] [tw l,GJ c] (dt3 l (vm (KC (aV c)) l)=0)
 | parted {c:C6} (hc:Et 300 c):Cm "parted" ["curve"] [GJ c] (det (aV c)=0)
theorem aaC {p q r:Tr}:AllP [p,q,r]↔dt3 (crs p q) r=0:=by
 constructor
 ·intro h;exact h r (by simp) p (by simp) q<|by simp
 ·intro h;have e:dt3 (crs p q) r=0:=h;refine mU fun k j i hk hj a b c ea eb ec=>?_;have hi:i<3:=by
   have:=(K8.mp ec).1
   exact this
  have h0:k=0:=by lia
  have h1:j=1:=by lia
  have h2:i=2:=by lia
  subst h0 h1 h2;cases ea;cases eb;cases ec;rw [oF,oF];exact e
theorem Og {p q r:Tr}{b:Bool}(e:b=eV [p,q,r]):b=true↔dt3 (crs p q) r=0:=by
 rw [<-aaC];constructor
 ·intro h;refine P0 fun n=>?_;rw [e,uc n] at h;cases h
 ·intro h;rw [e,lC h]
def Told (thg:List W)(js:List Nat)(ws:List W):Prop:=js.map (fun j=>thg[j]?)=ws.map Dn
theorem Told.len {thg ws:List W}{js:List Nat}(t:Told thg js ws):js.length=ws.length:=by
 have:=congrArg R0 t
 rw [Eh,Eh] at this;exact this
theorem Told.at {thg ws:List W}{js:List Nat}(t:Told thg js ws){i j:Nat}(e:js[i]?=Dn j):∃ w,ws[i]?=Dn w/\thg[j]?=Dn w:=by
 have:=congrArg (fun l=>l[i]?) t
 simp only [Ir,e,Option.map_some] at this;cases h:ws[i]? with
 | none=>rw [h] at this;cases this
 | some w=>
  rw [h] at this;exact ⟨w,rfl,Fj this⟩
theorem V1 {thg ws:List W}{js:List Nat}{w1:W}{σ : Sw}{h:Gh}{Q:WK}{ix:List Nat}(hσ : nF ix σ = [Dn w1])(hv:view h w1=Dn thg)(t:Told thg js ws)(hl:js.length<=100)(q:Q (.lst ws) h) :
  lcK Gk ix kY (AP Bw (aq 1) (aq 0)) σ Q ⟨js.map fun j:Nat=>W.int (j:Int),Go⟩ h:=by
 refine MJ (by rw [Eh];exact Nat.ble_eq.mpr (by lia)) ?_;refine jU (fun i acc h'=>h'=h/\acc=ws.take i) ?_ ?_ ⟨rfl,rfl⟩
 ·rintro i u acc h' N hN e ⟨rfl,rfl⟩;rw [Ir] at e;obtain ⟨j,ej,rfl⟩:=V4.mp e;obtain ⟨w,ew,et⟩:=t.at ej;refine ⟨[.int (j:Int)],rfl,?_⟩;rw [hσ];refine qQ<|pI<|bJ<|aD rfl<|aD rfl<|jd hv (cu et)<|hN _ _ ⟨rfl,?_⟩
  rw [Kq,ew];rfl
 ·rintro acc h' ⟨rfl,rfl⟩;rw [Eh,t.len,Kg];exact q
def ZC (c0:BK):Prop:=∀ {h:Gh} {w0 w1:W} {rws thg ws:List W} {x:Str} {due:List Str} {js:List Nat} {P:Prop} {Q:WK} {E:CK},view h w0=Dn rws->view h w1=Dn thg->(∀ r∈rws,Row r)->Told thg js ws->js.map (fun j=>(rws.map srt)[j]?)=due.map Dn->Cm x due ws P->(∀ b,(b=true↔P)->Q (.bl b) h)->c0 [w0,w1,.tup (.str x::js.map fun j:Nat=>W.int (j:Int))] h Q E
theorem adn {u:W}{ns:List W}:vO (u::ns) (Dn 1) Go=ns:=by
 unfold vO;rw [show (1:Int)=((1:Nat):Int) from rfl,HT.xT,HT.sW,Jb,Nat.min_eq_left (by lia),List.drop_succ_cons,Rq,VG (by lia)]
theorem Eb {u:W}{ns:List W}{h:Gh}{Q:WK}(x:Q (.tup ns) h):wA (.tup (u::ns)) (Dn 1) Go h Q:=by
 show Q (.tup (vO (u::ns) (Dn 1) Go)) h;rw [adn];exact x
theorem Fz {x:Str}{ns:List W}{h':Gh}{R:WK}(q:R (.str x) h'):Bw (.tup (.str x::ns)) (.int 0) h' R:=jd (ws:=.str x::ns) rfl (cu (j:=0) rfl) q
theorem Rn {a b:W}{h:Gh}{Q:WK}(da:Df h a=Dn a)(db:Df h b=Dn b)(pa:Dq 30 a=true)(pb:Dq 30 b=true)(k:Q (.bl (Cq a b)) h):Ez a b h Q:=by
 unfold Ez;rw [da,db];show El (Dq 30 a&&Dq 30 b) (Q (.bl (Cq a b)) h) False;rw [pa,pb];exact k
theorem HJ {n:Nat}{a:W}{h:Gh}(p:Dq n a=true):Df h a=Dn a:=by
 cases a with
 | loc m=>cases n <;> cases p
 | _=>rfl
theorem on2 {ss:List Str}{a b:Str}{js:List Nat}(hd:js.map (fun j=>ss[j]?)=[a,b].map Dn):∃ j:Nat,js[1]?=Dn j/\(W.str "on"::js.map fun j:Nat=>W.int (j:Int))[2]?=Dn (.int (j:Int))/\ss[j]?=Dn b:=by
 cases js with
 | nil=>cases hd
 | cons i js=>
  cases js with
  | nil=>exact absurd (congrArg R0 hd) (by simp)
  | cons j js=>
   cases js with
   | nil=>exact ⟨j,rfl,rfl,Fj (congrArg (fun l=>l[1]?) hd)⟩
   | cons l js=>exact absurd (congrArg R0 hd) (by simp)
theorem agB {li ol ts ic ir so to:BK}(hli:Ef li)(hol:eY ol)(hts:eY ts)(hic:aae ic)(hir:Ln ir)(hso:acw so)(hto:abV to):ZC (xO li ol ts ic ir so to):=by
 intro h w0 w1 rws thg ws x due js P Q E hv0 hv1 hr ht hd hc k;have hl:js.length<=100:=by
  rw [ht.len];cases hc <;> exact Gq rfl
 unfold xO;refine jO rfl (σ:=[Dn w0,Dn w1,Dn<|.tup (.str x::js.map fun j:Nat=>W.int (j:Int)),Go]) rfl ?_;refine bw<|cg<|Cw<|Jp<|qH<|aD rfl<|dz<|cA<|Ik<|cD<|Eb<|Ss (ws:=js.map fun j:Nat=>W.int (j:Int)) (o:=Go) rfl ?_
 refine V1 rfl hv1 ht hl ?_;rfl'
 refine Fz ?_;rfl'
 cases hc with
 | same pa pb e=>
  refine qM (by decide +kernel) ?_;rfl'
  refine Rn (HJ pa) (HJ pb) pa pb ?_;exact k _ e
 | @onl p l hp hl=>
  refine dj (by decide +kernel) ?_;rfl'
  unfold dB;rfl'
  refine Fz ?_;rfl'
  refine qM (by decide +kernel) ?_;rfl'
  obtain ⟨j,i2,e2,hj⟩:=on2 hd;refine jd (ws:=.str "on"::js.map fun j:Nat=>W.int (j:Int)) (w:=.int (j:Int)) rfl (cu (j:=2) e2) ?_;obtain ⟨r,er,es⟩:=V4.mp (by rw [Ir] at hj;exact hj);rfl'
  refine hso hv0 er (hr r<|Q8 er) ?_;rw [es];rfl'
  refine qM (by decide +kernel) ?_;rfl'
  refine hli (m:=300) (by decide) hp hl ?_;exact k _<|by rw [decide_eq_true_iff]
 | @onc p c hp hc=>
  refine dj (by decide +kernel) ?_;rfl'
  unfold dB;rfl'
  refine Fz ?_;rfl'
  refine qM (by decide +kernel) ?_;rfl'
  obtain ⟨j,i2,e2,hj⟩:=on2 hd;refine jd (ws:=.str "on"::js.map fun j:Nat=>W.int (j:Int)) (w:=.int (j:Int)) rfl (cu (j:=2) e2) ?_;obtain ⟨r,er,es⟩:=V4.mp (by rw [Ir] at hj;exact hj);rfl'
  refine hso hv0 er (hr r<|Q8 er) ?_;rw [es];rfl'
  refine dj (by decide +kernel) ?_;rfl'
  refine hic (m:=300) (by decide) hc hp ?_;exact k _<|by rw [decide_eq_true_iff]
 | @row p q r hp hq hr=>
  refine dj (by decide +kernel) ?_;rfl'
  unfold dB;rfl'
  refine Fz ?_;rfl'
  refine dj (by decide +kernel) ?_;rfl'
  unfold gR;rfl'
  refine Fz ?_;rfl'
  refine qM (by decide +kernel) ?_;rfl'
  refine hol (ts:=[p,q,r]) (M:=300) (.inl rfl) (Gq rfl) (by decide) (fun t ht=>?_)<|k _<|Og rfl
  simp only [Cr,Dl,or_false] at ht;rcases ht with rfl | rfl | rfl
  ·exact hp
  ·exact hq
  ·exact hr
 | @bunch p q r hp hq hr=>
  refine dj (by decide +kernel) ?_;rfl'
  unfold dB;rfl'
  refine Fz ?_;rfl'
  refine dj (by decide +kernel) ?_;rfl'
  unfold gR;rfl'
  refine Fz ?_;rfl'
  refine dj (by decide +kernel) ?_;rfl'
  unfold j9;rfl'
  refine Fz ?_;rfl'
  refine qM (by decide +kernel) ?_;rfl'
  refine hts (ts:=[p,q,r]) (M:=300) (.inl rfl) (Gq rfl) (by decide) (fun t ht=>?_)<|k _<|Og rfl
  simp only [Cr,Dl,or_false] at ht;rcases ht with rfl | rfl | rfl
  ·exact hp
  ·exact hq
  ·exact hr
 | @touch l c hl hc=>
  refine dj (by decide +kernel) ?_;rfl'
  unfold dB;rfl'
  refine Fz ?_;rfl'
  refine dj (by decide +kernel) ?_;rfl'
  unfold gR;rfl'
  refine Fz ?_;rfl'
  refine dj (by decide +kernel) ?_;rfl'
  unfold j9;rfl'
  refine Fz ?_;rfl'
  refine dj (by decide +kernel) ?_;rfl'
  unfold oR;rfl'
  refine Fz ?_;rfl'
  refine qM (by decide +kernel) ?_;rfl'
  refine hto (m:=300) (by decide) hl hc ?_;exact k _<|by rw [decide_eq_true_iff]
 | @parted c hc=>
  refine dj (by decide +kernel) ?_;rfl'
  unfold dB;rfl'
  refine Fz ?_;rfl'
  refine dj (by decide +kernel) ?_;rfl'
  unfold gR;rfl'
  refine Fz ?_;rfl'
  refine dj (by decide +kernel) ?_;rfl'
  unfold j9;rfl'
  refine Fz ?_;rfl'
  refine dj (by decide +kernel) ?_;rfl'
  unfold oR;rfl'
  refine Fz ?_;rfl'
  refine dj (by decide +kernel) ?_;rfl'
  unfold uW;rfl'
  refine hir (m:=300) (by decide) hc ?_;rfl'
  refine k _ ?_;rw [TY,decide_eq_false_iff_not,Decidable.not_not]
def mF (c0:BK):Prop:=∀ {h:Gh} {c:C6} {p l:Tr} {n:Nat} {Q:WK} {E:CK},n<=2500->Et 560 c->CN n p->CN 430 l->Pl p->Pl l->(Ck c p=0->dt3 p l=0->¬ InC c l->∀ u,Cy c p l u->CN (n+2290) u->Q (tw u) h)->(Ck c p≠0\/dt3 p l≠0->E ⟨"NotOn",[]⟩ h)->(Ck c p=0->dt3 p l=0->InC c l->E ⟨"InCurve",[]⟩ h)->c0 [GJ c,tw p,tw l] h Q E
theorem Oj {p b:Tr}{s t:Int}(hp:Pl p)(hb:Pl b)(ne:b≠p)(e:GR s p t b=(0,0,0)):s=0/\t=0:=by
 have c0:crs p b≠(0,0,0):=gG hp hb fun e=>ne e.symm
 have k:∀ x y:Int,s*y - t*x=0:=fun x y=>P0 fun n=>c0 ((jw n).mp (by
  rw [<-G4,e];simp [crs]))
 have h1:=k 0 1;have h2:=k 1 0;lia
theorem XC {li on ta bo po an:BK}(hli:Ef li)(hon:aae on)(hta:TabOk ta)(hbo:zA bo)(hpo:QZ po)(han:Zc an):mF (jC li on ta bo po an):=by
 intro h c p l n Q E hn hc hp hl pp pl k k1 k2;unfold jC;rfl'
 refine hon (m:=n+560) (by lia) (hc.mono<|by lia) (hp.mono<|by lia) ?_;rfl'
 refine Gp (fun e=>?_)<|fun wp=>?_
 ·rfl'
  exact k1<|.inl e
 rfl'
 refine hli (m:=n+430) (by lia) (hp.mono<|by lia) (hl.mono<|by lia) ?_;rfl'
 refine Gp (fun e=>?_)<|fun lp=>?_
 ·rfl'
  exact k1<|.inr e
 have lp':dt3 l p=0:=by rw [bH];exact lp
 rfl'
 unfold jX;rfl'
 refine hta (m:=560) (by decide) hc ?_;rfl'
 refine han (m:=430) (by decide) (by decide) hl pl pp fun b pb lb bp sb=>?_;have hM:Mq 561 (aV c):=gZ hc;have sb:CN 861 b:=sb;have smv:CN 1424 (vm (aV c) b):=(Bt hM sb).mono (by decide);have so:Sm 2287 (pom c b b):=(jH sb smv).mono (by decide);have sg:Sm (n+1426) (pom c p b):=(jH hp smv).mono (by lia);have s2:Sm (n+1427) (2*pom c p b):=Ah sg;rfl'
 refine hbo (m:=861) (by decide) (hM.mono<|by decide) sb sb ?_;rfl'
 refine hbo (m:=n+861) (by lia) (hM.mono<|by lia) (hp.mono<|by lia) (sb.mono<|by lia) ?_;have eO:dt3 b (vm (aV c) b)=pom c b b:=rfl;have eG:dt3 p (vm (aV c) b)=pom c p b:=rfl;rw [eO,eG];have sE:CN (n+2290) (GR (pom c b b) p (-(2*pom c p b)) b):=by
  have sn:Sm (n+1427) (-(2*pom c p b)):=s2.le (by lia);exact ⟨((so.mul hp.1).add (sn.mul sb.1)).mono (by lia),((so.mul hp.2.1).add (sn.mul sb.2.1)).mono (by lia),((so.mul hp.2.2).add (sn.mul sb.2.2)).mono (by lia)⟩
 have fin1:GR (pom c b b) p (-(2*pom c p b)) b≠(0,0,0)->∀ u,Pl u->Ej (GR (pom c b b) p (-(2*pom c p b)) b) u->CN (n+2290) u->Q (tw u) h:=fun E0 u pu par su=>k wp lp (fun i=>E0 (W5 (b:=b) lp' lb i)) u (DR pl.ne pp pb bp lp' lb wp pu par) su
 have fin2:GR (pom c b b) p (-(2*pom c p b)) b=(0,0,0)->E ⟨"InCurve",[]⟩ h:=fun E0=>k2 wp lp (by
  obtain ⟨e1,e2⟩:=Oj pp pb bp E0;rw [fW] at e1;exact Nz pl.ne pp pb bp lp' lb wp (by lia) (by lia))
 generalize pom c b b=o at *;generalize pom c p b=g at *;obtain ⟨p1,p2,p3⟩:=p;obtain ⟨b1,b2,b3⟩:=b;obtain ⟨hp1,hp2,hp3⟩:=hp;obtain ⟨hb1,hb2,hb3⟩:=sb;simp only at hp1 hp2 hp3 hb1 hb2 hb3;rfl'
 have ee:∀ x y z w:Int,x*y - z*w=x*y + -z*w:=fun x y z w=>by rw [Int.sub_eq_add_neg,Int.neg_mul]
 rw [ee,ee,ee];refine hpo (t:=GR o (p1,p2,p3) (-(2*g)) (b1,b2,b3)) (m:=n+2290) (by lia) sE (fun E0 u pu par su=>?_) fun E0=>?_
 ·rfl'
  refine dj rfl ?_;rfl'
  unfold jN;rfl'
  exact fin1 E0 u pu par su
 ·rfl'
  refine qM rfl ?_;rfl'
  exact fin2 E0
theorem Yu (c:C6):tr (aV c)=aV c:=rfl
theorem kZ (c:C6):KC (aV c)=adj (aV c):=by
 unfold adj;obtain ⟨c1,c2,c3,c4,c5,c6⟩:=c;simp only [KC,tr,aV,crs,Td];grind
def vd (c0:BK):Prop:=∀ {h:Gh} {c:C6} {l:Tr} {m:Nat} {Q:WK} {E:CK},m<=2000->Et m c->CN m l->l≠(0,0,0)->(det (aV c)≠0->∀ u,Pl u->Ej (vm (adj (aV c)) l) u->CN (3*m+5) u->Q (tw u) h)->(det (aV c)=0->E ⟨"NotRound",[]⟩ h)->c0 [GJ c,tw l] h Q E
theorem aey {pl tt tu ta ro:BK}(hpl:Fy pl)(htt:Gi tt)(htu:nA tu)(hta:TabOk ta)(hro:Ln ro):vd (iu pl tt tu ta ro):=by
 intro h c l m Q E hm hc hl l0 k kx;unfold iu;rfl'
 refine hro (m:=m) (by lia) hc ?_;rfl'
 refine Gp (fun e=>?_)<|fun e=>?_
 ·rfl'
  exact kx<|Decidable.not_not.mp e
 ·rfl'
  unfold jj;rfl'
  refine hta (m:=m) (by lia) hc ?_;rfl'
  refine htu (M:=aV c) (m:=m+1) true (by lia) (gZ hc) ?_;rfl'
  refine htt (m:=m+1+(m+1)+1) (by lia) (Bb<|gZ hc) (hl.mono<|by lia) ?_;rfl'
  have sv:CN (3*m+5) (vm (KC (aV c)) l):=(Bt (Bb (gZ hc)) hl).mono (by lia);have v0:vm (KC (aV c)) l≠(0,0,0):=by
   rw [kZ];exact uJ (sG e) l0
  refine hpl.tr (u:=vm (KC<|aV c) l) (m:=3*m+5) (.inr rfl) v0 sv (by lia) fun t pt par st=>?_;rfl'
  exact k e t pt (by rw [<-kZ];exact par) st
theorem Ii (c:C6)(v:Tr):vm (adj (aV c)) (vm (aV c) v)=sc (det (aV c)) v:=by
 rw [<-QD,Il,Ry,Rj]
theorem Ze {M:Mt}{u v:Tr}(h:Ej u v):Ej (vm M u) (vm M v):=by
 obtain ⟨k,hk,rfl⟩:=h;exact ⟨k,hk,v8 _ _ _⟩
def Qy (c0:BK):Prop:=∀ {h:Gh} {n:Nat} {Q:WK} {E:CK},Mh h n->n<h.nx->(∀ t h',Pl t->CN 3 t->Mh h' n->h.nx<=h'.nx->(∀ m,m<h.nx->m≠n->h'.c m=h.c m)->Q (tw t) h')->c0 [.loc n,.int 0] h Q E
theorem ahC {dr pl:BK}(hdr:Nm dr)(hpl:ZV pl):Qy (tU dr pl):=by
 intro h n Q E hb hn k;have sml:∀ {x:Int},-5<=x->x<5->Sm 3 x:=fun h1 h2=>MK (by lia) (by lia)
 have t3:∀ {g:Gh} {r:Nat} {u:Tr} {s1:Option W},g.c r=Dn (.lst [.int u.1,.int u.2.1,.int u.2.2])->u≠(0,0,0)->CN 3 u->Mh g n->h.nx<=g.nx->(∀ m,m<h.nx->m≠n->g.c m=h.c m)->iM dr pl E { nx:=fun _ h'=>Q .non h',rt:=fun w h'=>Q w h' } [Dn (.loc n),s1,Dn (.loc r)] g:=by
  intro g r u s1 e u0 su bg hx ho;unfold iM;rfl'
  refine hpl.tr e u0 su (by decide) fun t pt st=>?_;exact k t g pt st bg hx ho
 have t2:∀ {g:Gh} {r:Nat} {a b c:Int} {s1:Option W},g.c r=Dn (.lst [.int a,.int b,.int c])->CN 3 (a,b,c)->Mh g n->h.nx<=r->r<g.nx->(∀ m,m<h.nx->m≠n->g.c m=h.c m)->lX dr pl E { nx:=fun _ h'=>Q .non h',rt:=fun w h'=>Q w h' } [Dn (.loc n),s1,Dn (.loc r)] g:=by
  intro g r a b c s1 e su bg hx hr ho;unfold lX;rfl'
  refine afG e ?_;rfl'
  refine J4 (fun z=>?_) fun z=>?_
  ·simp only [Td] at z;obtain ⟨rfl,rfl,rfl⟩:=z;have o:Sm 3 1:=sml (by decide) (by decide);have o0:Sm 3 0:=sml (by decide) (by decide);rfl'
   refine hdr (n:=n) (many:=3) bg (by decide) (by unfold Sm;decide +kernel) fun j g2 j0 j1 b2 o2=>?_;have e2:g2.c r=Dn (.lst [.int 0,.int 0,.int 0]):=by rw [o2.2 r (by lia)];exact e
   have fin:∀ {g3:Gh} {u:Tr},g3.c r=Dn (.lst [.int u.1,.int u.2.1,.int u.2.2])->u≠(0,0,0)->CN 3 u->(∀ m,m≠r->g3.c m=g2.c m)->g3.nx=g2.nx->iM dr pl E { nx:=fun _ h'=>Q .non h',rt:=fun w h'=>Q w h' } [Dn (.loc n),s1,Dn (.loc r)] g3:=by
    intro g3 u e3 u0 su o3 x3;refine t3 e3 u0 su ?_ (by rw [x3,o2.1];lia) fun m hm hmn=>?_
    ·obtain ⟨x,y,ex,y0,y1⟩:=b2;exact ⟨x,y,by rw [o3 n<|by lia];exact ex,y0,y1⟩
    ·rw [o3 m (by lia),o2.2 m hmn];exact ho m hm hmn
   rcases (show j=0\/j=1\/j=2 by lia) with rfl | rfl | rfl
   ·refine wQ e2 (j:=0) rfl rfl fun g3 e3 o3 x3=>?_;exact fin (u:=(1,0,0)) e3 (by decide) ⟨o,o0,o0⟩ o3 x3
   ·refine wQ e2 (j:=1) rfl rfl fun g3 e3 o3 x3=>?_;exact fin (u:=(0,1,0)) e3 (by decide) ⟨o0,o,o0⟩ o3 x3
   ·refine wQ e2 (j:=2) rfl rfl fun g3 e3 o3 x3=>?_;exact fin (u:=(0,0,1)) e3 (by decide) ⟨o0,o0,o⟩ o3 x3
  ·rfl'
   exact t3 (u:=(a,b,c)) e z su bg (by lia) ho
 unfold tU;rfl'
 refine aeS ?_;rfl'
 refine hdr (n:=n) (many:=5) hb (by decide) (by unfold Sm;decide +kernel) fun d1 g1 a0 a1 b1 o1=>?_;rfl'
 refine hdr (n:=n) (many:=5) b1 (by decide) (by unfold Sm;decide +kernel) fun d2 g2 c0 c1 b2 o2=>?_;rfl'
 refine hdr (n:=n) (many:=8) b2 (by decide) (by unfold Sm;decide +kernel) fun d3 g3 f0 f1 b3 o3=>?_;refine ix8 f0 f1 fun j j0 j1=>?_;have x3:g3.nx=h.nx:=by rw [o3.1,o2.1,o1.1]
 have u3:∀ m,m≠n->g3.c m=h.c m:=fun m hm=>by rw [o3.2 m hm,o2.2 m hm,o1.2 m hm]
 rfl'
 have en:=Pz g3 (.lst [.int (d1 - 2),.int (d2 - 2),.int j]);have ex:(g3.new (.lst [.int (d1 - 2),.int (d2 - 2),.int j])).nx=g3.nx+1:=rfl;have eo:∀ m,m≠g3.nx->(g3.new (.lst [.int (d1 - 2),.int (d2 - 2),.int j])).c m=g3.c m:=fun m hm=>Gw hm
 generalize (g3.new (.lst [.int (d1 - 2),.int (d2 - 2),.int j]))=g4 at en ex eo;have b4:Mh g4 n:=by
  obtain ⟨x,y,e,y0,y1⟩:=b3;exact ⟨x,y,by rw [eo n<|by lia];exact e,y0,y1⟩
 rfl'
 refine dj (by decide) ?_;rfl'
 exact t2 en ⟨sml (by show _<=d1 - 2;lia) (by show d1 - 2<_;lia),sml (by show _<=d2 - 2;lia) (by show d2 - 2<_;lia),sml (by show _<=j;lia) (by show j<_;lia)⟩ b4 (by lia) (by lia) fun m hm hmn=>by rw [eo m (by lia)];exact u3 m hmn
theorem abF:wI qg:=by
 intro h p q m Q E hm hp hq k;obtain ⟨a,b,c⟩:=p;obtain ⟨d,e,f⟩:=q;obtain ⟨h1,h2,h3⟩:=hp;obtain ⟨h4,h5,h6⟩:=hq;simp only at h1 h2 h3 h4 h5 h6;unfold qg;rfl'
 exact k
theorem abK:wN xY:=by
 intro h p q m Q E hm hp hq k;obtain ⟨a,b,c⟩:=p;obtain ⟨d,e,f⟩:=q;obtain ⟨h1,h2,h3⟩:=hp;obtain ⟨h4,h5,h6⟩:=hq;simp only at h1 h2 h3 h4 h5 h6;unfold xY;rfl'
 exact k
theorem agy {cr dt:BK}(hcr:wI cr)(hdt:wN dt):Bm (sZ cr dt):=by
 intro h p q r m Q E hm sp sq sr k;unfold sZ;rfl'
 refine hcr (m:=m) (by lia) sp sq ?_;rfl'
 refine hdt (m:=m+m+1) (by lia) (c7 sp sq) (sr.mono<|by lia) ?_;rfl'
 exact k
theorem agU {d:Str}{mb mh:CK->MS}{E:CK}{D:bA}{σ : Sw}{h:Gh}(x:mb (fun x h'=>El (Gm x.cls d) (mh E D σ h') False) D σ h):Qe d mb mh E D σ h:=x
theorem zaC {x f:Str}{ma:ME}{E:CK}{D:bA}{σ : Sw}{h:Gh}(k:ma σ h fun w h1=>E ⟨x,[(f,w)]⟩ h1):wK x f ma E D σ h:=k
theorem Zu {i:Nat}{ws:List W}{σ : Sw}{h:Gh}{R:Src->Gh->Prop}(hv:σ[i]?=Dn (Dn (.lst ws)))(k:R ⟨enW 0 ws,Go⟩ h):Tt (aj (aq i) aJ) σ h R:=au (aD hv (aM k))
def Kp (h h':Gh):Prop:=h.nx<=h'.nx/\∀ m,m<h.nx->h'.c m=h.c m
def Mk (c0:BK)(gold:List W)(i:Nat)(r:W):Prop:=∀ {h:Gh} {n:Nat} {w:W} {Q:WK} {E:CK},h.c n=Dn (.lst (gold.take i))->gold[i]?=Dn w->Q w h->c0 [r,.loc n] h Q E
def Rf (c0:BK)(gold:List W)(r:W):Prop:=∀ {h:Gh} {n:Nat} {Q:WK} {E:CK},h.c n=Dn (.lst gold)->(∀ x,E ⟨x,[]⟩ h)->c0 [r,.loc n] h Q E
def Nfr (r:W):Prop:=∃ x ns,r=.tup (.str x::ns)/\Cq (.str x) (.str "free")=false
structure Plan (c0:BK) (rws sps gold:List W):Prop where
 six:sps.length=6
 top:gold.take 6=sps
 fr:∀ i,i<6->rws[i]?=Dn (.tup [.str "free"])
 len:rws.length<=30
 le:gold.length<=rws.length
 lo:∀ k,Iu k gold
 nf:∀ i r,6<=i->rws[i]?=Dn r->Nfr r
 mak:∀ i r,6<=i->i<gold.length->rws[i]?=Dn r->Mk c0 gold i r
theorem zbz {mr:BK}{rws sps gold:List W}{h:Gh}{Q:WK}{E:CK}(P:Plan mr rws sps gold)(kf:gold.length=rws.length->Q (.lst gold) h)
  (kr:∀ r,rws[gold.length]?=Dn r->Rf mr gold r/\∀ h',Kp h h'->E ⟨"Stuck",[("at",.int (gold.length:Nat))]⟩ h'):nC mr [.lst rws,.lst sps] h Q E:=by
 have g6:6<=gold.length:=by
  have:=congrArg R0 P.top
  rw [P.six,Rg] at this;lia
 unfold nC;refine FQ rfl (σ:=[Dn<|.lst rws,Dn<|.lst sps,Go,Go,Go,Go,Go]) rfl ?_;refine bw<|cg<|Jw (ws:=[]) (fun R=>rfl) rfl fun g eg og xg=>?_
 refine nV<|gK ?_
 refine bw<|cg<|cA ?_
 refine nV<|gK ?_
 refine bw<|jQ<|Zu rfl<|j5 ?_
 refine lK (fun i σ h'=>∃ f s4 s5 s6,σ = [Dn<|.lst rws,Dn<|.lst sps,Dn<|.loc h.nx,Dn<|.int f,s4,s5,s6]/\f=((min i 6:Nat):Int)/\i<=gold.length/\h'.c h.nx=Dn (.lst<|gold.take i)/\h'.nx=h.nx+1/\∀ m,m<h.nx->h'.c m=h.c m) ?_ ?_ ⟨_,_,_,_,rfl,rfl,O8 _,eg,xg,fun m hm=>og m<|Gf hm⟩
 ·rintro i w0 σ h' N hN e ⟨f,s4,s5,s6,rfl,hf,hi,hc,hx,ho⟩;obtain ⟨r,er,rfl⟩:=xq e;rw [S8];refine Jt rfl rfl<|yd<|nV ?_
  refine yd<|nV<|Nh ?_
  refine iC ?_;by_cases h6:i<6
  ·rw [P.fr i h6] at er;cases er;have es:sps[i]?=gold[i]?:=by rw [<-P.top,List.getElem?_take,if_pos h6]
   have eg:gold[i]?=Dn gold[i]:=KN (by lia);refine cO<|bJ<|bJ<|aD rfl<|cA<|Fz<|cA ?_
   rfl'
   refine qM (by decide +kernel) ?_;refine bw<|pD<|Gd<|aD rfl<|wU hc<|au<|bJ<|aD rfl<|aD rfl ?_
   rw [Nat.min_eq_left (S7 h6)] at hf;subst hf;refine jd (ws:=sps) (w:=gold[i]) rfl (cu<|by rw [es,eg])<|aM ?_
   refine Vv hc (by rw [Rg];have:=P.len;have:=P.le;lia) fun g2 e2 o2 x2=>?_;refine gK<|cg<|bJ<|aD rfl<|cA<|lU ?_
   refine nV<|gK ?_
   refine hN _ _ ⟨_,_,_,_,rfl,by lia,by lia,by rw [e2,Kq,eg];rfl,by rw [x2];exact hx,fun m hm=>by rw [o2 m<|Gf hm];exact ho m hm⟩
  ·obtain ⟨x,ns,rfl,nx⟩:=P.nf i r (by lia) er;refine cO<|bJ<|bJ<|aD rfl<|cA<|Fz<|cA ?_
   rfl'
   refine dj nx ?_;refine bw<|agU<|cg<|bD<|au<|aD rfl<|au<|aD rfl<|aM ?_
   by_cases hl:i<gold.length
   ·have eg:gold[i]?=Dn gold[i]:=KN hl;refine P.mak i _ (by lia) hl er hc eg ?_;refine nV<|gK<|pD<|Gd<|aD rfl<|wU hc<|au<|aD rfl<|aM ?_
    refine Vv hc (by rw [Rg];have:=P.len;have:=P.le;lia) fun g2 e2 o2 x2=>?_;refine gK<|hN _ _ ⟨_,_,_,_,rfl,by lia,by lia,by rw [e2,Kq,eg];rfl,by rw [x2];exact hx,fun m hm=>by rw [o2 m<|Gf hm];exact ho m hm⟩
   ·have ei:i=gold.length:=by lia
    subst ei;rw [Kg] at hc;obtain ⟨k1,k2⟩:=kr _ er;refine k1 hc fun y=>?_;have:Gm y "EaselError" = true:=by unfold Gm;simp
    show El (Gm y "EaselError") _ False;rw [this];refine pI<|zaC<|aD rfl ?_
    exact k2 _ ⟨by lia,ho⟩
 ·rintro σ h' ⟨f,s4,s5,s6,rfl,hf,hi,hc,hx,ho⟩;rw [yE] at hi hc;have el:gold.length=rws.length:=Nat.le_antisymm P.le hi;rw [<-el,Kg] at hc;refine gK ?_;unfold qP;refine mV<|aD rfl<|Sd ⟨fun n c hn e=>by rw [ho n hn];exact e,.inr ⟨_,_,rfl,Dp _,hc,P.lo _,kf el⟩⟩
section
variable {jo me th li sp oe:BK}{h:Gh}{w1:W}{thg:List W}{js:List Nat}{Q:WK}{E:CK}
theorem jW {x:Str}{ws:List W}(hv:view h w1=Dn thg)(t:Told thg js ws)(hl:js.length<=100) (k:(aZ (dY (bC (AP Ez (AP Bw (aq 0) (mC (.int 0))) (mC (.str "join")))) (bI (aG jo E (aj (AP Bw (aq 2) (mC (.int 0))) (aj (AP Bw (aq 2) (mC (.int 1))) aJ)))) bG)
  (bL jo me th li sp oe E)) { nx:=fun _ h'=>Q .non h',rt:=fun w h'=>Q w h' } [Dn (.tup (.str x::js.map fun j:Nat=>W.int (j:Int))),Dn w1,Dn (.lst ws)] h):aF jo me th li sp oe [.tup (.str x::js.map fun j:Nat=>W.int (j:Int)),w1] h Q E:=by
 unfold aF;refine jO rfl (σ:=[Dn<|.tup (.str x::js.map fun j:Nat=>W.int (j:Int)),Dn w1,Go]) rfl ?_;refine bw<|cg<|Cw<|Jp<|qH<|aD rfl<|dz<|cA<|Ik<|cD<|Eb<|Ss (ws:=js.map fun j:Nat=>W.int (j:Int)) (o:=Go) rfl ?_
 refine V1 rfl hv t hl ?_;refine nV<|gK ?_
 exact k
theorem Jv (hj:oN jo){p q:Tr}{m:Nat}(hv:view h w1=Dn thg)(t:Told thg js [tw p,tw q])(hm:m<=3900)(sp':CN m p)(sq:CN m q)(pp:Pl p)(pq:Pl q)(k:p≠q->∀ t:Tr,Pl t->Ej (crs p q) t->CN (m+m+1) t->Q (tw t) h)(kx:p=q->E ⟨"Alike",[]⟩ h) :
  aF jo me th li sp oe [.tup (.str "join"::js.map fun j:Nat=>W.int (j:Int)),w1] h Q E:=by
 refine jW hv t (by rw [t.len];exact Gq rfl) ?_;rfl'
 refine Fz ?_;rfl'
 refine qM (by decide +kernel) ?_;rfl'
 refine hj hm sp' sq pp pq (fun ne t pt pa st=>?_) kx;exact k ne t pt pa st
theorem G6 (ht:xu th){a b c d e:Tr}{m:Nat}(hv:view h w1=Dn thg)(t:Told thg js [tw a,tw b,tw c,tw d,tw e])(hm:m<=300)(ok:Ma m [a,b,c,d,e])(k:G5 [a,b,c,d,e]->∀ (C:C6) (k:Int),k≠0->je a b c d e=kC k C->Jz (Ht C)->Et (U3 m) C->Q (GJ C) h)
  (kx:¬ [a,b,c,d,e].Nodup->E ⟨"Alike",[]⟩ h) (ky:[a,b,c,d,e].Nodup->sy [a,b,c,d,e]=true->E ⟨"FourOnLine",[]⟩ h) :
  aF jo me th li sp oe [.tup (.str "curve"::js.map fun j:Nat=>W.int (j:Int)),w1] h Q E:=by
 refine jW hv t (by rw [t.len];exact Gq rfl) ?_;rfl'
 refine Fz ?_;rfl'
 refine dj (by decide +kernel) ?_;rfl'
 unfold bL;rfl'
 refine Fz ?_;rfl'
 refine dj (by decide +kernel) ?_;rfl'
 unfold bT;rfl'
 refine Fz ?_;rfl'
 refine qM (by decide +kernel) ?_;rfl'
 exact ht (.inl rfl) hm ok k kx ky
theorem afY (hl:xW li){c:C6}{p:Tr}{m:Nat}(hv:view h w1=Dn thg)(t:Told thg js [GJ c,tw p])(hm:m<=3000)(hc:Et m c)(hp:CN m p)(k:vm (aV c) p≠(0,0,0)->∀ u,Pl u->Ej (vm (aV c) p) u->CN (m+m+4) u->Q (tw u) h)(kx:vm (aV c) p=(0,0,0)->E ⟨"Knot",[]⟩ h) :
  aF jo me th li sp oe [.tup (.str "about"::js.map fun j:Nat=>W.int (j:Int)),w1] h Q E:=by
 refine jW hv t (by rw [t.len];exact Gq rfl) ?_;rfl'
 refine Fz ?_;rfl'
 refine dj (by decide +kernel) ?_;rfl'
 unfold bL;rfl'
 refine Fz ?_;rfl'
 refine dj (by decide +kernel) ?_;rfl'
 unfold bT;rfl'
 refine Fz ?_;rfl'
 refine dj (by decide +kernel) ?_;rfl'
 unfold cC;rfl'
 refine Fz ?_;rfl'
 refine qM (by decide +kernel) ?_;rfl'
 exact hl hm hc hp k kx
theorem Fd (hs:vd sp){c:C6}{l:Tr}{m:Nat}(hv:view h w1=Dn thg)(t:Told thg js [GJ c,tw l])(hm:m<=2000)(hc:Et m c)(hl:CN m l)(l0:l≠(0,0,0))(k:det (aV c)≠0->∀ u,Pl u->Ej (vm (adj (aV c)) l) u->CN (3*m+5) u->Q (tw u) h)(kx:det (aV c)=0->E ⟨"NotRound",[]⟩ h) :
  aF jo me th li sp oe [.tup (.str "pole"::js.map fun j:Nat=>W.int (j:Int)),w1] h Q E:=by
 refine jW hv t (by rw [t.len];exact Gq rfl) ?_;rfl'
 refine Fz ?_;rfl'
 refine dj (by decide +kernel) ?_;rfl'
 unfold bL;rfl'
 refine Fz ?_;rfl'
 refine dj (by decide +kernel) ?_;rfl'
 unfold bT;rfl'
 refine Fz ?_;rfl'
 refine dj (by decide +kernel) ?_;rfl'
 unfold cC;rfl'
 refine Fz ?_;rfl'
 refine dj (by decide +kernel) ?_;rfl'
 unfold dD;rfl'
 refine Fz ?_;rfl'
 refine qM (by decide +kernel) ?_;rfl'
 exact hs hm hc hl l0 k kx
theorem m_other (hj:oN jo)(ho:mF oe){c:C6}{p q:Tr}{m:Nat}(hv:view h w1=Dn thg)(t:Told thg js [GJ c,tw p,tw q])(hm:m<=200)(hc:Et 560 c)(hp:CN m p)(hq:CN m q)(pp:Pl p)(pq:Pl q)(ne:p≠q)
  (k:∀ l,Pl l->Ej (crs p q) l->¬ InC c l->∀ u,Cy c p l u->CN (m+2290) u->Q (tw u) h) (w0:Ck c p=0) (ni:∀ l,Pl l->Ej (crs p q) l->¬ InC c l) :
  aF jo me th li sp oe [.tup (.str "other"::js.map fun j:Nat=>W.int (j:Int)),w1] h Q E:=by
 refine jW hv t (by rw [t.len];exact Gq rfl) ?_;rfl'
 refine Fz ?_;rfl'
 refine dj (by decide +kernel) ?_;rfl'
 unfold bL;rfl'
 refine Fz ?_;rfl'
 refine dj (by decide +kernel) ?_;rfl'
 unfold bT;rfl'
 refine Fz ?_;rfl'
 refine dj (by decide +kernel) ?_;rfl'
 unfold cC;rfl'
 refine Fz ?_;rfl'
 refine dj (by decide +kernel) ?_;rfl'
 unfold dD;rfl'
 refine Fz ?_;rfl'
 refine dj (by decide +kernel) ?_;rfl'
 unfold iB;rfl'
 refine hj (m:=m) (by lia) hp hq pp pq (fun _ l pl pa sl=>?_)<|fun e=>absurd e ne
 have d:dt3 p l=0:=by
  obtain ⟨j,j0,e⟩:=pa;have z:dt3 p (crs p q)=0:=by rw [bH];exact kJ _ _
  rw [e,fB] at z;exact (Ja.mp z).resolve_right j0
 rfl'
 exact ho (n:=m) (by lia) hc hp (sl.mono<|by lia) pp pl (fun _ _ i u o s=>k l pl pa i u o s) (fun z=>z.elim (fun z=>absurd w0 z) fun z=>absurd d z) fun _ _ z=>absurd z<|ni l pl pa
end
noncomputable def Gj (t:Tr):Tr:=Classical.epsilon fun u=>Pl u/\Ej t u
theorem Av {t u:Tr}(p:Pl u)(h:Ej t u):u=Gj t:=by
 have z:Pl (Gj t)/\Ej t (Gj t):=Tq (p:=fun u=>Pl u/\Ej t u) ⟨u,p,h⟩;exact zN p z.1 h z.2
noncomputable def Ot (a b c d e:Tr):C6:=Classical.epsilon fun C=>∃ k:Int,k≠0/\je a b c d e=kC k C/\Jz (Ht C)
theorem W9 {a b c d e:Tr}{C:C6}{k:Int}(k0:k≠0)(e0:je a b c d e=kC k C)(p:Jz (Ht C)):C=Ot a b c d e:=by
 obtain ⟨j,j0,e1,p1⟩:=Tq (p:=fun C=>∃ k:Int,k≠0/\je a b c d e=kC k C/\Jz (Ht C)) ⟨C,k,k0,e0,p⟩;exact afq p p1 k0 j0<|e0.symm.trans e1
theorem Y8 {a b c d e:Tr}{C:C6}{k:Int}(k0:k≠0)(e0:je a b c d e=kC k C):∀ x∈[a,b,c,d,e],Ck C x=0:=fun x hx=>by
 have:=yg a b c d e x hx
 rw [e0,Yi] at this;exact (Ja.mp this).resolve_right k0
theorem adM {C:C6}{p L u:Tr}(hd:det (aV C)≠0)(pp:Pl p)(pu:Pl u)(h1:Ej (vm (aV C) p) L)(h2:Ej (vm (adj (aV C)) L) u):u=p:=by
 have h3:=(Ze (M:=adj (aV C)) h1).trans h2;rw [Ii] at h3;exact zN pu pp h3 ⟨_,hd,rfl⟩
theorem abo (k:Int)(p q:Tr):dt3 (sc k p) (sc k q)=k*k*dt3 p q:=by rw [qJ,fB];grind
theorem zT {M:Mt}{u v:Tr}(h:Ej u v):dt3 u (vm M u)=0↔dt3 v (vm M v)=0:=by
 obtain ⟨k,k0,rfl⟩:=h;have e:dt3 (sc k v) (vm M (sc k v))=k*k*dt3 v (vm M v):=by rw [v8,abo]
 rw [e];constructor
 ·intro z;exact (Ja.mp z).resolve_left (Int.mul_ne_zero k0 k0)
 ·intro z;rw [z,Int.mul_zero]
theorem ahl {C:C6}{p L:Tr}(hd:det (aV C)≠0)(h1:Ej (vm (aV C) p) L):dt3 L (vm (KC (aV C)) L)=0↔Ck C p=0:=by
 rw [<-zT h1,kZ,Ii,fB,bH];have e:dt3 p (vm (aV C) p)=2*Ck C p:=fW C p;rw [e];constructor
 ·intro z;have:=(Ja.mp z).resolve_right hd
  lia
 ·intro z;rw [z];simp
theorem Od (C:C6)(p q:Tr):dt3 q (vm (aV C) p)=dt3 p (vm (aV C) q):=by
 have:=uy q (aV C) p
 rw [Yu] at this;rw [<-this,bH]
theorem acK {C:C6}{p q:Tr}(w:Ck C p=0):dt3 (crs p q) (vm (KC (aV C)) (crs p q)) = - (pom C p q*pom C p q):=by
 rw [<-Ek,aeB];have e:dt3 p (vm (aV C) p)=2*Ck C p:=fW C p;rw [e,w,Od C p q];unfold pom;grind
theorem aea {C:C6}{p q l:Tr}(w:Ck C p=0)(h:Ej (crs p q) l):dt3 l (vm (KC (aV C)) l)=0↔pom C p q=0:=by
 rw [<-zT h,acK w];constructor
 ·intro z;exact (Ja.mp<|Int.neg_eq_zero.mp z).elim id id
 ·intro z;rw [z];rfl
theorem ady {C:C6}{l u:Tr}(h:Ej (vm (adj (aV C)) l) u):dt3 l (vm (KC (aV C)) l)=0↔dt3 u l=0:=by
 obtain ⟨k,k0,e⟩:=h;rw [kZ,e,fB,bH];constructor
 ·intro z;exact (Ja.mp z).resolve_right k0
 ·intro z;rw [z,Int.zero_mul]
theorem oY {p q l:Tr}(h:Ej (crs p q) l):dt3 l p=0/\dt3 l q=0:=by
 obtain ⟨k,k0,e⟩:=h;have z1:dt3 (crs p q) p=0:=kJ _ _;have z2:dt3 (crs p q) q=0:=tB _ _;rw [e,qJ] at z1 z2;exact ⟨(Ja.mp z1).resolve_right k0,(Ja.mp z2).resolve_right k0⟩
theorem QX {C:C6}{p q l:Tr}(hd:det (aV C)≠0)(pp:Pl p)(pq:Pl q)(ne:p≠q)(h:Ej (crs p q) l):¬ InC C l:=by
 intro i;obtain ⟨l1,l2⟩:=oY h;have w1:Ck C p=0:=i p l1;have w2:Ck C q=0:=i q l2;have w3:pom C p q=0:=Pn l1 l2 i;have c0:crs p q≠(0,0,0):=gG pp pq ne;have a1:dt3 p (vm (aV C) p)=0:=by rw [show dt3 p (vm (aV C) p)=2*Ck C p from fW C p,w1];rfl
 have a2:dt3 q (vm (aV C) q)=0:=by rw [show dt3 q (vm (aV C) q)=2*Ck C q from fW C q,w2];rfl
 have a3:dt3 p (vm (aV C) q)=0:=w3;have a4:dt3 q (vm (aV C) p)=0:=by rw [Od];exact a3
 have e1:crs (crs p q) (vm (aV C) p)=(0,0,0):=by
  rw [cl2];rw [bH (vm (aV C) p) p,bH (vm (aV C) p) q,a1,a4];simp [wz]
 have e2:crs (crs p q) (vm (aV C) q)=(0,0,0):=by
  rw [cl2];rw [bH (vm (aV C) q) p,bH (vm (aV C) q) q,a2,a3];simp [wz]
 have e3:=ahs c0 e1 e2;rw [Ek,kZ] at e3;exact uJ (sG hd) c0 e3
theorem aeG {C:C6}{p q l u:Tr}(wq:Ck C q=0)(pq:Pl q)(ne:p≠q)(h:Ej (crs p q) l)(o:Cy C p l u):u=q:=
 ((o.2.2.2.1 q pq (oY h).2 wq).resolve_left fun e=>ne e.symm).symm
theorem agG {C:C6}{p q l u:Tr}(pq:Pl q)(ne:p≠q)(h:Ej (crs p q) l)(o:Cy C p l u):u=p↔pom C p q=0:=o.2.2.2.2 q pq (oY h).2 fun e=>ne e.symm
theorem zX {u:Tr}(h0:u≠(0,0,0)):∃ t,Pl t/\Ej u t:=by
 obtain ⟨b0,pl,e⟩:=z8 (PL h0) rfl;obtain ⟨t,et,e'⟩:=GZ e;exact ⟨t,by unfold Pl;rw [<-et];exact pl,_,b0,e'⟩
theorem jJ {u:Tr}(h0:u≠(0,0,0)):Pl (Gj u)/\Ej u (Gj u):=Tq (p:=fun t=>Pl t/\Ej u t) (zX h0)
theorem FW {m:Nat}{u t:Tr}(h:Ej u t)(s:CN m u):CN m t:=by
 obtain ⟨k,k0,rfl⟩:=h;exact ⟨fu s.1 rfl k0,fu s.2.1 rfl k0,fu s.2.2 rfl k0⟩
theorem aaq {c:C6}(hz:NZ (Ht c)):∃ C:C6,∃ k:Int,k≠0/\c=kC k C/\Jz (Ht C):=by
 obtain ⟨b0,pl,em⟩:=z8 hz rfl;generalize hms:(Ht c).map (·.fdiv (if dU (Ht c)<0 then 0 - gL (Ht c) else gL (Ht c)))=ms at *;have hl:ms.length=6:=by rw [<-hms,Eh];rfl
 match ms,hl,em,pl with
 | [x1,x2,x3,x4,x5,x6],_,em,pm=>
  refine ⟨(x1,x2,x3,x4,x5,x6),_,b0,?_,pm⟩;obtain ⟨u1,u2,u3,u4,u5,u6⟩:=c
  simpa [Ht,kC] using em
structure Rc (a b c d e:Tr) (C:C6):Prop where
 sm:Et 45 C
 van:∀ x∈[a,b,c,d,e],Ck C x=0
 rd:det (aV C)≠0↔Five a b c d e
theorem Vf {a b c d e:Tr}(G:G5 [a,b,c,d,e])(ok:Ma 3 [a,b,c,d,e]):Rc a b c d e (Ot a b c d e):=by
 obtain ⟨k,k0,e0,p⟩:=Tq (p:=fun C=>∃ k:Int,k≠0/\je a b c d e=kC k C/\Jz (Ht C)) (aaq (O5 (Br.of G)));have s:=GX (ok a (by simp)).2 (ok b (by simp)).2 (ok c (by simp)).2 (ok d (by simp)).2 (ok e (by simp)).2;refine ⟨?_,Y8 k0 e0,aei G k0 e0⟩;rw [e0] at s;exact ⟨fu s.1 rfl k0,fu s.2.1 rfl k0,fu s.2.2.1 rfl k0,fu s.2.2.2.1 rfl k0,fu s.2.2.2.2.1 rfl k0,fu s.2.2.2.2.2 rfl k0⟩
def fK (x:Str)(js:List Nat):W:=.tup (.str x::js.map fun j:Nat=>W.int (j:Int))
def RK (c0:BK)(gold:List W)(r w:W):Prop:=∀ {h:Gh} {n:Nat} {Q:WK} {E:CK},h.c n=Dn (.lst gold)->Q w h->c0 [r,.loc n] h Q E
theorem yW {k:Nat}{w:W}(hw:Lo k w):∀ {xs:List W},Iu k xs->Iu k (xs++[w])
 | [],_=>by simp only [List.nil_append,Iu];exact ⟨hw,True.intro⟩
 | x::xs,h=>by
  simp only [List.cons_append,Iu] at h |-
  exact ⟨h.1,yW hw h.2⟩
theorem Plan.snoc {c0:BK}{rws sps gold:List W}{r w:W}(P:Plan c0 rws sps gold)(el:gold.length=rws.length)(l:rws.length<30)(n:Nfr r)(lo:∀ k,Lo k w)(m:RK c0 gold r w):Plan c0 (rws++[r]) sps (gold++[w])/\(gold++[w]).length=(rws++[r]).length:=by
 have g6:6<=gold.length:=by
  have:=congrArg R0 P.top
  rw [P.six,Rg] at this;lia
 refine ⟨⟨P.six,?_,fun i hi=>?_,?_,?_,fun k=>?_,fun i r' hi e=>?_,fun i r' hi hl e=>?_⟩,by simp [el]⟩
 ·rw [List.take_append_of_le_length g6];exact P.top
 ·rw [MH (by lia)];exact P.fr i hi
 ·simp;lia
 ·simp;lia
 ·exact yW (lo k)<|P.lo k
 ·by_cases hr:i<rws.length
  ·rw [MH hr] at e;exact P.nf i r' hi e
  ·rw [PB (by lia)] at e;have:i - rws.length=0:=by
    have:=(K8.mp e).1
    simp at this;lia
   rw [this] at e;cases e;exact n
 ·by_cases hr:i<rws.length
  ·rw [MH hr] at e;intro hc hw q;rw [List.take_append_of_le_length (by lia)] at hc;rw [MH (by lia)] at hw;exact P.mak i r' hi (by lia) e hc hw q
  ·have hi':i=rws.length:=by simp at hl;lia
   subst hi';rw [PB (by lia),Nat.sub_self] at e;cases e;intro hc hw q;rw [<-el,List.take_append_of_le_length (by lia),Kg] at hc;rw [<-el,PB (by lia),Nat.sub_self] at hw;cases hw;exact m hc q
theorem Plan.more {c0:BK}{rws sps gold rs:List W}(P:Plan c0 rws sps gold)(el:gold.length=rws.length)(l:(rws++rs).length<=30)(n:∀ r∈rs,Nfr r):Plan c0 (rws++rs) sps gold:=by
 have g6:6<=gold.length:=by
  have:=congrArg R0 P.top
  rw [P.six,Rg] at this;lia
 refine ⟨P.six,P.top,fun i hi=>?_,l,?_,P.lo,fun i r' hi e=>?_,fun i r' hi hl e=>?_⟩
 ·rw [MH (by lia)];exact P.fr i hi
 ·simp;lia
 ·by_cases hr:i<rws.length
  ·rw [MH hr] at e;exact P.nf i r' hi e
  ·rw [PB (by lia)] at e;exact n _<|Q8 e
 ·rw [MH (by lia)] at e;exact P.mak i r' hi hl e
theorem vw {h:Gh}{n:Nat}{ws:List W}(e:h.c n=Dn (.lst ws)):view h (.loc n)=Dn ws:=by simp only [view,dW,e]
theorem K9 {x:Str}{js:List Nat}(h:Cq (.str x) (.str "free")=false):Nfr (fK x js):=⟨x,_,rfl,h⟩
theorem jD (k:Nat)(t:Tr):Lo k (tw t):=by simp [tw,Lo,Iu]
theorem aap (k:Nat)(c:C6):Lo k (GJ c):=by simp [GJ,Lo,Iu]
def W7:List W:=[fK "free" [],fK "free" [],fK "free" [],fK "free" [],fK "free" [],fK "free" []]
theorem Vj {c0:BK}(a b c d e f:Tr):Plan c0 W7 [tw a,tw b,tw c,tw d,tw e,tw f] [tw a,tw b,tw c,tw d,tw e,tw f]:=by
 refine ⟨rfl,rfl,fun i hi=>?_,by decide,Dp _,fun k=>?_,fun i r hi e=>?_,fun i r hi hl e=>?_⟩
 ·rcases (show i=0\/i=1\/i=2\/i=3\/i=4\/i=5 by lia) with rfl | rfl | rfl | rfl | rfl | rfl <;> rfl
 ·simp [tw,Lo,Iu]
 ·have:=(K8.mp e).1
  exact absurd this (by show ¬ i<6;lia)
 ·exact absurd hl (by show ¬ i<6;lia)
noncomputable def oen (C:C6)(p l:Tr):Tr:=Classical.epsilon fun u=>Cy C p l u
theorem Vw {C:C6}{p q l u:Tr}(pq:Pl q)(ne:p≠q)(h:Ej (crs p q) l)(o:Cy C p l u):u=oen C p l:=by
 have z:Cy C p l (oen C p l):=Tq (p:=fun u=>Cy C p l u) ⟨u,o⟩;exact zas pq (oY h).2 (fun e=>ne e.symm) o z
theorem Yh {C:C6}{p q l:Tr}(hd:det (aV C)≠0)(w:Ck C p=0)(pp:Pl p)(pq:Pl q)(pl:Pl l)(ne:p≠q)(h:Ej (crs p q) l):Cy C p l (oen C p l):=by
 obtain ⟨l1,l2⟩:=oY h;have n':q≠p:=fun e=>ne e.symm
 have c0:GR (pom C q q) p (-(2*pom C p q)) q≠(0,0,0):=fun z=>by
  obtain ⟨e1,e2⟩:=Oj pp pq n' z;rw [fW] at e1;exact QX hd pp pq ne h<|Nz pl.ne pp pq n' l1 l2 w (by lia)<|by lia
 obtain ⟨u,pu,par⟩:=zX c0;exact Tq (p:=fun u=>Cy C p l u) ⟨u,DR pl.ne pp pq n' l1 l2 w pu par⟩
theorem fl4 {ts us:List Tr}(h:eV us=true)(hs:∀ t∈ts,t∈us):AllP ts:=fun p hp q hq r hr=>by
 have z:AllP us:=by
  refine P0 fun n=>?_;rw [uc n] at h;cases h
 exact z p (hs p hp) q (hs q hq) r<|hs r hr
theorem oH {a b c d e p q r s t:Tr}(G:G5 [a,b,c,d,e])(m:∀ y∈[a,b,c,d,e],y=p\/y=q\/y=r\/y=s\/y=t)(hp:p∈[a,b,c,d,e])(hq:q∈[a,b,c,d,e])(ht:t∈[a,b,c,d,e])(ne:p≠q):eV [p,q,r,s]=false:=by
 cases h:eV [p,q,r,s] with
 | false=>rfl
 | true=>
  have z:AllP [p,q,r,s]:=fl4 h fun _ h=>h
  exact absurd ⟨z r (by simp) p (by simp) q<|by simp,z s (by simp) p (by simp) q<|by simp⟩<|G.no m hp hq ht ne
theorem Y5 {a b c d e:Tr}(G:G5 [a,b,c,d,e]):sy [a,b,c,d,e]=false:=by
 have nd:=G.nd;simp only [Lq,Cr,Dl,or_false,not_or] at nd;obtain ⟨⟨ab,ac,ad,ae⟩,⟨bc,bd,be⟩,⟨cd,ce⟩,de,_⟩:=nd;rw [Zz,oH G (t:=e) (fun y hy=>by simpa using hy) (by simp) (by simp) (by simp) ab,oH G (t:=d) (fun y hy=>by simp at hy;grind) (by simp) (by simp) (by simp) ab,oH G (t:=c) (fun y hy=>by simp at hy;grind) (by simp) (by simp) (by simp) ab,oH G (t:=b) (fun y hy=>by simp at hy;grind) (by simp) (by simp) (by simp) ac,oH G (t:=a) (fun y hy=>by simp at hy;grind) (by simp) (by simp) (by simp) bc];rfl
section
variable {jo me th li sp oe:BK}{gold:List W}{js:List Nat}(hj:oN jo)(ht:xu th)(hl:xW li)(hs:vd sp)(ho:mF oe)
include ht in
theorem zbi {a b c d e:Tr}(t:Told gold js [tw a,tw b,tw c,tw d,tw e])(ok:Ma 3 [a,b,c,d,e])(nd:[a,b,c,d,e].Nodup)(f4:sy [a,b,c,d,e]=false):RK (aF jo me th li sp oe) gold (fK "curve" js) (GJ (Ot a b c d e)):=fun {h n Q E} ec q=>
 G6 ht (vw ec) t (by decide) ok (fun _ C k k0 e0 p _=>by rw [W9 k0 e0 p];exact q) (fun z=>absurd nd z) (fun _ z=>absurd (f4.symm.trans z) (by decide))
include ht in
theorem afl {a b c d e:Tr}(t:Told gold js [tw a,tw b,tw c,tw d,tw e])(ok:Ma 3 [a,b,c,d,e])(z:¬ ([a,b,c,d,e].Nodup/\sy [a,b,c,d,e]=false)):Rf (aF jo me th li sp oe) gold (fK "curve" js):=fun {h n Q E} ec k=>
 G6 ht (vw ec) t (by decide) ok (fun G C k' k0 e0 p _=>absurd ⟨G.nd,Y5 G⟩ z) (fun _=>k _) (fun _ _=>k _)
include hj in
theorem IW {p q:Tr}(t:Told gold js [tw p,tw q])(sp':CN 3 p)(sq:CN 3 q)(pp:Pl p)(pq:Pl q)(ne:p≠q):RK (aF jo me th li sp oe) gold (fK "join" js) (tw (Gj (crs p q))):=fun {h n Q E} ec k=>
 Jv hj (vw ec) t (m:=3) (by decide) sp' sq pp pq (fun _ u pu par _=>by rw [Av pu par];exact k) (fun e=>absurd e ne)
include hj in
theorem afL {p:Tr}(t:Told gold js [tw p,tw p])(sp':CN 3 p)(pp:Pl p):Rf (aF jo me th li sp oe) gold (fK "join" js):=fun {h n Q E} ec k=>
 Jv hj (vw ec) t (m:=3) (by decide) sp' sp' pp pp (fun ne _ _ _ _=>absurd rfl ne) (fun _=>k _)
include hl in
theorem iT {C:C6}{p:Tr}(t:Told gold js [GJ C,tw p])(sc':Et 45 C)(sp':CN 3 p)(hd:det (aV C)≠0)(pp:Pl p):RK (aF jo me th li sp oe) gold (fK "about" js) (tw (Gj (vm (aV C) p))):=fun {h n Q E} ec k=>
 afY hl (vw ec) t (m:=45) (by decide) sc' (sp'.mono (by decide)) (fun _ u pu par _=>by rw [Av pu par];exact k) (fun e=>absurd e (uJ hd pp.ne))
theorem zF {C:C6}{p:Tr}(sc':Et 45 C)(sp':CN 3 p)(hd:det (aV C)≠0)(pp:Pl p):CN 94 (Gj (vm (aV C) p)):=
 FW (jJ (uJ hd pp.ne)).2 ((Bt (gZ sc') sp').mono (by decide))
include hs in
theorem afN {C:C6}{p:Tr}(t:Told gold js [GJ C,tw (Gj (vm (aV C) p))])(sc':Et 45 C)(sp':CN 3 p)(hd:det (aV C)≠0)(pp:Pl p):RK (aF jo me th li sp oe) gold (fK "pole" js) (tw p):=fun {h n Q E} ec k=>
 have z:=jJ (uJ hd pp.ne)
 Fd hs (vw ec) t (m:=94) (by decide) (sc'.mono (by decide)) (zF sc' sp' hd pp) z.1.ne (fun _ u pu par _=>by rw [adM hd pp pu z.2 par];exact k) (fun e=>absurd e hd)
include hs in
theorem ahA {C:C6}{l:Tr}(t:Told gold js [GJ C,tw l])(sc':Et 45 C)(sl:CN 45 l)(hd:det (aV C)≠0)(pl:Pl l):RK (aF jo me th li sp oe) gold (fK "pole" js) (tw (Gj (vm (adj (aV C)) l))):=fun {h n Q E} ec k=>
 Fd hs (vw ec) t (m:=45) (by decide) sc' sl pl.ne (fun _ u pu par _=>by rw [Av pu par];exact k) (fun e=>absurd e hd)
include hs in
theorem agT {C:C6}{l:Tr}(t:Told gold js [GJ C,tw l])(sc':Et 45 C)(sl:CN 45 l)(hd:det (aV C)=0)(pl:Pl l):Rf (aF jo me th li sp oe) gold (fK "pole" js):=fun {h n Q E} ec k=>
 Fd hs (vw ec) t (m:=45) (by decide) sc' sl pl.ne (fun z=>absurd hd z) (fun _=>k _)
include hj ho in
theorem nH {C:C6}{p q:Tr}(t:Told gold js [GJ C,tw p,tw q])(sc':Et 45 C)(sp':CN 3 p)(sq:CN 3 q)(pp:Pl p)(pq:Pl q)(hd:det (aV C)≠0)(ne:p≠q)(wp:Ck C p=0)(wq:Ck C q=0):RK (aF jo me th li sp oe) gold (fK "other" js) (tw q):=fun {h n Q E} ec k=>
 m_other hj ho (vw ec) t (m:=3) (by decide) (sc'.mono (by decide)) sp' sq pp pq ne (fun l pl par _ u o _=>by rw [aeG wq pq ne par o];exact k) wp (fun l pl par=>QX hd pp pq ne par)
include hj ho in
theorem adN {C:C6}{p q:Tr}(t:Told gold js [GJ C,tw p,tw q])(sc':Et 45 C)(sp':CN 3 p)(sq:CN 3 q)(pp:Pl p)(pq:Pl q)(hd:det (aV C)≠0)(ne:p≠q)(wp:Ck C p=0):RK (aF jo me th li sp oe) gold (fK "other" js) (tw (oen C p (Gj (crs p q)))):=fun {h n Q E} ec k=>
 m_other hj ho (vw ec) t (m:=3) (by decide) (sc'.mono (by decide)) sp' sq pp pq ne (fun l pl par _ u o _=>by rw [Vw pq ne par o,Av pl par];exact k) wp (fun l pl par=>QX hd pp pq ne par)
end
def rw7:List W:=W7++[fK "curve" [0,1,2,3,4]]
def rwD:List W:=rw7++[fK "about" [6,0],fK "about" [6,1],fK "about" [6,2],fK "about" [6,3],fK "about" [6,4],fK "about" [6,5],fK "pole" [6,12],fK "other" [6,0,1],fK "other" [6,0,2],fK "other" [6,0,3],fK "other" [6,0,4]]
def DrX (c0:BK):Prop:=∀ {h:Gh} {Q:WK} {E:CK},Q (.lst rwD) h->c0 [] h Q E
theorem adH:DrX ju:=by
 intro h Q E q;unfold ju;rfl'
 exact q
def l6 (a b c d e f:Tr):List W:=[tw a,tw b,tw c,tw d,tw e,tw f]
noncomputable def Im (a b c d e f:Tr)(C:C6):List W:=l6 a b c d e f++[GJ C,tw (Gj (vm (aV C) a)),tw (Gj (vm (aV C) b)),tw (Gj (vm (aV C) c)),tw (Gj (vm (aV C) d)),tw (Gj (vm (aV C) e)),tw (Gj (vm (aV C) f)),tw f,tw b,tw c,tw d,tw e]
section
variable {jo me th li sp oe:BK}(hj:oN jo)(ht:xu th)(hl:xW li)(hs:vd sp)(ho:mF oe){a b c d e f:Tr}(ok:Ma 3 [a,b,c,d,e,f])
include ok in
theorem ok5:Ma 3 [a,b,c,d,e]:=fun t ht=>ok t (by simp at ht |-;grind)
include ht ok in
theorem Xp (nd:[a,b,c,d,e].Nodup)(f4:sy [a,b,c,d,e]=false):Plan (aF jo me th li sp oe) rw7 (l6 a b c d e f) (l6 a b c d e f++[GJ (Ot a b c d e)]):=
 ((Vj a b c d e f).snoc rfl (Gq rfl) (K9 (by decide +kernel)) (fun k=>aap k _) (zbi ht (by rfl) (ok5 ok) nd f4)).1
include hj ht hl hs ho ok in
theorem WQ (nd:[a,b,c,d,e].Nodup)(f4:sy [a,b,c,d,e]=false)(F:Five a b c d e):Plan (aF jo me th li sp oe) rwD (l6 a b c d e f) (Im a b c d e f (Ot a b c d e)):=by
 have G:=Pa (fun t ht=>(ok5 ok t ht).1) nd f4;have R:=Vf G (ok5 ok);have hd:=R.rd.mpr F;simp only [Lq,Cr,Dl,or_false,not_or] at nd;obtain ⟨⟨ab,ac,ad,ae⟩,_⟩:=nd;have P7:=Xp (jo:=jo) (me:=me) (li:=li) (sp:=sp) (oe:=oe) ht ok G.nd f4;have va:=R.van;have s:=R.sm;have A:=ok a (by simp);have B:=ok b (by simp);have Cc:=ok c (by simp);have Dd:=ok d (by simp);have Ee:=ok e (by simp);have Ff:=ok f (by simp);obtain ⟨P,_⟩:=P7.snoc rfl (Gq rfl) (K9 (x := "about") (js:=[6,0]) (by decide +kernel)) (fun k=>jD k _) (iT hl (p:=a) (by rfl) s A.2 hd A.1);obtain ⟨P,_⟩:=P.snoc rfl (Gq rfl) (K9 (x := "about") (js:=[6,1]) (by decide +kernel)) (fun k=>jD k _) (iT hl (p:=b) (by rfl) s B.2 hd B.1);obtain ⟨P,_⟩:=P.snoc rfl (Gq rfl) (K9 (x := "about") (js:=[6,2]) (by decide +kernel)) (fun k=>jD k _) (iT hl (p:=c) (by rfl) s Cc.2 hd Cc.1);obtain ⟨P,_⟩:=P.snoc rfl (Gq rfl) (K9 (x := "about") (js:=[6,3]) (by decide +kernel)) (fun k=>jD k _) (iT hl (p:=d) (by rfl) s Dd.2 hd Dd.1);obtain ⟨P,_⟩:=P.snoc rfl (Gq rfl) (K9 (x := "about") (js:=[6,4]) (by decide +kernel)) (fun k=>jD k _) (iT hl (p:=e) (by rfl) s Ee.2 hd Ee.1);obtain ⟨P,_⟩:=P.snoc rfl (Gq rfl) (K9 (x := "about") (js:=[6,5]) (by decide +kernel)) (fun k=>jD k _) (iT hl (p:=f) (by rfl) s Ff.2 hd Ff.1);obtain ⟨P,_⟩:=P.snoc rfl (Gq rfl) (K9 (x := "pole") (js:=[6,12]) (by decide +kernel)) (fun k=>jD k _) (afN hs (p:=f) (by rfl) s Ff.2 hd Ff.1);obtain ⟨P,_⟩:=P.snoc rfl (Gq rfl) (K9 (x := "other") (js:=[6,0,1]) (by decide +kernel)) (fun k=>jD k _) (nH hj ho (p:=a) (q:=b) (by rfl) s A.2 B.2 A.1 B.1 hd ab (va a (by simp)) (va b (by simp)));obtain ⟨P,_⟩:=P.snoc rfl (Gq rfl) (K9 (x := "other") (js:=[6,0,2]) (by decide +kernel)) (fun k=>jD k _) (nH hj ho (p:=a) (q:=c) (by rfl) s A.2 Cc.2 A.1 Cc.1 hd ac (va a (by simp)) (va c (by simp)));obtain ⟨P,_⟩:=P.snoc rfl (Gq rfl) (K9 (x := "other") (js:=[6,0,3]) (by decide +kernel)) (fun k=>jD k _) (nH hj ho (p:=a) (q:=d) (by rfl) s A.2 Dd.2 A.1 Dd.1 hd ad (va a (by simp)) (va d (by simp)));obtain ⟨P,_⟩:=P.snoc rfl (Gq rfl) (K9 (x := "other") (js:=[6,0,4]) (by decide +kernel)) (fun k=>jD k _) (nH hj ho (p:=a) (q:=e) (by rfl) s A.2 Ee.2 A.1 Ee.1 hd ae (va a (by simp)) (va e (by simp)));exact P
end
theorem ahB {f:Str}{ma:ME}{σ : Sw}{h:Gh}{Q:WK}{n:Str}{ws:List W}{v:W}(hm:∀ R:WK,R (.exa n ws) h->ma σ h R)(e:((wF n).zip ws).lookup f=Dn v)(k:Q v h):Sv f ma σ h Q:=hm _ (by
 show (match ((wF n).zip ws).lookup f with
  | some v=>Q v h
  | none=>False)
 rw [e];exact k)
theorem agu {i:Nat}{d:Str}{mb:CK->MS}{mh:MS}{D:bA}{σ : Sw}{h:Gh}(x:mb (fun x h'=>El (Gm x.cls d) (mh (D.drop i) (σ.set i (Dn (Ds x))) h') False) D σ h):Qa i d mb mh D σ h:=x
theorem lV {ws:List W}{h:Gh}{Q:WK}(k:Q (.lst ws) h):qD [.lst ws] h Q:=k
def Zo (mr c0:BK):Prop:=∀ {rws sps gold:List W} {h:Gh} {Q:WK} {E:CK},Plan mr rws sps gold->(gold.length=rws.length->Q (.lst gold) h)->(∀ r,rws[gold.length]?=Dn r->Rf mr gold r/\∀ h',Kp h h'->E ⟨"Stuck",[("at",.int (gold.length:Nat))]⟩ h')->c0 [.lst rws,.lst sps] h Q E
def Zw (mr c0:BK):Prop:=∀ {rws sps gold:List W} {r:W} {h:Gh} {Q:WK} {E:CK},Plan mr rws sps gold->rws[gold.length]?=Dn r->Rf mr gold r->(∀ h',Kp h h'->Q (.int (gold.length:Nat)) h')->c0 [.lst rws,.lst sps] h Q E
theorem abm {mr:BK}:Zo mr (nC mr):=fun P kf kr=>zbz P kf kr
theorem zbH {mr pl:BK}(hp:Zo mr pl):Zw mr (qd pl):=by
 intro rws sps gold r h Q E P er rf k;unfold qd;refine jO rfl (σ:=[Dn<|.lst rws,Dn<|.lst sps,Go]) rfl ?_;refine bw<|agu<|pD<|bD<|au<|iZ<|au<|aD rfl<|aM<|lV<|au<|iZ<|au<|aD rfl<|aM<|lV<|aM ?_
 refine hp P (fun el=>?_)<|fun r' er'=>?_
 ·have:=(K8.mp er).1
  lia
 ·rw [er] at er';cases er'
  refine ⟨rf,fun h' kp=>?_⟩;show El (Gm "Stuck" "Stuck") _ False;rw [show Gm "Stuck" "Stuck" = true by decide +kernel];refine pI<|mV<|ahB (n := "Stuck") (ws:=[.int (gold.length:Nat)]) (v:=.int (gold.length:Nat)) (fun R q=>aD rfl q) rfl ?_
  exact k h' kp
def QL (ts:List Tr):Option Unit:=(rng 0 5).findSome? fun i=>(rng 0 i).findSome? fun j=>(rng 0 j).findSome? fun k=>z3 ts i j k
theorem aeR {a b c d e:Tr}(h:QL [a,b,c,d,e]=Dn ()):¬ Five a b c d e:=by
 intro F;unfold QL at h;obtain ⟨k,hk,h⟩:=List.exists_of_findSome?_eq_some h;obtain ⟨j,hj,h⟩:=List.exists_of_findSome?_eq_some h;obtain ⟨i,hi,h⟩:=List.exists_of_findSome?_eq_some h;have hk:=(cW.mp hk).2;have hj:=(cW.mp hj).2;have hi:=(cW.mp hi).2;unfold z3 at h;split at h
 ·rename_i z;refine F ⟨i,j,k,hi,hj,hk,?_⟩;have:=Zh (gt [a,b,c,d,e] i) (gt [a,b,c,d,e] j) (gt [a,b,c,d,e] k)
  unfold Bp at this;lia
 ·cases h
theorem afR {a b c d e:Tr}(h:QL [a,b,c,d,e]=Go):Five a b c d e:=by
 rintro ⟨i,j,k,hi,hj,hk,z⟩;have hk:k<5:=hk;unfold QL at h;rw [List.findSome?_eq_none_iff] at h;have h:=h k (cW.mpr ⟨O8 _,hk⟩);rw [List.findSome?_eq_none_iff] at h;have h:=h j (cW.mpr ⟨O8 _,hj⟩);rw [List.findSome?_eq_none_iff] at h;have h:=h i (cW.mpr ⟨O8 _,hi⟩);have z':dt3 (crs (gt [a,b,c,d,e] k) (gt [a,b,c,d,e] j)) (gt [a,b,c,d,e] i)=0:=by
  have:=Zh (gt [a,b,c,d,e] i) (gt [a,b,c,d,e] j) (gt [a,b,c,d,e] k)
  unfold Bp at this;lia
 unfold z3 at h;rw [if_pos z'] at h;cases h
def l5 (a b c d e:Tr):W:=.lst [tw a,tw b,tw c,tw d,tw e]
def acC (c0:BK):Prop:=∀ {h:Gh} {a b c d e:Tr} {Q:WK} {E:CK},Ma 3 [a,b,c,d,e]->Q (.bl (!Hf a b c d e)) h->c0 [l5 a b c d e] h Q E
theorem zbP {tu:BK}(htu:Bm tu):acC (cM tu):=by
 intro h a b c d e Q E hs q;have src:∀ {h:Gh},wD h (l5 a b c d e) [a,b,c,d,e]:=.inl rfl
 have ga:∀ {i},i<5->CN 3 (gt [a,b,c,d,e] i):=fun {i} hi=>(hs _ (p7 hi)).2
 generalize hts:[a,b,c,d,e]=ts at src ga;generalize l5 a b c d e=w at *;have len:5=ts.length:=by rw [<-hts];simp
 have ret:QL ts=Dn ()->Q (.bl true) h:=fun z=>by
  rw [<-hts] at z;rw [Ji (aeR z)] at q;exact q
 have ret':∀ y,QL ts=Dn y->Q (.bl true) h:=fun y z=>ret z
 unfold cM;refine jO rfl (σ:=[Dn w,Go,Go,Go]) rfl<|bw<|jQ<|iG<|au<|cA<|aM<|yG (m:=5) (by decide)<|j5 ?_
 refine aaN (v:=fun x:Nat=>W.int (x:Int)) (fun k=>(rng 0 k).findSome? fun j=>(rng 0 j).findSome? fun i=>z3 ts k j i) (fun _=>Q (.bl true) h) (fun σ h'=>∃ s1 s2 s3,σ = [Dn w,s1,s2,s3]/\h'=h) (rng 0 5) ?_ ?_ ret' ⟨Go,Go,Go,rfl,rfl⟩
 ·rintro k mk σ h' N ⟨s1,s2,s3,rfl,rfl⟩ hN hR;have hk:=(cW.mp mk).2;refine dI (σ':=[Dn w,Dn<|.int (k:Int),s2,s3]) rfl ?_;refine jQ<|iG<|au<|aD rfl<|aM<|yG (by lia)<|j5 ?_
  refine aaN (v:=fun x:Nat=>W.int (x:Int)) _ (fun _=>Q (.bl true) h') (fun σ h2=>∃ s2 s3,σ = [Dn w,Dn<|.int (k:Int),s2,s3]/\h2=h') (rng 0 k) ?_ (fun hn σ h2 ⟨s2,s3,e1,e2⟩=>hN hn σ h2 ⟨_,s2,s3,e1,e2⟩) (fun l hy=>hR l hy) ⟨_,_,rfl,rfl⟩;rintro j mj σ h2 N2 ⟨s2,s3,rfl,rfl⟩ hN2 hR2;have hj:=(cW.mp mj).2;refine dI (σ':=[Dn w,Dn<|.int (k:Int),Dn<|.int (j:Int),s3]) rfl ?_;refine jQ<|iG<|au<|aD rfl<|aM<|yG (by lia)<|j5 ?_
  refine aaN (v:=fun x:Nat=>W.int (x:Int)) _ (fun _=>Q (.bl true) h2) (fun σ h3=>∃ s3,σ = [Dn w,Dn<|.int (k:Int),Dn<|.int (j:Int),s3]/\h3=h2) (rng 0 j) ?_ (fun hn σ h3 ⟨s3,e1,e2⟩=>hN2 hn σ h3 ⟨_,s3,e1,e2⟩) (fun l hy=>hR2 l hy) ⟨_,rfl,rfl⟩;rintro i mi σ h3 N3 ⟨s3,rfl,rfl⟩ hN3 hR3;have hi:=(cW.mp mi).2;refine dI (σ':=[Dn w,Dn<|.int (k:Int),Dn<|.int (j:Int),Dn<|.int (i:Int)]) rfl ?_;rfl'
  refine src.at (by lia) ?_;rfl'
  refine src.at (by lia) ?_;rfl'
  refine src.at (by lia) ?_;rfl'
  refine htu (m:=3) (by decide) (ga<|by lia) (ga<|by lia) (ga<|by lia) ?_;rfl'
  refine J4 (fun z=>?_) fun z=>?_
  ·rfl'
   exact hR3 () (by unfold z3;rw [if_pos z])
  ·rfl'
   exact hN3 (by unfold z3;rw [if_neg z]) _ _ ⟨_,rfl,rfl⟩
 ·rintro hn σ h' ⟨s1,s2,s3,rfl,rfl⟩;have z:QL ts=Go:=hn;rw [<-hts] at z;rw [JQ (afR z)] at q;unfold dR;rfl'
  exact q
theorem Zn {a b c d:Int}{h:Gh}{Q:WK}(k:Q (.bl (decide (a=0/\b=0/\c=0/\d=0))) h):Ez (.lst [.int a,.int b,.int c,.int d]) (.lst [.int 0,.int 0,.int 0,.int 0]) h Q:=by
 refine Rn rfl rfl rfl rfl ?_;have e:Cq (.lst [.int a,.int b,.int c,.int d]) (.lst [.int 0,.int 0,.int 0,.int 0])=decide (a=0/\b=0/\c=0/\d=0):=by
  rw [Cq,jG,jG,jG,jG,jG,bB,bB,bB,bB];by_cases ha:a=0 <;> by_cases hb:b=0 <;> by_cases hc:c=0 <;> by_cases hd:d=0 <;> simp [ha,hb,hc,hd]
 rw [e];exact k
theorem zU (us:List W)(k:Nat):vO us Go (Dn (k:Int))=us.take k:=by
 unfold vO;rw [HT.xT,HT.sW,Rq,Nat.sub_zero];by_cases h:k<=us.length
 ·rw [Nat.min_eq_left h]
 ·rw [Nat.min_eq_right (by lia),Kg,VG (by lia)]
theorem zbp (us:List W)(k:Nat):vO us (Dn (k:Int)) Go=us.drop k:=by
 unfold vO;rw [HT.xT,HT.sW];by_cases h:k<=us.length
 ·rw [Nat.min_eq_left h,VG (by rw [List.length_drop];exact Dp _)]
 ·rw [Nat.min_eq_right (by lia),List.drop_length,List.drop_of_length_le (by lia)];simp
noncomputable def Uy (ts:List Tr)(k:Nat):Bool:=eV (ts.take k++ts.drop (k+1))
def abW (c0:BK):Prop:=∀ {h:Gh} {a b c d e:Tr} {Q:WK} {E:CK},Ma 3 [a,b,c,d,e]->[a,b,c,d,e].Nodup->Q (.bl (sy [a,b,c,d,e])) h->c0 [l5 a b c d e] h Q E
theorem YW {tu:BK}(htu:Bm tu):abW (cX tu):=by
 intro h a b c d e Q E hs nd q;have ft:∀ k,k<5->Uy [a,b,c,d,e] k=true->sy [a,b,c,d,e]=true:=fun k hk z=>by
  rw [Zz];rcases (show k=0\/k=1\/k=2\/k=3\/k=4 by lia) with rfl | rfl | rfl | rfl | rfl <;> (simp only [Uy,List.take,List.drop,List.nil_append,List.cons_append] at z;simp [z])
 have fe:(∀ k,k<5->Uy [a,b,c,d,e] k=false)->sy [a,b,c,d,e]=false:=fun z=>by
  have z0:=z 0 (by decide);have z1:=z 1 (by decide);have z2:=z 2 (by decide);have z3:=z 3 (by decide);have z4:=z 4 (by decide);simp only [Uy,List.take,List.drop,List.nil_append,List.cons_append] at z0 z1 z2 z3 z4;rw [Zz,z0,z1,z2,z3,z4];rfl
 have ex:∀ k,k<5->∃ p q r s,[a,b,c,d,e].take k++[a,b,c,d,e].drop (k+1)=[p,q,r,s]/\p∈[a,b,c,d,e]/\q∈[a,b,c,d,e]/\r∈[a,b,c,d,e]/\s∈[a,b,c,d,e]/\p≠q:=fun k hk=>by
  simp only [Lq,Cr,Dl,or_false,not_or] at nd;obtain ⟨⟨ab,ac,ad,ae⟩,⟨bc,bd,be⟩,⟨cd,ce⟩,de,_⟩:=nd;rcases (show k=0\/k=1\/k=2\/k=3\/k=4 by lia) with rfl | rfl | rfl | rfl | rfl
  ·exact ⟨b,c,d,e,rfl,by simp,by simp,by simp,by simp,bc⟩
  ·exact ⟨a,c,d,e,rfl,by simp,by simp,by simp,by simp,ac⟩
  ·exact ⟨a,b,d,e,rfl,by simp,by simp,by simp,by simp,ab⟩
  ·exact ⟨a,b,c,e,rfl,by simp,by simp,by simp,by simp,ab⟩
  ·exact ⟨a,b,c,d,rfl,by simp,by simp,by simp,by simp,ab⟩
 have el:l5 a b c d e=.lst ([a,b,c,d,e].map tw):=rfl;rw [el];generalize [a,b,c,d,e]=ts at *;unfold cX;refine jO rfl (σ:=[Dn<|.lst<|ts.map tw,Go,Go,Go]) rfl<|bw<|jQ<|iG<|au<|cA<|aM<|yG (m:=5) (by decide)<|j5 ?_
 refine lK (fun i σ h'=>∃ s1 s2 s3,σ = [Dn<|.lst<|ts.map tw,s1,s2,s3]/\h'=h/\∀ k,k<i->Uy ts k=false) ?_ ?_ ⟨_,_,_,rfl,rfl,fun k hk=>absurd hk<|RB k⟩
 ·rintro i w σ h' N hN ew ⟨s1,s2,s3,rfl,rfl,hf⟩;rw [Ir] at ew;obtain ⟨j,ej,rfl⟩:=V4.mp ew;obtain ⟨ei,hik⟩:=wW ej;rw [S8] at ei;subst ei;obtain ⟨p,q',r,s,e4,mp,mq,mr,ms,ne⟩:=ex j (by lia);refine nV ?_;refine bw<|cg<|bJ<|qH<|aD rfl<|cD<|dz<|aD rfl<|Ik<|mO (zU _ _) ?_
  refine qH<|aD rfl<|dz<|bJ<|aD rfl<|cA<|lU<|Ik<|cD<|mO (us:=(ts.map tw).drop (j+1)) ?_ ?_
  ·exact zbp _<|j+1
  have e5:(ts.map tw).take j++(ts.map tw).drop (j+1)=[tw p,tw q',tw r,tw s]:=by
   rw [<-List.map_take,<-List.map_drop,<-Ug,e4];rfl
  refine Lj (by rw [<-Lr,e5];exact Gq rfl) ?_;rw [e5];refine nV<|gK ?_
  rfl'
  refine htu (m:=3) (by decide) (hs _ mp).2 (hs _ mq).2 (hs _ mr).2 ?_;rfl'
  refine htu (m:=3) (by decide) (hs _ mp).2 (hs _ mq).2 (hs _ ms).2 ?_;rfl'
  refine htu (m:=3) (by decide) (hs _ mp).2 (hs _ mr).2 (hs _ ms).2 ?_;rfl'
  refine htu (m:=3) (by decide) (hs _ mq).2 (hs _ mr).2 (hs _ ms).2 ?_;rfl'
  refine Zn ?_;have f4:=ahw (r:=r) (s:=s) (hs _ mp).1 (hs _ mq).1 ne;have ef:Uy ts j=eV [p,q',r,s]:=by unfold Uy;rw [e4]
  rfl'
  refine J4 (fun z=>?_) fun z=>?_
  ·rfl'
   have:=ft j (by lia) (by rw [ef,f4];exact z)
   rw [this] at q;exact q
  ·rfl'
   refine hN _ _ ⟨_,_,_,rfl,rfl,fun k hk=>?_⟩;by_cases hkj:k<j
   ·exact hf k hkj
   ·have:k=j:=by lia
    subst this;rw [ef];cases hb:eV [p,q',r,s] with
    | false=>rfl
    | true=>exact absurd (f4.mp hb) z
 ·rintro σ h' ⟨s1,s2,s3,rfl,rfl,hf⟩;have hl:((rng 0 5).map fun x:Nat=>W.int (x:Int)).length=5:=rfl;rw [hl] at hf;rw [fe hf] at q;unfold eN;rfl'
  exact q
theorem Xi {x:Str}{js:List Nat}(h:x∈wds):Row (fK x js):=⟨x,js.map fun j:Nat=>(j:Int),h,by unfold fK;rw [List.map_map];rfl⟩
def prs (ps:List (Str×List Nat)):List W:=ps.map fun p=>fK p.1 p.2
theorem Fp {ps:List (Str×List Nat)}(h:∀ p∈ps,p.1∈wds):∀ r∈prs ps,Row r:=fun r hr=>by
 obtain ⟨p,hp,rfl⟩:=Mv.mp hr;exact Xi<|h p hp
def psD:List (Str×List Nat):=[("free",[]),("free",[]),("free",[]),("free",[]),("free",[]),("free",[]),("curve",[0,1,2,3,4]),("about",[6,0]),("about",[6,1]),("about",[6,2]),("about",[6,3]),("about",[6,4]),("about",[6,5]),("pole",[6,12]),("other",[6,0,1]),("other",[6,0,2]),("other",[6,0,3]),("other",[6,0,4])]
def ps3:List (Str×List Nat):=[("join",[0,5]),("pole",[6,18]),("other",[6,0,5])]
def rw3:List W:=[fK "join" [0,5],fK "pole" [6,18],fK "other" [6,0,5]]
theorem aaU:∀ r∈rwD,Row r:=Fp (ps:=psD) (by decide)
theorem ab2:∀ r∈rwD++rw3,Row r:=Fp (ps:=psD++ps3) (by decide)
theorem sU:∀ {ws:List W},(∀ w∈ws,Cq w w=true)->jG ws ws=true
 | [],_=>rfl
 | w::ws,h=>by rw [jG,h w (by simp),sU fun x hx=>h x (by simp [hx])];rfl
theorem abg (c:C6):Cq (GJ c) (GJ c)=true:=by
 unfold GJ;rw [Cq,sU fun w hw=>?_];simp only [Cr,Dl,or_false] at hw;rcases hw with rfl | rfl | rfl | rfl | rfl | rfl <;> (rw [bB];simp)
theorem XR (a b c d e f:Tr)(C:C6):Cq (.lst (Im a b c d e f C)) (.lst (Im a b c d e f C))=true:=by
 have t:∀ t:Tr,Cq (tw t) (tw t)=true:=fun t=>by rw [vH];exact decide_eq_true rfl
 rw [Cq];refine sU fun w hw=>?_;unfold Im l6 at hw;simp only [List.cons_append,List.nil_append,Cr,Dl,or_false] at hw;rcases hw with rfl | rfl | rfl | rfl | rfl | rfl | rfl | rfl | rfl | rfl | rfl | rfl | rfl | rfl | rfl | rfl | rfl | rfl
 case inr.inr.inr.inr.inr.inr.inl=>exact abg C
 all_goals exact t _
section
variable {jo me th li sp oe:BK}(hj:oN jo)(ht:xu th)(hl:xW li)(hs:vd sp)(ho:mF oe){a b c d e f:Tr}(ok:Ma 3 [a,b,c,d,e,f])
noncomputable def g3 (a f:Tr)(C:C6):List W:=[tw (Gj (crs a f)),tw (Gj (vm (adj (aV C)) (Gj (crs a f)))),tw (oen C a (Gj (crs a f)))]
theorem yj {a f:Tr}(sa:CN 3 a)(sf:CN 3 f)(pa:Pl a)(pf:Pl f)(ne:a≠f):CN 45 (Gj (crs a f)):=FW (jJ (gG pa pf ne)).2 ((c7 sa sf).mono (by decide))
theorem aht {C:C6}{l:Tr}(sC:Et 45 C)(sl:CN 45 l)(hd:det (aV C)≠0)(pl:Pl l):CN 300 (Gj (vm (adj (aV C)) l)):=
 FW (jJ (uJ (sG hd) pl.ne)).2 (by rw [<-kZ];exact (Bt (Bb (gZ sC)) sl).mono (by decide))
include hj hs ho ok in
theorem YQ {C:C6}(P:Plan (aF jo me th li sp oe) rwD (l6 a b c d e f) (Im a b c d e f C))(R:Rc a b c d e C)(hd:det (aV C)≠0)(ne:a≠f):Plan (aF jo me th li sp oe) (rwD++rw3) (l6 a b c d e f) (Im a b c d e f C++g3 a f C):=by
 have A:=ok a (by simp);have Ff:=ok f (by simp);have s:=R.sm;have pl:=jJ (gG A.1 Ff.1 ne);obtain ⟨P,_⟩:=P.snoc rfl (Gq rfl) (K9 (x := "join") (js:=[0,5]) (by decide +kernel)) (fun k=>jD k _) (IW hj (p:=a) (q:=f) (by rfl) A.2 Ff.2 A.1 Ff.1 ne);obtain ⟨P,_⟩:=P.snoc rfl (Gq rfl) (K9 (x := "pole") (js:=[6,18]) (by decide +kernel)) (fun k=>jD k _) (ahA hs (l:=Gj (crs a f)) (by rfl) s (yj A.2 Ff.2 A.1 Ff.1 ne) hd pl.1);obtain ⟨P,_⟩:=P.snoc rfl (Gq rfl) (K9 (x := "other") (js:=[6,0,5]) (by decide +kernel)) (fun k=>jD k _) (adN hj ho (p:=a) (q:=f) (by rfl) s A.2 Ff.2 A.1 Ff.1 hd ne (R.van a (by simp)));exact P
include hj in
theorem ac9 {C:C6}(A:Pl a/\CN 3 a)(e':f=a):Rf (aF jo me th li sp oe) (Im a b c d e f C) (fK "join" [0,5]):=by
 subst e';exact afL hj (by rfl) A.2 A.1
end
def abL (mr c0:BK):Prop:=∀ {h:Gh} {a b c d e f:Tr} {C:C6} {Q:WK} {E:CK},Ma 3 [a,b,c,d,e,f]->Rc a b c d e C->det (aV C)≠0->Plan mr rwD (l6 a b c d e f) (Im a b c d e f C)->(∀ h',Kp h h'->Q (.bl true) h')->c0 [.lst rwD,.lst (l6 a b c d e f),.lst (Im a b c d e f C)] h Q E
theorem Ye {jo me th li sp oe hd' pl st:BK}(hj:oN jo)(hs:vd sp)(ho:mF oe)(hh:ZC hd')(hp:Zo (aF jo me th li sp oe) pl)(hst:Zw (aF jo me th li sp oe) st):abL (aF jo me th li sp oe) (qp hd' pl st):=by
 intro h a b c d e f C Q E ok R hd P k;have A:=ok a (by simp);have Ff:=ok f (by simp);have s:=R.sm;unfold qp;refine jO rfl (σ:=[Dn<|.lst rwD,Dn<|.lst<|l6 a b c d e f,Dn<|.lst<|Im a b c d e f C,Go,Go,Go]) rfl ?_;refine bw<|iC<|cO<|bJ<|bJ<|aD rfl<|cA<|jd (ws:=l6 a b c d e f) (w:=tw f) rfl (cu (j:=5) rfl)<|bJ<|aD rfl<|cA<|jd (ws:=l6 a b c d e f) (w:=tw a) rfl (cu (j:=0) rfl)<|TF<|Dy ?_
 refine J4 (fun ef=>?_) fun nf=>?_
 ·refine mV<|bJ<|bD<|au<|bJ<|aD rfl<|vo<|au<|d9<|au<|cA<|au<|cA<|au<|cA<|aM<|cj rfl<|aM<|cj rfl<|Lj (Gq rfl)<|au<|aD rfl<|aM ?_
  refine hst (gold:=Im a b c d e f C) (P.more (rs:=[fK "join" [0,5]]) rfl (Gq rfl) fun r hr=>?_) (r:=fK "join" [0,5]) rfl (ac9 hj A ef) fun h' kp=>?_
  ·rw [La.mp hr];exact K9<|by decide +kernel
  ·refine iZ<|au<|aD rfl<|aM<|mG (xs:=rwD) rfl<|YD ?_
   rw [show decide (((Im a b c d e f C).length:Int)=(rwD.length:Int))=true from rfl];exact Sd<|k h' kp
 ·refine gK ?_;have ne:a≠f:=fun e=>nf e.symm
  have pc:=jJ (gG A.1 Ff.1 ne);have sl:=yj A.2 Ff.2 A.1 Ff.1 ne;have P3:=YQ hj hs ho ok P R hd ne;have pp:=jJ (uJ (sG hd) pc.1.ne);have wa:=R.van a (by simp);have t1:=aea wa pc.2;have t2:=ady pp.2;have t3:=agG Ff.1 ne pc.2 (Yh hd wa A.1 Ff.1 pc.1 ne pc.2);unfold pF;refine bw<|cg<|bJ<|aD rfl<|vo<|au<|d9<|au<|cA<|au<|cA<|au<|cA<|aM<|cj rfl ?_
  refine au<|d9<|au<|cA<|au<|cA<|au<|iZ<|au<|aD rfl<|aM<|mG (xs:=rwD) rfl<|aM<|cj rfl ?_
  refine au<|d9<|au<|cA<|au<|cA<|au<|cA<|au<|cA<|aM<|cj rfl<|aM<|cj rfl<|Lj (Gq rfl) ?_
  refine dI (σ':=[Dn<|.lst rwD,Dn<|.lst<|l6 a b c d e f,Dn<|.lst<|Im a b c d e f C,Dn<|.lst<|rwD++rw3,Go,Go]) rfl<|gK ?_
  refine bw<|cg<|bD<|au<|iZ<|au<|aD rfl<|aM<|lV<|au<|iZ<|au<|aD rfl<|aM<|lV<|aM ?_
  refine hp P3 (fun _=>?_) fun r er=>absurd (K8.mp er).1 (KZ _);refine dI (σ':=[Dn<|.lst rwD,Dn<|.lst<|l6 a b c d e f,Dn<|.lst<|Im a b c d e f C,Dn<|.lst<|rwD++rw3,Dn<|.lst<|Im a b c d e f C++g3 a f C,Go]) rfl<|gK ?_
  refine bw<|cg<|bD<|au<|aD rfl<|au<|aD rfl<|au<|d9<|au<|cA<|au<|iZ<|au<|aD rfl<|aM<|mG (xs:=rwD) rfl<|au<|cA<|aM<|cj rfl<|aM ?_
  refine hh (x := "touch") (js:=[18,6]) (rws:=rwD++rw3) (thg:=Im a b c d e f C++g3 a f C) rfl rfl ab2 (by rfl) (due:=["line", "curve"]) (by decide +kernel) (.touch (l:=Gj (crs a f)) (c:=C) (sl.mono<|by decide)<|s.mono<|by decide) fun b1 hb1=>?_;refine nV<|gK ?_
  refine bw<|iC<|cO<|bJ<|aD rfl<|bD<|au<|aD rfl<|au<|aD rfl<|au<|d9<|au<|cA<|au<|bJ<|iZ<|au<|aD rfl<|aM<|mG (xs:=rwD) rfl<|cA<|lU ?_
  refine au<|iZ<|au<|aD rfl<|aM<|mG (xs:=rwD) rfl<|aM<|cj rfl<|aM ?_
  refine hh (x := "on") (js:=[19,18]) (rws:=rwD++rw3) (thg:=Im a b c d e f C++g3 a f C) rfl rfl ab2 (by rfl) (due:=["spot", "line"]) (by decide +kernel) (.onl (p:=Gj (vm (adj<|aV C)<|Gj<|crs a f)) (l:=Gj (crs a f)) (aht s sl hd pc.1)<|sl.mono<|by decide) fun b2 hb2=>?_;have e12:b1=b2:=by
   have:b1=true↔b2=true:=by rw [hb1,hb2,t2]
   cases b1 <;> cases b2 <;> simp at this |-
  refine RX<|Dy ?_
  rw [e12];refine dj (by simp) ?_;refine gK ?_;unfold nU;refine mV<|Hu<|bJ<|aD rfl<|bJ<|bJ<|aD rfl ?_
  rfl'
  have e3:b2=decide (oen C a (Gj (crs a f))=a):=by
   have:b2=true↔oen C a (Gj (crs a f))=a:=by rw [<-e12,hb1,t1,t3]
   cases b2 <;> simp at this |-
   ·exact this
   ·exact this
  rw [decide_eq_true e3];refine yC ?_;refine bJ<|qH<|aD rfl<|cD<|dz<|iZ<|au<|aD rfl<|aM<|mG (xs:=rwD) rfl<|Ik ?_
  refine mO (us:=Im a b c d e f C) ?_ ?_
  ·rw [zU];rfl
  refine aD rfl<|Rn rfl rfl rfl rfl ?_
  rw [XR];exact Sd<|k h ⟨Dp _,fun _ _=>rfl⟩
theorem M8 {h h':Gh}{n:Nat}(b:Mh h n)(hn:n<h.nx)(kp:Kp h h'):Mh h' n/\n<h'.nx:=by
 obtain ⟨x,y,e,r⟩:=b;exact ⟨⟨x,y,(kp.2 n hn).trans e,r⟩,GP hn kp.1⟩
theorem Vr {ts:List Tr}(h:ts.length=6):∃ a b c d e f,ts=[a,b,c,d,e,f]:=by
 match ts,h with
 | [a,b,c,d,e,f],_=>exact ⟨a,b,c,d,e,f,rfl⟩
theorem ahi {ps:List (Str×List Nat)}(h:∀ p∈ps,(p.1 == "free")=false):∀ r∈prs ps,Nfr r:=fun r hr=>by
 obtain ⟨p,hp,rfl⟩:=Mv.mp hr;exact K9 (by rw [afd];exact h p hp)
theorem agX {a b c d e f:Tr}{C:C6}{k:Nat}(hk:k<6):Told (Im a b c d e f C) [k,6] [tw (gt [a,b,c,d,e,f] k),GJ C]/\Told (Im a b c d e f C) [7+k,6] [tw (Gj (vm (aV C) (gt [a,b,c,d,e,f] k))),GJ C]/\[k,6].map (fun j=>(rwD.map srt)[j]?)=(["spot", "curve"]:List Str).map Dn/\[7+k,6].map (fun j=>(rwD.map srt)[j]?)=(["line", "curve"]:List Str).map Dn:=by
 rcases (show k=0\/k=1\/k=2\/k=3\/k=4\/k=5 by lia) with rfl | rfl | rfl | rfl | rfl | rfl <;> exact ⟨rfl,rfl,by decide +kernel,by decide +kernel⟩
theorem Zi {a b:W}{h:Gh}{Q:WK}(da:Df h a=Dn a)(db:Df h b=Dn b)(pa:Dq 30 a=true)(pb:Dq 30 b=true)(k:Q (.bl (!Cq a b)) h):HW a b h Q:=by
 unfold HW;rw [da,db];show El (Dq 30 a&&Dq 30 b) (Q (.bl (!Cq a b)) h) False;rw [pa,pb];exact k
theorem aaf {jo me th li sp oe hd' pl cl bg so dr t3 f4 st sx:BK}(hj:oN jo)(ht:xu th)(hl:xW li)(hs:vd sp)(ho:mF oe)(hh:ZC hd')(hp:Zo (aF jo me th li sp oe) pl)(hcl:FT cl)(hbg:V2 bg)(hso:Qy so)(hdr:DrX dr)(ht3:acC t3)(hf4:abW f4)(hst:Zw (aF jo me th li sp oe) st)(hsx:abL (aF jo me th li sp oe) sx)(ns:List Int){h:Gh} :
  S6 hd' pl cl bg so dr t3 f4 st sx [.kls (ns.map .int)] h (fun w _=>w=.bl true) EF:=by
 unfold S6;refine jO rfl (σ:=[Dn<|.kls<|ns.map .int,Go,Go,Go,Go,Go,Go,Go,Go]) rfl ?_;refine bw<|cg<|bD<|au<|bD<|au<|aD rfl<|au<|cA<|aM ?_
 refine hcl (by decide) ?_;refine aM ?_;refine hbg fun h1 b1 x1 o1=>?_;have l1:h.nx<h1.nx:=by lia
 refine nV<|gK ?_
 refine bw<|cg<|bD<|aM ?_
 refine hdr ?_;refine nV<|gK ?_
 refine bw<|jQ<|iG<|au<|cA<|aM<|yG (m:=3) (by decide)<|j5 ?_
 refine lK (fun i σ g=>∃ s3 s4 s5 s6 s7 s8,σ = [Dn<|.kls<|ns.map .int,Dn<|.loc h.nx,Dn<|.lst rwD,s3,s4,s5,s6,s7,s8]/\Mh g h.nx/\h.nx<g.nx) ?_ ?_ ⟨_,_,_,_,_,_,rfl,b1,l1⟩
 ·rintro i w σ g N hN ew ⟨s3,s4,s5,s6,s7,s8,rfl,bg,lg⟩;refine nV ?_;refine bw<|cg ?_
  refine Zj (j:=6) (fun _=>rfl) (by decide) (by decide) (by decide) (fun i acc g'=>∃ ts:List Tr,acc=ts.map tw/\ts.length=i/\Ma 3 ts/\Mh g' h.nx/\h.nx<g'.nx) ?_ ?_ ⟨[],rfl,rfl,fun t ht=>absurd ht<|by simp,bg,lg⟩
  ·rintro i acc g' N' hN' hi ⟨ts,rfl,el,ok,bg',lg'⟩;refine ⟨[.int (i:Int)],rfl,qQ<|pI<|bD<|au<|aD rfl<|au<|cA<|aM ?_⟩;refine hso bg' lg' fun t g2 pt st2 b2 x2 _=>hN' _ _ ⟨ts++[t],by simp,by simp [el],fun u hu=>?_,b2,GP lg' x2⟩;rcases Rv.mp hu with hu | hu
   ·exact ok u hu
   ·rw [La.mp hu];exact ⟨pt,st2⟩
  rintro acc g1 ⟨ts,rfl,el,ok,bg1,lg1⟩;obtain ⟨a,b,c,d,e,f,rfl⟩:=Vr el;have next:∀ {g2:Gh} {s3 s4 s5 s6 s7 s8:Option W},Kp g1 g2->N [Dn (.kls (ns.map .int)),Dn (.loc h.nx),Dn (.lst rwD),s3,s4,s5,s6,s7,s8] g2:=fun kp=>hN _ _ ⟨_,_,_,_,_,_,rfl,(M8 bg1 lg1 kp).1,(M8 bg1 lg1 kp).2⟩
  have ok5':=ok5 ok;refine dI (σ':=[Dn<|.kls<|ns.map .int,Dn<|.loc h.nx,Dn<|.lst rwD,Dn w,Dn<|.lst<|l6 a b c d e f,s5,s6,s7,s8]) rfl<|gK ?_
  refine bw<|cg<|qH<|aD rfl<|cD<|dz<|cA<|Ik<|mO (us:=[tw a,tw b,tw c,tw d,tw e]) rfl ?_
  refine dI (σ':=[Dn<|.kls<|ns.map .int,Dn<|.loc h.nx,Dn<|.lst rwD,Dn w,Dn<|.lst<|l6 a b c d e f,Dn<|l5 a b c d e,s6,s7,s8]) rfl<|gK ?_
  have bad:∀ {D:bA} {σ : Sw},σ = [Dn (.kls (ns.map .int)),Dn (.loc h.nx),Dn (.lst rwD),Dn w,Dn (.lst (l6 a b c d e f)),Dn (l5 a b c d e),s6,s7,s8]->D.ct=N->¬ ([a,b,c,d,e].Nodup/\sy [a,b,c,d,e]=false)->(aZ (dY (bC (AP HW (aG st EF (aj (aq 2) (aj (aq 4) aJ))) (mC (.int 6)))) (bI (mC (.bl false))) bG) Gx) D σ g1:=by
   rintro D σ rfl eD z;refine bw<|iC<|cO<|bJ<|bD<|au<|aD rfl<|au<|aD rfl<|aM ?_
   refine hst (gold:=l6 a b c d e f) ((Vj a b c d e f).more (rs:=rwD.drop 6) rfl (Gq rfl) fun r hr=>?_) (r:=fK "curve" [0,1,2,3,4]) rfl (afl ht (by rfl) ok5' z) fun g2 kp=>?_
   ·exact ahi (ps:=psD.drop 6) (by decide +kernel) r hr
   refine cA<|Qd<|Dy ?_
   refine dj (by rfl) ?_;refine gK ?_;show D.ct _ _;rw [eD];exact next kp
  refine bw<|iC ?_
  refine JM<|cO<|bJ<|iZ<|au<|aD rfl<|aM ?_
  refine acy (ts:=[a,b,c,d,e]) (.inl rfl) (by simp) ?_;refine cA<|O9<|Dy ?_
  rw [show decide (((Lf ([a,b,c,d,e].map tl)).length:Int)<5) = !decide [a,b,c,d,e].Nodup from Ed [a,b,c,d,e]];by_cases nd:[a,b,c,d,e].Nodup
  rotate_left
  ·rw [decide_eq_false nd];exact yC<|yC<|bad rfl rfl fun z=>nd z.1
  rw [decide_eq_true nd];refine nY<|qU<|bD<|au<|aD rfl<|aM ?_
  refine hf4 ok5' nd ?_;refine UW rfl ?_;by_cases f4':sy [a,b,c,d,e]=true
  ·rw [f4'];exact yC (bad rfl rfl fun z=>by rw [f4'] at z;cases z.2)
  have f4':sy [a,b,c,d,e]=false:=by simpa using f4'
  rw [f4'];refine nY<|gK ?_
  have G:=Pa (fun t ht=>(ok5' t ht).1) nd f4';have R:=Vf G ok5';have ab:a≠b:=by
   have nd':=nd;simp only [Lq,Cr,Dl,or_false,not_or] at nd';exact nd'.1.1
  have A:=ok a (by simp);have B:=ok b (by simp);refine bw<|iC<|qU<|bD<|au<|aD rfl<|aM ?_
  refine ht3 ok5' ?_;refine UW rfl ?_;by_cases F:Five a b c d e
  rotate_left
  ·rw [Ji F];refine yC ?_;have hd:det (aV (Ot a b c d e))=0:=P0 fun z=>F (R.rd.mp z)
   obtain ⟨P,el⟩:=(Xp (jo:=jo) (me:=me) (li:=li) (sp:=sp) (oe:=oe) ht ok nd f4').snoc rfl (Gq rfl) (K9 (x := "join") (js:=[0,1]) (by decide +kernel)) (fun k=>jD k _) (IW hj (p:=a) (q:=b) (by rfl) A.2 B.2 A.1 B.1 ab);have P:=P.more (rs:=[fK "pole" [6,7]]) el (Gq rfl) fun r hr=>by rw [La.mp hr];exact K9 (by decide +kernel)
   refine bw<|iC<|cO<|bJ<|bD<|au<|bJ<|qH<|aD rfl<|cD<|dz<|cA<|Ik<|mO (us:=rw7) rfl ?_
   refine vo<|au<|d9<|au<|cA<|au<|cA<|au<|cA<|aM<|cj rfl ?_
   refine au<|d9<|au<|cA<|au<|cA<|au<|cA<|aM<|cj rfl<|aM<|cj rfl<|Lj (Gq rfl)<|au<|aD rfl<|aM ?_
   refine hst P (r:=fK "pole" [6,7]) rfl (agT hs (C:=Ot a b c d e) (l:=Gj (crs a b)) (by rfl) R.sm (yj A.2 B.2 A.1 B.1 ab) hd (jJ<|gG A.1 B.1 ab).1) fun g2 kp=>?_;refine cA<|Qd<|Dy ?_
   refine dj (by rfl) ?_;refine gK<|agF ?_
   exact next kp
  rw [JQ F];refine nY<|gK ?_
  have hd:=R.rd.mpr F;have P:=WQ (me:=me) hj ht hl hs ho ok nd f4' F;generalize Ot a b c d e=C at *;refine bw<|cg<|bD<|au<|iZ<|au<|aD rfl<|aM<|lV<|au<|iZ<|au<|aD rfl<|aM<|lV<|aM ?_
  refine hp P (fun _=>?_) fun r er=>absurd (K8.mp er).1 (KZ _);refine nV<|gK ?_
  refine bw<|jQ<|iG<|au<|cA<|aM<|yG (m:=6) (by decide)<|j5 ?_
  refine lK (fun i σ g=>g=g1/\∃ s7 s8,σ = [Dn<|.kls<|ns.map .int,Dn<|.loc h.nx,Dn<|.lst rwD,Dn w,Dn<|.lst<|l6 a b c d e f,Dn<|l5 a b c d e,Dn<|.lst<|Im a b c d e f C,s7,s8]) ?_ ?_ ⟨rfl,_,_,rfl⟩
  ·rintro i w0 σ g' N' hN' ew' ⟨rfl,s7,s8,rfl⟩;rw [Ir] at ew';obtain ⟨k,ek,rfl⟩:=V4.mp ew';obtain ⟨ei,hk⟩:=wW ek;rw [S8] at ei;subst ei;have mk':gt [a,b,c,d,e,f] k∈[a,b,c,d,e,f]:=p7 (by simpa using hk);obtain ⟨o1,o2,o3,o4⟩:=agX (a:=a) (b:=b) (c:=c) (d:=d) (e:=e) (f:=f) (C:=C) (k:=k) (by lia);have van:k<5->Ck C (gt [a,b,c,d,e,f] k)=0:=fun h5=>by rw [gt5 h5];exact R.van _ (p7 (by simpa using h5))
   generalize gt [a,b,c,d,e,f] k=p at *;have pk:=ok p mk';refine nV ?_;refine bw<|cg<|bD<|au<|aD rfl<|au<|aD rfl<|au<|d9<|au<|cA<|au<|aD rfl<|au<|cA<|aM<|cj rfl<|aM ?_
   refine hh (x := "on") (js:=[k,6]) (rws:=rwD) (thg:=Im a b c d e f C) rfl rfl aaU o1 o3 (.onc (p:=p) (c:=C) (pk.2.mono<|by decide)<|R.sm.mono<|by decide) fun x1 hx1=>?_;refine nV<|gK ?_
   refine iC<|JM<|cO<|bJ<|bD<|au<|aD rfl<|au<|aD rfl<|au<|d9<|au<|cA<|au<|bJ<|cA<|aD rfl<|lU<|au<|cA<|aM<|cj rfl<|aM ?_
   refine hh (x := "touch") (js:=[7+k,6]) (rws:=rwD) (thg:=Im a b c d e f C) rfl rfl aaU o2 o4 (.touch (l:=Gj (vm (aV C) p)) (c:=C) ((zF R.sm pk.2 hd pk.1).mono (by decide))<|R.sm.mono<|by decide) fun x2 hx2=>?_;have t:=ahl hd (jJ (uJ hd pk.1.ne)).2;have e12:x2=x1:=by
    have:x2=true↔x1=true:=by rw [hx1,hx2,t]
    cases x1 <;> cases x2 <;> simp at this |-
   rw [e12];refine aD rfl<|RX<|Dy ?_
   refine dj (by simp) ?_;refine Ng<|cO<|bJ<|aD rfl<|cA<|O9<|Dy ?_
   refine J4 (fun h5=>?_) fun h5=>?_
   ·refine Fb<|qU<|aD rfl<|UW rfl ?_
    rw [hx1.mpr (van (by lia))];exact nY<|gK<|hN' _ _ ⟨rfl,_,_,rfl⟩
   ·exact nY<|gK<|hN' _ _ ⟨rfl,_,_,rfl⟩
  ·rintro σ g' ⟨rfl,s7,s8,rfl⟩;refine gK ?_;refine bw<|iC<|JM<|qU<|bD<|au<|aD rfl<|au<|aD rfl<|au<|d9<|au<|cA<|au<|cA<|aM<|cj rfl<|aM ?_
   refine hh (x := "parted") (js:=[6]) (rws:=rwD) (thg:=Im a b c d e f C) rfl rfl aaU (by rfl) (due:=["curve"]) (by decide +kernel) (.parted (c:=C)<|R.sm.mono<|by decide) fun x1 hx1=>?_;have ex:x1=false:=by
    cases x1 with
    | false=>rfl
    | true=>exact absurd (hx1.mp rfl) hd
   subst ex;refine UW rfl<|nY ?_
   refine JM<|cO<|bJ<|bJ<|aD rfl<|cA<|jd (ws:=Im a b c d e f C) (w:=tw f) rfl (cu (j:=13) rfl) ?_
   refine bJ<|aD rfl<|cA<|jd (ws:=l6 a b c d e f) (w:=tw f) rfl (cu (j:=5) rfl) ?_
   refine Zi rfl rfl rfl rfl<|Dy ?_
   rw [vH,decide_eq_true rfl];refine nY ?_;refine cO<|bJ<|qH<|aD rfl<|dz<|cA<|Ik<|cD<|mO (us:=[b,c,d,e].map tw) rfl ?_
   refine qH<|aD rfl<|dz<|cA<|Ik<|dz<|cA<|Ik<|mO (us:=[b,c,d,e].map tw) rfl ?_
   refine Zi rfl rfl rfl rfl<|Dy ?_
   rw [Cq,NK];refine nY<|gK ?_
   refine iC<|Fb<|qU<|bD<|au<|aD rfl<|au<|aD rfl<|au<|aD rfl<|aM ?_
   refine hsx ok R hd P fun g2 kp=>?_;refine UW rfl ?_;exact nY<|gK<|next kp
 ·rintro σ g ⟨s3,s4,s5,s6,s7,s8,rfl,bg,lg⟩;unfold Iw;rfl'
  rfl
theorem Vk (ns:List Int)(_:ns.length<=63):Uk [.kls (ns.map W.int)] g0 (fun w _=>w=.bl true) EF:=by
 have pp:Fy jt:=zax (zaT abH) ahq;have sh:eY gn:=afX Je rH;have ol:eY jM:=zaH sh;have tt:Gi bK:=aaQ Je Ey;have td:nA nO:=zbx Ak Ey;have bo:zA eE:=Wo X7 tt;have rd:Ln iI:=ahG (w_size (ahj YK Ak) Ey) w_tab;have th:xu nW:=zaX pp zbr (Ve ol afz aer) (agb Je rH aaD);have jo:oN Bj:=ags (zaS pp rH);have li:xW iy:=Wz tt w_tab (Ym pp);have sp:vd gW:=aey pp tt td w_tab rd;have oe:mF jB:=XC (Oo Je) (w_on Hl) w_tab bo (Ym pp) (aaW (YS (yZ pp rH)) agx);have hh:ZC rJ:=agB (Oo Je) ol (Vu sh) (w_on Hl) rd adW (zaR td w_tab bo);have hp:Zo bM eU:=abm;have hst:Zw bM jY:=zbH hp;have tu:Bm nP:=agy abF abK;have so:Qy sJ:=ahC WY (zbl Xm);have sx:abL bM oO:=Ye jo sp oe hh hp hst;exact aaf jo th li sp oe hh hp ahc abn so adH (zbP tu) (YW tu) hst sx ns
end My
namespace PySem.W.Fast
def tw288682348581634084:=()
def tw12991870255712294148:=()
def tw14158789540030501648:=()
def tw1894162342523284273:=()
def tw1398697113725019813:=()
def tw11659729335218337013:=()
def tw9936135022072269868:=()
def tw3252859535729911942:=()
def tw3223920009594839022:=()
def tw12423029901479128400:=()
def tw7165416251388955613:=()
def tw4423416639537138848:=()
def tw4775045517229944342:=()
def tw5578586224316900272:=()
def tw4530902979064557290:=()
def tw548311627662955695:=()
def tw17940058630247371177:=()
def tw17854912931587589611:=()
def tw5941739990132127918:=()
def tw6361571376565424047:=()
def tw9497688890067305829:=()
def tw9339553092915346341:=()
def tw11648990459753406336:=()
def tw2550441115524532338:=()
def tw9968223330584759395:=()
def tw2710848270827539601:=()
def tw17592713599728847938:=()
def tw1742300222743054916:=()
def tw9258500561267131146:=()
def tw1898494868975122325:=()
def tw13918854744623750543:=()
def tw16165227006660808691:=()
def tw10307887052033396221:=()
def tw1457537421239164331:=()
def tw11832803802730258675:=()
def tw2891376309954305593:=()
def tw4853326549008697290:=()
def tw17497196784277293713:=()
def tw1881163214446991209:=()
def tw16490153018126833128:=()
def tw16933810135382747073:=()
def tw2550313149286713466:=()
def tw12488804419310081088:=()
def tw6185563450658719979:=()
def tw10543098871221428720:=()
def tw2134693791516647353:=()
def tw11755709078509912109:=()
def tw5967369863097665356:=()
def tw8935415375630219795:=()
def tw1855157019913569602:=()
def tw1317604128496822029:=()
def tw7366966814777388632:=()
def tw1138666685136089709:=()
def tw6327877600166633692:=()
def tw16342761918874090991:=()
def tw10276625380486327272:=()
def tw3319291252836671434:=()
def tw9801368990083368361:=()
def tw11538821929912589380:=()
def tw1981667971588517079:=()
def tw97400963944284281:=()
def tw6649234293972530284:=()
def tw9516714973335125379:=()
def tw170052587268181155:=()
def tw8485056837405533318:=()
def tw17697429488162379133:=()
def tw2246435341143584250:=()
def tw13443448881867757812:=()
def tw17870360908663313607:=()
def tw5913760347099850317:=()
def tw7310676804607053063:=()
def tw13779125341107672445:=()
def tw407549634502798938:=()
def tw8102292021296968962:=()
def tw14900291512419005200:=()
def tw7470672399162254246:=()
def tw15636305666363205279:=()
def tw14519329112792616909:=()
def tw15504428351738651339:=()
def tw7214585339015669413:=()
def tw12131191426951022667:=()
def tw17553885031898399650:=()
def tw7353312379520850861:=()
def tw12476784158643910035:=()
def tw1819274444291222178:=()
def tw12527788964502529898:=()
def tw10430917328755513719:=()
def tw15824673725231620238:=()
def tw13005593748796139389:=()
def tw534141028953064005:=()
def tw16133978592612290196:=()
def tw5647358295591821327:=()
def tw1725382715761357943:=()
def tw10723891780976820658:=()
def tw13931528997589022968:=()
def tw11484291769810867511:=()
def tw1378001296011884748:=()
def tw15719520376388566916:=()
def tw4317739264230691116:=()
def tw4691912938970490620:=()
def tw10859382604382488219:=()
def tw1636832999927226885:=()
def tw13065442750988472805:=()
def tw17791758448949995890:=()
def tw12200783284376109288:=()
def tw12015220920615045245:=()
def tw18271016840813560483:=()
def tw5532997208689731215:=()
def tw16406664655166907305:=()
def tw14509964765674402046:=()
def tw4133134147164838293:=()
def tw10589142466802121207:=()
def tw2799787969947688540:=()
def tw10721656130325140383:=()
def tw10342254203756685789:=()
def tw1577770156356344837:=()
def tw6256037028150721120:=()
def tw7429790086701306339:=()
def tw14873551505531772048:=()
def tw7924513221835826922:=()
def tw321231520158765670:=()
def tw7071902583072824695:=()
def tw6258370075410214891:=()
def tw3458770329059737561:=()
def tw1794300797029582996:=()
def tw8614647226044491765:=()
def tw1887718022099448842:=()
def tw1453847170564137167:=()
def tw1423229041118765331:=()
def tw12336079453321256377:=()
def tw4870975828997287730:=()
def tw16231987243939878687:=()
def tw14017812084635347436:=()
def tw11825832526126292027:=()
def tw1683118702711954449:=()
def tw2801316325199231456:=()
def tw16309358367942799605:=()
def tw5938434128145770928:=()
def tw9312521215370448120:=()
def tw15588967858176456316:=()
def tw11612604632474496788:=()
end PySem.W.Fast
open PySem PySem.W PyProof.Rows
theorem PySem.Challenge.cw_easelroom_k65_curves_in_drawings_holds : PySem.Challenge.rw_easelroom_k65_curves_in_drawings.Holds := by
 w_on;o_law;k_head;(case hw=>w_witness2)
 k_fill
 refine My.walk (l:=PySem.Challenge.rw_easelroom_k65_curves_in_drawings) rfl rfl (fun w h Y=>PySem.W.kIn_of Y) ?F
 case F=>
  intro w mg fa h KX G hmg;refine' My.all_mk My.Vk KX G hmg ?h0 ?h1 ?h2 ?h3 ?h4 ?h5 ?h6 ?h7 ?h8 ?h9 ?h10 ?h11 ?h12 ?h13 ?h14 ?h15 ?h16 ?h17 ?h18 ?h19 ?h20 ?h21 ?h22 ?h23 ?h24 ?h25 ?h26 ?h27 ?h28 ?h29 ?h30 ?h31 ?h32 ?h33 ?h34 ?h35 ?h36 ?h37 ?h38 ?h39 ?h40 ?h41 ?h42 ?h43 ?h44 ?h45 ?h46 ?h47 ?h48 ?h49 ?h50 ?h51 ?h52 ?h53 ?h54 ?h55 ?z_abs ?z_all ?z_any ?z_enumerate ?z_int ?z_len ?z_list ?z_range ?z_reversed ?z_set ?z_tuple ?z_zip ?gk_MADE ?sk_MADE ?lk_MADE ?gk_TILES ?lk_TILES ?lk_TILES_0 ?lk_TILES_1 ?lk_TILES_2 ?lk_TILES_3 ?gx_EaselError ?xd_EaselError ?gx_Nothing ?xd_Nothing ?xc_Nothing ?xq_Nothing ?gx_Alike ?xd_Alike ?xc_Alike ?xq_Alike ?gx_Stuck ?xd_Stuck ?gx_FourOnLine ?xd_FourOnLine ?xc_FourOnLine ?xq_FourOnLine ?gx_Knot ?xd_Knot ?xc_Knot ?xq_Knot ?gx_NotRound ?xd_NotRound ?xc_NotRound ?xq_NotRound ?gx_NotOn ?xd_NotOn ?xc_NotOn ?xq_NotOn ?gx_InCurve ?xd_InCurve ?xc_InCurve ?xq_InCurve ?ai_Stuck ?li_Stuck ?ci_Stuck ?ki_Stuck ?xi_Stuck ?xf_Stuck ?xa_Stuck ?xs_Stuck
  (case h0 | h1 | h2 | h3 | h4 | h5 | h6 | h7 | h8 | h9 | h10 | h11 | h12 | h13 | h14=>(apply My.MN <;> k_is))
  (case h15 | h16 | h17 | h18 | h19 | h20 | h21 | h22 | h23 | h24 | h25 | h26 | h27 | h28 | h29=>(apply My.MN <;> k_is))
  (case h30 | h31 | h32 | h33 | h34 | h35 | h36 | h37 | h38 | h39 | h40 | h41 | h42 | h43 | h44=>(apply My.MN <;> k_is))
  (case h45 | h46 | h47 | h48 | h49 | h50 | h51 | h52 | h53 | h54 | h55=>(apply My.MN <;> k_is))
  (case z_abs | z_all | z_any | z_enumerate | z_int | z_len | z_list | z_range | z_reversed | z_set | z_tuple | z_zip | gk_TILES | lk_TILES | lk_TILES_0 | lk_TILES_1 | lk_TILES_2 | lk_TILES_3 | gk_MADE | lk_MADE=>k_is)
  (case sk_MADE=>rfl)
  (case gx_EaselError | gx_Nothing | gx_Alike | gx_Stuck | gx_FourOnLine | gx_Knot | gx_NotRound | gx_NotOn | gx_InCurve | ai_Stuck | li_Stuck | ci_Stuck | ki_Stuck=>k_is)
  (case xd_EaselError | xd_Nothing | xc_Nothing | xd_Alike | xc_Alike | xd_Stuck | xd_FourOnLine | xc_FourOnLine | xd_Knot | xc_Knot | xd_NotRound | xc_NotRound | xd_NotOn | xc_NotOn | xd_InCurve | xc_InCurve | xi_Stuck | xf_Stuck | xa_Stuck | xs_Stuck=>kernel_rfl)
  (case xq_Nothing | xq_Alike | xq_FourOnLine | xq_Knot | xq_NotRound | xq_NotOn | xq_InCurve=>k_exc)
