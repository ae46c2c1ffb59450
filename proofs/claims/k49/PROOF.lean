import PyProof.Rows.All
import Wide.All
import OpenK.AllK
import Wide.FinOn
import Lean
import PyProof.EqAt
import PyProof.EqKinds
import PyProof.TupleCall
import PySem.Challenge.RW_easelroom_k49_whole_sixth_spot
set_option Elab.async false
set_option linter.all false
set_option maxRecDepth 100000
set_option maxHeartbeats 0
local macro_rules | `(tactic| lia) => `(tactic| first | lia (splits := 9) | omega)
open Option renaming some→Dn,none→FX
open PySem.W renaming Frag→Ai,mg_none_of→Nx,nsIn→Lx,keepIn→Q6,findIn→Rr,fnOf→Sq,codeIn→Uj
open PySem renaming wpAny_bind→Af,Value→Go,Shared→AP,Spec→aeg,wpAny_pure→FP,SetTable→Nu,Program→Fb,starEach→Fv,Around→Fd,sizeLine→Gb,wpAny→CR,NameKind→Kh,mainGlobals→JW,Builtin→R6,model→FJ,World→FZ,wpAny_field→KY,wpAny_holding→MH,cellsFrom→Jh,wpAny_callSpecial?_slot→Rz,wpAny_newObj_type→Q5,tupleKeyHash→M8,mem_of_lookup→RT,assignEach→Lb,wpAny_call_entry→RZ,wpAny_mono→Ml,foldedSetIterable→S9,compareOp→Lz,PassesOwn→Va,FuncData→Le,wpAny_seqItems→RX,binaryOp→Ly,wpAny_setState_of→TJ,wpAny_pyIter_list→TF,intKind→La,bootBuiltins→RP,wpAny_setField_rec→UL,wpAny_Call_Name_kw→UJ,backTo→KR,wpAny_passesOwn→Td,builtinLookup_eq_fast→V1,behindInMarks→Sh,Paired→Rv,wpAny_of_eq→Ru,wpAny_attempt→Tc,attributeBase→TX,wpAny_truthy_bool→Uq,cLine→Jd,isSubtype_type→Tv,boot_len→Uh,wpAny_specialOf→Ue,typeLookup_type→Ud,sliceBounds→T4,rawInt→Mi,Keyword→Od,pyNext→Mw,IsPair→Mv,wpAny_setField→Ut,firstArgMember→Us,wpAny_rule→T8,swapsWith→SQ,sizeLine_eq→Tz,keywordEach→Tw,codeAny→QM,holding→RL
open PySem.Heap renaming get?_push_of_some→Gj,lt_size→Ga,get?_push_size→Jp,SameBut→NT,get?_update_self→Sy,size_push→QV,ExtBut→Ti
open List renaming not_mem_nil→Fx,mem_cons→Fe,length_map→GJ,size_toArray→Gz,getElem?_eq_getElem→Kc,getElem?_map→K8,getElem?_eq_some_iff→Nk,mem_cons_of_mem→MK,lookup_cons→Lp,length_cons→Lk,mem_cons_self→MJ,mem_singleton→Nb,getD_eq_getElem?_getD→Rb,map_cons→Lj,take_succ→M4,take_length→NQ,length_append→Nt,nodup_cons→N7,mem_append_right→RW,getElem?_append_right→Sv,getElem?_append_left→Ss,mem_map→MF,all_eq_true→Q0,range→Lh,mem_of_getElem?→SM,replicate→R0,mem_range→QX,mem_append→S8,foldl_cons→S6,map_append→Sd,filterMap_cons_some→Uv,eq_nil_of_length_eq_zero→VD,nodup_nil→SX,length_range'→U4,mem_filter→T9,length_filter_le→Uu,mem_append_left→V3,drop_eq_getElem_cons→VR,getElem_mem→UG,getElem?_replicate→VN,mem_flatMap→Ur,all_cons→Tt,append_nil→Uk,drop_zero→Ug
open Int renaming mul_eq_zero→Gg,mul_ne_zero→M5,mul_zero→Ni,mul_comm→Og,zero_mul→QS,gcd→Nr,le_of_lt→Tn,natAbs_mul→Uc
open Option.some renaming inj→HS
open Nat renaming lt_of_lt_of_le→JB,le_refl→Ge,ne_of_lt→HI,le_trans→Hj,le_of_ble_eq_true→Oh,lt_irrefl→Mj,not_lt_zero→S5,lt_of_le_of_lt→TQ,ne_of_gt→RQ,beq→Ls,zero_le→RN,eq_of_beq_eq_true→V4,zero_add→T7,lt_succ_self→Ul,le_of_lt→Tq,le_succ→U0,ble→RM
open Bool renaming false_ne_true→LI,false_eq_true→Mp,and_eq_true→Nh,not_eq_true→U8
open Classical renaming byContradiction→Nm
open PySem.Builtin.SmallTypes renaming nextOf→Rf,ownedTupleIsFree→Vb
open PyProof.Rows renaming slot_tuple_getitem→T3,callWith_type1→V7,SortKind→Rt,kindOf→M7,Keyed→Kw,SortSt→Nf,AllBare→RK
open PySem.SeqAt renaming EqAt→Sx,ne_of_list_tuple→VJ
open Prod renaming ext→Hy
open PySem.PassesOwn renaming never→Ng
open PySem.SetTable renaming bits→N5,insertAt→Ra,layClean→agh,runEnd→U6,probe→U5
open Prod.mk renaming injEq→Mx
open PySem.Heap.SameBut renaming update→SJ
open Ne renaming symm→Jj
open PySem.Builtin.Int renaming intBits→Tf
open Option renaming map_eq_some_iff→Ub,getD_some→Uy
open PyProof.Rows.F renaming plain_set_update_loop→Ua
open PySem.F renaming slot_tuple_iterator_next→VF,called_set→Sg,slot_zip_next→VG
open PySem.SetTable.layClean renaming free→Uw
open PySem.Obj renaming data_mapFields→TV,isFreed_of_fields→V8
open PySem.Builtin.Slice renaming slicePlaces→VB
open PySem.Builtin.Tuple renaming tupleExact→V9
open PySem.Str renaming ofString→Rq
open False renaming elim→QT
open Array renaming length_toList→V0
namespace L2
open PySem PySem.Spec PyProof.Rows
abbrev Key:=Sum Int Str
def Y6:Key->Go->Bool
 | .inl k,v=>Value.isInt k v
 | .inr x,v=>Value.isStrOf x v
def ac4 (w:FZ):Key->Int
 | .inl k=>hashInt k
 | .inr x=>hashStr w x
theorem cg:∀ {k:Key} {v:Go},Y6 k v=true->(∃ i t,k=Sum.inl i/\v=Value.int i t)\/(∃ x t,k=Sum.inr x/\v=Value.str x t)
 | .inl i,v,h=>by
  obtain ⟨t,e⟩:=Value.isInt_shape (k:=i) (v:=v) h;exact .inl ⟨i,t,rfl,e⟩
 | .inr x,v,h=>by
  obtain ⟨t,e⟩:=Value.isStrOf_shape (x:=x) (v:=v) h;exact .inr ⟨x,t,rfl,e⟩
theorem Y9 (a b:Int):decide ((Sum.inl a:Key)=Sum.inl b)=(a==b):=by
 by_cases e:a=b
 ·subst e;simp
 ·have h:¬ (Sum.inl a:Key)=Sum.inl b:=fun q=>e (Sum.inl.inj q)
  rw [decide_eq_false h];exact (beq_eq_false_iff_ne.mpr e).symm
theorem agu (a b:Str):decide ((Sum.inr a:Key)=Sum.inr b)=decide (a=b):=by
 by_cases e:a=b
 ·subst e;simp
 ·have h:¬ (Sum.inr a:Key)=Sum.inr b:=fun q=>e (Sum.inr.inj q)
  rw [decide_eq_false h,decide_eq_false e]
theorem Xg (a:Int)(b:Str):decide ((Sum.inl a:Key)=Sum.inr b)=false:=decide_eq_false (fun q=>nomatch q)
theorem YG (a:Str)(b:Int):decide ((Sum.inr a:Key)=Sum.inl b)=false:=decide_eq_false (fun q=>nomatch q)
def Bf (prog:Fb)(w:FZ):PySem.KeyKind prog w Key where
 is:=Y6
 hash:=ac4 w
 inj:=fun v a b ha hb=>by
  rcases cg ha with ⟨i,t,rfl,rfl⟩ | ⟨x,t,rfl,rfl⟩
  ·rcases cg hb with ⟨j,u,rfl,e⟩ | ⟨y,u,rfl,e⟩
   ·injection e with e1 _;rw [e1]
   ·exact nomatch e
  ·rcases cg hb with ⟨j,u,rfl,e⟩ | ⟨y,u,rfl,e⟩
   ·exact nomatch e
   ·injection e with e1 _;rw [e1]
 byValue:=fun k v h=>by
  rcases cg h with ⟨i,t,rfl,rfl⟩ | ⟨x,t,rfl,rfl⟩ <;> rfl
 pyHash:=fun hv h=>by
  rcases cg hv with ⟨i,t,rfl,rfl⟩ | ⟨x,t,rfl,rfl⟩
  ·exact wpAny_pyHash_int h
  ·exact wpAny_pyHash_str h
 eqBool:=fun hu hv h=>by
  rcases cg hu with ⟨i,t,rfl,rfl⟩ | ⟨x,t,rfl,rfl⟩
  ·rcases cg hv with ⟨j,u,rfl,rfl⟩ | ⟨y,u,rfl,rfl⟩
   ·rw [Y9] at h;exact wpAny_eqBool_int h
   ·rw [Xg] at h;exact SeqAt.EqAt.int_str i t y u _ _ _ _ h
  ·rcases cg hv with ⟨j,u,rfl,rfl⟩ | ⟨y,u,rfl,rfl⟩
   ·rw [YG] at h;exact SeqAt.EqAt.str_int x t j u _ _ _ _ h
   ·rw [agu] at h;exact wpAny_eqBool_str h
 «strs»:=fun k x t v h=>by
  rcases cg h with ⟨i,u,rfl,e⟩ | ⟨y,u,rfl,e⟩
  ·exact nomatch e
  ·injection e with e1 _
   subst e1;cases v <;> rfl
inductive V where
 | non | bl (b:Bool) | int (i:Int) | str (x:Str) | byt (b:Array UInt8) | flt (b:UInt64) | ref (a:Addr) | ty (n:String)
 deriving DecidableEq
def RelV:V->Go->Prop
 | .non,u=>u=Value.none
 | .bl b,u=>u=Value.bool b
 | .int i,u=>∃ t,u=Value.int i t
 | .str x,u=>∃ t,u=Value.str x t
 | .byt b,u=>∃ t,u=Value.bytes b t
 | .flt b,u=>∃ t,u=Value.float b t
 | .ref a,u=>u=Value.ref a
 | .ty n,u=>u=Value.type n
abbrev Bp:List V->List Go->Prop:=Rv RelV
theorem Bp.length {xs:List V}{us:List Go}(r:Bp xs us):xs.length=us.length:=Paired.length r
theorem Bp.get:∀ {xs:List V} {us:List Go} {i:Nat} {x:V},Bp xs us->xs[i]?=Dn x->∃ u,us[i]?=Dn u/\RelV x u
 | _,_,_,_,.nil,e=>by simp at e
 | _,_,0,_,.cons r _,e=>by simp at e;subst e;exact ⟨_,rfl,r⟩
 | _,_,i+1,x,.cons _ t,e=>by
  obtain ⟨u,h1,h2⟩:=Bp.get (i:=i) (x:=x) t (by simpa using e);exact ⟨u,by simpa using h1,h2⟩
theorem Bp.set {x:V}{u:Go}(r:RelV x u):∀ {xs:List V} {us:List Go} (i:Nat),Bp xs us->Bp (xs.set i x) (us.set i u)
 | _,_,_,.nil=>.nil
 | _,_,0,.cons _ t=>.cons r t
 | _,_,i+1,.cons q t=>.cons q (Bp.set r i t)
theorem Bp.append:∀ {xs ys:List V} {us ws:List Go},Bp xs us->Bp ys ws->Bp (xs++ys) (us++ws)
 | _,_,_,_,.nil,s=>s
 | _,_,_,_,.cons r t,s=>.cons r (Bp.append t s)
theorem Bp.take:∀ {xs:List V} {us:List Go} (n:Nat),Bp xs us->Bp (xs.take n) (us.take n)
 | _,_,0,_=>.nil
 | _,_,_+1,.nil=>.nil
 | _,_,n+1,.cons r t=>.cons r (Bp.take n t)
theorem Bp.drop:∀ {xs:List V} {us:List Go} (n:Nat),Bp xs us->Bp (xs.drop n) (us.drop n)
 | _,_,0,r=>r
 | _,_,_+1,.nil=>.nil
 | _,_,n+1,.cons _ t=>Bp.drop n t
def acW:Option V->Option Go->Prop
 | some v,Dn u=>RelV v u
 | none,FX=>True
 | _,_=>False
def KV {κ : Type}:List (κ×V)->List (κ×Go)->Prop:=Rv fun (p:κ×V) (q:κ×Go)=>p.1=q.1/\RelV p.2 q.2
def kV:Key->V
 | .inl i=>.int i
 | .inr x=>.str x
inductive HO where
 | lst (xs:List V)
 | tup (xs:List V)
 | dK (kvs:List (Key×V)) | dT (kvs:List (List Key×V))
 | set (S:Int->Bool) (n:Nat)
 | ins (C dx:Addr) (fs:List (Str×V))
 | own (x:Addr)
 | xd (fs:List (Str×V))
 | met (f x:Addr)
 | rng (lo hi:Int)
 | frz (o:Obj) (u:HO)
 | tbl (ps:Array Go)
 | ext (φ : Heap->Prop)
abbrev Hp:=Addr->Option HO
def Fy (H:Hp)(a:Addr)(o:HO):Hp:=fun b=>if b=a then Dn o else H b
theorem bQ {H:Hp}{a:Addr}{o:HO}:Fy H a o a=Dn o:=by unfold Fy;rw [if_pos rfl]
theorem aN {H:Hp}{a b:Addr}{o:HO}(h:b≠a):Fy H a o b=H b:=by unfold Fy;rw [if_neg h]
theorem aU {H:Hp}{a b:Addr}{o:HO}(h:H a=Dn o)(h':H b=FX):a≠b:=by
 intro e;subst e;rw [h] at h';cases h'
section
variable (P:Fb)(w:FZ)
def M9 (h:Heap)(a:Addr)(items:Array Go):Prop:=∃ o,h.get? a=Dn o/\o.cls=.type "tuple"/\(∃ n,o.data=.seq items n)/\o.dict=FX
theorem M9.tup {h:Heap}{a:Addr}{items:Array Go}(x:M9 h a items):IsTup h a items:=let ⟨o,ho,hc,hd,_⟩:=x;⟨o,ho,hc,hd⟩
theorem M9.new (h:Heap)(items:Array Go):M9 (h.push { cls:=.type "tuple",data:=.seq items }) h.objs.size items:=⟨_,Jp _ rfl,rfl,⟨_,rfl⟩,rfl⟩
def lN (H:Hp)(h:Heap)(a:Addr):HO->Prop
 | .lst xs=>xs.length<=Gb/\∃ (its:List Go) (n:Nat),Bp xs its/\h.get? a=Dn { cls:=.type "list",data:=.seq its.toArray n }
 | .tup xs=>xs.length<=Gb/\∃ its:List Go,Bp xs its/\M9 h a its.toArray
 | .dK kvs=>kvs.length<=Gb/\(a==sysModules)=false/\∃ vs,KV kvs vs/\h.DictOf (Bf P w) a vs
 | .dT kvs=>kvs.length<=Gb/\(a==sysModules)=false/\∃ xs:List (List Key×Addr×Go),
   Rv (fun (p:List Key×V) (q:List Key×Addr×Go)=>p.1=q.1/\H q.2.1=Dn (.tup (p.1.map kV))/\RelV p.2 q.2.2) kvs xs /\
   ∃ o es ep,h.get? a=Dn o/\o.ExactDict/\o.data=.dict es ep/\es.toList=xs.map (entryOfKey (tupleKind (Bf P w)))/\(xs.map (·.1)).Nodup
 | .set S n=>h.SetOf (La P w) a S n
 | .ins C dx fs=>H dx=Dn (.own a)/\fs.length<=1000/\dx≠a/\h.get? a=Dn (PySem.W.instObj C dx) /\
   ∃ mA,h.Ns1 dx mA/\(∀ f,acW (fs.lookup f) (mA f))/\PySem.Within mA (fs.map (·.1))
 | .own _=>∃ o,h.get? a=Dn o
 | .xd fs=>∃ mA,h.Ns1 a mA/\∀ f,acW (fs.lookup f) (mA f)
 | .rng lo hi=>∃ t u v,h.get? a=Dn { cls:=.type "range",data:=.fields #[.int lo t,.int hi u,.int 1 v] }
 | .frz o u=>h.get? a=Dn o/\lN H h a u
 | .tbl ps=>h.get? a=Dn { cls:=.none,data:=.fields ps }
 | .met f x=>h.get? a=Dn (PySem.W.methodObj (.ref f) (.ref x))
 | .ext φ=>φ h/\(∃ o,h.get? a=Dn o)/\∀ h1 h2:Heap,φ h1->(∀ o,h1.get? a=Dn o->h2.get? a=Dn o)->φ h2
def KD (H:Hp)(h:Heap):Prop:=∀ a o,H a=Dn o->lN P w H h a o
end
section
variable {P:Fb}{w:FZ}{H H':Hp}{h h':Heap}{a:Addr}{o:HO}
theorem lN.lt (x:lN P w H h a o):a<h.objs.size:=by
 cases o with
 | lst xs=>obtain ⟨_,_,_,_,e⟩:=x;exact Ga e
 | tup xs=>obtain ⟨_,_,_,p⟩:=x;exact p.tup.lt
 | dK kvs=>obtain ⟨_,_,_,_,o,_,_,e,_⟩:=x;exact Ga e
 | dT kvs=>obtain ⟨_,_,_,_,o,_,_,e,_⟩:=x;exact Ga e
 | set S n=>obtain ⟨o,_,_,_,e,_⟩:=x;exact Ga e
 | ins C dx fs=>obtain ⟨_,_,_,e,_⟩:=x;exact Ga e
 | own y=>obtain ⟨_,e⟩:=x;exact Ga e
 | xd fs=>obtain ⟨_,⟨_,_,_,e,_⟩,_⟩:=x;exact Ga e
 | rng lo hi=>obtain ⟨_,_,_,e⟩:=x;exact Ga e
 | frz ob u=>obtain ⟨e,_⟩:=x;exact Ga e
 | tbl ps=>exact Ga (show h.get? a=Dn _ from x)
 | met f y=>exact Ga (show h.get? a=Dn _ from x)
 | ext φ=>obtain ⟨_,⟨_,e⟩,_⟩:=x;exact Ga e
theorem Paired.mapP {α β : Type}{F G:α->β->Prop}:∀ {l₁ : List α} {l₂ : List β},Rv F l₁ l₂->(∀ a b,F a b->G a b)->Rv G l₁ l₂
 | _,_,.nil,_=>.nil
 | _,_,.cons r t,f=>.cons (f _ _ r) (Paired.mapP t f)
theorem lN.stay (x:lN P w H h a o)(k:∀ b u,(b=a\/H b=Dn (.own a))->h.get? b=Dn u->h'.get? b=Dn u)
  (ho:∀ b,H b=Dn (.own a)->H' b=Dn (.own a)) (ht:∀ b xs,H b=Dn (.tup xs)->H' b=Dn (.tup xs)):lN P w H' h' a o:=by
 induction o with
 | lst xs=>obtain ⟨z,its,n,r,e⟩:=x;exact ⟨z,its,n,r,k _ _ (.inl rfl) e⟩
 | tup xs=>obtain ⟨z,its,r,ob,e,c⟩:=x;exact ⟨z,its,r,ob,k _ _ (.inl rfl) e,c⟩
 | dK kvs=>obtain ⟨z,y,vs,r,ob,es,ep,e,c⟩:=x;exact ⟨z,y,vs,r,ob,es,ep,k _ _ (.inl rfl) e,c⟩
 | dT kvs=>
  obtain ⟨z,y,xs,r,ob,es,ep,e,c⟩:=x;exact ⟨z,y,xs,Paired.mapP r fun p q z=>⟨z.1,ht _ _ z.2.1,z.2.2⟩,ob,es,ep,k _ _ (.inl rfl) e,c⟩
 | set S n=>obtain ⟨ob,es,ep,t,e,c⟩:=x;exact ⟨ob,es,ep,t,k _ _ (.inl rfl) e,c⟩
 | ins C dx fs=>
  obtain ⟨d,z,ne,e,mA,⟨od,es,ep,e2,c⟩,r⟩:=x;exact ⟨ho _ d,z,ne,k _ _ (.inl rfl) e,mA,⟨od,es,ep,k _ _ (.inr d) e2,c⟩,r⟩
 | own y=>obtain ⟨ob,e⟩:=x;exact ⟨ob,k _ _ (.inl rfl) e⟩
 | xd fs=>obtain ⟨mA,⟨od,es,ep,e,c⟩,r⟩:=x;exact ⟨mA,⟨od,es,ep,k _ _ (.inl rfl) e,c⟩,r⟩
 | rng lo hi=>obtain ⟨t,u,v,e⟩:=x;exact ⟨t,u,v,k _ _ (.inl rfl) e⟩
 | frz ob u ih=>obtain ⟨e,q⟩:=x;exact ⟨k _ _ (.inl rfl) e,ih q⟩
 | tbl ps=>
  have e:h.get? a=Dn { cls:=.none,data:=.fields ps }:=x;show h'.get? a=Dn { cls:=.none,data:=.fields ps };exact k a _ (.inl rfl) e
 | met f y=>
  have e:h.get? a=Dn (PySem.W.methodObj (.ref f) (.ref y)):=x;show h'.get? a=Dn (PySem.W.methodObj (.ref f) (.ref y));exact k a _ (.inl rfl) e
 | ext φ=>obtain ⟨p,⟨o,e⟩,st⟩:=x;exact ⟨st _ _ p fun o q=>k _ _ (.inl rfl) q,⟨o,k _ _ (.inl rfl) e⟩,st⟩
theorem KD.lt (x:KD P w H h)(e:H a=Dn o):a<h.objs.size:=(x a o e).lt
theorem KD.fresh (x:KD P w H h)(e:h.objs.size<=a):H a=FX:=by
 cases q:H a with
 | none=>rfl
 | some u=>exact absurd (JB (x.lt q) e) (Mj _)
theorem KD.kept (x:KD P w H h)(k:∀ b u,h.get? b=Dn u->h'.get? b=Dn u):KD P w H h':=fun a o e=>
 (x a o e).stay (fun b u _ q=>k b u q) (fun _ q=>q) fun _ _ q=>q
theorem KD.laid (x:KD P w H h)(k:∀ b u,h.get? b=Dn u->h'.get? b=Dn u)(hp:h.objs.size<=a)(new:lN P w (Fy H a o) h' a o):KD P w (Fy H a o) h':=fun b u e=>by
 have hn:=x.fresh hp;by_cases hb:b=a
 ·subst hb;rw [bQ] at e;cases e;exact new
 ·rw [aN hb] at e;exact (x b u e).stay (fun c v _ q=>k c v q) (fun c q=>by rw [aN (aU q hn)];exact q) fun c xs q=>by rw [aN (aU q hn)];exact q
end
def Rd (H:Hp)(a:Addr)(u:HO):Prop:=H a=Dn u\/∃ o,H a=Dn (.frz o u)
theorem Rd.ok {P:Fb}{w:FZ}{H:Hp}{h:Heap}{a:Addr}{u:HO}(r:Rd H a u)(x:KD P w H h):lN P w H h a u:=by
 rcases r with r | ⟨o,r⟩
 ·exact x a u r
 ·obtain ⟨_,q⟩:=x a _ r;exact q
def Mut:Option HO->Prop
 | some (.lst _)=>True
 | some (.dK _)=>True
 | some (.dT _)=>True
 | some (.set _ _)=>True
 | some (.ins _ _ _)=>True
 | some (.ext _)=>True
 | _=>False
section
variable {P:Fb}{w:FZ}{H:Hp}{h h':Heap}{x e:Addr}{o':HO}
theorem KD.write (ok:KD P w H h)(mu:Mut (H x))(he:e=x\/H e=Dn (.own x))(k:∀ b u,b≠e->h.get? b=Dn u->h'.get? b=Dn u)(heo:∃ u,h'.get? e=Dn u)
  (new:lN P w (Fy H x o') h' x o'):KD P w (Fy H x o') h':=fun b u q=>by
 have nown:∀ c y,H c=Dn (.own y)->c≠x:=fun c y r z=>by subst z;rw [r] at mu;exact mu
 have ntup:∀ c xs,H c=Dn (.tup xs)->c≠x:=fun c xs r z=>by subst z;rw [r] at mu;exact mu
 by_cases hb:b=x
 ·subst hb;rw [bQ] at q;cases q;exact new
 ·rw [aN hb] at q;by_cases hbe:b=e
  ·have q':H b=Dn (.own x):=by
    rcases he with z | z
    ·exact absurd (hbe.trans z) hb
    ·rw [hbe];exact z
   rw [q] at q';cases q';obtain ⟨v,hv⟩:=heo;exact ⟨v,by rw [hbe];exact hv⟩
  ·refine (ok b u q).stay (fun c v hc r=>k c v ?_ r) (fun c r=>by rw [aN (nown c b r)];exact r) fun c xs r=>by rw [aN (ntup c xs r)];exact r
   rcases hc with rfl | hc
   ·exact hbe
   ·rintro rfl;rcases he with z | z
    ·exact nown c b hc z
    ·rw [hc] at z;cases z;exact hb rfl
end
structure Un (fs ex:List Addr) (H H':Hp) (h h':Heap):Prop where
 keep:∀ b o,h.get? b=Dn o->H b=FX->b∉fs->b∉ex->h'.get? b=Dn o
 slot:∀ b o,h.get? b=Dn o->H b=FX->b∈fs->b∉ex->∃ sl,h'.get? b=Dn { o with slots:=sl }
 free:∀ b o,h.get? b=Dn o->H b=FX->b∉ex->H' b=FX
 there:∀ b o,h.get? b=Dn o->b∉ex->∃ o',h'.get? b=Dn o'
 tups:∀ b xs,H b=Dn (.tup xs)->H' b=Dn (.tup xs)
 frzs:∀ b o u,H b=Dn (.frz o u)->H' b=Dn (.frz o u)
 tbls:∀ b ps,H b=Dn (.tbl ps)->∃ more,H' b=Dn (.tbl (ps++more))
section
variable {fs fs' ex ex':List Addr}{H H1 H2:Hp}{h h1 h2 h':Heap}{a x e:Addr}{o:HO}
theorem Un.any (u:Un fs ex H H1 h h1){b:Addr}{ob:Obj}(q:h.get? b=Dn ob)(n:H b=FX)(hx:b∉ex):∃ sl,h1.get? b=Dn { ob with slots:=sl }:=by
 by_cases hb:b∈fs
 ·exact u.slot b ob q n hb hx
 ·exact ⟨ob.slots,u.keep b ob q n hb hx⟩
theorem Un.kept (k:∀ b u,h.get? b=Dn u->h'.get? b=Dn u):Un fs ex H H h h':=
 ⟨fun b ob q _ _ _=>k b ob q,fun b ob q _ _ _=>⟨ob.slots,k b ob q⟩,fun _ _ _ n _=>n,fun b ob q _=>⟨ob,k b ob q⟩,fun _ _ q=>q,fun _ _ _ q=>q,fun _ ps q=>⟨#[],by rw [q];simp⟩⟩
theorem Un.refl:Un fs ex H H h h:=Un.kept fun _ _ q=>q
theorem Un.laid (k:∀ b u,h.get? b=Dn u->h'.get? b=Dn u)(hp:h.objs.size<=a)(hn:H a=FX):Un fs ex H (Fy H a o) h h' where
 keep:=fun b u q _ _ _=>k b u q
 slot:=fun b u q _ _ _=>⟨u.slots,k b u q⟩
 free:=fun b u q n _=>by rw [aN (HI (JB (Ga q) hp))];exact n
 there:=fun b u q _=>⟨u,k b u q⟩
 tups:=fun b xs q=>by rw [aN (aU q hn)];exact q
 frzs:=fun b u xs q=>by rw [aN (aU q hn)];exact q
 tbls:=fun b ps q=>⟨#[],by rw [aN (aU q hn),q];simp⟩
theorem Un.write (mu:Mut (H x))(he:e=x\/H e=Dn (.own x))(k:∀ b u,b≠e->h.get? b=Dn u->h'.get? b=Dn u)(heo:∃ u,h'.get? e=Dn u):Un fs ex H (Fy H x o) h h':=by
 have hx:∀ b,H b=FX->b≠x:=fun b n z=>by subst z;rw [n] at mu;exact mu
 have hb:∀ b,H b=FX->b≠e:=fun b n z=>by
  subst z;rcases he with r | r
  ·exact hx b n r
  ·rw [n] at r;cases r
 have hm:∀ b u,H b=Dn u->¬ Mut (Dn u)->b≠x:=fun b u q nm z=>by subst z;rw [q] at mu;exact nm mu
 refine ⟨fun b u q n _ _=>k b u (hb b n) q,fun b u q n _ _=>⟨u.slots,k b u (hb b n) q⟩,fun b u q n _=>by rw [aN (hx b n)];exact n,fun b u q _=>?_,
  fun b xs q=>by rw [aN (hm b _ q fun z=>z)];exact q,fun b u xs q=>by rw [aN (hm b _ q fun z=>z)];exact q,fun b ps q=>⟨#[],by rw [aN (hm b _ q fun z=>z),q];simp⟩⟩
 by_cases hbe:b=e
 ·subst hbe;exact heo
 ·exact ⟨u,k b u hbe q⟩
end
def trk (h:Heap)(H:Hp):List Addr:=(Lh h.objs.size).filter fun a=>(H a).isSome
def MN (h:Heap)(H:Hp):Heap:=PySem.W.hideAll h (trk h H)
theorem zaC (h:Heap)(H:Hp):(MN h H).objs.size=h.objs.size:=PySem.W.hideAll_size _ _
theorem aeD {h:Heap}{H:Hp}{b:Addr}{o:Obj}(e:h.get? b=Dn o)(n:H b=FX):(MN h H).get? b=Dn o:=
 PySem.W.hideAll_get _ e fun hm=>by
  have q:(H b).isSome=true:=(T9.mp hm).2;rw [n] at q;simp at q
theorem afK {h:Heap}{H:Hp}{b:Addr}{o:Obj}(e:(MN h H).get? b=Dn o):h.get? b=Dn o/\H b=FX:=by
 have e':h.get? b=Dn o:=PySem.W.of_hideAll (trk h H) e;refine ⟨e',?_⟩;cases q:H b with
 | none=>rfl
 | some x=>
  have hm:b∈trk h H:=T9.mpr ⟨QX.mpr (Ga e'),by simp [q]⟩;have z:(MN h H).get? b=FX:=PySem.W.hideAll_none (trk h H) hm;rw [z] at e;cases e
def ahj (g h:Heap)(L:Addr):List (Addr×Obj):=(Lh h.objs.size).filterMap fun a=>if a=L\/(g.get? a).isSome=true then FX else (h.get? a).map fun o=>(a,o)
def rest (g h:Heap)(L d:Addr):List (Addr×Obj):=(ahj g h L).filter fun p=>decide (p.1≠d)
structure Mod (K:Ai) (mg:Str->Option Go) (base:Heap):Prop where
 kin:K.In base
 glob:base.Ns JW mg
 blt:∃ mb,base.Ns builtinsNs mb/\∀ x:Str,x ≠ "__name__"->mb x=RP x
 nolimit:base.NoLimit
structure Cx where
 prog:Fb
 w:FZ
 K:Ai
 mg:Str->Option Go
 base:Heap
 A:Fd
 N:List Str
 s₀ : AP
 H₀ : Hp
 env:Env
 outer:List Env
 stack:List Env
 ex:List Addr
 fn:Str->Bool
 calm:Bool
 pn:List (Addr×Obj)
 xe:Go->AP->Prop
def frs (l:List Env):List Addr:=l.filterMap (·.frame)
abbrev Cx.fs (X:Cx):List Addr:=frs X.outer
def Vis (sc:Scope)(x:Str):Prop:=sc.names.lookup x=Dn .local\/sc.names.lookup x=Dn .cell\/sc.names.lookup x=Dn .free
def Loc (sc:Scope)(x:Str):Prop:=sc.names.lookup x=Dn .local\/sc.names.lookup x=Dn .cell
def Look (env:Env)(h:Heap)(m:Str->Option Go)(x:Str)(u:Go):Prop:=
 (env.kindOf x=Dn .local/\m x=Dn u)\/((env.kindOf x=Dn .cell\/env.kindOf x=Dn .free)/\∃ c,env.cells.lookup x=Dn c/\h.IsCell c (Dn u))
inductive Rj (H:Hp):Go->Prop
 | nil:Rj H .none
 | cons {c:Addr} {o:Obj} {u:HO} {vs:Array Go} {z:Go} (h1:H c=Dn (.frz o u)) (h2:o.data=.fields vs) (h3:vs[2]?=Dn z) (t:Rj H z):Rj H (.ref c)
theorem Rj.mono {H H':Hp}{v:Go}(c:Rj H v)(k:∀ a o u,H a=Dn (.frz o u)->H' a=Dn (.frz o u)):Rj H' v:=by
 induction c with
 | nil=>exact .nil
 | cons h1 h2 h3 _ ih=>exact .cons (k _ _ _ h1) h2 h3 ih
def Still (H:Hp)(v:Go):Prop:=(∃ a,v=.ref a)/\Rj H v
def Quiet (A:Fd)(H:Hp):Prop:=∀ v,A.handled=Dn v->Still H v
structure Cx.Ok (X:Cx):Prop where
 mod:Mod X.K X.mg X.base
 kind:X.env.scope.kind=.function
 glob:X.env.globals=JW
 blt:X.env.builtins=builtinsNs
 above:X.s₀.heap.objs.size<=X.env.locals
 inj:∀ x y c,X.env.cells.lookup x=Dn c->X.env.cells.lookup y=Dn c->x=y
 has:∀ x,(X.env.kindOf x=Dn .cell\/X.env.kindOf x=Dn .free)->∃ c,X.env.cells.lookup x=Dn c
 cab:∀ x c,X.fn x=true->X.env.cells.lookup x=Dn c->X.s₀.heap.objs.size<=c
 hd:X.calm=true->X.A.handled=FX
 qt:Quiet X.A X.H₀
 frames:X.A.frames=Dn X.stack
 stk:X.stack=X.outer\/(X.stack=X.env::X.outer/\X.env.frame=Dn X.env.locals)
 exf:∀ b∈X.ex,b≠X.env.locals/\∀ x c,X.env.cells.lookup x=Dn c->c≠b
 bs:∀ b o,X.base.get? b=Dn o->X.s₀.heap.get? b=Dn o/\X.H₀ b=FX
 bsz:X.base.objs.size<=X.s₀.heap.objs.size
 noex:∀ b o,X.base.get? b=Dn o->b∉X.ex
 exfs:∀ b∈X.ex,b∉X.fs
 funs:X.s₀.heap.FunFrames X.base X.outer
 frf:∀ b∈X.fs,X.H₀ b=FX
structure Ag (X:Cx) (pins:List (Addr×Obj)) (σ : List (Option V)) (H:Hp) (s:AP):Prop where
 ok:X.Ok
 os:s.os=X.s₀.os
 bare:RK s.gens
 base:Un X.fs X.ex X.H₀ H X.s₀.heap s.heap
 loc:∃ m,s.heap.Ns X.env.locals m/\∀ (i:Nat) (x:Str) (v:V),X.N[i]?=Dn x->σ[i]?=Dn (Dn v)->Vis X.env.scope x->∃ u,RelV v u/\Look X.env s.heap m x u
 cell:∀ x c,X.env.cells.lookup x=Dn c->∃ v,s.heap.IsCell c v
 free:H X.env.locals=FX
 freeC:∀ x c,X.env.cells.lookup x=Dn c->H c=FX
 pin:∀ p∈X.pn++pins,s.heap.get? p.1=Dn p.2/\H p.1=FX/\p.1≠X.env.locals/\p.1∉X.fs/\∀ v,p.2.data≠.cell v
 hok:KD X.prog X.w H s.heap
 len:σ.length=X.N.length
section
variable {X:Cx}{pins:List (Addr×Obj)}{σ : List (Option V)}{H H':Hp}{s:AP}{h':Heap}
theorem Cx.Ok.nofr (ok:X.Ok){b:Addr}{o:Obj}(e:X.base.get? b=Dn o):b∉X.fs:=fun hb=>by
 have:=(ok.funs.mem hb).1
 rw [e] at this;cases this
theorem Ag.bs (I:Ag X pins σ H s):∀ b o,X.base.get? b=Dn o->s.heap.get? b=Dn o/\H b=FX:=fun b o e=>
 ⟨I.base.keep b o (I.ok.bs b o e).1 (I.ok.bs b o e).2 (I.ok.nofr e) (I.ok.noex b o e),I.base.free b o (I.ok.bs b o e).1 (I.ok.bs b o e).2 (I.ok.noex b o e)⟩
theorem Ag.qt0 (I:Ag X pins σ H s):Quiet X.A H:=fun v e=>⟨(I.ok.qt v e).1,(I.ok.qt v e).2.mono I.base.frzs⟩
theorem Ag.bk (I:Ag X pins σ H s):∀ b o,X.base.get? b=Dn o->s.heap.get? b=Dn o:=fun b o e=>(I.bs b o e).1
theorem Ag.mod (I:Ag X pins σ H s):Mod X.K X.mg X.base:=I.ok.mod
theorem Ag.kIn (I:Ag X pins σ H s):X.K.In s.heap:=I.ok.mod.kin.keeps I.bk
theorem Ag.lt (I:Ag X pins σ H s):X.env.locals<s.heap.objs.size:=let ⟨_,hn,_⟩:=I.loc;hn.lt
theorem Ag.sz (I:Ag X pins σ H s):X.s₀.heap.objs.size<=s.heap.objs.size:=Hj I.ok.above (Tq I.lt)
theorem Ag.nofs (I:Ag X pins σ H s){a:Addr}(h:s.heap.objs.size<=a):a∉X.fs:=fun hb=>by
 obtain ⟨_,o,ho,_⟩:=I.ok.funs.mem hb;exact absurd (JB (Ga ho)<|Hj I.sz h)<|Mj _
theorem Ag.cne (I:Ag X pins σ H s):∀ x c,X.env.cells.lookup x=Dn c->c≠X.env.locals:=fun x c e z=>by
 obtain ⟨v,o,ho,hd⟩:=I.cell x c e;obtain ⟨m,⟨o',es,ep,ho',hd',_⟩,_⟩:=I.loc;rw [z,ho'] at ho;cases ho;rw [hd'] at hd;cases hd
theorem Ag.funs (I:Ag X pins σ H s):s.heap.FunFrames X.base X.outer:=by
 have all:∀ (l:List Env),(∀ b∈frs l,b∈X.fs)->X.s₀.heap.FunFrames X.base l->s.heap.FunFrames X.base l:=by
  intro l;induction l with
  | nil=>intro _ _;trivial
  | cons env r ih=>
   intro hs hl;obtain ⟨hk,⟨L,o,hf,hn,ho,hd⟩,hr⟩:=hl;have hL:L∈X.fs:=hs L (by unfold frs;rw [List.filterMap_cons,hf];exact MJ);obtain ⟨sl,e⟩:=I.base.slot L o ho (I.ok.frf L hL) hL fun z=>I.ok.exfs L z hL
   exact ⟨hk,⟨L,_,hf,hn,e,hd⟩,ih (fun b hb=>hs b (by unfold frs;rw [List.filterMap_cons,hf];exact MK _ hb)) hr⟩
 exact all X.outer (fun _ hb=>hb) I.ok.funs
theorem Ag.stack (I:Ag X pins σ H s):s.heap.FunFrames X.base X.stack:=by
 rcases I.ok.stk with e | ⟨e,hf⟩
 ·rw [e];exact I.funs
 ·rw [e];obtain ⟨m,hn,_⟩:=I.loc;refine .cons (by rw [I.ok.kind];decide) hf hn ?_ I.funs;exact Heap.get?_none_of_le<|Hj I.ok.bsz I.ok.above
theorem Ag.stkSub (I:Ag X pins σ H s):∀ b∈frs X.stack,b∈X.env.locals::X.fs:=fun b hb=>by
 rcases I.ok.stk with e | ⟨e,hf⟩
 ·rw [e] at hb;exact MK _ hb
 ·rw [e] at hb;unfold frs at hb;rw [List.filterMap_cons,hf] at hb;exact hb
theorem Ag.stkFree (I:Ag X pins σ H s):∀ b∈frs X.stack,H b=FX:=fun b hb=>by
 rcases Fe.mp (I.stkSub b hb) with e | hb
 ·rw [e];exact I.free
 ·obtain ⟨_,o,ho,_⟩:=I.ok.funs.mem hb;exact I.base.free b o ho (I.ok.frf b hb) fun z=>I.ok.exfs b z hb
theorem Ag.stepG {g':Array GenState}{t':Nat}{d':Drawn}{ch:List Addr}(I:Ag X pins σ H s)
  (hch:∀ b∈ch,(b∈X.ex\/X.s₀.heap.get? b=FX)/\b≠X.env.locals/\(∀ x c,X.env.cells.lookup x=Dn c->c≠b)/\∀ p∈X.pn++pins,p.1≠b)
  (keep:∀ b o,b≠X.env.locals->b∉X.fs->b∉ch->s.heap.get? b=Dn o->H b=FX->h'.get? b=Dn o)
  (slot:∀ b o,b≠X.env.locals->b∈X.fs->b∉ch->s.heap.get? b=Dn o->H b=FX->∃ sl,h'.get? b=Dn { o with slots:=sl }) (free:∀ b o,b∉ch->s.heap.get? b=Dn o->H b=FX->H' b=FX)
  (there:∀ b o,b∉ch->s.heap.get? b=Dn o->∃ o',h'.get? b=Dn o')
  (tups:∀ b xs,H b=Dn (.tup xs)->H' b=Dn (.tup xs)) (frzs:∀ b o u,H b=Dn (.frz o u)->H' b=Dn (.frz o u)) (tbls:∀ b ps,H b=Dn (.tbl ps)->∃ more,H' b=Dn (.tbl (ps++more)))
  (ns:∀ m,s.heap.Ns X.env.locals m->h'.Ns X.env.locals m) (hok:KD X.prog X.w H' h') (hg:RK g') :
  Ag X pins σ H' { s with heap:=h',gens:=g',drawn:=d',toks:=t' }:=by
 have neL:∀ b o,X.s₀.heap.get? b=Dn o->b≠X.env.locals:=fun b o e=>HI (JB (Ga e) I.ok.above)
 have neC:∀ b o,X.s₀.heap.get? b=Dn o->b∉X.ex->b∉ch:=fun b o e hx hb=>by
  rcases (hch b hb).1 with z | z
  ·exact hx z
  ·rw [z] at e;cases e
 have cellK:∀ x c,X.env.cells.lookup x=Dn c->∀ v,s.heap.IsCell c v->h'.IsCell c v:=fun x c e v ⟨o,ho,hd⟩=>by
  have nch:c∉ch:=fun z=>(hch c z).2.2.1 x c e rfl
  by_cases hc:c∈X.fs
  ·obtain ⟨sl,q⟩:=slot c o (I.cne x c e) hc nch ho (I.freeC x c e);exact ⟨_,q,hd⟩
  ·exact ⟨o,keep c o (I.cne x c e) hc nch ho<|I.freeC x c e,hd⟩
 refine ⟨I.ok,I.os,hg,⟨fun b o e n hb hx=>?_,fun b o e n hb hx=>?_,fun b o e n hx=>?_,fun b o e hx=>?_,fun b xs e=>tups b xs<|I.base.tups b xs e,fun b o xs e=>frzs b o xs<|I.base.frzs b o xs e,fun b ps e=>?_⟩,?_,fun x c e=>?_,?_,fun x c e=>?_,fun p hp=>?_,hok,I.len⟩
 ·exact keep b o (neL b o e) hb (neC b o e hx) (I.base.keep b o e n hb hx)<|I.base.free b o e n hx
 ·obtain ⟨sl,e1⟩:=I.base.slot b o e n hb hx;obtain ⟨sl',e2⟩:=slot b _ (neL b o e) hb (neC b o e hx) e1 (I.base.free b o e n hx);exact ⟨sl',e2⟩
 ·obtain ⟨o',e1⟩:=I.base.there b o e hx;exact free b o' (neC b o e hx) e1<|I.base.free b o e n hx
 ·obtain ⟨o',e1⟩:=I.base.there b o e hx;exact there b o' (neC b o e hx) e1
 ·obtain ⟨m1,e1⟩:=I.base.tbls b ps e;obtain ⟨m2,e2⟩:=tbls b _ e1;exact ⟨m1++m2,by rw [e2,Array.append_assoc]⟩
 ·obtain ⟨m,hn,hl⟩:=I.loc;refine ⟨m,ns m hn,fun i x v e1 e2 e3=>?_⟩;obtain ⟨u,r,l⟩:=hl i x v e1 e2 e3;refine ⟨u,r,?_⟩;rcases l with l | ⟨k,c,e,z⟩
  ·exact .inl l
  ·exact .inr ⟨k,c,e,cellK x c e _ z⟩
 ·obtain ⟨v,z⟩:=I.cell x c e;exact ⟨v,cellK x c e v z⟩
 ·obtain ⟨m,⟨o,_,_,ho,_⟩,_⟩:=I.loc;exact free _ o (fun z=>(hch _ z).2.1 rfl) ho I.free
 ·obtain ⟨v,o,ho,hd⟩:=I.cell x c e;exact free c o (fun z=>(hch c z).2.2.1 x c e rfl) ho<|I.freeC x c e
 ·obtain ⟨e,n,ne,nf,d⟩:=I.pin p hp;have nch:p.1∉ch:=fun z=>(hch p.1 z).2.2.2 p hp rfl
  exact ⟨keep p.1 p.2 ne nf nch e n,free p.1 p.2 nch e n,ne,nf,d⟩
theorem Ag.step {g':Array GenState}{t':Nat}{d':Drawn}{ch:List Addr}(I:Ag X pins σ H s)
  (hch:∀ b∈ch,(b∈X.ex\/X.s₀.heap.objs.size<=b)/\b≠X.env.locals/\(∀ x c,X.env.cells.lookup x=Dn c->c≠b)/\∀ p∈X.pn++pins,p.1≠b)
  (keep:∀ b o,b≠X.env.locals->b∉X.fs->b∉ch->s.heap.get? b=Dn o->H b=FX->h'.get? b=Dn o)
  (slot:∀ b o,b≠X.env.locals->b∈X.fs->b∉ch->s.heap.get? b=Dn o->H b=FX->∃ sl,h'.get? b=Dn { o with slots:=sl }) (free:∀ b o,b∉ch->s.heap.get? b=Dn o->H b=FX->H' b=FX)
  (there:∀ b o,b∉ch->s.heap.get? b=Dn o->∃ o',h'.get? b=Dn o')
  (tups:∀ b xs,H b=Dn (.tup xs)->H' b=Dn (.tup xs)) (frzs:∀ b o u,H b=Dn (.frz o u)->H' b=Dn (.frz o u)) (tbls:∀ b ps,H b=Dn (.tbl ps)->∃ more,H' b=Dn (.tbl (ps++more)))
  (ns:∀ m,s.heap.Ns X.env.locals m->h'.Ns X.env.locals m) (hok:KD X.prog X.w H' h') (hg:RK g') :
  Ag X pins σ H' { s with heap:=h',gens:=g',drawn:=d',toks:=t' }:=
 I.stepG (ch:=ch) (fun b z=>⟨(hch b z).1.imp id fun q=>Heap.get?_none_of_le q,(hch b z).2⟩) keep slot free there tups frzs tbls ns hok hg
theorem Ag.un {t':Nat}(I:Ag X pins σ H s)(u:Un X.fs [] H H' s.heap h')(hok:KD X.prog X.w H' h'):Ag X pins σ H' { s with heap:=h',toks:=t' }:=by
 obtain ⟨m,⟨o,es,ep,ho,r⟩,_⟩:=id I.loc;obtain ⟨sl,hL⟩:=u.any ho I.free (by simp);exact I.step (g':=s.gens) (d':=s.drawn) (ch:=[]) (fun _ z=>nomatch z) (fun b o _ hb _ e n=>u.keep b o e n hb (by simp)) (fun b o _ hb _ e n=>u.slot b o e n hb (by simp)) (fun b o _ e n=>u.free b o e n (by simp)) (fun b o _ e=>u.there b o e (by simp)) u.tups u.frzs u.tbls (fun m' hm=>by
  obtain ⟨o',es',ep',ho',r'⟩:=hm;rw [ho] at ho';cases ho';exact ⟨_,es',ep',hL,r'⟩) hok I.bare
theorem Ag.call {g':Array GenState}{t':Nat}{d':Drawn}{ch:List Addr}(I:Ag X pins σ H s)(u:Un (frs X.stack) ch H H' s.heap h')(hok:KD X.prog X.w H' h')(hg:RK g')
  (hch:∀ b∈ch,(b∈X.ex\/X.s₀.heap.objs.size<=b)/\b≠X.env.locals/\(∀ x c,X.env.cells.lookup x=Dn c->c≠b)/\∀ p∈X.pn++pins,p.1≠b) :
  Ag X pins σ H' { s with heap:=h',gens:=g',drawn:=d',toks:=t' }:=by
 obtain ⟨m,⟨o,es,ep,ho,r⟩,_⟩:=id I.loc;obtain ⟨sl,hL⟩:=u.any ho I.free fun z=>(hch _ z).2.1 rfl
 exact I.step (ch:=ch) hch (fun b o hL hb hc e n=>u.keep b o e n (fun z=>(Fe.mp (I.stkSub b z)).elim hL hb) hc) (fun b o _ _ hc e n=>u.any e n hc) (fun b o hc e n=>u.free b o e n hc) (fun b o hc e=>u.there b o e hc) u.tups u.frzs u.tbls (fun m' hm=>by
  obtain ⟨o',es',ep',ho',r'⟩:=hm;rw [ho] at ho';cases ho';exact ⟨_,es',ep',hL,r'⟩) hok hg
theorem Ag.turned {t':Nat}{it:Addr}(I:Ag X pins σ H s)(k:∀ b o,b≠it->s.heap.get? b=Dn o->h'.get? b=Dn o)(hn:H it=FX)(hL:it≠X.env.locals)
  (h1:it∈X.ex\/X.s₀.heap.objs.size<=it) (h2:∀ x c,X.env.cells.lookup x=Dn c->c≠it) (h3:∀ p∈X.pn++pins,p.1≠it):Ag X pins σ H { s with heap:=h',toks:=t' }:=by
 have nit:∀ b u,H b=Dn u->b≠it:=fun b u e z=>by rw [z,hn] at e;cases e
 refine I.step (g':=s.gens) (d':=s.drawn) (ch:=[it]) (fun b hb=>?_) (fun b o _ _ hc e _=>k b o (fun z=>hc<|by simp [z]) e) (fun b o _ _ hc e _=>⟨o.slots,k b o (fun z=>hc<|by simp [z]) e⟩) (fun _ _ _ _ n=>n)
  (fun b o hc e=>⟨o,k b o (fun z=>hc (by simp [z])) e⟩) (fun _ _ e=>e) (fun _ _ _ e=>e) (fun b ps e=>⟨#[],by rw [e];simp⟩) (fun m hm=>?_) (fun b u e=>?_) I.bare
 ·have e:b=it:=by simpa using hb
  subst e;exact ⟨h1,hL,h2,h3⟩
 ·obtain ⟨o,es,ep,ho,r⟩:=hm;exact ⟨o,es,ep,k _ o (Jj hL) ho,r⟩
 ·refine (I.hok b u e).stay (fun c v hc q=>k c v ?_ q) (fun _ q=>q) fun _ _ q=>q;rcases hc with z | z
  ·rw [z];exact nit b u e
  ·exact nit c _ z
theorem Ag.tok (I:Ag X pins σ H s)(t:Nat):Ag X pins σ H { s with toks:=t }:=I.un (h':=s.heap) (t':=t) Un.refl I.hok
theorem Ag.kept {t':Nat}(I:Ag X pins σ H s)(k:∀ b u,s.heap.get? b=Dn u->h'.get? b=Dn u):Ag X pins σ H { s with heap:=h',toks:=t' }:=I.un (Un.kept k) (I.hok.kept k)
theorem Ag.laid {a:Addr}{o:HO}{t':Nat}(I:Ag X pins σ H s)(k:∀ b u,s.heap.get? b=Dn u->h'.get? b=Dn u)(hp:s.heap.objs.size<=a)(new:lN X.prog X.w (Fy H a o) h' a o) :
  Ag X pins σ (Fy H a o) { s with heap:=h',toks:=t' }:=I.un (Un.laid k hp (I.hok.fresh hp)) (I.hok.laid k hp new)
theorem Ag.write {x e:Addr}{o:HO}{t':Nat}(I:Ag X pins σ H s)(mu:Mut (H x))(he:e=x\/H e=Dn (.own x))(k:∀ b u,b≠e->s.heap.get? b=Dn u->h'.get? b=Dn u)(heo:∃ u,h'.get? e=Dn u)
  (new:lN X.prog X.w (Fy H x o) h' x o):Ag X pins σ (Fy H x o) { s with heap:=h',toks:=t' }:=I.un (Un.write mu he k heo) (I.hok.write mu he k heo new)
theorem Ag.weak {σ':List (Option V)}(I:Ag X pins σ H s)(hl:σ'.length = σ.length)(w:∀ (i:Nat) v,σ'[i]?=Dn (Dn v)->σ[i]?=Dn (Dn v)):Ag X pins σ' H s:=
 ⟨I.ok,I.os,I.bare,I.base,let ⟨m,hn,hl'⟩:=I.loc;⟨m,hn,fun i x v e1 e2 e3=>hl' i x v e1 (w i v e2) e3⟩,I.cell,I.free,I.freeC,I.pin,I.hok,hl.trans I.len⟩
theorem Ag.pins_of {pins':List (Addr×Obj)}(I:Ag X pins σ H s)(h:∀ p∈pins',s.heap.get? p.1=Dn p.2/\H p.1=FX/\p.1≠X.env.locals/\p.1∉X.fs/\∀ v,p.2.data≠.cell v):Ag X pins' σ H s:=
 ⟨I.ok,I.os,I.bare,I.base,I.loc,I.cell,I.free,I.freeC,fun p hp=>(S8.mp hp).elim (fun z=>I.pin p (V3 _ z)) (h p),I.hok,I.len⟩
theorem Dc {N:List Str}(hN:N.Nodup){i j:Nat}{x:Str}(a:N[i]?=Dn x)(b:N[j]?=Dn x):i=j:=by
 obtain ⟨h1,e1⟩:=Nk.mp a;obtain ⟨h2,e2⟩:=Nk.mp b;exact (List.getElem_inj hN).mp (e1.trans e2.symm)
theorem yc {M:Model}{A:Fd}{E:Go->AP->Prop}{i:Nat}{x:Str}{v:V}{u:Go}{Q:Unit->AP->Prop}(I:Ag X pins σ H s)(hN:X.N.Nodup)(hi:X.N[i]?=Dn x)(hx:Loc X.env.scope x)(r:RelV v u)
  (h:∀ s',Ag X pins (σ.set i (Dn v)) H s'->(∃ a,NT a s.heap s'.heap/\(a=X.env.locals\/X.env.cells.lookup x=Dn a))->Q () s') (hf:X.fn x=true\/X.env.scope.names.lookup x=Dn .local:=by first | exact .inl rfl | exact .inr rfl | assumption):CR M A (storeName X.env x u) Q E s:=by
 obtain ⟨m,hn,hl⟩:=id I.loc;have hcls:(X.env.scope.kind==.class||(X.env.scope.kind==.module&&X.env.locals != X.env.globals))=false:=by rw [I.ok.kind];rfl
 have hiσ : i < σ.length:=by rw [I.len];exact (Nk.mp hi).1
 have cne:=I.cne;have tracked:∀ {a:Addr} {h':Heap},(∃ o,s.heap.get? a=Dn o/\H a=FX)->NT a s.heap h'->KD X.prog X.w H h':=fun {a h'} ha hs b ob e=>by
  obtain ⟨_,_,hfree⟩:=ha;refine (I.hok b ob e).stay (fun c w' hc q=>(hs.2 c ?_).trans q) (fun _ q=>q) fun _ _ q=>q;rintro rfl;rcases hc with rfl | hc
  ·rw [hfree] at e;cases e
  ·rw [hfree] at hc;cases hc
 rcases hx with hk | hk
 ·refine wpAny_storeName_local hk hn (fun h' hn' hs=>?_) hcls;obtain ⟨oL,_,_,hoL,_⟩:=id hn;refine h _ ⟨I.ok,I.os,I.bare,⟨fun b o e n hb hx=>?_,fun b o e n hb hx=>?_,I.base.free,fun b o e hx=>?_,I.base.tups,I.base.frzs,I.base.tbls⟩,⟨_,hn',fun j y v' e1 e2 e3=>?_⟩,fun y c e=>?_,I.free,I.freeC,fun p hp=>?_,tracked ⟨oL,hoL,I.free⟩ hs,by simpa using I.len⟩ ⟨_,hs,.inl rfl⟩
  ·exact (hs.2 b<|HI<|JB (Ga e) I.ok.above).trans (I.base.keep b o e n hb hx)
  ·obtain ⟨sl,e1⟩:=I.base.slot b o e n hb hx;exact ⟨sl,(hs.2 b<|HI<|JB (Ga e) I.ok.above).trans e1⟩
  ·obtain ⟨o',e1⟩:=I.base.there b o e hx;exact ⟨o',(hs.2 b<|HI<|JB (Ga e) I.ok.above).trans e1⟩
  ·by_cases hj:j=i
   ·subst hj;rw [hi] at e1;cases e1;rw [List.getElem?_set_self hiσ] at e2;cases e2;exact ⟨u,r,.inl ⟨hk,by simp⟩⟩
   ·rw [List.getElem?_set_ne (Jj hj)] at e2;obtain ⟨u',r',q⟩:=hl j y v' e1 e2 e3;refine ⟨u',r',?_⟩;rcases q with ⟨k,e⟩ | ⟨k,c,e,z⟩
    ·refine .inl ⟨k,?_⟩;have:y≠x:=fun e=>hj (Dc hN e1 (e ▸ hi))
     simp [this,e]
    ·exact .inr ⟨k,c,e,z.sameBut hs<|cne y c e⟩
  ·obtain ⟨w',z⟩:=I.cell y c e;exact ⟨w',z.sameBut hs<|cne y c e⟩
  ·obtain ⟨e,n,ne,nf,d⟩:=I.pin p hp;exact ⟨(hs.2 p.1 ne).trans e,n,ne,nf,d⟩
 ·have hfn:X.fn x=true:=by
   rcases hf with z | z
   ·exact z
   ·rw [z] at hk;cases hk
  obtain ⟨c,hc⟩:=I.ok.has x (.inl hk);obtain ⟨w',z⟩:=I.cell x c hc;refine wpAny_storeName_cell I.ok.kind hk hc z<|fun h' hc' hs=>?_
  obtain ⟨oc,hoc,hocd⟩:=id z;refine h { s with heap:=h' } ⟨I.ok,I.os,I.bare,⟨fun b o e n hb hx=>?_,fun b o e n hb hx=>?_,I.base.free,fun b o e hx=>?_,I.base.tups,I.base.frzs,I.base.tbls⟩,⟨m,hn.sameBut hs<|Jj<|cne x c hc,fun j y v' e1 e2 e3=>?_⟩,fun y c' e=>?_,I.free,I.freeC,fun p hp=>?_,tracked ⟨oc,hoc,I.freeC x c hc⟩ hs,by simpa using I.len⟩ ⟨c,hs,.inr hc⟩
  ·exact (hs.2 b<|HI<|JB (Ga e)<|I.ok.cab x c hfn hc).trans (I.base.keep b o e n hb hx)
  ·obtain ⟨sl,e1⟩:=I.base.slot b o e n hb hx;exact ⟨sl,(hs.2 b<|HI<|JB (Ga e)<|I.ok.cab x c hfn hc).trans e1⟩
  ·obtain ⟨o',e1⟩:=I.base.there b o e hx;exact ⟨o',(hs.2 b<|HI<|JB (Ga e)<|I.ok.cab x c hfn hc).trans e1⟩
  ·by_cases hj:j=i
   ·subst hj;rw [hi] at e1;cases e1;rw [List.getElem?_set_self hiσ] at e2;cases e2;exact ⟨u,r,.inr ⟨.inl hk,c,hc,hc'⟩⟩
   ·rw [List.getElem?_set_ne (Jj hj)] at e2;obtain ⟨u',r',q⟩:=hl j y v' e1 e2 e3;refine ⟨u',r',?_⟩;rcases q with q | ⟨k,c',e,z'⟩
    ·exact .inl q
    ·refine .inr ⟨k,c',e,z'.sameBut hs ?_⟩;rintro rfl;exact hj<|Dc hN e1<|I.ok.inj _ _ _ e hc ▸ hi
  ·by_cases hcc:c'=c
   ·subst hcc;exact ⟨_,hc'⟩
   ·obtain ⟨w2,z2⟩:=I.cell y c' e;exact ⟨w2,z2.sameBut hs hcc⟩
  ·obtain ⟨e,n,ne,nf,d⟩:=I.pin p hp;refine ⟨(hs.2 p.1 ?_).trans e,n,ne,nf,d⟩;intro q;rw [q,hoc] at e;have q':oc=p.2:=HS e;exact d w' (by rw [<-q'];exact hocd)
theorem CN {M:Model}{A:Fd}{E:Go->AP->Prop}{i:Nat}{x:Str}{v:V}{u:Go}{Q:Unit->AP->Prop}(I:Ag X pins σ H s)(hN:X.N.Nodup)(hi:X.N[i]?=Dn x)(hx:Loc X.env.scope x)(r:RelV v u)
  (h:∀ s',Ag X pins (σ.set i (Dn v)) H s'->Q () s') (hf:X.fn x=true\/X.env.scope.names.lookup x=Dn .local:=by first | exact .inl rfl | exact .inr rfl | assumption):CR M A (storeName X.env x u) Q E s:=
 yc I hN hi hx r (fun s' I' _=>h s' I') hf
theorem Ag.call' {s':AP}{ch:List Addr}(I:Ag X pins σ H s)(ho:s'.os=s.os)(u:Un (frs X.stack) ch H H' s.heap s'.heap)(hok:KD X.prog X.w H' s'.heap)(hg:RK s'.gens)
  (hch:∀ b∈ch,(b∈X.ex\/X.s₀.heap.objs.size<=b)/\b≠X.env.locals/\(∀ x c,X.env.cells.lookup x=Dn c->c≠b)/\∀ p∈X.pn++pins,p.1≠b):Ag X pins σ H' s':=by
 obtain ⟨h',g',d',t',o'⟩:=s';have e:o'=s.os:=ho;subst e;exact I.call (g':=g') (t':=t') (d':=d') u hok hg hch
end
abbrev XK:=Go->Option Addr->Hp->Prop
abbrev St:=List (Option V)
abbrev VK:=V->Hp->Prop
abbrev TE:=St->Hp->VK->Prop
abbrev TT:=St->Hp->(Bool->Hp->Prop)->Prop
abbrev TA:=St->Hp->(List V->Hp->Prop)->Prop
structure Ends where
 nx:St->Hp->Prop
 rt:VK
 bk:St->Hp->Prop:=fun _ _=>False
 ct:St->Hp->Prop:=fun _ _=>False
abbrev TS:=Ends->St->Hp->Prop
def EP (X:Cx)(pins:List (Addr×Obj))(σ : St)(Q:VK)(u:Go)(s':AP):Prop:=∃ v H',Ag X pins σ H' s'/\RelV v u/\Q v H'
def TP (X:Cx)(pins:List (Addr×Obj))(σ : St)(Q:Bool->Hp->Prop)(b:Bool)(s':AP):Prop:=∃ H',Ag X pins σ H' s'/\Q b H'
def aed (X:Cx)(pins:List (Addr×Obj))(σ : St)(Q:List V->Hp->Prop)(us:List Go)(s':AP):Prop:=∃ vs H',Ag X pins σ H' s'/\Bp vs us/\Q vs H'
def SP (X:Cx)(pins:List (Addr×Obj))(D:Ends)(f:Flow)(s':AP):Prop:=
 match f with
 | .next=>∃ σ' H',Ag X pins σ' H' s'/\D.nx σ' H'
 | .brk=>∃ σ' H',Ag X pins σ' H' s'/\D.bk σ' H'
 | .cont=>∃ σ' H',Ag X pins σ' H' s'/\D.ct σ' H'
 | .ret u=>∃ v σ' H',Ag X pins σ' H' s'/\RelV v u/\D.rt v H'
def PE (X:Cx)(e:Expr)(t:TE):Prop:=
 ∀ (pins:List (Addr×Obj)) (s:AP) (σ : St) (H:Hp) (Q:VK),Ag X pins σ H s->t σ H Q->CR (FJ X.prog X.w) X.A (eval e X.env) (EP X pins σ Q) X.xe s
def PT (X:Cx)(e:Expr)(t:TT):Prop:=
 ∀ (pins:List (Addr×Obj)) (s:AP) (σ : St) (H:Hp) (Q:Bool->Hp->Prop),Ag X pins σ H s->t σ H Q->CR (FJ X.prog X.w) X.A (isTrue e X.env (eval e X.env)) (TP X pins σ Q) X.xe s
def PW (X:Cx)(e:Expr)(t:TT):Prop:=
 ∀ (whole:Sem Go) (pins:List (Addr×Obj)) (s:AP) (σ : St) (H:Hp) (Q:Bool->Hp->Prop),Ag X pins σ H s->t σ H Q->CR (FJ X.prog X.w) X.A (isTrue e X.env whole) (TP X pins σ Q) X.xe s
theorem PW.pt {X:Cx}{e:Expr}{t:TT}(h:PW X e t):PT X e t:=h _
def PA (X:Cx)(es:List Expr)(t:TA):Prop:=
 ∀ (pos:Pos) (pins:List (Addr×Obj)) (s:AP) (σ : St) (H:Hp) (Q:List V->Hp->Prop),Ag X pins σ H s->t σ H Q->CR (FJ X.prog X.w) X.A (spliced (KR pos (Fv es X.env))) (aed X pins σ Q) X.xe s
def PS (X:Cx)(st:Stmt)(t:TS):Prop:=
 ∀ (pins:List (Addr×Obj)) (s:AP) (σ : St) (H:Hp) (D:Ends),Ag X pins σ H s->t D σ H->CR (FJ X.prog X.w) X.A (exec st X.env) (SP X pins D) X.xe s
def ML (X:Cx)(st:List Stmt)(t:TS):Prop:=
 ∀ (pins:List (Addr×Obj)) (s:AP) (σ : St) (H:Hp) (D:Ends),Ag X pins σ H s->t D σ H->CR (FJ X.prog X.w) X.A (execs st X.env) (SP X pins D) X.xe s
theorem GQ {α : Type}{t:Sem α}{Q Q':α->AP->Prop}{M:Model}{A:Fd}{E:Go->AP->Prop}{s:AP}(h:CR M A t Q E s)(hQ:∀ a s,Q a s->Q' a s):CR M A t Q' E s:=Ml h hQ fun _ _ x=>x
section
variable {X:Cx}
def aaZ (i:Nat):TE:=fun σ H Q=>∃ v,σ[i]?=Dn (Dn v)/\Q v H
def tC (v:V):TE:=fun _ H Q=>Q v H
theorem agJ {i:Nat}{x:Str}{pos:Pos}(hN:X.N[i]?=Dn x)(hv:Vis X.env.scope x)(hd:(x==("__debug__" : Str))=false:=by decide)(hcd:(x==("__classdict__" : Str))=false:=by decide):PE X (.Name x pos) (aaZ i):=by
 intro pins s σ H Q I h;obtain ⟨v,e,h⟩:=h;obtain ⟨m,hn,hl⟩:=I.loc;obtain ⟨u,r,l⟩:=hl i x v hN e hv;have fin:EP X pins σ Q u s:=⟨v,H,I,r,h⟩
 rcases l with ⟨hk,hm⟩ | ⟨hk,c,hc,hcell⟩
 ·exact wpAny_Name (wpAny_loadName_local I.ok.kind hk hn hm fin) hd
 ·rcases hk with hk | hk
  ·exact wpAny_Name (wpAny_loadName_cell I.ok.kind hk hc hcell fin) hd
  ·exact wpAny_Name (wpAny_loadName_free I.ok.kind hk hc hcell fin hcd) hd
theorem Y4 {i j pos}:PE X (.Constant (.int i) j pos) (tC (.int i)):=fun _ _ _ H _ I h=>wpAny_Constant_int ⟨.int i,H,I.tok _,⟨_,rfl⟩,h⟩
theorem abv {b j pos}:PE X (.Constant (.bool b) j pos) (tC (.bl b)):=fun _ _ _ H _ I h=>Constant_bool ⟨.bl b,H,I,rfl,h⟩
theorem YZ {j pos}:PE X (.Constant .none j pos) (tC .non):=fun _ _ _ H _ I h=>Constant_none ⟨.non,H,I,rfl,h⟩
def Gl (X:Cx)(x:Str):Prop:=X.env.kindOf x=Dn .globalImplicit
theorem Bj {E:Go->AP->Prop}{pins:List (Addr×Obj)}{s:AP}{σ : St}{H:Hp}{x:Str}{u:Go}{pos:Pos}{Q:Go->AP->Prop}(I:Ag X pins σ H s)(hg:Gl X x)(hm:X.mg x=Dn u)(h:Q u s)
  (hd:(x==("__debug__" : Str))=false:=by decide):CR (FJ X.prog X.w) X.A (eval (.Name x pos) X.env) Q E s:=
 Calls.Name_function_global I.ok.kind hg (Calls.loadGlobal_global (by rw [I.ok.glob];exact I.mod.glob.keeps I.bk) hm h) hd
theorem qT {E:Go->AP->Prop}{pins:List (Addr×Obj)}{s:AP}{σ : St}{H:Hp}{x:Str}{u:Go}{pos:Pos}{Q:Go->AP->Prop}(I:Ag X pins σ H s)(hg:Gl X x)(hm:X.mg x=FX)(hv:RP x=Dn u)(h:Q u s)
  (hn:x ≠ "__name__":=by decide) (hd:(x==("__debug__" : Str))=false:=by decide):CR (FJ X.prog X.w) X.A (eval (.Name x pos) X.env) Q E s:=by
 obtain ⟨mb,h1,h2⟩:=I.mod.blt;exact Calls.Name_function_global I.ok.kind hg (Calls.loadGlobal_builtin (by rw [I.ok.glob];exact I.mod.glob.keeps I.bk) hm (by rw [I.ok.blt];exact h1.keeps I.bk) ((h2 x hn).trans hv) h) hd
theorem KC {x:Str}{v:V}{u:Go}{pos:Pos}(hg:Gl X x)(hm:X.mg x=Dn u)(r:RelV v u)(hd:(x==("__debug__" : Str))=false:=by decide):PE X (.Name x pos) (tC v):=
 fun _ _ _ H _ I h=>Bj I hg hm ⟨v,H,I,r,h⟩ hd
theorem agY {x:Str}{v:V}{u:Go}{pos:Pos}(hg:Gl X x)(hm:X.mg x=FX)(hv:RP x=Dn u)(r:RelV v u)(hn:x ≠ "__name__":=by decide)(hd:(x==("__debug__" : Str))=false:=by decide):PE X (.Name x pos) (tC v):=
 fun _ _ _ H _ I h=>qT I hg hm hv ⟨v,H,I,r,h⟩ hn hd
variable {a b:Expr}{ta tb:TE}{pos:Pos}
variable {tA tB':TT}{rest:List Expr}
def ado (t u:TT):TT:=fun σ H Q=>t σ H fun c H1=>if c=true then u σ H1 Q else Q false H1
def tOr (t u:TT):TT:=fun σ H Q=>t σ H fun c H1=>if c=true then Q true H1 else u σ H1 Q
def adg (t:TT):TT:=fun σ H Q=>t σ H fun c H1=>Q (!c) H1
theorem ahC (ha:PT X a tA):PW X (.BoolOp .And [a] pos) tA:=by
 intro wh pins s σ H Q I h;refine isTrue_and<|GQ (ha pins s σ H Q I h) fun c s1 e=>?_
 cases c with
 | true=>exact isTrue_and_nil e
 | false=>exact e
theorem Z7 (ha:PT X a tA):PW X (.BoolOp .Or [a] pos) tA:=by
 intro wh pins s σ H Q I h;refine isTrue_or<|GQ (ha pins s σ H Q I h) fun c s1 e=>?_
 cases c with
 | false=>exact isTrue_or_nil e
 | true=>exact e
theorem agx (ha:PT X a tA)(hb:PW X (.BoolOp .And (b::rest) pos) tB'):PW X (.BoolOp .And (a::b::rest) pos) (ado tA tB'):=by
 intro wh pins s σ H Q I h;refine isTrue_and<|GQ (ha pins s σ H _ I h) fun c s1 ⟨H1,I1,q1⟩=>?_
 cases c with
 | true=>exact hb wh pins s1 σ H1 Q I1 q1
 | false=>exact ⟨H1,I1,q1⟩
theorem abh (ha:PT X a tA)(hb:PW X (.BoolOp .Or (b::rest) pos) tB'):PW X (.BoolOp .Or (a::b::rest) pos) (tOr tA tB'):=by
 intro wh pins s σ H Q I h;refine isTrue_or<|GQ (ha pins s σ H _ I h) fun c s1 ⟨H1,I1,q1⟩=>?_
 cases c with
 | true=>exact ⟨H1,I1,q1⟩
 | false=>exact hb wh pins s1 σ H1 Q I1 q1
theorem Xz (ha:PT X a tA):PT X (.UnaryOp .Not a pos) (adg tA):=by
 intro pins s σ H Q I h;exact isTrue_not<|ha pins s σ H (fun c H1=>Q (!c) H1) I h
def abt (ta:TE):TE:=fun σ H Q=>ta σ H fun x H1=>∃ c,x=.bl c/\Q (.bl (!c)) H1
theorem WY (ha:PE X a ta):PE X (.UnaryOp .Not a pos) (abt ta):=by
 intro pins s σ H Q I h;refine UnaryOp_<|GQ (ha pins s σ H _ I h) fun v s1 ⟨x,H1,I1,r1,q1⟩=>?_
 obtain ⟨c,rfl,q1⟩:=q1;cases r1;exact not_of<|Uq ⟨.bl<|!c,H1,I1,rfl,q1⟩
def tIf (t:TT)(ta tb:TE):TE:=fun σ H Q=>t σ H fun c H1=>if c=true then ta σ H1 Q else tb σ H1 Q
theorem afz {c:Expr}(hc:PT X c tA)(ha:PE X a ta)(hb:PE X b tb):PE X (.IfExp c a b pos) (tIf tA ta tb):=by
 intro pins s σ H Q I h;refine wpAny_IfExp<|GQ (hc pins s σ H _ I h) fun d s1 ⟨H1,I1,q1⟩=>?_
 cases d with
 | true=>exact ha pins s1 σ H1 Q I1 q1
 | false=>exact hb pins s1 σ H1 Q I1 q1
end
def Hg (K:Ai)(H:Hp)(a:Addr)(xs:List V):Prop:=
 Rd H a (.lst xs) \/
  ∃ (o:Obj) (its:Array Go) (n:Nat),K.lookup a=Dn o/\o.cls=.type "list"/\o.dict=FX/\o.data=.seq its n/\its.size<=Gb/\Bp xs its.toList
def Hs (K:Ai)(H:Hp)(a:Addr)(xs:List V):Prop:=
 Rd H a (.tup xs) \/
  ∃ (o:Obj) (its:Array Go) (n:Nat),K.lookup a=Dn o/\o.cls=.type "tuple"/\o.data=.seq its n/\its.size<=Gb/\Bp xs its.toList/\o.dict=FX
def ac7:Go->Option V
 | .none=>Dn .non
 | .bool b=>Dn (.bl b)
 | .int i _=>Dn (.int i)
 | .str x _=>Dn (.str x)
 | .bytes b _=>Dn (.byt b)
 | .float b _=>Dn (.flt b)
 | .ref a=>Dn (.ref a)
 | .type n=>Dn (.ty n)
 | _=>FX
theorem RelV.abs {x:V}{u:Go}(r:RelV x u):ac7 u=Dn x:=by
 cases x with
 | non=>cases r;rfl
 | bl _=>cases r;rfl
 | int _=>obtain ⟨t,rfl⟩:=r;rfl
 | str _=>obtain ⟨t,rfl⟩:=r;rfl
 | byt _=>obtain ⟨t,rfl⟩:=r;rfl
 | flt _=>obtain ⟨t,rfl⟩:=r;rfl
 | ref _=>cases r;rfl
 | ty _=>cases r;rfl
theorem RelV.inj {x y:V}{u:Go}(r:RelV x u)(q:RelV y u):x=y:=HS (r.abs.symm.trans q.abs)
theorem Bp.inj:∀ {xs ys:List V} {us:List Go},Bp xs us->Bp ys us->xs=ys
 | _,_,_,.nil,.nil=>rfl
 | _,_,_,.cons r t,.cons r' t'=>by rw [r.inj r',Bp.inj t t']
section
variable {X:Cx}{pins:List (Addr×Obj)}{σ : St}{H:Hp}{s:AP}{a:Addr}{xs ys:List V}
theorem Hg.of {K:Ai}(h:H a=Dn (.lst xs)):Hg K H a xs:=.inl (.inl h)
theorem Hs.of {K:Ai}(h:H a=Dn (.tup xs)):Hs K H a xs:=.inl (.inl h)
theorem Ag.list (I:Ag X pins σ H s)(h:Hg X.K H a xs):∃ its:List Go,Bp xs its/\PlainL s.heap a its.toArray/\xs.length<=Gb:=by
 rcases h with h | ⟨o,its,n,hk,hc,hd,hs,hz,r⟩
 ·obtain ⟨z,its,n,r,e⟩:=h.ok I.hok;exact ⟨its,r,⟨_,n,e,rfl,rfl,rfl⟩,z⟩
 ·refine ⟨its.toList,r,⟨o,n,I.kIn a o hk,hc,hd,by simpa using hs⟩,?_⟩;have e:=r.length;simp only [V0] at e;lia
theorem Ag.tupO (I:Ag X pins σ H s)(h:Hs X.K H a xs):∃ its:List Go,Bp xs its/\M9 s.heap a its.toArray/\xs.length<=Gb:=by
 rcases h with h | ⟨o,its,n,hk,hc,hs,hz,r,hd⟩
 ·obtain ⟨z,its,r,p⟩:=h.ok I.hok;exact ⟨its,r,p,z⟩
 ·refine ⟨its.toList,r,⟨o,I.kIn a o hk,hc,⟨n,by simpa using hs⟩,hd⟩,?_⟩;have e:=r.length;simp only [V0] at e;lia
theorem Ag.tuple (I:Ag X pins σ H s)(h:Hs X.K H a xs):∃ its:List Go,Bp xs its/\IsTup s.heap a its.toArray/\xs.length<=Gb:=let ⟨its,r,p,z⟩:=I.tupO h;⟨its,r,p.tup,z⟩
theorem Ag.list_inj (I:Ag X pins σ H s)(h:Hg X.K H a xs)(h':Hg X.K H a ys):xs=ys:=by
 obtain ⟨its,r,⟨o,n,e,_,_,d⟩,_⟩:=I.list h;obtain ⟨its',r',⟨o',n',e',_,_,d'⟩,_⟩:=I.list h';rw [e] at e';cases e';rw [d] at d';injection d' with d1 _
 have:its=its':=by simpa using congrArg Array.toList d1
 subst this;exact r.inj r'
theorem Ag.tuple_inj (I:Ag X pins σ H s)(h:Hs X.K H a xs)(h':Hs X.K H a ys):xs=ys:=by
 obtain ⟨its,r,⟨o,e,_,n,d⟩,_⟩:=I.tuple h;obtain ⟨its',r',⟨o',e',_,n',d'⟩,_⟩:=I.tuple h';rw [e] at e';cases e';rw [d] at d';injection d' with d1 _
 have:its=its':=by simpa using congrArg Array.toList d1
 subst this;exact r.inj r'
end
abbrev Cx.wish (X:Cx)(E:Go->AP->Prop):Cx:={ X with xe:=E }
abbrev Cx.nox (X:Cx):Cx:=X.wish fun _ _=>False
theorem Cx.Ok.wish {X:Cx}(ok:X.Ok)(E:Go->AP->Prop):(X.wish E).Ok:=
 ⟨ok.mod,ok.kind,ok.glob,ok.blt,ok.above,ok.inj,ok.has,ok.cab,ok.hd,ok.qt,ok.frames,ok.stk,ok.exf,ok.bs,ok.bsz,ok.noex,ok.exfs,ok.funs,ok.frf⟩
theorem Cx.Ok.unwish {X:Cx}{E:Go->AP->Prop}(ok:(X.wish E).Ok):X.Ok:=
 ⟨ok.mod,ok.kind,ok.glob,ok.blt,ok.above,ok.inj,ok.has,ok.cab,ok.hd,ok.qt,ok.frames,ok.stk,ok.exf,ok.bs,ok.bsz,ok.noex,ok.exfs,ok.funs,ok.frf⟩
section
variable {X:Cx}{pins:List (Addr×Obj)}{σ : St}{H:Hp}{s:AP}{E:Go->AP->Prop}
theorem Ag.wish (I:Ag X pins σ H s)(E:Go->AP->Prop):Ag (X.wish E) pins σ H s:=⟨I.ok.wish E,I.os,I.bare,I.base,I.loc,I.cell,I.free,I.freeC,I.pin,I.hok,I.len⟩
theorem Ag.unwish (I:Ag (X.wish E) pins σ H s):Ag X pins σ H s:=⟨I.ok.unwish,I.os,I.bare,I.base,I.loc,I.cell,I.free,I.freeC,I.pin,I.hok,I.len⟩
theorem SP.unwish {D:Ends}{f:Flow}{s':AP}(h:SP (X.wish E) pins D f s'):SP X pins D f s':=by
 cases f with
 | next=>obtain ⟨σ',H',I,q⟩:=h;exact ⟨σ',H',I.unwish,q⟩
 | brk=>obtain ⟨σ',H',I,q⟩:=h;exact ⟨σ',H',I.unwish,q⟩
 | cont=>obtain ⟨σ',H',I,q⟩:=h;exact ⟨σ',H',I.unwish,q⟩
 | ret u=>obtain ⟨v,σ',H',I,r,q⟩:=h;exact ⟨v,σ',H',I.unwish,r,q⟩
theorem ML.nox {st:List Stmt}{t:TS}(h:ML X.nox st t):ML X st t:=fun pins s σ H D I hw=>
 Ml (h pins s σ H D (I.wish _) hw) (fun _ _ q=>q.unwish) fun _ _ z=>QT z
end
section
variable {X:Cx}{st:Stmt}{rest:List Stmt}{t u:TS}{e:Expr}{te:TE}{pos:Pos}
def aaL:TS:=fun D σ H=>D.nx σ H
def adt (t u:TS):TS:=fun D σ H=>t { D with nx:=u D } σ H
theorem zby:ML X [] aaL:=fun _ _ σ H _ I h=>wpAny_execs_nil ⟨σ,H,I,h⟩
theorem ahF (h1:PS X st t)(h2:ML X rest u):ML X (st::rest) (adt t u):=by
 intro pins s σ H D I h;refine wpAny_execs_cons<|GQ (h1 pins s σ H { D with nx:=u D } I h) fun f s1 q=>?_
 cases f with
 | next=>
  obtain ⟨σ',H',I',q⟩:=q;exact h2 pins s1 σ' H' D I' q
 | ret v=>exact q
 | brk=>exact q
 | cont=>exact q
theorem agX (h1:PS X st t):ML X [st] t:=by
 intro pins s σ H D I h;refine wpAny_execs_cons<|GQ (h1 pins s σ H D I h) fun f s1 q=>?_
 cases f with
 | next=>exact wpAny_execs_nil q
 | ret v=>exact q
 | brk=>exact q
 | cont=>exact q
theorem Ag.quiet {pins:List (Addr×Obj)}{σ : St}{H:Hp}{s:AP}(I:Ag X pins σ H s):interactive X.env=false:=by simp [interactive,I.ok.kind]
def aao (te:TE):TS:=fun D σ H=>te σ H fun _ H1=>D.nx σ H1
theorem agz (he:PE X e te)(hs:SQ e FX pos.line X.env=pure false:=by rfl):PS X (.Expr e pos) (aao te):=by
 intro pins s σ H D I h;exact wpAny_Expr_any (GQ (he pins s σ H _ I h) fun v s1 ⟨x,H1,I1,r1,q1⟩=>⟨σ,H1,I1,q1⟩) I.quiet hs
def adI (te:TE):TS:=fun D σ H=>te σ H D.rt
theorem Y8 (he:PE X e te):PS X (.Return (Dn e) pos) (adI te):=by
 intro pins s σ H D I h;exact wpAny_Return_some<|GQ (he pins s σ H _ I h) fun v s1 ⟨x,H1,I1,r1,q1⟩=>⟨x,σ,H1,I1,r1,q1⟩
def adi (c:TT)(t u:TS):TS:=fun D σ H=>c σ H fun b H1=>if b=true then t D σ H1 else u D σ H1
theorem abL {c:Expr}{a b:List Stmt}{tc:TT}(hc:PT X c tc)(ha:ML X a t)(hb:ML X b u):PS X (.If c a b pos) (adi tc t u):=by
 intro pins s σ H D I h;refine wpAny_If<|GQ (hc pins s σ H _ I h) fun d s1 ⟨H1,I1,q1⟩=>?_
 cases d with
 | true=>exact ha pins s1 σ H1 D I1 q1
 | false=>exact hb pins s1 σ H1 D I1 q1
def Yq:TS:=fun _ _ _=>False
theorem zbu:PS X st Yq:=fun _ _ _ _ _ _ h=>h.elim
end
abbrev TG:=V->St->Hp->(St->Hp->Prop)->Prop
abbrev R8:=List V->St->Hp->(St->Hp->Prop)->Prop
def PG (X:Cx)(target:Expr)(t:TG):Prop:=
 ∀ (pins:List (Addr×Obj)) (s:AP) (σ : St) (H:Hp) (v:V) (u:Go) (Q:St->Hp->Prop),Ag X pins σ H s->RelV v u->t v σ H Q ->
  CR (FJ X.prog X.w) X.A (assign target X.env u) (fun _ s'=>∃ σ' H',Ag X pins σ' H' s'/\Q σ' H') X.xe s
def Rg (X:Cx)(ts:List Expr)(t:R8):Prop:=
 ∀ (pins:List (Addr×Obj)) (s:AP) (σ : St) (H:Hp) (vs:List V) (us:List Go) (Q:St->Hp->Prop),Ag X pins σ H s->Bp vs us->t vs σ H Q ->
  CR (FJ X.prog X.w) X.A (assignInOrder ((Lb ts X.env).map (·.2)) us) (fun _ s'=>∃ σ' H',Ag X pins σ' H' s'/\Q σ' H') X.xe s
abbrev ZQ:=V->V->V->Hp->(Hp->Prop)->Prop
def aay (X:Cx)(t:ZQ):Prop:=
 ∀ (pins:List (Addr×Obj)) (s:AP) (σ : St) (H:Hp) (o i v:V) (ov iv u:Go) (Q:Hp->Prop),Ag X pins σ H s->RelV o ov->RelV i iv->RelV v u->t o i v H Q ->
  CR (FJ X.prog X.w) X.A (setItem ov iv u) (fun _ s'=>∃ H',Ag X pins σ H' s'/\Q H') X.xe s
section
variable {X:Cx}{pos:Pos}
def JQ (i:Nat):TG:=fun v σ H Q=>Q (σ.set i (Dn v)) H
theorem vp {i:Nat}{x:Str}(hN:X.N.Nodup)(hi:X.N[i]?=Dn x)(hx:Loc X.env.scope x)(hf:X.fn x=true\/X.env.scope.names.lookup x=Dn .local:=by first | exact .inl rfl | exact .inr rfl | assumption):PG X (.Name x pos) (JQ i):=by
 intro pins s σ H v u Q I r h;exact wpAny_assign_Name<|CN I hN hi hx r (fun s' I'=>⟨_,H,I',h⟩) hf
def adh:R8:=fun vs σ H Q=>vs=[]/\Q σ H
def abj (t:TG)(u:R8):R8:=fun vs σ H Q=>∃ v r,vs=v::r/\t v σ H fun σ' H'=>u r σ' H' Q
theorem Hw:Rg X [] adh:=by
 intro pins s σ H vs us Q I r h;obtain ⟨e,h⟩:=h;subst e;cases r;exact assignInOrder_nil ⟨σ,H,I,h⟩
theorem vA {e:Expr}{es:List Expr}{t:TG}{u:R8}(h1:PG X e t)(h2:Rg X es u)
  (hs:(Lb (e::es) X.env).map (·.2)=assign e X.env::(Lb es X.env).map (·.2):=by rfl):Rg X (e::es) (abj t u):=by
 intro pins s σ H vs us Q I r h;obtain ⟨v,vr,e1,h⟩:=h;subst e1;cases r with
 | cons r rr=>
  rw [hs];refine assignInOrder_cons<|GQ (h1 pins s σ H _ _ _ I r h) fun _ s1 ⟨σ1,H1,I1,q1⟩=>?_
  exact h2 pins s1 σ1 H1 _ _ Q I1 rr q1
def ad4 (K:Ai)(n:Nat)(t:R8):TG:=fun v σ H Q=>∃ a xs,v=.ref a/\Hs K H a xs/\xs.length=n/\t xs σ H Q
theorem agA {es:List Expr}{k:Nat}{t:R8}{n:Nat}(hc:X.calm=true)(h:Rg X es t)
  (hn:(Lb es X.env).length=n:=by rfl) (hst:(Lb es X.env).findIdx? (·.1)=FX:=by rfl):PG X (.Tuple es k pos) (ad4 X.K n t):=by
 intro pins s σ H v u Q I r hw;obtain ⟨a,xs,e1,hq,hl,hw⟩:=hw;subst e1;cases r;obtain ⟨its,rv,ht,hz⟩:=I.tuple hq;refine assign_Tuple_tuple (I.ok.hd hc) ht (by simp [hn,<-hl,rv.length]) hst fun h' hx=>?_;have I1:Ag X pins σ H { s with heap:=h' }:=I.kept (t':=s.toks) fun b o e=>hx b o (HI (Ga e)) e
 exact h pins _ σ H xs _ Q I1 (by simpa using rv) hw
def adQ (to ti:TE)(t:ZQ):TG:=fun v σ H Q=>to σ H fun o H1=>ti σ H1 fun i H2=>t o i v H2 fun H3=>Q σ H3
theorem Wq {o i:Expr}{to ti:TE}{t:ZQ}(ho:PE X o to)(hi:PE X i ti)(hs:aay X t)
  (ha:∀ v,assign (.Subscript o i pos) X.env v=(do
   let ov <-RL [v] (eval o X.env)
   let iv <-RL [v,ov] (eval i X.env)
   standAt pos
   RL [v,ov,iv] (setItem ov iv v)
   release [v,ov,iv] []):=by intro _;rfl):PG X (.Subscript o i pos) (adQ to ti t):=by
 intro pins s σ H v u Q I r h;rw [ha];refine Af<|MH<|GQ (ho pins s σ H _ I h) fun ov s1 ⟨x,H1,I1,r1,q1⟩=>?_
 refine Af<|MH<|GQ (hi pins s1 σ H1 _ I1 q1) fun iv s2 ⟨y,H2,I2,r2,q2⟩=>?_
 refine Af<|wpAny_standAt<|Af<|MH<|GQ (hs pins s2 σ H2 x y v ov iv u _ I2 r1 r2 r q2) fun _ s3 ⟨H3,I3,q3⟩=>?_
 exact wpAny_release ⟨σ,H3,I3,q3⟩
def Zg (te:TE)(g:TG):TS:=fun D σ H=>te σ H fun x H1=>g x σ H1 D.nx
theorem XQ {tg e:Expr}{te:TE}{g:TG}(he:PE X e te)(hg:PG X tg g)(hs:swapsWithSole [tg] e pos.line X.env=pure false:=by rfl)(hw:swappedStores [tg] e X.env=pure FX:=by rfl)
  (h1:(Lb [tg] X.env).map (·.2)=[assign tg X.env]:=by rfl):PS X (.Assign [tg] e pos) (Zg te g):=by
 intro pins s σ H D I h;refine wpAny_Assign_stores (GQ (he pins s σ H _ I h) fun v s1 ⟨x,H1,I1,r1,q1⟩=>?_) hs hw;rw [h1];exact GQ (hg pins s1 σ H1 x v _ I1 r1 q1) fun _ s2 q=>q
theorem Zu {i:Nat}{x:Str}{e:Expr}{te:TE}{pos':Pos}(hN:X.N.Nodup)(hi:X.N[i]?=Dn x)(hx:Loc X.env.scope x)(he:PE X e te)(hs:SQ e (Dn (.Name x pos')) pos.line X.env=pure false:=by rfl)(hf:X.fn x=true\/X.env.scope.names.lookup x=Dn .local:=by first | exact .inl rfl | exact .inr rfl | assumption) :
  PS X (.Assign [.Name x pos'] e pos) (Zg te (JQ i)):=by
 intro pins s σ H D I h;refine wpAny_Assign_Name (GQ (he pins s σ H _ I h) fun v s1 ⟨y,H1,I1,r1,q1⟩=>?_) hs;exact CN I1 hN hi hx r1 (fun s2 I2=>⟨_,H1,I2,q1⟩) hf
def YX (c:TT)(tb:TS):TS:=fun D σ H=>∃ W:Nat->St->Hp->Prop,(∃ m,W m σ H)/\∀ m σ H,W m σ H ->
 c σ H fun b H1=>if b=true then ∃ N:St->Hp->Prop,(∀ σ' H',N σ' H'->∃ m',m'<m/\W m' σ' H')/\tb { D with nx:=N,ct:=N,bk:=D.nx } σ H1 else D.nx σ H1
theorem aeY {c:Expr}{body:List Stmt}{tc:TT}{tb:TS}(hp:Va (FJ X.prog X.w) X.A X.env X.xe)(hc:PT X c tc)(hb:ML X body tb):PS X (.While c body [] pos) (YX tc tb):=by
 intro pins s σ H D I h;obtain ⟨W,⟨m0,w0⟩,turn⟩:=h;refine wpAny_While<|codeAny_whileLoop (fun n s'=>∃ σ' H',Ag X pins σ' H' s'/\W n σ' H') ?_ m0 ⟨σ,H,I,w0⟩
 rintro n s1 ⟨σ1,H1,I1,w1⟩;refine Td hp<|GQ (hc pins s1 σ1 H1 _ I1<|turn n σ1 H1 w1) fun b s2 ⟨H2,I2,q2⟩=>?_
 cases b with
 | true=>
  obtain ⟨N,hN,q2⟩:=q2;rw [if_pos rfl];refine Td hp<|GQ (hb pins s2 σ1 H2 _ I2 q2) fun f s3 q3=>?_
  cases f with
  | next=>
   obtain ⟨σ3,H3,I3,n3⟩:=q3;obtain ⟨m',hm,w3⟩:=hN σ3 H3 n3;exact ⟨m',hm,σ3,H3,I3,w3⟩
  | cont=>
   obtain ⟨σ3,H3,I3,n3⟩:=q3;obtain ⟨m',hm,w3⟩:=hN σ3 H3 n3;exact ⟨m',hm,σ3,H3,I3,w3⟩
  | brk=>exact q3
  | ret v=>exact q3
 | false=>
  rw [if_neg LI];exact wpAny_execs_nil ⟨σ1,H2,I2,q2⟩
end
theorem vR:entryFor table "proto.unchain" = Dn R6.«proto.unchain»:=entryFor_of_tree (by kernel_rfl)
inductive Gx (h:Heap):List Addr->Go->Prop
 | nil:Gx h [] .none
 | cons {c:Addr} {o:Obj} {vs:Array Go} {z:Go} {l:List Addr} (ho:h.get? c=Dn o) (hd:o.data=.fields vs) (h2:vs[2]?=Dn z) (t:Gx h l z):Gx h (c::l) (.ref c)
theorem Gx.keep {h h':Heap}{l:List Addr}{v:Go}(c:Gx h l v)(k:∀ a∈l,∀ o,h.get? a=Dn o->h'.get? a=Dn o):Gx h' l v:=by
 induction c with
 | nil=>exact .nil
 | cons ho hd h2 t ih=>exact .cons (k _ (by simp) _ ho) hd h2 (ih fun a ha=>k a (by simp [ha]))
theorem Gx.there {h:Heap}{l:List Addr}{v:Go}(c:Gx h l v):∀ a∈l,∃ o,h.get? a=Dn o:=by
 induction c with
 | nil=>intro a ha;cases ha
 | @cons c o vs z l ho hd h2 t ih=>
  intro a ha;rcases Fe.mp ha with rfl | ha
  ·exact ⟨o,ho⟩
  ·exact ih a ha
def Bk (A:Fd)(h:Heap):Prop:=∀ v,A.handled=Dn v->∃ a l,v=.ref a/\Gx h l v
theorem Rj.heap {P:Fb}{w:FZ}{H:Hp}{h:Heap}{v:Go}(c:Rj H v)(x:KD P w H h):∃ l,Gx h l v:=by
 induction c with
 | nil=>exact ⟨[],.nil⟩
 | cons h1 h2 h3 _ ih=>obtain ⟨l,t⟩:=ih;exact ⟨_,.cons (x _ _ h1).1 h2 h3 t⟩
theorem aeE {A:Fd}{P:Fb}{w:FZ}{H:Hp}{h:Heap}(q:Quiet A H)(x:KD P w H h):Bk A h:=fun v e=>by
 obtain ⟨⟨a,h1⟩,c⟩:=q v e;obtain ⟨l,t⟩:=c.heap x;exact ⟨a,l,h1,t⟩
def Lnk (h:Heap)(x y:Go):Prop:=∃ (c:Addr) (o:Obj) (vs:Array Go),x=.ref c/\h.get? c=Dn o/\o.data=.fields vs/\vs[2]?=Dn y
inductive Q8 (h:Heap):Go->Go->Prop
 | refl {x:Go}:Q8 h x x
 | step {x y z:Go} (a:Lnk h x y) (b:Q8 h y z):Q8 h x z
theorem Q8.snoc {h:Heap}{x y z:Go}(a:Q8 h x y)(b:Lnk h y z):Q8 h x z:=by
 induction a with
 | refl=>exact .step b .refl
 | step l _ ih=>exact .step l (ih b)
theorem Q8.one {h:Heap}{x y z:Go}(a:Q8 h x y)(b:Lnk h y z):∃ u,Lnk h x u/\Q8 h u z:=by
 cases a with
 | refl=>exact ⟨z,b,.refl⟩
 | step l r=>exact ⟨_,l,r.snoc b⟩
theorem zas {prog:Fb}{w:FZ}{A:Fd}{s:AP}{e:Addr}{R:Result->AP->Prop}(h:R (.ok (.ret .none)) s):∀ {l:List Addr} {o:Go},Gx s.heap l o->e∉l->(∃ a,o=.ref a)->∀ (slow:Go) (tg:Bool),(tg=false->Q8 s.heap slow o)->(tg=true->∃ y,Lnk s.heap slow y/\Q8 s.heap y o) ->
  QM (FJ prog w) A (.builtin "proto.unchain" ⟨[.ref e,o,slow,.bool tg],[]⟩) R s:=by
 intro l o c;induction c with
 | nil=>rintro _ ⟨a,z⟩;cases z
 | @cons c o vs z l ho hd h2 t ih=>
  intro ne _ slow tg hf ht;have lk:Lnk s.heap (.ref c) z:=⟨c,o,vs,rfl,ho,hd,h2⟩
  refine codeAny_builtin vR ?_;unfold R6.«proto.unchain»;dsimp only;refine Af<|KY ho hd h2 ?_
  by_cases z0:z=.none
  ·subst z0;rw [if_pos (show (Value.none==Value.none)=true from rfl)];refine Af<|FP<|FP ?_
   exact h
  ·have zn:¬ (z==Value.none)=true:=fun q=>z0 (beq_iff_eq.mp q)
   rw [if_neg zn];obtain ⟨d,rfl,hdm⟩:∃ d,z=.ref d/\d∈l:=by
    cases t with
    | nil=>exact absurd rfl z0
    | cons=>exact ⟨_,rfl,by simp⟩
   have ze:¬ (Value.ref d==Value.ref e)=true:=fun q=>by
    have:=Value.ref.inj (beq_iff_eq.mp q)
    exact ne (by rw [<-this];simp [hdm])
   rw [if_neg ze];by_cases zs:(Value.ref d==slow)=true
   ·rw [if_pos zs];refine Af<|T8 ?_
    first
     | exact FP h
     | (refine Af (FP (FP ?_));exact h)
   ·rw [if_neg zs];have ne':e∉l:=fun q=>ne (by simp [q])
    cases tg with
    | true=>
     obtain ⟨y,⟨cs,os,ss,rfl,hs1,hs2,hs3⟩,r⟩:=ht rfl;rw [if_pos rfl];refine Af<|KY hs1 hs2 hs3<|FP ⟨Code.quiet_builtin _<|by decide +kernel,?_⟩
     exact ih ne' ⟨d,rfl⟩ y false (fun _=>r.snoc lk) fun q=>nomatch q
    | false=>
     rw [if_neg LI];refine Af<|FP<|FP ⟨Code.quiet_builtin _<|by decide +kernel,?_⟩
     exact ih ne' ⟨d,rfl⟩ slow true (fun q=>nomatch q) fun _=>(hf rfl).one lk
theorem zat {α : Type}{prog:Fb}{w:FZ}{A:Fd}{E:Go->AP->Prop}{s:AP}{e:Addr}{oe:Obj}{ws:Array Go}{h0:Heap}{Q:α->AP->Prop}(hq:Bk A h0)(k0:∀ b o,h0.get? b=Dn o->s.heap.get? b=Dn o)(e0:h0.get? e=FX)(he:s.heap.get? e=Dn oe)(hd:oe.data=.fields ws)(hz:2<ws.size)
  (h:∀ h',(∀ b,b≠e->h'.get? b=s.heap.get? b)->(∃ o',h'.get? e=Dn o'/\o'.cls=oe.cls/\o'.dict=oe.dict/\((A.handled=FX/\h'=s.heap)\/∃ v,A.handled=Dn v/\o'.data=.fields (ws.setIfInBounds 2 v)))->E (.ref e) { s with heap:=h' }):CR (FJ prog w) A (raiseNew (.ref e):Sem α) Q E s:=by
 unfold raiseNew;refine Af<|wpAny_handled ?_
 cases hh:A.handled with
 | none=>
  dsimp only;refine Af<|FP<|wpAny_throw ?_
  exact h s.heap (fun _ _=>rfl) ⟨oe,he,rfl,rfl,.inl ⟨hh,rfl⟩⟩
 | some v=>
  obtain ⟨a,l,rfl,ch⟩:=hq v hh;have nl:e∉l:=fun q=>by obtain ⟨o,z⟩:=ch.there e q;rw [e0] at z;cases z
  have ch':Gx s.heap l (.ref a):=ch.keep fun b _ o z=>k0 b o z
  dsimp only;have al:a∈l:=by cases ch with | cons=>simp
  have ne:(Value.ref a != Value.ref e)=true:=by
   simp only [bne_iff_ne,ne_eq];intro q;exact nl (by rw [<-Value.ref.inj q];exact al)
  rw [if_pos ne];refine Af<|MH<|wpAny_runValue<|zas ?_ ch' nl ⟨a,rfl⟩ (.ref a) false (fun _=>.refl) fun q=>nomatch q
  dsimp only;refine Af ?_;unfold updateField;refine Af<|wpAny_load he ?_
  rw [hd];dsimp only;rw [if_pos hz];refine wpAny_update he<|wpAny_throw ?_
  have hd3:=TV hd (·.setIfInBounds 2 (Value.ref a));exact h _ (fun b hb=>Heap.get?_update_other _ _<|Jj hb) ⟨_,Sy _ he<|V8 hd3,Obj.cls_mapFields _ _,by obtain ⟨c0,d0,dt,sl⟩:=oe;cases hd;rfl,.inr ⟨_,hh,hd3⟩⟩
theorem zaR {prog:Fb}{w:FZ}{A:Fd}{E:Go->AP->Prop}{s:AP}{it:Addr}{x left step:Int}{Q:Option Go->AP->Prop}(hh:Bk A s.heap)(hit:IsRangeIter s.heap it x left step)(hleft:left<=0)
  (hQ:∀ h',Ti it s.heap h'->Q FX { s with heap:=h' }):CR (FJ prog w) A (Mw (.ref it)) Q E s:=by
 have hT:s.TypeIs (.ref it) "range_iterator":=⟨_,hit,rfl⟩
 unfold Mw;refine Af (Tc (Rz (name:=Rq "__next__") hT F.slot_range_iterator_next
  (RZ F.slot_range_iterator_next hT F.entry_range_iterator_next ?_ (F.args_range_iterator_next_1 _))))
 show CR _ _ (field (.ref it) 0 >>= _) _ _ s;refine Af<|KY hit rfl (x:=Mi x) rfl ?_
 show CR _ _ (field (.ref it) 1 >>= _) _ _ s;refine Af<|KY hit rfl (x:=Mi left) rfl ?_
 show CR _ _ (field (.ref it) 2 >>= _) _ _ s;refine Af<|KY hit rfl (x:=Mi step) rfl ?_
 show CR _ _ (if left<=0 then _ else _) _ _ s;rw [if_pos hleft];refine Af<|T8 ?_
 refine Af ?_;show CR _ _ (newExc (.type "StopIteration") [] >>= _) _ _ _;refine Af ?_;simp only [newExc,newTuple];refine Af<|Q5 ?_<|by size_fits
 refine Af (m:=Us _ _)<|Ru (a:=Value.none) (by first | rfl | (simp only [Us];rfl)) ?_
 refine Q5 ?_<|by size_fits
 refine zat (A:=A.in1) (h0:=s.heap) hh (fun b o q=>Gj _<|Gj _ q) (Heap.get?_none_of_le<|by simp [Heap.push]) (Jp _ rfl) rfl (by simp;lia) fun h' h1 ⟨o',h2,h3,_⟩=>?_;refine Af<|wpAny_isInstance (T := "StopIteration") (b:=true) ⟨_,h2,h3⟩ isSubtype_stop ?_
 refine FP<|hQ _ fun b o hb e=>?_
 rw [h1 b ?_]
 ·exact Gj _<|Gj _ e
 ·have:=Ga e
  exact HI<|JB this<|by simp [Heap.push]
structure It where
 go:Nat->Hp->Prop
 yld:Nat->Hp->V->Hp->Prop
 stop:Nat->Hp->Prop
 cm:Bool
def Gv (X:Cx)(pins:List (Addr×Obj))(H:Hp)(b:Addr):Prop:=
 H b=FX/\b≠X.env.locals/\b∉X.fs/\(b∈X.ex\/X.s₀.heap.objs.size<=b)/\(∀ x c,X.env.cells.lookup x=Dn c->c≠b)/\∀ p∈X.pn++pins,p.1≠b
theorem Ag.fpOk {X:Cx}{pins:List (Addr×Obj)}{σ : St}{H H':Hp}{s:AP}{b:Addr}(I:Ag X pins σ H s)(hb:s.heap.objs.size<=b)(hn:H' b=FX):Gv X pins H' b:=by
 refine ⟨hn,RQ<|JB I.lt hb,I.nofs hb,.inr<|Hj I.sz hb,fun x c e z=>?_,fun p hp z=>?_⟩
 ·obtain ⟨v,q⟩:=I.cell x c e;exact absurd (JB q.lt (by rw [z];exact hb))<|Mj _
 ·exact absurd (JB (Ga (I.pin p hp).1) (by rw [z];exact hb))<|Mj _
structure Turn (P:Fb) (w:FZ) (K:Ai) (tg:Expr) (J:It) (fp:List Addr) (it:Addr) (tn:Nat->Heap->Prop):Prop where
 mem:it∈fp
 obj:∀ i h,tn i h->∀ b∈fp,∃ o,h.get? b=Dn o/\∀ v,o.data≠.cell v
 keep:∀ i h h',tn i h->(∀ b∈fp,∀ o,h.get? b=Dn o->h'.get? b=Dn o)->tn i h'
 item:∀ (X:Cx),X.prog=P->X.w=w->X.K=K->(J.cm=true->X.calm=true)->∀ (i:Nat) (pins:List (Addr×Obj)) (s:AP) (σ : St) (H:Hp) (E:Go->AP->Prop),Ag X pins σ H s->(∀ b∈fp,Gv X pins H b)->tn i s.heap->J.go i H ->
  CR (FJ P w) X.A (Mw (.ref it)) (fun r s1=>∃ u,r=Dn u /\
   CR (FJ P w) X.A (letOwnedTupleGo tg (.ref it) u) (fun _ s2=>∃ x H',Ag X pins σ H' s2/\RelV x u/\J.yld i H x H'/\tn (i+1) s2.heap/\∀ b∈fp,H' b=FX) E s1) E s
 done:∀ (X:Cx),X.prog=P->X.w=w->X.K=K->(J.cm=true->X.calm=true)->∀ (i:Nat) (pins:List (Addr×Obj)) (s:AP) (σ : St) (H:Hp) (E:Go->AP->Prop),Ag X pins σ H s->(∀ b∈fp,Gv X pins H b)->tn i s.heap->J.stop i H ->
  CR (FJ P w) X.A (Mw (.ref it)) (fun r s1=>r=FX/\Ag X pins σ H s1) E s
 self:∀ (A:Fd) (i:Nat) (s:AP) (Q:Go->AP->Prop) (E:Go->AP->Prop),tn i s.heap->Q (.ref it) s->CR (FJ P w) A (pyIter (.ref it)) Q E s
abbrev TI:=St->Hp->(It->Hp->Prop)->Prop
def PIE (X:Cx)(pins:List (Addr×Obj))(σ : St)(tg:Expr)(R:It->Hp->Prop)(itv:Go)(s2:AP):Prop:=
 ∃ (it:Addr) (fp:List Addr) (tn:Nat->Heap->Prop) (J:It) (H':Hp),itv=.ref it/\Ag X pins σ H' s2/\Turn X.prog X.w X.K tg J fp it tn/\tn 0 s2.heap/\(∀ b∈fp,Gv X pins H' b)/\R J H'
def PI (X:Cx)(tg iter:Expr)(wi:TI):Prop:=
 ∀ (pins:List (Addr×Obj)) (s:AP) (σ : St) (H:Hp) (R:It->Hp->Prop),Ag X pins σ H s->wi σ H R ->
  CR (FJ X.prog X.w) X.A (eval iter X.env) (fun v s1=>CR (FJ X.prog X.w) X.A (pyIter v) (PIE X pins σ tg R) X.xe s1) X.xe s
theorem Kf {M:Model}{A:Fd}{E:Go->AP->Prop}{s:AP}{tg:Expr}{it:Addr}{u:Go}{o:Obj}{n:String}{vs:Array Go}{Q:Unit->AP->Prop}(ho:s.heap.get? it=Dn o)(hc:o.cls=.type n)(hd:o.data=.fields vs)
    (hn:["enumerate", "zip", "dict_itemiterator", "dict_reverseitemiterator", "odict_iterator", "itertools.zip_longest", "itertools.pairwise"].contains n=false) (hQ:Q () s):CR M A (letOwnedTupleGo tg (.ref it) u) Q E s:=by
  unfold letOwnedTupleGo;cases tg <;> first
    | exact FP hQ
    | (cases u <;> first
        | exact FP hQ
        | (refine Af (wpAny_load ho ?_)
           rw [hc,hd];show CR M A (if (["enumerate", "zip", "dict_itemiterator", "dict_reverseitemiterator", "odict_iterator", "itertools.zip_longest", "itertools.pairwise"].contains n&&vs[0]?==Dn (Mi _))=true then _ else _) Q E s;rw [if_neg (by intro h;rw [hn,Bool.false_and] at h;cases h)];exact FP hQ))
def Itl (K:Ai)(a:Addr):It:=
 ⟨fun i H=>∃ xs x,Hg K H a xs/\xs[i]?=Dn x,fun i H x H'=>H'=H/\∀ xs,Hg K H a xs->xs[i]?=Dn x,fun i H=>∃ xs,Hg K H a xs/\xs.length<=i,true⟩
def Itt (K:Ai)(a:Addr):It:=
 ⟨fun i H=>∃ xs x,Hs K H a xs/\xs[i]?=Dn x,fun i H x H'=>H'=H/\∀ xs,Hs K H a xs->xs[i]?=Dn x,fun i H=>∃ xs,Hs K H a xs/\xs.length<=i,true⟩
def Itr (lo:Int)(n:Nat):It:=⟨fun i _=>i<n,fun i H x H'=>H'=H/\x=.int (lo+i),fun i _=>n<=i,false⟩
theorem aep {P:Fb}{w:FZ}{K:Ai}{tg:Expr}(a it:Addr):Turn P w K tg (Itl K a) [it] it (fun i h=>h.IsListIter it a i) where
 mem:=by simp
 obj:=fun i h st b hb=>by
  have e:b=it:=by simpa using hb
  subst e;obtain ⟨o,e,c,d⟩:=st;exact ⟨o,e,fun v z=>by rw [d] at z;cases z⟩
 keep:=fun i h h' st k=>st.at fun o e=>k it (by simp) o e
 item:=by
  intro X hP hw hK hc i pins s σ H E I hf st hg;subst hP hw hK;obtain ⟨xs,x,hq,hx⟩:=hg;obtain ⟨its,rv,p,hz⟩:=I.list hq;obtain ⟨u,hu,ru⟩:=rv.get hx;obtain ⟨f0,f1,f2,f3,f4,f5⟩:=hf it (by simp);refine wpAny_pyNext_list_item st p.isList (x:=u) (by simpa using hu) fun h' st' sb=>?_;have I1:Ag X pins σ H { s with heap:=h' }:=I.turned (t':=s.toks) (fun b o hb e=>(sb.2 b hb).trans e) f0 f1 f3 f4 f5;obtain ⟨o,e,c,d⟩:=id st';exact ⟨u,rfl,Kf (s:={ s with heap:=h' }) e c d (by decide) ⟨x,H,I1,ru,⟨rfl,fun ys hy=>by rw [I.list_inj hy hq];exact hx⟩,st',fun b hb=>(hf b hb).1⟩⟩
 done:=by
  intro X hP hw hK hc i pins s σ H E I hf st hg;subst hP hw hK;obtain ⟨xs,hq,hx⟩:=hg;obtain ⟨its,rv,p,hz⟩:=I.list hq;obtain ⟨f0,f1,f2,f3,f4,f5⟩:=hf it (by simp);have hl:=rv.length;exact wpAny_pyNext_list_end (I.ok.hd<|hc rfl) st p.isList (by simp;lia) fun h' eb=>⟨rfl,I.turned (t':=s.toks) (fun b o hb e=>eb b o hb e) f0 f1 f3 f4 f5⟩
 self:=fun _ _ _ _ _ st h=>wpAny_pyIter_listiter st h
theorem aef {P:Fb}{w:FZ}{K:Ai}{tg:Expr}(a it:Addr):Turn P w K tg (Itt K a) [it] it (fun i h=>h.IsTupleIter it a i) where
 mem:=by simp
 obj:=fun i h st b hb=>by
  have e:b=it:=by simpa using hb
  subst e;obtain ⟨o,e,c,d⟩:=st;exact ⟨o,e,fun v z=>by rw [d] at z;cases z⟩
 keep:=fun i h h' st k=>st.at fun o e=>k it (by simp) o e
 item:=by
  intro X hP hw hK hc i pins s σ H E I hf st hg;subst hP hw hK;obtain ⟨xs,x,hq,hx⟩:=hg;obtain ⟨its,rv,p,hz⟩:=I.tuple hq;obtain ⟨u,hu,ru⟩:=rv.get hx;obtain ⟨f0,f1,f2,f3,f4,f5⟩:=hf it (by simp);refine wpAny_pyNext_tuple_item st (show s.heap.IsTuple a its.toArray from p) (x:=u) (by simpa using hu) fun h' st' sb=>?_;have I1:Ag X pins σ H { s with heap:=h' }:=I.turned (t':=s.toks) (fun b o hb e=>(sb.2 b hb).trans e) f0 f1 f3 f4 f5;obtain ⟨o,e,c,d⟩:=id st';exact ⟨u,rfl,Kf (s:={ s with heap:=h' }) e c d (by decide) ⟨x,H,I1,ru,⟨rfl,fun ys hy=>by rw [I.tuple_inj hy hq];exact hx⟩,st',fun b hb=>(hf b hb).1⟩⟩
 done:=by
  intro X hP hw hK hc i pins s σ H E I hf st hg;subst hP hw hK;obtain ⟨xs,hq,hx⟩:=hg;obtain ⟨its,rv,p,hz⟩:=I.tuple hq;obtain ⟨f0,f1,f2,f3,f4,f5⟩:=hf it (by simp);have hl:=rv.length;exact wpAny_pyNext_tuple_end (I.ok.hd<|hc rfl) st (show s.heap.IsTuple a its.toArray from p) (by simp;lia) fun h' eb=>⟨rfl,I.turned (t':=s.toks) (fun b o hb e=>eb b o hb e) f0 f1 f3 f4 f5⟩
 self:=fun _ _ _ _ _ st h=>wpAny_pyIter_tupleiter st h
theorem aew {P:Fb}{w:FZ}{K:Ai}{tg:Expr}(it:Addr)(lo:Int)(n:Nat):Turn P w K tg (Itr lo n) [it] it (fun i h=>IsRangeIter h it (lo+(i:Nat)*1) ((n:Int) - (i:Nat)) 1) where
 mem:=by simp
 obj:=fun i h st b hb=>by
  have e:b=it:=by simpa using hb
  subst e;exact ⟨_,st,fun v z=>by
   have z':Data.fields _=Data.cell v:=z;cases z'⟩
 keep:=fun i h h' st k=>k it (by simp) _ st
 item:=by
  intro X hP hw hK hc i pins s σ H E I hf st hg;subst hP hw hK;obtain ⟨f0,f1,f2,f3,f4,f5⟩:=hf it (by simp);refine wpAny_pyNext_range_item st (by have:i<n:=hg;lia) fun h' st' kk=>?_;have I1:Ag X pins σ H { s with heap:=h',toks:=s.toks+1 }:=I.turned (fun b o hb e=>(kk.2 b hb).trans e) f0 f1 f3 f4 f5;have st2:IsRangeIter h' it (lo+((i+1:Nat):Int)*1) ((n:Int) - ((i+1:Nat):Int)) 1:=by
   have e1:lo+((i+1:Nat):Int)*1=lo+((i:Nat):Int)*1+1:=by lia
   have e2:(n:Int) - ((i+1:Nat):Int)=(n:Int) - ((i:Nat):Int) - 1:=by lia
   rw [e1,e2];exact st'
  refine ⟨_,rfl,Kf (s:={ s with heap:=h',toks:=s.toks+1 }) (n := "range_iterator") st' rfl rfl (by decide) ⟨.int<|lo+i,H,I1,⟨s.toks,?_⟩,⟨rfl,rfl⟩,st2,fun b hb=>(hf b hb).1⟩⟩;rw [Int.mul_one]
 done:=by
  intro X hP hw hK hc i pins s σ H E I hf st hg;subst hP hw hK;obtain ⟨f0,f1,f2,f3,f4,f5⟩:=hf it (by simp);exact zaR (aeE I.qt0 I.hok) st (by have:n<=i:=hg;lia) fun h' eb=>⟨rfl,I.turned (t':=s.toks) (fun b o hb e=>eb b o hb e) f0 f1 f3 f4 f5⟩
 self:=fun _ _ _ _ _ st h=>wpAny_pyIter_rangeiter st h
section
variable {X:Cx}{tg:Expr}
theorem DW {pins:List (Addr×Obj)}{σ : St}{H:Hp}{s:AP}{R:It->Hp->Prop}{E:Go->AP->Prop}{lo hi:Int}{t u v:Tok}{tk:Nat}(I:Ag X pins σ H s)(h1:-(2^62)<=lo)(h2:lo<2^62)(h3:-(2^62)<=hi)(h4:hi<2^62)
  (q:R (Itr lo (hi - lo).toNat) H):CR (FJ X.prog X.w) X.A (pyIter (.ref s.heap.objs.size)) (PIE X pins σ tg R) E { s with heap:=s.heap.push { cls:=.type "range",data:=.fields #[.int lo t,.int hi u,.int 1 v] },toks:=tk }:=by
 refine wpAny_pyIter_range (IsRange.new ..) (small_one h1 h2 h3 h4) ?_;have I1:Ag X pins σ H { s with heap:=s.heap.push { cls:=.type "range",data:=.fields #[.int lo t,.int hi u,.int 1 v] },toks:=tk }:=I.kept fun b o e=>Gj _ e
 refine ⟨(s.heap.push { cls:=.type "range",data:=.fields #[.int lo t,.int hi u,.int 1 v] }).objs.size,[(s.heap.push { cls:=.type "range",data:=.fields #[.int lo t,.int hi u,.int 1 v] }).objs.size],_,_,H,rfl,
  I1.kept (t':=tk) fun b o e=>Gj _ e,aew _ lo (hi - lo).toNat,?_,fun b hb=>?_,q⟩
 ·have e1:lo+((0:Nat):Int)*1=lo:=by simp
  have e2:(((hi - lo).toNat:Nat):Int) - ((0:Nat):Int)=Builtin.Range.rangeSize lo hi 1:=by rw [rangeSize_one];split <;> lia
  show IsRangeIter _ _ (lo+((0:Nat):Int)*1) ((((hi - lo).toNat:Nat):Int) - ((0:Nat):Int)) 1;rw [e1,e2];exact Jp _ rfl
 ·have e:b=(s.heap.push { cls:=.type "range",data:=.fields #[.int lo t,.int hi u,.int 1 v] }).objs.size:=by simpa using hb
  subst e;exact I1.fpOk (Ge _)<|I1.hok.fresh<|Ge _
def ab2 (ta:TA):TI:=fun σ H R=>ta σ H fun vs H1=>∃ j:Int,vs=[.int j]/\-(2^62)<=j/\j<2^62/\R (Itr 0 j.toNat) H1
def aa2 (ta:TA):TI:=fun σ H R=>ta σ H fun vs H1=>∃ i j:Int,vs=[.int i,.int j]/\(-(2^62)<=i/\i<2^62/\-(2^62)<=j/\j<2^62)/\R (Itr i (j - i).toNat) H1
theorem zaN {a:Expr}{ta:TA}{p pos:Pos}(hg:Gl X "range")(hm:X.mg "range" = FX)(ha:PA X [a] ta)(hs:Fv [a] X.env=[(false,eval a X.env)]:=by rfl):PI X tg (.Call (.Name "range" p) [a] [] pos) (ab2 ta):=by
 intro pins s σ H R I h;refine Call_<|qT I hg hm boot_range<|V7 (GQ (ha pos pins s σ H _ I h) fun us s1 ⟨vs,H1,I1,r1,q1⟩=>?_) hs rfl
 obtain ⟨j,e,q1,q2,q⟩:=q1;subst e;cases r1 with
 | cons r rr=>
  cases rr;obtain ⟨t,rfl⟩:=r;exact call_range_1<|DW I1 (by lia) (by lia) q1 q2<|by simpa using q
theorem zaF {a b:Expr}{ta:TA}{p pos:Pos}(hg:Gl X "range")(hm:X.mg "range" = FX)(ha:PA X [a,b] ta)(hs:Fv [a,b] X.env=[(false,eval a X.env),(false,eval b X.env)]:=by rfl)(hs2:Fv [b] X.env=[(false,eval b X.env)]:=by rfl) :
  PI X tg (.Call (.Name "range" p) [a,b] [] pos) (aa2 ta):=by
 intro pins s σ H R I h;refine Call_<|qT I hg hm boot_range<|V7 (GQ (ha pos pins s σ H _ I h) fun us s1 ⟨vs,H1,I1,r1,q1⟩=>?_) (by rw [hs,hs2]) (by rw [hs2];rfl)
 obtain ⟨i,j,e,⟨q1,q2,q3,q4⟩,q⟩:=q1;subst e;cases r1 with
 | cons r rr=>
  cases rr with
  | cons r' rr=>
   cases rr;obtain ⟨t,rfl⟩:=r;obtain ⟨t',rfl⟩:=r';exact call_range_2<|DW I1 q1 q2 q3 q4 q
def ady (wi:TI)(g:TG)(tb:TS):TS:=fun D σ H=>wi σ H fun J H1=>∃ W:Nat->Nat->St->Hp->Prop,(∃ m,W 0 m σ H1)/\∀ i m σ H,W i m σ H ->
 (J.stop i H/\D.nx σ H)\/(J.go i H/\∃ N:St->Hp->Prop,(∀ σ' H',N σ' H'->∃ m',m'<m/\W (i+1) m' σ' H')/\∀ x H',J.yld i H x H'->g x σ H' fun σ2 H2=>tb { D with nx:=N,ct:=N,bk:=D.nx } σ2 H2)
def xu (fp:List Addr)(h:Heap):List (Addr×Obj):=fp.filterMap fun b=>(h.get? b).map fun o=>(b,o)
theorem jL {fp:List Addr}{h:Heap}{b:Addr}{o:Obj}(hb:b∈fp)(e:h.get? b=Dn o):(b,o)∈xu fp h:=List.mem_filterMap.mpr ⟨b,hb,by rw [e];rfl⟩
theorem ahe {fp:List Addr}{h:Heap}{p:Addr×Obj}(hp:p∈xu fp h):p.1∈fp/\h.get? p.1=Dn p.2:=by
 obtain ⟨b,hb,e⟩:=List.mem_filterMap.mp hp;cases q:h.get? b with
 | none=>rw [q] at e;cases e
 | some o=>
  rw [q] at e;have e':(b,o)=p:=HS e;subst e';exact ⟨hb,q⟩
theorem Ag.pinned {pins:List (Addr×Obj)}{σ : St}{H:Hp}{s:AP}{fp:List Addr}(I:Ag X pins σ H s)(hf:∀ b∈fp,Gv X pins H b)(ho:∀ b∈fp,∃ o,s.heap.get? b=Dn o/\∀ v,o.data≠.cell v):Ag X (pins++xu fp s.heap) σ H s:=
 I.pins_of fun p hp=>(S8.mp hp).elim (fun z=>I.pin p (RW _ z)) fun z=>by
  obtain ⟨hb,e⟩:=ahe z;obtain ⟨f0,f1,f2,_⟩:=hf p.1 hb;obtain ⟨o,e',d⟩:=ho p.1 hb;rw [e] at e';cases e';exact ⟨e,f0,f1,f2,d⟩
theorem Ag.unpinned {pins pl:List (Addr×Obj)}{σ : St}{H:Hp}{s:AP}(I:Ag X (pins++pl) σ H s):Ag X pins σ H s:=I.pins_of fun p hp=>I.pin p (RW _ (V3 _ hp))
theorem Yt {iter:Expr}{body:List Stmt}{wi:TI}{g:TG}{tb:TS}{pos:Pos}(hp:Va (FJ X.prog X.w) X.A X.env X.xe)(hc:X.calm=true)(hi:PI X tg iter wi)(hg:PG X tg g)(hb:ML X body tb)
  (hs:∀ x,S9 iter X.env x=pure x:=by intro _;rfl):PS X (.For tg iter body [] pos) (ady wi g tb):=by
 intro pins s σ H D I h;refine wpAny_For (GQ (hi pins s σ H _ I h) fun v s1 h1=>GQ h1 fun itv s2 h2=>?_) hs;obtain ⟨it,fp,tn,J,H2,e,I2,T,st2,f2,W,⟨m0,w0⟩,turn⟩:=h2;subst e
 -- what stays true of the iterator's objects through the loop
 have stat:∀ {H':Hp},(∀ b∈fp,H' b=FX)->∀ b∈fp,Gv X pins H' b:=fun hn b hb=>⟨hn b hb,(f2 b hb).2⟩
 refine codeAny_forLoop_any (fun n s'=>∃ i σ' H',Ag X pins σ' H' s'/\tn i s'.heap/\(∀ b∈fp,H' b=FX)/\W i n σ' H') ?_ m0 ⟨0,σ,H2,I2,st2,fun b hb=>(f2 b hb).1,w0⟩;rintro n s3 ⟨i,σ3,H3,I3,st3,fr3,w3⟩;rcases turn i n σ3 H3 w3 with ⟨stop,qn⟩ | ⟨go,N,hN,step⟩
 ·refine Td hp<|GQ (T.done X rfl rfl rfl (fun _=>hc) i pins s3 σ3 H3 X.xe I3 (stat fr3) st3 stop) fun r s4 ⟨hr,I4⟩=>?_
  subst hr;exact wpAny_execs_nil ⟨σ3,H3,I4,qn⟩
 ·refine Td hp<|GQ (T.item X rfl rfl rfl (fun _=>hc) i pins s3 σ3 H3 X.xe I3 (stat fr3) st3 go) fun r s4 ⟨u,hr,h4⟩=>?_
  subst hr;refine Td hp<|GQ h4 fun _ s5 ⟨x,H5,I5,r5,y5,st5,fr5⟩=>?_
  have I5':=I5.pinned (stat fr5) (T.obj _ _ st5);refine Td hp<|GQ (hg _ s5 σ3 H5 x u _ I5' r5<|step x H5 y5) fun _ s6 ⟨σ6,H6,I6,q6⟩=>?_
  refine Td hp<|GQ (hb _ s6 σ6 H6 _ I6 q6) fun f s7 q7=>?_
  have again:∀ {σ7:St} {H7:Hp},Ag X (pins++xu fp s5.heap) σ7 H7 s7->N σ7 H7->∃ m,m<n/\∃ i σ' H',Ag X pins σ' H' s7/\tn i s7.heap/\(∀ b∈fp,H' b=FX)/\W i m σ' H':=fun {σ7 H7} I7 n7=>by
   obtain ⟨m',hm,w7⟩:=hN σ7 H7 n7;refine ⟨m',hm,i+1,σ7,H7,I7.unpinned,T.keep _ _ _ st5 fun b hb o e=>(I7.pin (b,o)<|RW _<|RW _<|jL hb e).1,fun b hb=>?_,w7⟩;obtain ⟨o,e,d⟩:=T.obj _ _ st5 b hb;exact (I7.pin (b,o)<|RW _<|RW _<|jL hb e).2.1
  cases f with
  | next=>obtain ⟨σ7,H7,I7,n7⟩:=q7;exact again I7 n7
  | cont=>obtain ⟨σ7,H7,I7,n7⟩:=q7;exact again I7 n7
  | brk=>obtain ⟨σ7,H7,I7,q7⟩:=q7;exact ⟨σ7,H7,I7.unpinned,q7⟩
  | ret v=>obtain ⟨x7,σ7,H7,I7,r7,q7⟩:=q7;exact ⟨x7,σ7,H7,I7.unpinned,r7,q7⟩
end
abbrev R2:=V->V->Hp->VK->Prop
def Jt (X:Cx)(f:Go->Go->Sem Go)(r:R2):Prop:=
 ∀ (pins:List (Addr×Obj)) (s:AP) (σ : St) (H:Hp) (x y:V) (v u:Go) (Q:VK),Ag X pins σ H s->RelV x v->RelV y u->r x y H Q ->
  CR (FJ X.prog X.w) X.A (f v u) (EP X pins σ Q) X.xe s
def UnR (X:Cx)(f:Go->Sem Go)(r:V->Hp->VK->Prop):Prop:=
 ∀ (pins:List (Addr×Obj)) (s:AP) (σ : St) (H:Hp) (x:V) (v:Go) (Q:VK),Ag X pins σ H s->RelV x v->r x H Q ->
  CR (FJ X.prog X.w) X.A (f v) (EP X pins σ Q) X.xe s
def gj (X:Cx)(f:Go)(r:List V->Hp->VK->Prop):Prop:=
 ∀ (pins:List (Addr×Obj)) (s:AP) (σ : St) (H:Hp) (xs:List V) (us:List Go) (Q:VK),Ag X pins σ H s->Bp xs us->r xs H Q ->
  CR (FJ X.prog X.w) X.A (call f us) (EP X pins σ Q) X.xe s
def adE (X:Cx)(r:V->Hp->(Bool->Hp->Prop)->Prop):Prop:=
 ∀ (pins:List (Addr×Obj)) (s:AP) (σ : St) (H:Hp) (x:V) (v:Go) (Q:Bool->Hp->Prop),Ag X pins σ H s->RelV x v->r x H Q ->
  CR (FJ X.prog X.w) X.A (truthy v) (TP X pins σ Q) X.xe s
def tOp (r:R2)(ta tb:TE):TE:=fun σ H Q=>ta σ H fun x H1=>tb σ H1 fun y H2=>r x y H2 Q
def tUn (r:V->Hp->VK->Prop)(ta:TE):TE:=fun σ H Q=>ta σ H fun x H1=>r x H1 Q
def rI (C:Int->Int->Prop)(g:Int->Int->V):R2:=fun x y H Q=>∃ i j,x=.int i/\y=.int j/\C i j/\Q (g i j) H
def rI0 (g:Int->Int->V):R2:=fun x y H Q=>∃ i j,x=.int i/\y=.int j/\Q (g i j) H
def rU (g:Int->V):V->Hp->VK->Prop:=fun x H Q=>∃ i,x=.int i/\Q (g i) H
section
variable {X:Cx}{a b c:Expr}{ta tb tc:TE}{pos:Pos}
theorem aaW (ha:PE X a ta)(hb:PE X b tb){pins:List (Addr×Obj)}{s:AP}{σ : St}{H:Hp}{R:V->V->Hp->Prop}(I:Ag X pins σ H s)
  (h:ta σ H fun x H1=>tb σ H1 fun y H2=>R x y H2) {Q:Go->AP->Prop} {f:Go->Go->Sem Go}
  (hf:∀ v u s2 x y H2,Ag X pins σ H2 s2->RelV x v->RelV y u->R x y H2->CR (FJ X.prog X.w) X.A (f v u) Q X.xe s2) :
  CR (FJ X.prog X.w) X.A (eval a X.env) (fun v s₁=>CR (FJ X.prog X.w) X.A (eval b X.env) (fun u s₂=>CR (FJ X.prog X.w) X.A (f v u) Q X.xe s₂) X.xe s₁) X.xe s:=by
 refine GQ (ha pins s σ H _ I h) fun v s1 ⟨x,H1,I1,r1,q1⟩=>?_;refine GQ (hb pins s1 σ H1 _ I1 q1) fun u s2 ⟨y,H2,I2,r2,q2⟩=>?_;exact hf v u s2 x y H2 I2 r1 r2 q2
theorem aaP {op:Operator}{r:R2}(ho:Jt X (Ly op) r)(ha:PE X a ta)(hb:PE X b tb):PE X (.BinOp a op b pos) (tOp r ta tb):=by
 intro pins s σ H Q I h;exact wpAny_BinOp<|aaW ha hb I h fun v u s2 x y H2 I2 rx ry q=>ho pins s2 σ H2 x y v u Q I2 rx ry q
theorem aas {op:UnaryOp}{r:V->Hp->VK->Prop}(ho:UnR X (unaryOp op) r)(ha:PE X a ta):PE X (.UnaryOp op a pos) (tUn r ta):=by
 intro pins s σ H Q I h;exact UnaryOp_<|GQ (ha pins s σ H _ I h) fun v s1 ⟨x,H1,I1,r1,q1⟩=>ho pins s1 σ H1 x v Q I1 r1 q1
theorem opI {f:Go->Go->Sem Go}{C:Int->Int->Prop}{g:Int->Int->Int}
  (rule:∀ (i j:Int) (t u:Tok) (s:AP) (Q:Go->AP->Prop) (E:Go->AP->Prop),C i j->Q (.int (g i j) s.toks) { s with toks:=s.toks+1 }->CR (FJ X.prog X.w) X.A (f (.int i t) (.int j u)) Q E s) :
  Jt X f (rI C fun i j=>.int (g i j)):=by
 intro pins s σ H x y v u Q I rx ry h;obtain ⟨i,j,rfl,rfl,hc,q⟩:=h;obtain ⟨t,rfl⟩:=rx;obtain ⟨t',rfl⟩:=ry;exact rule i j t t' s _ _ hc ⟨.int<|g i j,H,I.tok _,⟨_,rfl⟩,q⟩
theorem acS {f:Go->Go->Sem Go}{g:Int->Int->Int}
  (rule:∀ (i j:Int) (t u:Tok) (s:AP) (Q:Go->AP->Prop) (E:Go->AP->Prop),Q (.int (g i j) s.toks) { s with toks:=s.toks+1 }->CR (FJ X.prog X.w) X.A (f (.int i t) (.int j u)) Q E s) :
  Jt X f (rI0 fun i j=>.int (g i j)):=by
 intro pins s σ H x y v u Q I rx ry h;obtain ⟨i,j,rfl,rfl,q⟩:=h;obtain ⟨t,rfl⟩:=rx;obtain ⟨t',rfl⟩:=ry;exact rule i j t t' s _ _ ⟨.int<|g i j,H,I.tok _,⟨_,rfl⟩,q⟩
theorem acw {f:Go->Go->Sem Go}{g:Int->Int->Bool}
  (rule:∀ (i j:Int) (t u:Tok) (s:AP) (Q:Go->AP->Prop) (E:Go->AP->Prop),Q (.bool (g i j)) s->CR (FJ X.prog X.w) X.A (f (.int i t) (.int j u)) Q E s) :
  Jt X f (rI0 fun i j=>.bl (g i j)):=by
 intro pins s σ H x y v u Q I rx ry h;obtain ⟨i,j,rfl,rfl,q⟩:=h;obtain ⟨t,rfl⟩:=rx;obtain ⟨t',rfl⟩:=ry;exact rule i j t t' s _ _ ⟨.bl<|g i j,H,I,rfl,q⟩
def ab6 (i j:Int):Prop:=0<=j/\j<=1000000/\i.natAbs<2^64
theorem XJ:Jt X (Ly .Add) (rI0 fun i j=>.int (i+j)):=acS fun _ _ _ _ _ _ _ q=>add_int q
theorem ZC:Jt X (Ly .Sub) (rI0 fun i j=>.int (i - j)):=acS fun _ _ _ _ _ _ _ q=>sub_int q
theorem aeS:Jt X (Ly .Mod) (rI (fun _ j=>j≠0) fun i j=>.int (i.fmod j)):=opI fun _ _ _ _ _ _ _ hc q=>mod_int' hc q
theorem W8:Jt X (Ly .Pow) (rI ab6 fun i j=>.int (i^j.toNat)):=opI fun _ _ _ _ _ _ _ hc q=>pow_int_small hc.1 hc.2.1 hc.2.2 q
theorem unI {f:Go->Sem Go}{g:Int->Int}
  (rule:∀ (i:Int) (t:Tok) (s:AP) (Q:Go->AP->Prop) (E:Go->AP->Prop),Q (.int (g i) s.toks) { s with toks:=s.toks+1 }->CR (FJ X.prog X.w) X.A (f (.int i t)) Q E s) :
  UnR X f (rU fun i=>.int (g i)):=by
 intro pins s σ H x v Q I rx h;obtain ⟨i,rfl,q⟩:=h;obtain ⟨t,rfl⟩:=rx;exact rule i t s _ _ ⟨.int<|g i,H,I.tok _,⟨_,rfl⟩,q⟩
theorem Zd:UnR X (unaryOp .USub) (rU fun i=>.int (-i)):=unI fun _ _ _ _ _ q=>neg_int q
theorem BR {pins:List (Addr×Obj)}{σ : St}{H:Hp}{s:AP}{Q:VK}{k k':Bool}(I:Ag X pins σ H s)(q:Q (.bl k) H)(e:k=k'):EP X pins σ Q (.bool k') s:=by
 subst e;exact ⟨.bl k,H,I,rfl,q⟩
theorem abN:Jt X (Lz .Lt) (rI0 fun i j=>.bl (decide (i<j))):=acw fun _ _ _ _ _ _ _ q=>lt_int q
theorem abf:Jt X (Lz .Gt) (rI0 fun i j=>.bl (decide (j<i))):=acw fun _ _ _ _ _ _ _ q=>gt_int q
theorem Yw:Jt X (Lz .Is) (fun x y H Q=>y=.non/\Q (.bl (decide (x=.non))) H):=by
 intro pins s σ H x y v u Q I rx ry h;obtain ⟨rfl,q⟩:=h;cases ry;refine is_none_gen<|BR I q ?_
 cases x <;> first
  | (cases rx;rfl)
  | (obtain ⟨t,rfl⟩:=rx;rfl)
theorem Jt.or {f:Go->Go->Sem Go}{r r':R2}(h:Jt X f r)(h':Jt X f r'):Jt X f (fun x y H Q=>r x y H Q\/r' x y H Q):=by
 intro pins s σ H x y v u Q I rx ry q;rcases q with q | q
 ·exact h pins s σ H x y v u Q I rx ry q
 ·exact h' pins s σ H x y v u Q I rx ry q
theorem Qj (b:Expr){op:CmpOp}(h:op≠.In:=by decide)(h2:op≠.NotIn:=by decide):Sh op b=false:=by
 have e1:(op==CmpOp.In)=false:=by cases op <;> first | rfl | exact absurd rfl h
 have e2:(op==CmpOp.NotIn)=false:=by cases op <;> first | rfl | exact absurd rfl h2
 cases b <;> simp [Sh,e1,e2]
theorem agM {op:CmpOp}{r:R2}(ho:Jt X (Lz op) r)(ha:PE X a ta)(hb:PE X b tb)(hm:Sh op b=false):PE X (.Compare a [op] [b] pos) (tOp r ta tb):=by
 intro pins s σ H Q I h;exact wpAny_Compare1 (aaW ha hb I h fun v u s2 x y H2 I2 rx ry q=>ho pins s2 σ H2 x y v u Q I2 rx ry q) hm
def ab3 (t:TE):TT:=fun σ H Q=>t σ H fun x H'=>∃ k,x=.bl k/\Q k H'
theorem agL {op:CmpOp}{r:R2}(ho:Jt X (Lz op) r)(ha:PE X a ta)(hb:PE X b tb)(hm:Sh op b=false):PT X (.Compare a [op] [b] pos) (ab3 (tOp r ta tb)):=by
 intro pins s σ H Q I h;refine wpAny_isTrue_Compare1 (GQ (ha pins s σ H _ I h) fun v s1 ⟨x,H1,I1,r1,q1⟩=>GQ (hb pins s1 σ H1 _ I1 q1) fun u s2 ⟨y,H2,I2,r2,q2⟩=>
  GQ (ho pins s2 σ H2 x y v u _ I2 r1 r2 q2) fun c s3 ⟨z,H3,I3,r3,k,e,q3⟩=>?_) hm
 subst e;cases r3;exact Uq ⟨H3,I3,q3⟩
def ace (K:Ai)(x:V)(H:Hp)(k:Bool):Prop:=
 match x with
 | .non=>k=false
 | .bl b=>k=b
 | .int i=>k=(i != 0)
 | .str y=>y.length<=Gb/\k=((y.length:Int) != 0)
 | .byt y=>y.size<=Gb/\k=((y.size:Int) != 0)
 | .ref p=>(∃ xs,Hg K H p xs/\k = !xs.isEmpty)\/(∃ xs,Hs K H p xs/\k = !xs.isEmpty)\/∃ kvs,H p=Dn (.dK kvs)/\k = !kvs.isEmpty
 | _=>False
theorem aek {κ : Type}{kvs:List (κ×V)}{vs:List (κ×Go)}(r:KV kvs vs):(!vs.isEmpty) = !kvs.isEmpty:=by
 cases r <;> rfl
theorem uE {xs:List V}{its:List Go}(r:Bp xs its):(!its.toArray.isEmpty) = !xs.isEmpty:=by
 cases r <;> simp
theorem oV:(Gb:Nat)<2^63:=by rw [Tz];decide
theorem Zo:adE X (fun x H Q=>∃ k,ace X.K x H k/\Q k H):=by
 intro pins s σ H x v Q I rx h;obtain ⟨k,e,q⟩:=h;have hl:=oV;have hs:Gb=16777216:=Tz;cases x with
 | non=>
  cases rx;have e':k=false:=e;subst e';exact truthy_none ⟨H,I,q⟩
 | bl b=>
  cases rx;have e':k=b:=e;subst e';exact Uq ⟨H,I,q⟩
 | int i=>
  obtain ⟨t,rfl⟩:=rx;have e':k=(i != 0):=e;subst e';exact PySem.P.truthy_int ⟨H,I,q⟩
 | str y=>
  obtain ⟨t,rfl⟩:=rx;obtain ⟨hy,e'⟩:y.length<=Gb/\k=((y.length:Int) != 0):=e;subst e';exact PySem.P.truthy_str (by lia) ⟨H,I.tok _,q⟩
 | byt y=>
  obtain ⟨t,rfl⟩:=rx;obtain ⟨hy,e'⟩:y.size<=Gb/\k=((y.size:Int) != 0):=e;subst e';exact PySem.W.truthy_bytes (by lia) ⟨H,I.tok _,q⟩
 | ref p=>
  cases rx;have e':(∃ xs,Hg X.K H p xs/\k = !xs.isEmpty)\/(∃ xs,Hs X.K H p xs/\k = !xs.isEmpty)\/∃ kvs,H p=Dn (.dK kvs)/\k = !kvs.isEmpty:=e
  rcases e' with ⟨xs,hx,e'⟩ | ⟨xs,hx,e'⟩ | ⟨kvs,hx,e'⟩
  ·subst e';obtain ⟨its,r,pl,hz⟩:=I.list hx;have hlen:=r.length;exact wpAny_truthy_list pl.isList (by simp only [Gz];lia) ⟨H,I.tok _,by rw [uE r];exact q⟩
  ·subst e';obtain ⟨its,r,pl,hz⟩:=I.tuple hx;have hlen:=r.length;exact truthy_tuple pl (by simp only [Gz];lia) ⟨H,I.tok _,by rw [uE r];exact q⟩
  ·subst e';obtain ⟨hz,hS,vs,r,m⟩:kvs.length<=Gb/\(p==sysModules)=false/\∃ vs,KV kvs vs/\s.heap.DictOf (Bf X.prog X.w) p vs:=I.hok p _ hx
   have hlen:kvs.length=vs.length:=Paired.length r;exact wpAny_truthy_dict hS m (by lia) ⟨H,I.tok _,by rw [aek r];exact q⟩
 | _=>exact (show False from e).elim
theorem ahg (ha:PE X a ta)(he:∀ whole,isTrue a X.env whole=(do let v <-whole;standAt a.pos;RL [v] (truthy v))) :
  PT X a (fun σ H Q=>ta σ H fun x H'=>∃ k,ace X.K x H' k/\Q k H'):=by
 intro pins s σ H Q I h;exact isTrue_plain (GQ (ha pins s σ H _ I h) fun v s1 ⟨x,H1,I1,r1,q1⟩=>Zo pins s1 σ H1 x v Q I1 r1 q1)<|he _
theorem vals1 {x:V}{us:List Go}(r:Bp [x] us):∃ u,us=[u]/\RelV x u:=by
 cases r with
 | cons r1 r2=>cases r2;exact ⟨_,rfl,r1⟩
theorem vals2 {x y:V}{us:List Go}(r:Bp [x,y] us):∃ u w',us=[u,w']/\RelV x u/\RelV y w':=by
 cases r with
 | cons r1 r2=>
  cases r2 with
  | cons r3 r4=>cases r4;exact ⟨_,_,rfl,r1,r3⟩
theorem afO:gj X (.builtin "abs") (fun xs H Q=>∃ i,xs=[.int i]/\Q (.int (if i<0 then -i else i)) H):=by
 intro pins s σ H xs us Q I r h;obtain ⟨i,rfl,q⟩:=h;obtain ⟨u,rfl,t,rfl⟩:=vals1 r;exact call_abs_int fun u tk=>⟨.int<|if i<0 then -i else i,H,I.tok _,⟨_,rfl⟩,q⟩
theorem ael (hc:X.calm=true):gj X (.builtin "max") (fun xs H Q=>∃ i j,xs=[.int i,.int j]/\Q (.int (if j>i then j else i)) H):=by
 intro pins s σ H xs us Q I r h;obtain ⟨i,j,rfl,q⟩:=h;obtain ⟨u,w',rfl,⟨t,rfl⟩,⟨t',rfl⟩⟩:=vals2 r;refine max_two_ints (I.ok.hd hc) fun h' tk k=>⟨_,H,I.kept k,?_,q⟩;by_cases hj:j>i
 ·rw [if_pos hj,if_pos hj];exact ⟨_,rfl⟩
 ·rw [if_neg hj,if_neg hj];exact ⟨_,rfl⟩
end
structure ad8 (h:Heap) (x dx C:Addr) (mA:Str->Option Go):Prop where
 obj:h.get? x=Dn (PySem.W.instObj C dx)
 ns:h.Ns1 dx mA
 ne:dx≠x
section
variable {prog:Fb}{w:FZ}{A:Fd}{E:Go->AP->Prop}{s:AP}{K:Ai}{x dx C f:Addr}{mA:Str->Option Go}{name:Str}{v:Go}
end
section
variable {P:Fb}{w:FZ}{H H':Hp}{h h':Heap}{a C dx:Addr}{fs fs':List (Str×V)}
end
structure Cls (K:Ai) (C:Addr):Prop where
 pg:PySem.W.plainGet K C Str.empty=true
 hd:PySem.W.hasDictIn K C=true
 po:PySem.W.plainOver K C=true
 sa:Rr K (.ref C) "__setattr__" = Dn (Dn (.builtin "object.__setattr__"))
structure Con (K:Ai) (C:Addr) (f:Str) (v:V) (u:Go):Prop where
 at_:Rr K (.ref C) f=Dn (Dn u)
 rel:RelV v u
 get:PySem.W.specialIn K u "__get__" = Dn FX
 cp:PySem.W.copiedNames.contains f=false
structure Meth (K:Ai) (C:Addr) (m:Str) (f:Addr):Prop where
 at_:Rr K (.ref C) m=Dn (Dn (.ref f))
 fn:PySem.W.isFn K (.ref f)=true
 kp:Q6 K (.ref f)=true
section
variable {X:Cx}{pins:List (Addr×Obj)}{σ : St}{H:Hp}{s:AP}{a C dx:Addr}{fs:List (Str×V)}{f:Str}{v:V}{A:Fd}{E:Go->AP->Prop}
end
section
variable {X:Cx}{o e value:Expr}{f:Str}{pos pos' tpos:Pos}{ta tv:TE}
end
section
variable {X:Cx}{pins:List (Addr×Obj)}{σ : St}{H:Hp}{s:AP}{A:Fd}{E:Go->AP->Prop}{Q:Go->AP->Prop}{c:Go}{b:Bool}
inductive Im (K:Ai) (H:Hp):V->Go->Prop where
 | non:Im K H .non (.type "NoneType")
 | bl (x:Bool):Im K H (.bl x) (.type "bool")
 | int (i:Int):Im K H (.int i) (.type "int")
 | str (x:Str):Im K H (.str x) (.type "str")
 | flt (x:UInt64):Im K H (.flt x) (.type "float")
 | lst {a:Addr} {xs:List V} (e:H a=Dn (.lst xs)):Im K H (.ref a) (.type "list")
 | frz {a:Addr} {o:Obj} {xs:List V} (e:H a=Dn (.frz o (.lst xs))):Im K H (.ref a) (.type "list")
 | tup {a:Addr} {xs:List V} (e:H a=Dn (.tup xs)):Im K H (.ref a) (.type "tuple")
 | dK {a:Addr} {kvs:List (Key×V)} (e:H a=Dn (.dK kvs)):Im K H (.ref a) (.type "dict")
 | dT {a:Addr} {kvs:List (List Key×V)} (e:H a=Dn (.dT kvs)):Im K H (.ref a) (.type "dict")
 | ins {a C dx:Addr} {fs:List (Str×V)} (e:H a=Dn (.ins C dx fs)) (cl:Cls K C) (ha:Rr K (.ref C) "__class__" = Dn (Dn (.builtin "object.__class__")))
   (hn:PySem.W.specialIn K (.builtin "object.__class__") "__get__" = Dn (Dn (.builtin "getset_descriptor.__get__"))) (htk:PySem.W.takesIn K (.builtin "object.__class__")=Dn true)
   (hm:PySem.W.mroIn K C (.type "object")=Dn true):Im K H (.ref a) (.ref C)
end
structure mW (k:Nat) (A:Fd):Prop where
 hd:9<=k->A.handled=FX
 dp:A.depth+3*k+5<recursionLimit
 un:A.units+16*k+200<Jd
theorem mW.mono {j k:Nat}{A:Fd}(r:mW k A)(h:j<=k):mW j A:=⟨fun z=>r.hd (Hj z h),by have:=r.dp;lia,by have:=r.un;lia⟩
theorem mW.deeper {k:Nat}{A:Fd}(r:mW (k+1) A)(env:Env):mW k (A.deeper env):=
 ⟨fun z=>r.hd (Nat.le_succ_of_le z),by have:=r.dp;show A.depth+1+3*k+5<_;lia,by have:=r.un;show A.units+3+16*k+200<_;lia⟩
theorem mW.calm {k:Nat}{A:Fd}(r:mW k A)(h:9<=k):A.handled.isNone=true:=by rw [r.hd h];rfl
theorem mW.depth {k:Nat}{A:Fd}(r:mW k A):A.depth<recursionLimit:=by have:=r.dp;lia
theorem mW.units {k:Nat}{A:Fd}(r:mW k A):A.units+64<Jd:=by have:=r.un;lia
def acd:TA:=fun _ H Q=>Q [] H
def abD (ta:TE)(tr:TA):TA:=fun σ H Q=>ta σ H fun x H1=>tr σ H1 fun xs H2=>Q (x::xs) H2
section
variable {X:Cx}{e:Expr}{es:List Expr}{te:TE}{t:TA}{pos:Pos}
theorem Jx:PA X [] acd:=fun _ _ _ _ H Q I h=>Calls.spliced_nil ⟨[],H,I,.nil,h⟩
theorem BJ (ha:PE X e te)(hr:PA X es t)(hs:Fv (e::es) X.env=(false,eval e X.env)::Fv es X.env:=by rfl):PA X (e::es) (abD te t):=by
 intro pos pins s σ H Q I h;rw [hs];show CR _ _ (spliced ((false,eval e X.env)::KR pos (Fv es X.env))) _ _ s;refine Calls.spliced_cons<|GQ (ha pins s σ H _ I h) fun u s1 ⟨x,H1,I1,r1,q1⟩=>?_
 exact GQ (hr pos pins s1 σ H1 _ I1 q1) fun us s2 ⟨xs,H2,I2,r2,q2⟩=>⟨x::xs,H2,I2,.cons r1 r2,q2⟩
def adM (t:TA):TE:=fun σ H Q=>t σ H fun xs H1=>xs.length<=Gb/\∀ p,H1 p=FX->Q (.ref p) (Fy H1 p (.tup xs))
def ade (t:TA):TE:=fun σ H Q=>t σ H fun xs H1=>xs.length<=Gb/\∀ p,H1 p=FX->Q (.ref p) (Fy H1 p (.lst xs))
theorem Xa {x1}(h:PA X es t):PE X (.Tuple es x1 pos) (adM t):=by
 intro pins s σ H Q I hq;refine wpAny_Tuple_spliced<|GQ (h pos pins s σ H _ I hq) fun us s1 ⟨xs,H1,I1,r,z,q⟩=>⟨by rw [<-r.length];exact z,?_⟩
 have hf:H1 s1.heap.objs.size=FX:=I1.hok.fresh (Ge _);refine ⟨.ref s1.heap.objs.size,Fy H1 s1.heap.objs.size<|.tup xs,I1.laid (t':=s1.toks) (fun b u e=>Gj _ e) (Ge _) ?_,rfl,q _ hf⟩;exact ⟨z,us,r,⟨_,Jp _ rfl,rfl,⟨_,rfl⟩,rfl⟩⟩
theorem O4 (h:PA X es t):PE X (.List es pos) (ade t):=by
 intro pins s σ H Q I hq;refine wpAny_List_spliced<|GQ (h pos pins s σ H _ I hq) fun us s1 ⟨xs,H1,I1,r,z,q⟩=>⟨by rw [<-r.length];exact z,?_⟩
 have hf:H1 s1.heap.objs.size=FX:=I1.hok.fresh (Ge _);refine ⟨.ref s1.heap.objs.size,Fy H1 s1.heap.objs.size<|.lst xs,I1.laid (t':=s1.toks) (fun b u e=>Gj _ e) (Ge _) ?_,rfl,q _ hf⟩;exact ⟨z,us,0,r,Jp _ rfl⟩
end
abbrev Sp:=List V->Hp->VK->XK->Prop
abbrev Oa:=List Env->Hp->AP->XK->Go->AP->Prop
structure Z8 (P:Fb) (w:FZ) (K:Ai) (mg:Str->Option Go) (base:Heap) (A:Fd) (outer:List Env) (s:AP) (H:Hp):Prop where
 frames:A.frames=Dn outer
 mod:Mod K mg base
 bs:∀ b o,base.get? b=Dn o->s.heap.get? b=Dn o/\H b=FX
 bsz:base.objs.size<=s.heap.objs.size
 funs:s.heap.FunFrames base outer
 frf:∀ b∈frs outer,H b=FX
 hok:KD P w H s.heap
 bare:RK s.gens
 qt:Quiet A H
def CE (outer:List Env)(P:Fb)(w:FZ)(H:Hp)(s:AP)(Q:VK)(u:Go)(s':AP):Prop:=
 ∃ v H',s'.os=s.os/\RK s'.gens/\Un (frs outer) [] H H' s.heap s'.heap/\KD P w H' s'.heap/\RelV v u/\Q v H'
def aeG (CX:Oa)(outer:List Env)(P:Fb)(w:FZ)(H:Hp)(s:AP)(Q:VK)(E:XK)(r:Result)(s':AP):Prop:=
 match r with
 | .ok (.ret u)=>CE outer P w H s Q u s'
 | .ok _=>False
 | .error e=>CX outer H s E e s'
structure qO (P:Fb) (w:FZ) (K:Ai) (mg:Str->Option Go) (base:Heap) (CX:Oa) (k:Nat) (f:Addr) (fd:Le) (ps:List Str) (sp:Sp):Prop where
 len:∀ vs H Q E,sp vs H Q E->vs.length=ps.length
 run:∀ (A:Fd) (outer:List Env) (s:AP) (H:Hp) (args:Args) (us:List Go) (vs:List V) (Q:VK) (E:XK),mW k A->Z8 P w K mg base A outer s H->BindsTo s fd args (ps.zip us)->Bp vs us->sp vs H Q E ->
  QM (FJ P w) A (.call (.ref f) args) (aeG CX outer P w H s Q E) s
theorem qO.mono {P:Fb}{w:FZ}{K:Ai}{mg:Str->Option Go}{base:Heap}{CX:Oa}{j k:Nat}{f:Addr}{fd:Le}{ps:List Str}{sp:Sp}(F:qO P w K mg base CX j f fd ps sp)(h:j<=k) :
  qO P w K mg base CX k f fd ps sp:=⟨F.len,fun A outer s H args us vs Q E hr=>F.run A outer s H args us vs Q E (hr.mono h)⟩
theorem qO.imp {P:Fb}{w:FZ}{K:Ai}{mg:Str->Option Go}{base:Heap}{CX:Oa}{k:Nat}{f:Addr}{fd:Le}{ps:List Str}{sp sp':Sp}(F:qO P w K mg base CX k f fd ps sp)
  (h:∀ vs H Q E,sp' vs H Q E->sp vs H Q E):qO P w K mg base CX k f fd ps sp':=
 ⟨fun vs H Q E q=>F.len vs H Q E (h _ _ _ _ q),fun A outer s H args us vs Q E hr he hb hv hs=>F.run A outer s H args us vs Q E hr he hb hv (h _ _ _ _ hs)⟩
section
variable {X:Cx}{pins:List (Addr×Obj)}{σ : St}{H:Hp}{s s':AP}
theorem Ag.env0 (I:Ag X pins σ H s):Z8 X.prog X.w X.K X.mg X.base X.A X.stack s H:=
 ⟨I.ok.frames,I.ok.mod,I.bs,Hj I.ok.bsz I.sz,I.stack,I.stkFree,I.hok,I.bare,I.qt0⟩
theorem Ag.after {Q:VK}{u:Go}(I:Ag X pins σ H s)(h:CE X.stack X.prog X.w H s Q u s'):EP X pins σ Q u s':=by
 obtain ⟨v,H',os,bare,un,hok,r,q⟩:=h;obtain ⟨hh,g,d,t,os'⟩:=s';obtain rfl:os'=s.os:=os;exact ⟨v,H',I.call (h':=hh) (g':=g) (d':=d) (t':=t) (ch:=[]) un hok bare<|fun b z=>absurd z<|by simp,r,q⟩
end
def Vf (sp:Sp)(dvs:List V)(E:XK)(t:TA):TE:=fun σ H Q=>t σ H fun vs H1=>sp (vs++dvs) H1 Q E
def Binds (K:Ai)(fd:Le)(ps:List Str)(ds:List Go):Prop:=
 ∀ (s:AP) (us:List Go),K.In s.heap->(us++ds).length=ps.length->BindsTo s fd ⟨us,[]⟩ (ps.zip (us++ds))
theorem Binds.all {K:Ai}{fd:Le}{ps:List Str}(h:∀ us:List Go,us.length=ps.length->bindArgs fd ⟨us,[]⟩=pure (ps.zip us)):Binds K fd ps []:=fun s us _ hl=>by
 rw [Uk] at hl |-
 exact .of_eq<|h us hl
def Passes (CX:Oa)(X:Cx)(E:XK):Prop:=∀ (pins:List (Addr×Obj)) (σ : St) (H:Hp) (s:AP) (e:Go) (s':AP),Ag X pins σ H s->CX X.stack H s E e s'->X.xe e s'
section
variable {X:Cx}{CX:Oa}{k:Nat}{f C:Addr}{fd:Le}{ps:List Str}{sp:Sp}{dvs:List V}{ds:List Go}{E:XK}{x m:Str}{p pos apos:Pos}{e o:Expr}{es:List Expr}{ta:TE}{t:TA}
theorem Pk {pins:List (Addr×Obj)}{σ : St}{H:Hp}{s:AP}{Q:VK}{us:List Go}{vs:List V}(F:qO X.prog X.w X.K X.mg X.base CX k f fd ps sp)(hr:mW k X.A)(hb:Binds X.K fd ps ds)(hd:Bp dvs ds)(hx:Passes CX X E)
  (I:Ag X pins σ H s) (r:Bp vs us) (h:sp (vs++dvs) H Q E):CR (FJ X.prog X.w) X.A (call (.ref f) us) (EP X pins σ Q) X.xe s:=by
 have r2:Bp (vs++dvs) (us++ds):=r.append hd;have hl:(us++ds).length=ps.length:=by rw [<-r2.length];exact F.len _ _ _ _ h
 refine wpAny_call<|codeAny_mono (F.run X.A X.stack s H ⟨us,[]⟩ (us++ds) (vs++dvs) Q E hr I.env0 (hb s us I.kIn hl) r2 h) fun r s' hq=>?_
 cases r with
 | error e=>exact hx pins σ H s e s' I hq
 | ok fl=>
  cases fl with
  | ret u=>exact I.after hq
  | next=>exact QT hq
  | brk=>exact QT hq
  | cont=>exact QT hq
theorem zbH (F:qO X.prog X.w X.K X.mg X.base CX k f fd ps sp)(hr:mW k X.A)(hg:Gl X x)(hm:X.mg x=Dn (.ref f))(hk:Q6 X.K (.ref f)=true)(hb:Binds X.K fd ps ds)(hd:Bp dvs ds)(hx:Passes CX X E)
  (ha:PA X (e::es) t) (hdb:(x==("__debug__" : Str))=false:=by decide) (he:Fv (e::es) X.env=(false,eval e X.env)::Fv es X.env:=by rfl) (hpl:(KR pos (Fv es X.env)).any (·.1)=false:=by rfl) :
  PE X (.Call (.Name x p) (e::es) [] pos) (Vf sp dvs E t):=by
 intro pins s σ H Q I h;refine UJ<|Bj I hg hm ?_ hdb
 refine PySem.W.callWith_K (h₀:=X.base) I.ok.mod.kin hk (GQ (ha pos pins s σ H _ I h) fun us s1 ⟨vs,H1,I1,r,q⟩=>⟨I1.kIn,?_⟩) he hpl;exact Pk F hr hb hd hx I1 r q
theorem ahu (F:qO X.prog X.w X.K X.mg X.base CX k f fd ps sp)(hr:mW k X.A)(hg:Gl X x)(hm:X.mg x=Dn (.ref f))(hk:Q6 X.K (.ref f)=true)(hb:Binds X.K fd ps ds)(hd:Bp dvs ds)(hx:Passes CX X E)
  (hdb:(x==("__debug__" : Str))=false:=by decide):PE X (.Call (.Name x p) [] [] pos) (Vf sp dvs E acd):=by
 intro pins s σ H Q I h;refine UJ<|Bj I hg hm ?_ hdb
 exact PySem.W.callWith_K0 I.kIn hk<|Pk (us:=[]) F hr hb hd hx I .nil h
structure zae (K:Ai) (C f:Addr):Prop where
 makes:PySem.W.makesIn K C=true
 init:Rr K (.ref C) "__init__" = Dn (Dn (.ref f))
 fn:PySem.W.isFn K (.ref f)=true
 kp:Q6 K (.ref C)=true
end
section
variable {X:Cx}{CX:Oa}{k:Nat}{f C:Addr}{fd:Le}{ps ks:List Str}{sp:Sp}{E:XK}{x m:Str}{p pos apos kpos:Pos}{e o:Expr}{es:List Expr}{kws:List Od}{te ta:TE}{t tk:TA}{nm:Option Str}
structure acL (K:Ai) (fd:Le) (ps ks:List Str) (g:List Go->List Go->List Go) (gV:List V->List V->List V):Prop where
 to:∀ (s:AP) (us ws:List Go),K.In s.heap->(g us ws).length=ps.length->BindsTo s fd ⟨us,ks.zip ws⟩ (ps.zip (g us ws))
 rel:∀ {vs:List V} {us:List Go} {zs:List V} {ws:List Go},Bp vs us->Bp zs ws->Bp (gV vs zs) (g us ws)
variable {g:List Go->List Go->List Go}{gV:List V->List V->List V}
end
structure m6 (N P:List Str) (sc:Scope):Prop where
 kind:sc.kind=.function
 co:sc.isCoroutine=false
 gen:sc.isGenerator=false
 nd:N.Nodup
 pre:N.take P.length=P
 par:∀ x∈P,sc.names.lookup x=Dn .local\/sc.names.lookup x=Dn .cell
 nofree:∀ y∈sc.names,y.2≠.free
theorem xR {M7:Str->Option Kh}{x:Str}:∀ {binds:List (Str×Go)} {m:Str->Option Go},(∀ v,(x,v)∉binds)->bindL M7 binds m x=m x
 | [],_,_=>rfl
 | (n,v)::r,m,h=>by
  unfold bindL;rw [xR fun w hw=>h w (MK _ hw)];split
  ·have:x≠n:=by rintro rfl;exact h v MJ
   simp [this]
  ·rfl
theorem yu {M7:Str->Option Kh}{x:Str}:∀ {binds:List (Str×Go)} {m:Str->Option Go},(∀ v,(x,v)∉binds)->bindC M7 binds m x=m x
 | [],_,_=>rfl
 | (n,v)::r,m,h=>by
  unfold bindC;rw [yu fun w hw=>h w (MK _ hw)];split
  ·rfl
  ·have:x≠n:=by rintro rfl;exact h v MJ
   simp [this]
theorem yV {M7:Str->Option Kh}{x:Str}{v:Go}:∀ {P:List Str} {vs:List Go} {i:Nat} {m:Str->Option Go},P.Nodup->P[i]?=Dn x->vs[i]?=Dn v->M7 x=Dn .local ->
  bindL M7 (P.zip vs) m x=Dn v
 | [],_,_,_,_,h,_,_=>by simp at h
 | _::_,[],_,_,_,_,h,_=>by simp at h
 | p::P,w::vs,0,m,nd,h1,h2,hk=>by
  simp at h1 h2;subst h1;subst h2;show bindL M7 ((p,w)::P.zip vs) m p=_;unfold bindL;rw [xR fun v hv=>(N7.mp nd).1 (List.of_mem_zip hv).1,if_pos hk];simp
 | p::P,w::vs,i+1,m,nd,h1,h2,hk=>by
  show bindL M7 ((p,w)::P.zip vs) m x=_;unfold bindL;exact yV (i:=i) (N7.mp nd).2 (by simpa using h1) (by simpa using h2) hk
theorem yw {M7:Str->Option Kh}{x:Str}{v:Go}:∀ {P:List Str} {vs:List Go} {i:Nat} {m:Str->Option Go},P.Nodup->P[i]?=Dn x->vs[i]?=Dn v->M7 x≠Dn .local ->
  bindC M7 (P.zip vs) m x=Dn v
 | [],_,_,_,_,h,_,_=>by simp at h
 | _::_,[],_,_,_,_,h,_=>by simp at h
 | p::P,w::vs,0,m,nd,h1,h2,hk=>by
  simp at h1 h2;subst h1;subst h2;show bindC M7 ((p,w)::P.zip vs) m p=_;unfold bindC;rw [yu fun v hv=>(N7.mp nd).1 (List.of_mem_zip hv).1,if_neg hk];simp
 | p::P,w::vs,i+1,m,nd,h1,h2,hk=>by
  show bindC M7 ((p,w)::P.zip vs) m x=_;unfold bindC;exact yw (i:=i) (N7.mp nd).2 (by simpa using h1) (by simpa using h2) hk
def start (N:List Str)(vs:List V):St:=vs.map Dn++R0 (N.length - vs.length) FX
def Nj (CX:Oa)(P:Fb)(w:FZ)(K:Ai)(mg:Str->Option Go)(base:Heap)(N:List Str)(qual:Str)(scope:Scope)(f:Addr)(cd:Go)(A:Fd)(outer:List Env)(s:AP)(H:Hp)(E:XK):Cx where
 prog:=P
 w:=w
 K:=K
 mg:=mg
 base:=base
 A:=A.deeper (envOfC qual scope s.heap.objs.size f cd)
 N:=N
 s₀:=s
 H₀:=H
 env:=envOfC qual scope s.heap.objs.size f cd
 outer:=outer
 stack:=envOfC qual scope s.heap.objs.size f cd::outer
 ex:=[]
 calm:=A.handled.isNone
 fn:=fun _=>true
 pn:=[]
 xe:=fun e s'=>CR (FJ P w) (A.deeper (envOfC qual scope s.heap.objs.size f cd)) (leaving (envOfC qual scope s.heap.objs.size f cd) e) (fun _ s''=>CX outer H s E e s'') (fun e' s''=>CX outer H s E e' s'') s'
theorem En {sc:Scope}{n:Nat}{x:Str}(h:sc.names.lookup x=Dn .cell):∃ c,(Jh n sc.names []).lookup x=Dn c:=by
 have q:=PySem.W.cellsFrom_some sc.names n [] (.inl h);exact Option.isSome_iff_exists.mp q
theorem zaO {CX:Oa}{P:Fb}{w:FZ}{K:Ai}{mg:Str->Option Go}{base:Heap}{N ps:List Str}{qual:Str}{scope:Scope}{f:Addr}{cd:Go}{A:Fd}{outer:List Env}{s s1:AP}{H:Hp}{E:XK}{us:List Go}{vs:List V}
  (S:m6 N ps scope) (e0:Z8 P w K mg base A outer s H) (hl:vs.length=ps.length) (r:Bp vs us)
  (x:InCallC s s.heap.objs.size (bindL (envOfC qual scope s.heap.objs.size f cd).kindOf (ps.zip us) fun _=>FX) (Jh (s.heap.objs.size+1) scope.names []) (bindC (envOfC qual scope s.heap.objs.size f cd).kindOf (ps.zip us) fun _=>FX) s1) :
  Ag (Nj CX P w K mg base N qual scope f cd A outer s H E) [] (start N vs) H s1:=by
 have hpl:ps.length<=N.length:=by have:=congrArg List.length S.pre;rw [List.length_take] at this;lia
 obtain ⟨h1,tk,rfl,hk⟩:=x.done;have noA:∀ b:Addr,b∉(Nj CX P w K mg base N qual scope f cd A outer s H E).ex:=fun b z=>absurd (show b∈([]:List Addr) from z) (by simp)
 refine ⟨⟨e0.mod,S.kind,rfl,rfl,Ge _,fun y z c h1 h2=>?_,fun y hy=>?_,fun y c _ h=>?_,fun z=>Option.isNone_iff_eq_none.mp (show A.handled.isNone=true from z),e0.qt,Around.frames_deeper e0.frames,.inr ⟨rfl,rfl⟩,fun b z=>absurd z (noA b),e0.bs,e0.bsz,fun b _ _=>noA b,fun b z=>absurd z (noA b),e0.funs,e0.frf⟩,
  rfl,e0.bare,Un.kept hk,⟨_,x.toInCall.ns,fun i y v h1 h2 h3=>?_⟩,fun y c h=>⟨_,x.cell y c h⟩,e0.hok.fresh (Ge _),fun y c h=>?_,fun p hp=>absurd (show p∈([]:List (Addr×Obj)) from hp) (by simp),e0.hok.kept hk,?_⟩
 ·exact name_of_addr x.apart (RT h1)<|RT h2
 ·have hy:scope.names.lookup y=Dn .cell\/scope.names.lookup y=Dn .free:=hy;rcases hy with hy | hy
  ·exact En hy
  ·exact absurd rfl<|S.nofree _<|RT hy
 ·exact Tq<|x.above y c<|RT h
 ·have hi:i<vs.length:=by
   unfold start at h2;by_cases hi:i<vs.length
   ·exact hi
   ·rw [Sv (by simpa using hi)] at h2;rw [VN] at h2;split at h2 <;> cases h2
  have ha:vs[i]?=Dn v:=by
   unfold start at h2;rw [Ss (by simpa using hi),K8] at h2;cases e:vs[i]? with
   | none=>rw [e] at h2;cases h2
   | some a=>rw [e] at h2;cases h2;rfl
  obtain ⟨u,hu,rv⟩:=r.get ha;have hp:ps[i]?=Dn y:=by
   rw [<-S.pre,List.getElem?_take_of_lt (by lia)];exact h1
  have ndP:ps.Nodup:=by rw [<-S.pre];exact S.nd.sublist (List.take_sublist _ _)
  refine ⟨u,rv,?_⟩;rcases S.par y (SM hp) with k | k
  ·exact .inl ⟨k,yV ndP hp hu k⟩
  ·obtain ⟨c,e⟩:=En (n:=s.heap.objs.size+1) k;refine .inr ⟨.inl k,c,e,?_⟩;have q:=x.cell y c e;rw [yw ndP hp hu (by show scope.names.lookup y≠_;rw [k];decide)] at q;exact q
 ·exact e0.hok.fresh<|Tq<|x.above y c<|RT h
 ·unfold start;show _=N.length;rw [Nt,GJ,List.length_replicate];lia
theorem abS {CX:Oa}{P:Fb}{w:FZ}{K:Ai}{mg:Str->Option Go}{base:Heap}{k:Nat}{f:Addr}{name qual:Str}{params:Arguments}{body:List Stmt}{scope:Scope}{dV kV doc pm cdv ct oc:Go}{an od:Option Addr}
  {osl:Array (Option Go)} {N ps:List Str} {sp:Sp} (lk:K.lookup f=Dn ⟨oc,od,.func (Sq name qual params body scope dV kV doc pm an cdv ct),osl⟩) (hcd:Uj K cdv qual=true) (S:m6 N ps scope)
  (len:∀ vs H Q E,sp vs H Q E->vs.length=ps.length)
  (hbody:∀ (A:Fd) (outer:List Env) (s:AP) (H:Hp) (vs:List V) (Q:VK) (E:XK),mW k (A.deeper (envOfC qual scope s.heap.objs.size f cdv))->sp vs H Q E ->
   ∃ t,ML (Nj CX P w K mg base N qual scope f cdv A outer s H E) body t/\t { nx:=fun _ H'=>Q .non H',rt:=Q } (start N vs) H) :
  qO P w K mg base CX (k+1) f (Sq name qual params body scope dV kV doc pm an cdv ct) ps sp:=by
 refine ⟨len,fun A outer s H args us vs Q E hr e0 hb r hsp=>?_⟩;have hl:=len _ _ _ _ hsp;have KX:K.In s.heap:=e0.mod.kin.keeps fun b o e=>(e0.bs b o e).1
 have lim:s.heap.NoLimit:=e0.mod.nolimit.keeps fun b o e=>(e0.bs b o e).1
 have hkind:∀ y∈ps.zip us,scope.names.lookup y.1=Dn .local\/(scope.names.lookup y.1=Dn .cell/\((Jh (s.heap.objs.size+1) scope.names []).lookup y.1).isSome=true):=fun ⟨n,v⟩ hy=>by
  rcases S.par n (List.of_mem_zip hy).1 with q | q
  ·exact .inl q
  ·exact .inr ⟨q,PySem.W.cellsFrom_some _ _ _<|.inl q⟩
 refine codeAny_call_function hr.depth (KX _ _ lk) rfl S.co S.gen rfl (PySem.W.codeRec_of KX hcd)<|hb _ _ _ _ ?_
 refine wpAny_newFunctionEnv_cells S.kind hkind fun env he s1 x=>?_;subst he;refine ⟨lim.keeps x.toInCall.keep,codeAny_func ?_⟩;obtain ⟨t,ht,hq⟩:=hbody A outer s H vs Q E (hr.deeper _) hsp;have I:Ag (Nj CX P w K mg base N qual scope f cdv A outer s H E) [] (start N vs) H s1:=zaO S e0 hl r x;refine Ml (ht [] s1 (start N vs) H _ I hq) (fun fl s' hs=>?_) fun e s' hs=>hs;have fin:∀ {σ':St} {H':Hp} {v:V} {u:Go},Ag (Nj CX P w K mg base N qual scope f cdv A outer s H E) [] σ' H' s'->RelV v u->Q v H'->CE outer P w H s Q u s':=
  fun {σ' H' v u} J rv q=>⟨v,H',J.os,J.bare,J.base,J.hok,rv,q⟩
 cases fl with
 | ret u=>
  obtain ⟨v,σ',H',J,rv,q⟩:=hs;exact fin J rv q
 | next=>
  obtain ⟨σ',H',J,q⟩:=hs;exact fin (v:=V.non) (u:=Value.none) J rfl q
 | brk=>
  obtain ⟨_,_,_,q⟩:=hs;exact QT q
 | cont=>
  obtain ⟨_,_,_,q⟩:=hs;exact QT q
section
variable {X:Cx}{x:Str}{p pos:Pos}{e:Expr}{es:List Expr}{t:TA}{id T:String}{r:List V->Hp->VK->Prop}
def tCB (r:List V->Hp->VK->Prop)(t:TA):TE:=fun σ H Q=>t σ H fun vs H1=>r vs H1 Q
theorem BZ (hc:gj X (.builtin id) r)(hg:Gl X x)(hm:X.mg x=FX)(hv:RP x=Dn (.builtin id))(ha:PA X (e::es) t)(hn:x ≠ "__name__":=by decide)(hdb:(x==("__debug__" : Str))=false:=by decide)
  (he:Fv (e::es) X.env=(false,eval e X.env)::Fv es X.env:=by rfl) (hpl:(KR pos (Fv es X.env)).any (·.1)=false:=by rfl):PE X (.Call (.Name x p) (e::es) [] pos) (tCB r t):=by
 intro pins s σ H Q I h;refine UJ<|qT I hg hm hv ?_ hn hdb
 exact PyProof.Rows.callWith_builtin1 (GQ (ha pos pins s σ H _ I h) fun us s1 ⟨vs,H1,I1,r1,q1⟩=>hc pins s1 σ H1 vs us Q I1 r1 q1) he hpl
theorem zp (hc:gj X (.type T) r)(hg:Gl X x)(hm:X.mg x=FX)(hv:RP x=Dn (.type T))(ha:PA X (e::es) t)(hn:x ≠ "__name__":=by decide)(hdb:(x==("__debug__" : Str))=false:=by decide)
  (he:Fv (e::es) X.env=(false,eval e X.env)::Fv es X.env:=by rfl) (hpl:(KR pos (Fv es X.env)).any (·.1)=false:=by rfl):PE X (.Call (.Name x p) (e::es) [] pos) (tCB r t):=by
 intro pins s σ H Q I h;refine UJ<|qT I hg hm hv ?_ hn hdb
 exact V7 (GQ (ha pos pins s σ H _ I h) fun us s1 ⟨vs,H1,I1,r1,q1⟩=>hc pins s1 σ H1 vs us Q I1 r1 q1) he hpl
end
end L2
namespace HT
open PySem PyProof.Rows
section
open PySem.SeqAt
open PySem.AutoSeq1 (wpAny_loadPart')
open PySem.MeetsSeq PySem.MeetsSeq2 PySem.MeetsSeq3
end
section
variable {prog:Fb}{w:FZ}{A:Fd}{E:Go->AP->Prop}{s:AP}
theorem Q7 {t b:Addr}{vs ws:List Go}{Q:Go->AP->Prop}(ht:IsTup s.heap t vs.toArray)(hb:IsTup s.heap b ws.toArray)(hv:vs≠[])
  (h1:ws=[]->Q (.ref t) s) (h2:ws≠[]->Q (.ref s.heap.objs.size) { s with heap:=s.heap.push { cls:=.type "tuple",data:=.seq (vs++ws).toArray } })
  (hsz:vs.length+ws.length<=Gb):CR (FJ prog w) A (Ly .Add (.ref t) (.ref b)) Q E s:=by
 obtain ⟨⟨cls,dd,data,sl⟩,ho,hc,n,hd⟩:=id ht;obtain ⟨⟨cls2,dd2,data2,sl2⟩,ho2,hc2,n2,hd2⟩:=id hb;simp only at hc hd hc2 hd2;subst hc hd hc2 hd2;have e:vs.toArray++ws.toArray=(vs++ws).toArray:=by simp
 by_cases hw:ws=[]
 ·exact concat_meets ⟨_,ho,rfl⟩ ⟨_,ho2,rfl⟩ noFill_tuple_add seq_tuple_add PySem.F.slot_tuple_add PySem.F.entry_tuple_add (PySem.F.args_tuple_add_2 _ _)
   (tuple_addW1 t b vs.toArray ws.toArray n n2 dd dd2 sl sl2 (by simpa using hv) (by simp [hw])) ⟨ho,ho2,h1 hw⟩
 ·refine concat_meets ⟨_,ho,rfl⟩ ⟨_,ho2,rfl⟩ noFill_tuple_add seq_tuple_add PySem.F.slot_tuple_add PySem.F.entry_tuple_add (PySem.F.args_tuple_add_2 _ _)
   (tuple_addW2 t b vs.toArray ws.toArray n n2 dd dd2 sl sl2 (by simpa using hv) (by simpa using hw) (by rw [Gz,Gz];exact hsz)) ⟨ho,ho2,?_⟩
  rw [e];exact h2 hw
def sIx (n d:Nat):Option Int->Nat
 | none=>d
 | some v=>if v<0 then (v+(n:Int)).toNat else min v.toNat n
theorem agb (n d:Nat)(hd:d<=n)(o:Option Int):sIx n d o<=n:=by
 cases o with
 | none=>exact hd
 | some v=>
  show (if v<0 then (v+(n:Int)).toNat else min v.toNat n)<=n;by_cases hv:v<0
  ·rw [if_pos hv];lia
  ·rw [if_neg hv];exact Nat.min_le_right _ _
theorem KN (v:Int)(n d:Nat):(if v<0 then max (v+(n:Int)) 0 else min v (n:Int))=((sIx n d (Dn v):Nat):Int):=by
 show (if v<0 then max (v+(n:Int)) 0 else min v (n:Int))=(((if v<0 then (v+(n:Int)).toNat else min v.toNat n):Nat):Int);by_cases hv:v<0
 ·simp only [if_pos hv];lia
 ·simp only [if_neg hv];lia
theorem aeU (lo hi:Option Int)(n:Nat):Builtin.Slice.sliceAdjust lo hi 1 (n:Int)=(((sIx n 0 lo:Nat):Int),((sIx n n hi:Nat):Int)):=by
 have h1:¬ ((1:Int)<0):=by lia
 unfold Builtin.Slice.sliceAdjust;simp only [h1,if_false];refine Hy ?_ ?_
 ·cases lo with
  | none=>rfl
  | some v=>exact KN v n 0
 ·cases hi with
  | none=>rfl
  | some v=>exact KN v n n
theorem aes (i j:Nat):VB (i:Int) (j:Int) 1=j - i:=by
 unfold VB;have h1:(1:Int)>0:=by lia
 simp only [h1,if_true,Int.ediv_one];split <;> lia
theorem uQ {v:Go}{o:Option Int}{Q:Option Int->AP->Prop}(p:IsPart v o)(h:Q o s):CR (FJ prog w) A (Builtin.Slice.slicePartIndex v) Q E s:=by
 cases p with
 | none=>exact slicePart_none h
 | int i t=>exact slicePart_int h
theorem jc {sl:Addr}{vl vu:Go}{lo hi:Option Int}{n:Nat}{Q:Int×Int×Nat->AP->Prop}(hs:s.heap.IsSliceOf sl vl vu .none)(pl:IsPart vl lo)(pu:IsPart vu hi)
  (h:Q (((sIx n 0 lo:Nat):Int),1,sIx n n hi - sIx n 0 lo) s):CR (FJ prog w) A (Builtin.Slice.sliceApplied (.ref sl) (pure (n:Int))) Q E s:=by
 obtain ⟨os,hos,hcs,hds⟩:=id hs;unfold Builtin.Slice.sliceApplied Builtin.Slice.sliceFields;refine Af<|Af<|KY hos hds (x:=vl) rfl<|Af<|KY hos hds (x:=vu) rfl<|Af<|KY hos hds (x:=.none) rfl<|FP ?_
 refine Af<|slicePart_none ?_
 show CR _ _ (if ((1:Int)==0)=true then _ else _) _ _ s;rw [if_neg (by decide)];refine Af<|uQ pl<|Af<|uQ pu<|Af<|FP ?_
 show CR _ _ (match Builtin.Slice.sliceAdjust lo hi 1 (n:Int) with | (lo,hi)=>pure (lo,(1:Int),VB lo hi 1)) _ _ s;rw [aeU lo hi n];show CR _ _ (pure (((sIx n 0 lo:Nat):Int),(1:Int),VB ((sIx n 0 lo:Nat):Int) ((sIx n n hi:Nat):Int) 1)) _ _ s;rw [aes];exact FP h
theorem zbb (xs:Array Go)(i k:Nat):((Lh k).filterMap fun (m:Nat)=>xs[((i:Int)+(m:Int)*1).toNat]?).toArray=((xs.toList.drop i).take k).toArray:=by
 have e:(fun (m:Nat)=>xs[((i:Int)+(m:Int)*1).toNat]?)=fun m=>xs[i+m]?:=by
  funext m;have:((i:Int)+(m:Int)*1).toNat=i+m:=by lia
  rw [this]
 rw [e];have:=pick_run xs i k
 rw [List.filterMap_map] at this;have e2:((fun x=>xs[x]?) ∘ fun x=>i+x)=fun m=>xs[i+m]?:=rfl
 rw [e2] at this;rw [this]
theorem mZ {t sl:Addr}{items:Array Go}{vl vu:Go}{lo hi:Option Int}{Q:Go->AP->Prop}(ht:IsTup s.heap t items)(hs:s.heap.IsSliceOf sl vl vu .none)(pl:IsPart vl lo)(pu:IsPart vu hi)
  (hw:¬ (sIx items.size 0 lo=0/\sIx items.size items.size hi=items.size))
  (h:Q (.ref s.heap.objs.size) { s with heap:=s.heap.push { cls:=.type "tuple",data:=.seq ((items.toList.drop (sIx items.size 0 lo)).take (sIx items.size items.size hi - sIx items.size 0 lo)).toArray } })
  (hsz:items.size<=Gb):CR (FJ prog w) A (getItem (.ref t) (.ref sl)) Q E s:=by
 have htake:sizeOk (.seq ((items.toList.drop (sIx items.size 0 lo)).take (sIx items.size items.size hi - sIx items.size 0 lo)).toArray):=by
  show ((items.toList.drop (sIx items.size 0 lo)).take (sIx items.size items.size hi - sIx items.size 0 lo)).toArray.size<=Gb;rw [Gz,List.length_take,List.length_drop,V0];lia
 have hj:sIx items.size items.size hi<=items.size:=agb _ _ (Ge _) hi;obtain ⟨os,hos,hcs,hds⟩:=id hs;have hTs:s.TypeIs (.ref sl) "slice":=⟨os,hos,hcs⟩
 unfold getItem;try with_reducible refine MH ?_
 first | refine Af (FP ?_) | skip
 refine Af<|wpAny_sequenceKey ht.typeIs (by decide) ?_
 refine Af (Rz (name:=Rq "__getitem__") ht.typeIs T3
  (RZ T3 ht.typeIs entry_tuple_getitem ?_ (args_tuple_getitem _ _)))
 show CR _ _ (Builtin.Tuple.tupleItemsOf (.ref t) >>= _) _ _ s;refine Af<|tupleItemsOf_ ht ?_
 refine Af<|wpAny_typeOf hTs ?_
 rw [if_pos (by decide)];refine Af<|jc hs pl pu ?_
 have hno:¬ ((((sIx items.size 0 lo:Nat):Int)==0&&(1:Int)==1&&(sIx items.size items.size hi - sIx items.size 0 lo)==items.size)=true):=by
  intro q;rw [Nh,Nh] at q;have q1:((sIx items.size 0 lo:Nat):Int)=0:=eq_of_beq q.1.1;have q2:sIx items.size items.size hi - sIx items.size 0 lo=items.size:=eq_of_beq q.2;exact hw ⟨by lia,by lia⟩
 show CR _ _ (if (((sIx items.size 0 lo:Nat):Int)==0&&(1:Int)==1&&(sIx items.size items.size hi - sIx items.size 0 lo)==items.size)=true then _ else _) _ _ s;rw [if_neg hno,zbb];first
  | exact Af (m:=V9 _) (Q5 (FP ⟨_,rfl,FP h⟩) htake)
  | exact Af (m:=V9 _) (Q5 (Af (FP (FP ⟨_,rfl,FP h⟩))) htake)
  | exact Af (Af (m:=V9 _) (Q5 (FP (FP ⟨_,rfl,FP h⟩)) htake))
  | exact Af (Af (m:=V9 _) (Q5 (FP ⟨_,rfl,FP h⟩) htake))
end
end HT
namespace L2
open PySem PySem.Spec PyProof.Rows
abbrev TO:=St->Hp->(Option Int->Hp->Prop)->Prop
def PO (X:Cx)(e:Option Expr)(t:TO):Prop:=
 ∀ (pins:List (Addr×Obj)) (s:AP) (σ : St) (H:Hp) (Q:Option Int->Hp->Prop),Ag X pins σ H s->t σ H Q ->
  CR (FJ X.prog X.w) X.A (evalPart e X.env) (fun u s'=>∃ o H',Ag X pins σ H' s'/\IsPart u o/\Q o H') X.xe s
def agg:TO:=fun _ H Q=>Q FX H
def abx (t:TE):TO:=fun σ H Q=>t σ H fun x H1=>∃ i,x=.int i/\Q (Dn i) H1
section
variable {X:Cx}{e:Expr}{te:TE}{lo hi:Option Expr}{tl th:TO}{pos p2:Pos}
theorem zbB:PO X FX agg:=by
 intro pins s σ H Q I h;rw [evalPart_none];exact FP ⟨FX,H,I,.none,h⟩
theorem zbz (h:PE X e te):PO X (Dn e) (abx te):=by
 intro pins s σ H Q I hw;rw [evalPart_some];refine GQ (h pins s σ H _ I hw) fun u s1 ⟨x,H1,I1,r1,q1⟩=>?_;obtain ⟨i,rfl,q⟩:=q1;obtain ⟨t,rfl⟩:=r1;exact ⟨Dn i,H1,I1,.int i t,q⟩
def R9 (X:Cx)(r:V->Option Int->Option Int->Hp->VK->Prop):Prop:=
 ∀ (pins:List (Addr×Obj)) (s:AP) (σ : St) (H:Hp) (x:V) (v vl vu:Go) (lo hi:Option Int) (sl:Addr) (Q:VK),Ag X pins σ H s->RelV x v->s.heap.IsSliceOf sl vl vu .none->IsPart vl lo->IsPart vu hi->r x lo hi H Q ->
  ∃ T id,typeLookup (.type T) "__getitem__" = pure (Dn (.builtin id))/\s.TypeIs v T/\CR (FJ X.prog X.w) X.A (getItem v (.ref sl)) (EP X pins σ Q) X.xe s
theorem R9.or {r r':V->Option Int->Option Int->Hp->VK->Prop}(h:R9 X r)(h':R9 X r'):R9 X (fun x lo hi H Q=>r x lo hi H Q\/r' x lo hi H Q):=by
 intro pins s σ H x v vl vu lo hi sl Q I rx hs pl pu q;rcases q with q | q
 ·exact h pins s σ H x v vl vu lo hi sl Q I rx hs pl pu q
 ·exact h' pins s σ H x v vl vu lo hi sl Q I rx hs pl pu q
def tSl (r:V->Option Int->Option Int->Hp->VK->Prop)(te:TE)(tl th:TO):TE:=fun σ H Q=>te σ H fun x H1=>tl σ H1 fun l H2=>th σ H2 fun u H3=>r x l u H3 Q
theorem zbw {r:V->Option Int->Option Int->Hp->VK->Prop}(hr:R9 X r)(he:PE X e te)(hl:PO X lo tl)(hu:PO X hi th):PE X (.Subscript e (.Slice lo hi FX p2) pos) (tSl r te tl th):=by
 intro pins s σ H Q I h;refine Subscript_<|GQ (he pins s σ H _ I h) fun v s1 ⟨x,H1,I1,r1,q1⟩=>?_
 refine wpAny_Slice<|GQ (hl pins s1 σ H1 _ I1 q1) fun vl s2 ⟨l,H2,I2,pl,q2⟩=>GQ (hu pins s2 σ H2 _ I2 q2) fun vu s3 ⟨u,H3,I3,pu,q3⟩=>?_
 rw [evalPart_none];refine FP ?_;have I4:Ag X pins σ H3 { s3 with heap:=s3.heap.push { cls:=.type "slice",data:=.fields #[vl,vu,.none] } }:=I3.kept (t':=s3.toks) fun b ob q=>Gj _ q
 obtain ⟨T,id,hT,ht,hg⟩:=hr pins { s3 with heap:=s3.heap.push { cls:=.type "slice",data:=.fields #[vl,vu,.none] } } σ H3 x v vl vu l u s3.heap.objs.size Q I4 r1 (Heap.IsSliceOf.new ..) pl pu q3;show CR (FJ X.prog X.w) X.A (subscriptTail e (.Slice lo hi FX p2) v (.ref s3.heap.objs.size)) (EP X pins σ Q) X.xe { s3 with heap:=s3.heap.push { cls:=.type "slice",data:=.fields #[vl,vu,.none] } };exact tail_any (ops:=[.ref s3.heap.objs.size,v]) ht hT hg<|by with_unfolding_all rfl
def LQ (xs:List V)(lo hi:Option Int):List V:=(xs.drop (HT.sIx xs.length 0 lo)).take (HT.sIx xs.length xs.length hi - HT.sIx xs.length 0 lo)
theorem qU (xs:List V)(lo hi:Option Int):(LQ xs lo hi).length<=xs.length:=by
 unfold LQ;rw [List.length_take,List.length_drop];lia
def adq (K:Ai):V->Option Int->Option Int->Hp->VK->Prop:=fun x lo hi H Q=>∃ a xs,x=.ref a/\Hs K H a xs /\
 ¬ (HT.sIx xs.length 0 lo=0/\HT.sIx xs.length xs.length hi=xs.length)/\∀ p,H p=FX->Q (.ref p) (Fy H p (.tup (LQ xs lo hi)))
theorem ZP:R9 X (adq X.K):=by
 intro pins s σ H x v vl vu lo hi sl Q I rx hs pl pu h;obtain ⟨a,xs,rfl,hx,hw,q⟩:=h;cases rx;obtain ⟨its,r,ht,hz⟩:=I.tuple hx;have hlen:its.toArray.size=xs.length:=by rw [Gz];exact r.length.symm
 refine ⟨"tuple",_,T3.lookup,ht.typeIs,?_⟩;refine HT.mZ ht hs pl pu (by rw [hlen];exact hw) ?_ (by rw [hlen];exact hz);rw [hlen];refine ⟨.ref s.heap.objs.size,_,I.laid (t':=s.toks) (o:=.tup (LQ xs lo hi)) (fun b ob q=>Gj _ q) (Ge _) ?_,rfl,q _<|I.hok.fresh<|Ge _⟩;exact ⟨Hj (qU xs lo hi) hz,_,(r.drop<|HT.sIx xs.length 0 lo).take (HT.sIx xs.length xs.length hi - HT.sIx xs.length 0 lo),M9.new _ _⟩
def abg (K:Ai):R2:=fun x y H Q=>∃ a b xs ys,x=.ref a/\y=.ref b/\Hs K H a xs/\Hs K H b ys/\xs≠[]/\xs.length+ys.length<=Gb /\
 (ys=[]->Q (.ref a) H)/\(ys≠[]->∀ p,H p=FX->Q (.ref p) (Fy H p (.tup (xs++ys))))
theorem Bp.nil_iff {xs:List V}{us:List Go}(r:Bp xs us):us=[]↔xs=[]:=by
 cases r with
 | nil=>simp
 | cons _ _=>simp
theorem agm:Jt X (Ly .Add) (abg X.K):=by
 intro pins s σ H x y v u Q I rx ry h;obtain ⟨a,b,xs,ys,rfl,rfl,ha,hb,hx,hz,q1,q2⟩:=h;cases rx;cases ry;obtain ⟨its,r1,p1,_⟩:=I.tuple ha;obtain ⟨its2,r2,p2,_⟩:=I.tuple hb;refine HT.Q7 p1 p2 (fun z=>hx<|r1.nil_iff.mp z) (fun z=>⟨.ref a,H,I,rfl,q1<|r2.nil_iff.mp z⟩) (fun z=>?_) (by rw [<-r1.length,<-r2.length];exact hz);refine ⟨.ref s.heap.objs.size,_,I.laid (t':=s.toks) (o:=.tup (xs++ys)) (fun b ob q=>Gj _ q) (Ge _) ?_,rfl,q2 (fun w=>z<|r2.nil_iff.mpr w) _<|I.hok.fresh<|Ge _⟩;exact ⟨by rw [Nt];exact hz,_,r1.append r2,M9.new _ _⟩
end
def Ms (n:Nat)(i:Int):Option Nat:=if 0<=i then (if i<n then Dn i.toNat else FX) else if -(n:Int)<=i then Dn (i+n).toNat else FX
def Jy {α : Type}(xs:List α)(i:Int):Option α:=(Ms xs.length i).bind fun j=>xs[j]?
theorem JD {n:Nat}{i:Int}{j:Nat}(h:Ms n i=Dn j):seqIndex? i n=Dn j/\j<n/\-(n:Int)<=i/\i<n:=by
 unfold Ms at h;by_cases h0:0<=i
 ·rw [if_pos h0] at h;by_cases h1:i<n
  ·rw [if_pos h1] at h;have e:i.toNat=j:=HS h;exact ⟨by rw [seqIndex_of h0 h1,e],by lia,by lia,h1⟩
  ·rw [if_neg h1] at h;cases h
 ·rw [if_neg h0] at h;by_cases h1:-(n:Int)<=i
  ·rw [if_pos h1] at h;have e:(i+n).toNat=j:=HS h;exact ⟨by rw [seqIndex_neg (by lia) h1,e],by lia,h1,by lia⟩
  ·rw [if_neg h1] at h;cases h
theorem zU {α : Type}{xs:List α}{i:Int}{v:α}(h:Jy xs i=Dn v):∃ j,seqIndex? i xs.length=Dn j/\xs[j]?=Dn v/\j<xs.length/\-(xs.length:Int)<=i/\i<xs.length:=by
 unfold Jy at h;cases e:Ms xs.length i with
 | none=>rw [e] at h;cases h
 | some j=>
  rw [e] at h;obtain ⟨h1,h2,h3,h4⟩:=JD e;exact ⟨j,h1,h,h2,h3,h4⟩
theorem cF {α : Type}{xs:List α}{j:Nat}{v:α}(h:xs[j]?=Dn v):Jy xs (j:Int)=Dn v:=by
 have hj:j<xs.length:=(Nk.mp h).1;have e:Ms xs.length (j:Int)=Dn j:=by
  unfold Ms;rw [if_pos (by lia),if_pos (by lia)];simp
 unfold Jy;rw [e];exact h
theorem Cg {α : Type}(xs:List α)(v:α):Jy (xs++[v]) (-1)=Dn v:=by
 have hl:(xs++[v]).length=xs.length+1:=by simp
 have e:Ms (xs++[v]).length (-1)=Dn xs.length:=by
  unfold Ms;rw [hl,if_neg (by decide),if_pos (by lia)];congr 1
  lia
 unfold Jy;rw [e];show (xs++[v])[xs.length]?=Dn v;simp
def BK (b:Expr):Prop:=∀ o i,subscripted b false o i=operate [o,i] (getItem o i)
def Ri (X:Cx)(r:R2):Prop:=
 ∀ (value slice:Expr) (pins:List (Addr×Obj)) (s:AP) (σ : St) (H:Hp) (x y:V) (v u:Go) (Q:VK),Ag X pins σ H s->RelV x v->RelV y u->r x y H Q ->
  subscripted slice false v u=operate [v,u] (getItem v u)->CR (FJ X.prog X.w) X.A (subscriptTail value slice v u) (EP X pins σ Q) X.xe s
def MtR (X:Cx)(id:String)(r:V->List V->Hp->VK->Prop):Prop:=
 ∀ (pins:List (Addr×Obj)) (s:AP) (σ : St) (H:Hp) (x:V) (xs:List V) (v:Go) (us:List Go) (Q:VK),Ag X pins σ H s->RelV x v->Bp xs us->r x xs H Q ->
  CR (FJ X.prog X.w) X.A (call (.builtin id) (v::us)) (EP X pins σ Q) X.xe s
section
variable {X:Cx}{a b:Expr}{ta tb:TE}{pos:Pos}
theorem Ri.or {r r':R2}(h:Ri X r)(h':Ri X r'):Ri X (fun x y H Q=>r x y H Q\/r' x y H Q):=by
 intro value slice pins s σ H x y v u Q I rx ry q hs;rcases q with q | q
 ·exact h value slice pins s σ H x y v u Q I rx ry q hs
 ·exact h' value slice pins s σ H x y v u Q I rx ry q hs
theorem aat {r:R2}(hr:Ri X r)(ha:PE X a ta)(hb:PE X b tb)(hs:BK b):PE X (.Subscript a b pos) (tOp r ta tb):=by
 intro pins s σ H Q I h;exact Subscript_<|aaW ha hb I h fun v u s2 x y H2 I2 rx ry q=>hr a b pins s2 σ H2 x y v u Q I2 rx ry q<|hs _ _
def ac2 (K:Ai):R2:=fun x y H Q=>∃ p xs i v,x=.ref p/\y=.int i/\Hg K H p xs/\Jy xs i=Dn v/\Q v H
def acp (K:Ai):R2:=fun x y H Q=>∃ p xs i v,x=.ref p/\y=.int i/\Hs K H p xs/\Jy xs i=Dn v/\Q v H
def ac1:R2:=fun x y H Q=>∃ z i c,x=.str z/\y=.int i/\z.length<=Gb/\Jy z.cps.toList i=Dn c/\Q (.str ⟨#[c]⟩) H
theorem ahJ:Ri X (ac2 X.K):=by
 intro value slice pins s σ H x y v u Q I rx ry h hs;obtain ⟨p,xs,i,z,rfl,rfl,hq,he,q⟩:=h;cases rx;obtain ⟨t,rfl⟩:=ry;obtain ⟨its,r,pl,hz⟩:=I.list hq;obtain ⟨j,h1,h2,h3,h4,h5⟩:=zU he;obtain ⟨w,ew,rw'⟩:=r.get h2;have hl:=r.length;have hn:=oV;have fin:EP X pins σ Q w s:=⟨z,H,I,rw',q⟩
 by_cases h0:0<=i
 ·have hj:i.toNat=j:=by
   rw [seqIndex_of h0 h5] at h1;exact HS h1
  exact item_listR pl.isList h0 (by lia) (by rw [hj];simpa using ew) fin hs
 ·have hj:(i+(its.toArray.size:Int)).toNat=j:=by
   rw [seqIndex_neg (by lia) h4] at h1;rw [Gz,<-hl];exact HS h1
  exact subscriptTail_builtinR (x:=w) pl.isList.typeIs slot_list_getitem.lookup
   (wpAny_getItem_list_neg (Q:=fun r s'=>r=w/\EP X pins σ Q r s') pl.isList (by lia) (by rw [Gz] <;> lia) (by lia) (by rw [hj];simpa using ew) ⟨rfl,fin⟩) hs
theorem Xh:Ri X (acp X.K):=by
 intro value slice pins s σ H x y v u Q I rx ry h hs;obtain ⟨p,xs,i,z,rfl,rfl,hq,he,q⟩:=h;cases rx;obtain ⟨t,rfl⟩:=ry;obtain ⟨its,r,pl,hz⟩:=I.tuple hq;obtain ⟨j,h1,h2,h3,h4,h5⟩:=zU he;obtain ⟨w,ew,rw'⟩:=r.get h2;have hl:=r.length;have hn:=oV;have fin:EP X pins σ Q w s:=⟨z,H,I,rw',q⟩
 exact subscriptTail_builtinR (x:=w) pl.typeIs slot_tuple_getitem.lookup
  (getItem_tuple (j:=j) (Q:=fun r s'=>r=w/\EP X pins σ Q r s') pl (by lia) (by lia) (by rw [Gz,<-hl];exact h1) (by simpa using ew) ⟨rfl,fin⟩) hs
theorem Zt:Ri X ac1:=by
 intro value slice pins s σ H x y v u Q I rx ry h hs;obtain ⟨z,i,c,rfl,rfl,hz,he,q⟩:=h;obtain ⟨t,rfl⟩:=rx;obtain ⟨t',rfl⟩:=ry;obtain ⟨j,h1,h2,h3,h4,h5⟩:=zU he;have hl:z.cps.toList.length=z.length:=by simp [Str.length]
 rw [hl] at h1 h4 h5;have hn:=oV;exact tail_any (typeIs_str s z t) slot_str_getitem.lookup (getItem_str (c:=c) (by
  have e1:decide (i < -(2^63:Int))=false:=decide_eq_false (by lia);have e2:decide (i>=2^63)=false:=decide_eq_false (by lia);rw [e1,e2,Bool.or_false]) (by rw [h1];simpa using h2) ⟨.str ⟨#[c]⟩,H,I.tok _,⟨_,rfl⟩,q⟩) hs
def rIx (K:Ai):R2:=fun x y H Q=>ac2 K x y H Q\/acp K x y H Q\/ac1 x y H Q
theorem X7:Ri X (rIx X.K):=ahJ.or (Xh.or Zt)
theorem zao (its:List Go)(n j:Nat)(u:Go):Obj.mapSeq (·.setIfInBounds j u) { cls:=.type "list",data:=.seq its.toArray n } = { cls:=.type "list",data:=.seq (its.set j u).toArray n }:=by
 simp [Obj.mapSeq]
theorem Ag.lst {pins:List (Addr×Obj)}{σ : St}{H:Hp}{s:AP}{p:Addr}{xs:List V}(I:Ag X pins σ H s)(h:H p=Dn (.lst xs)) :
  ∃ (its:List Go) (n:Nat),Bp xs its/\s.heap.get? p=Dn { cls:=.type "list",data:=.seq its.toArray n }/\xs.length<=Gb:=by
 obtain ⟨z,its,n,r,e⟩:=I.hok p _ h;exact ⟨its,n,r,e,z⟩
theorem Ag.lstUpd {pins:List (Addr×Obj)}{σ : St}{H:Hp}{s:AP}{p:Addr}{xs ys:List V}{its its':List Go}{n n':Nat}{f:Obj->Obj}(I:Ag X pins σ H s)(h:H p=Dn (.lst xs))
  (ho:s.heap.get? p=Dn { cls:=.type "list",data:=.seq its.toArray n }) (hf:f { cls:=.type "list",data:=.seq its.toArray n } = { cls:=.type "list",data:=.seq its'.toArray n' }) (r:Bp ys its') (hz:ys.length<=Gb) (t:Nat) :
  Ag X pins σ (Fy H p (.lst ys)) { s with heap:=s.heap.update p f,toks:=t }:=by
 have e:(s.heap.update p f).get? p=Dn { cls:=.type "list",data:=.seq its'.toArray n' }:=by
  rw [Sy f ho (by rw [hf] <;> rfl),hf]
 refine I.write (x:=p) (e:=p) (by rw [h];trivial) (.inl rfl) (fun b u hb q=>(Heap.get?_update_other _ _<|Jj hb).trans q) ⟨_,e⟩ ?_;exact ⟨hz,its',n',r,e⟩
def X4:V->V->V->Hp->(Hp->Prop)->Prop:=fun o i v H Q=>∃ p xs k j,o=.ref p/\i=.int k/\H p=Dn (.lst xs)/\Ms xs.length k=Dn j/\Q (Fy H p (.lst (xs.set j v)))
theorem set_list:aay X X4:=by
 intro pins s σ H o i v ov iv u Q I ro ri rv h;obtain ⟨p,xs,k,j,rfl,rfl,hp,hj,q⟩:=h;cases ro;obtain ⟨t,rfl⟩:=ri;obtain ⟨its,n,r,ho,hz⟩:=I.lst hp;obtain ⟨h1,h2,h3,h4⟩:=JD hj;have hl:=r.length;have hn:=oV;have I':Ag X pins σ (Fy H p (.lst (xs.set j v))) { s with heap:=s.heap.update p (Obj.mapSeq (·.setIfInBounds j u)) }:=
  I.lstUpd hp ho (zao its n j u) (r.set rv j) (by rw [List.length_set];exact hz) s.toks
 by_cases h0:0<=k
 ·have hk:k.toNat=j:=by
   rw [seqIndex_of h0 h4] at h1;exact HS h1
  exact PySem.W.ki_setAt ho h0 (by lia) (by rw [Gz,<-hl];exact h4) (by rw [hk];exact ⟨_,I',q⟩)
 ·have hk:(k+(its.toArray.size:Int)).toNat=j:=by
   rw [seqIndex_neg (by lia) h3] at h1;rw [Gz,<-hl];exact HS h1
  exact PySem.W.ki_setBack ho (by lia) (by rw [Gz,<-hl];exact h3) (by lia) (by rw [hk];exact ⟨_,I',q⟩)
theorem xH (lo hi:Option Int)(n:Nat):(T4 lo hi FX n).1=((HT.sIx n 0 lo:Nat):Int)/\(T4 lo hi FX n).2.1=((HT.sIx n n hi:Nat):Int)/\(T4 lo hi FX n).2.2=1:=by
 refine ⟨?_,?_,rfl⟩
 ·cases lo with
  | none=>simp [T4,HT.sIx]
  | some i=>
   simp only [T4,HT.sIx,Option.getD_none,show (1:Int)>0 by decide,if_true];by_cases h:i<0
   ·simp only [h,if_true] <;> lia
   ·simp only [h,if_false] <;> lia
 ·cases hi with
  | none=>simp [T4,HT.sIx]
  | some i=>
   simp only [T4,HT.sIx,Option.getD_none,show (1:Int)>0 by decide,if_true];by_cases h:i<0
   ·simp only [h,if_true] <;> lia
   ·simp only [h,if_false] <;> lia
theorem vM (its:List Go)(lo hi:Option Int):slicePick its.toArray lo hi FX=((its.drop (HT.sIx its.length 0 lo)).take (HT.sIx its.length its.length hi - HT.sIx its.length 0 lo)).toArray:=by
 obtain ⟨h1,h2,h3⟩:=xH lo hi its.toArray.size;unfold slicePick;rw [h1,h2,h3];simp only [sliceRange_one,pick_run,Gz] <;> rfl
def ac6 (K:Ai):V->Option Int->Option Int->Hp->VK->Prop:=fun x lo hi H Q=>∃ a xs,x=.ref a/\Hg K H a xs/\∀ p,H p=FX->Q (.ref p) (Fy H p (.lst (LQ xs lo hi)))
theorem afx:R9 X (ac6 X.K):=by
 intro pins s σ H x v vl vu lo hi sl Q I rx hs pl pu h;obtain ⟨a,xs,rfl,hx,q⟩:=h;cases rx;obtain ⟨its,r,ht,hz⟩:=I.list hx;have hlen:=r.length;refine ⟨"list",_,slot_list_getitem.lookup,ht.isList.typeIs,?_⟩;refine wpAny_getItem_list_slice ht.isList hs pl pu .none (by simp) ?_ (by rw [Gz] <;> lia);rw [vM,<-hlen];refine ⟨.ref s.heap.objs.size,_,I.laid (t':=s.toks) (o:=.lst (LQ xs lo hi)) (fun b ob q=>Gj _ q) (Ge _) ?_,rfl,q _<|I.hok.fresh<|Ge _⟩;exact ⟨Hj (qU xs lo hi) hz,_,0,(r.drop<|HT.sIx xs.length 0 lo).take (HT.sIx xs.length xs.length hi - HT.sIx xs.length 0 lo),Jp _ rfl⟩
def ou:V->Bool
 | .non=>true
 | .bl _=>true
 | .int _=>true
 | .str _=>true
 | _=>false
def QK:V->V->Bool
 | .non,.non=>true
 | .bl a,.bl b=>a==b
 | .bl a,.int b=>(if a then 1 else 0)==b
 | .int a,.bl b=>a==(if b then 1 else 0)
 | .int a,.int b=>a==b
 | .str a,.str b=>a==b
 | _,_=>false
theorem Pz {A:Fd}{s:AP}{y x:V}{u v:Go}(ry:RelV y u)(rx:RelV x v)(fy:ou y=true)(fx:ou x=true):Sx A s u v (QK y x):=by
 cases y with
 | non=>
  cases ry;cases x with
  | non=>cases rx;exact SeqAt.EqAt.same _
  | bl b=>cases rx;exact SeqAt.EqAt.none_bool b
  | int b=>obtain ⟨t,rfl⟩:=rx;exact SeqAt.EqAt.none_int b t
  | str b=>obtain ⟨t,rfl⟩:=rx;exact SeqAt.EqAt.none_str b t
  | _=>exact absurd (show false=true from fx) LI
 | bl a=>
  cases ry;cases x with
  | non=>cases rx;exact SeqAt.EqAt.bool_none a
  | bl b=>cases rx;exact SeqAt.EqAt.bool_bool a b
  | int b=>obtain ⟨t,rfl⟩:=rx;exact SeqAt.EqAt.bool_int a b t
  | str b=>obtain ⟨t,rfl⟩:=rx;exact SeqAt.EqAt.bool_str a b t
  | _=>exact absurd (show false=true from fx) LI
 | int a=>
  obtain ⟨t',rfl⟩:=ry;cases x with
  | non=>cases rx;exact SeqAt.EqAt.int_none a t'
  | bl b=>cases rx;exact SeqAt.EqAt.int_bool a t' b
  | int b=>obtain ⟨t,rfl⟩:=rx;exact SeqAt.EqAt.int_int a t' b t
  | str b=>obtain ⟨t,rfl⟩:=rx;exact SeqAt.EqAt.int_str a t' b t
  | _=>exact absurd (show false=true from fx) LI
 | str a=>
  obtain ⟨t',rfl⟩:=ry;cases x with
  | non=>cases rx;exact SeqAt.EqAt.str_none a t'
  | bl b=>cases rx;exact SeqAt.EqAt.str_bool a t' b
  | int b=>obtain ⟨t,rfl⟩:=rx;exact SeqAt.EqAt.str_int a t' b t
  | str b=>obtain ⟨t,rfl⟩:=rx;exact SeqAt.EqAt.str_str a t' b t
  | _=>exact absurd (show false=true from fx) LI
 | _=>exact absurd (show false=true from fy) LI
def RJ (x:V)(u:Go):Bool:=match u with
 | .none=>QK .non x
 | .bool b=>QK (.bl b) x
 | .int i _=>QK (.int i) x
 | .str z _=>QK (.str z) x
 | _=>false
theorem Pg {x y:V}{u:Go}(r:RelV y u)(f:ou y=true):RJ x u=QK y x:=by
 cases y with
 | non=>cases r;rfl
 | bl b=>cases r;rfl
 | int i=>obtain ⟨t,rfl⟩:=r;rfl
 | str z=>obtain ⟨t,rfl⟩:=r;rfl
 | _=>exact absurd (show false=true from f) LI
theorem Ac {x:V}:∀ {xs:List V} {us:List Go},Bp xs us->xs.all ou=true->us.any (RJ x)=xs.any fun y=>QK y x
 | _,_,.nil,_=>rfl
 | y::xs,u::us,.cons r t,f=>by
  rw [Tt,Nh] at f;rw [List.any_cons,List.any_cons,Pg r f.1,Ac t f.2]
theorem wB {A:Fd}{s:AP}{x:V}{v:Go}(rx:RelV x v)(fx:ou x=true):∀ {xs:List V} {us:List Go},Bp xs us->xs.all ou=true->∀ u∈us,Sx A s u v (RJ x u)
 | _,_,.nil,_=>fun u hu=>by cases hu
 | y::xs,u::us,.cons r t,f=>fun u' hu=>by
  rw [Tt,Nh] at f;rcases Fe.mp hu with rfl | hu
  ·rw [Pg r f.1];exact Pz r rx f.1 fx
  ·exact wB rx fx t f.2 u' hu
def inV (x:V)(xs:List V):Bool:=xs.any fun y=>QK y x
def rIn (K:Ai)(neg:Bool):R2:=fun x y H Q=>∃ p xs,y=.ref p/\(Hg K H p xs\/Hs K H p xs)/\ou x=true/\xs.all ou=true/\Q (.bl (if neg then !inV x xs else inV x xs)) H
theorem zK:Jt X (Lz .NotIn) (rIn X.K true):=by
 intro pins s σ H x y v u Q I rx ry h;obtain ⟨p,xs,rfl,hq,fx,fs,q⟩:=h;cases ry;rcases hq with hq | hq
 ·obtain ⟨its,r,pl,hz⟩:=I.list hq;refine SeqAt.notIn_listAt (RJ x) pl.isList (fun w hw=>wB rx fx r fs w<|by simpa using hw) ⟨.bl _,H,I,rfl,?_⟩;rw [show its.toArray.any (RJ x)=its.any (RJ x) by simp,Ac r fs];exact q
 ·obtain ⟨its,r,pl,hz⟩:=I.tuple hq;refine SeqAt.notIn_tupleAt (RJ x) pl (fun w hw=>wB rx fx r fs w<|by simpa using hw) ⟨.bl _,H,I,rfl,?_⟩;rw [show its.toArray.any (RJ x)=its.any (RJ x) by simp,Ac r fs];exact q
theorem zE:gj X (.builtin "len") (fun xs H Q=>∃ p ys,xs=[.ref p]/\(Hg X.K H p ys\/Hs X.K H p ys)/\Q (.int ys.length) H):=by
 intro pins s σ H xs us Q I r h;obtain ⟨p,ys,rfl,hq,q⟩:=h;obtain ⟨u,rfl,rx⟩:=vals1 r;cases rx;have hn:=oV;rcases hq with hq | hq
 ·obtain ⟨its,r',pl,hz⟩:=I.list hq;have hlen:=r'.length;exact Calls.call_len_list pl.isList (by simp only [Gz] <;> lia) ⟨.int ys.length,H,I.tok _,⟨s.toks+1,by rw [Gz,hlen]⟩,q⟩
 ·obtain ⟨its,r',pl,hz⟩:=I.tuple hq;have hlen:=r'.length;exact len_tuple pl (by simp only [Gz] <;> lia) ⟨.int ys.length,H,I.tok _,⟨s.toks+1,by rw [Gz,hlen]⟩,q⟩
theorem gj.or {f:Go}{r r':List V->Hp->VK->Prop}(h:gj X f r)(h':gj X f r'):gj X f (fun xs H Q=>r xs H Q\/r' xs H Q):=by
 intro pins s σ H xs us Q I rs q;rcases q with q | q
 ·exact h pins s σ H xs us Q I rs q
 ·exact h' pins s σ H xs us Q I rs q
theorem zj:gj X (.type "list") (fun xs H Q=>∃ p ys,xs=[.ref p]/\(Hg X.K H p ys\/Hs X.K H p ys)/\∀ l,H l=FX->Q (.ref l) (Fy H l (.lst ys))):=by
 intro pins s σ H xs us Q I r h;obtain ⟨p,ys,rfl,hq,q⟩:=h;obtain ⟨u,rfl,rx⟩:=vals1 r;cases rx;have fin:∀ (its:List Go),Bp ys its->ys.length<=Gb->∀ (h':Heap) (c':Nat),(∀ b o',s.heap.get? b=Dn o'->h'.get? b=Dn o') ->
   h'.get? s.heap.objs.size=Dn { cls:=.type "list",dict:=FX,data:=.seq its.toArray c',slots:=#[] }->EP X pins σ Q (.ref s.heap.objs.size) { s with heap:=h' }:=fun its r' hz h' c' kp e=>
  ⟨.ref s.heap.objs.size,_,I.laid (t':=s.toks) kp (Ge _) (show lN X.prog X.w _ h' _ (.lst ys) from ⟨hz,its,c',r',e⟩),rfl,q _ (I.hok.fresh (Ge _))⟩
 rcases hq with hq | hq
 ·obtain ⟨its,r',pl,hz⟩:=I.list hq;have hlen:=r'.length;obtain ⟨o,ho,hc,n,hd⟩:=pl.isList;exact call_list_seq p (.inl rfl) ho hc hd (fun h' c' kp e=>fin its r' hz h' c' kp e) (by simp only [Gz] <;> lia)
 ·obtain ⟨its,r',pl,hz⟩:=I.tuple hq;have hlen:=r'.length;obtain ⟨o,ho,hc,n,hd⟩:=pl;exact call_list_seq p (.inr rfl) ho hc hd (fun h' c' kp e=>fin its r' hz h' c' kp e) (by simp only [Gz] <;> lia)
theorem vW:gj X (.type "tuple") (fun xs H Q=>∃ p ys,xs=[.ref p]/\((Hg X.K H p ys/\∀ l,H l=FX->Q (.ref l) (Fy H l (.tup ys)))\/(Hs X.K H p ys/\Q (.ref p) H))):=by
 intro pins s σ H xs us Q I r h;obtain ⟨p,ys,rfl,h⟩:=h;obtain ⟨u,rfl,rx⟩:=vals1 r;cases rx;rcases h with ⟨hq,q⟩ | ⟨hq,q⟩
 ·obtain ⟨its,r',pl,hz⟩:=I.list hq;have hlen:=r'.length;refine call_tuple_list pl.isList (fun h' kp=>?_) (by simp only [Gz] <;> lia);have I1:Ag X pins σ H { s with heap:=h' }:=I.kept (t':=s.toks) kp;have I2:Ag X pins σ (Fy H h'.objs.size (.tup ys)) { s with heap:=h'.push { cls:=.type "tuple",data:=.seq its.toArray } }:=
   I1.laid (t':=s.toks) (fun b o e=>Gj _ e) (Ge _) (show lN X.prog X.w _ _ _ (.tup ys) from ⟨hz,its,r',M9.new _ _⟩)
  exact ⟨.ref h'.objs.size,_,I2,rfl,q _<|I1.hok.fresh<|Ge _⟩
 ·obtain ⟨its,r',pl,hz⟩:=I.tuple hq;exact call_tuple_same pl ⟨.ref p,H,I,rfl,q⟩
def tyV (K:Ai)(T:String)(x:V)(H:Hp):Prop:=match x with
 | .str _=>T = "str"
 | .int _=>T = "int"
 | .ref p=>(T = "list"/\∃ xs,Hg K H p xs)\/(T = "tuple"/\∃ o,K.lookup p=Dn o/\o.cls=.type "tuple"/\o.dict=FX) \/
   (T = "dict"/\((∃ kvs,H p=Dn (.dK kvs))\/∃ kvs,H p=Dn (.dT kvs)))\/(T = "set"/\∃ S n,H p=Dn (.set S n))
 | _=>False
theorem O2 {pins:List (Addr×Obj)}{σ : St}{H:Hp}{s:AP}{T:String}{x:V}{v:Go}(I:Ag X pins σ H s)(r:RelV x v)(ty:tyV X.K T x H) :
  s.TypeIs v T/\∀ a,v=.ref a->∃ ob,s.heap.get? a=Dn ob/\ob.dict=FX:=by
 cases x with
 | str z=>
  obtain ⟨t,rfl⟩:=r;cases (show T = "str" from ty)
  exact ⟨typeIs_str s z t,fun _ e=>nomatch e⟩
 | int i=>
  obtain ⟨t,rfl⟩:=r;cases (show T = "int" from ty)
  exact ⟨typeIs_int s i t,fun _ e=>nomatch e⟩
 | ref p=>
  cases r;rcases ty with ⟨rfl,xs,hq⟩ | ⟨rfl,o,hk,hc,hd⟩ | ⟨rfl,hk⟩ | ⟨rfl,S,n,hk⟩
  ·obtain ⟨its,_,pl,_⟩:=I.list hq;refine ⟨pl.isList.typeIs,fun a e=>?_⟩;cases e;obtain ⟨o,n,e,c,hd,_⟩:=pl;exact ⟨o,e,hd⟩
  ·refine ⟨⟨o,I.kIn p o hk,hc⟩,fun a e=>?_⟩;cases e;exact ⟨o,I.kIn _ o hk,hd⟩
  ·have z:∃ o,s.heap.get? p=Dn o/\o.ExactDict:=by
    rcases hk with ⟨kvs,hk⟩ | ⟨kvs,hk⟩
    ·obtain ⟨_,_,_,_,o,_,_,e,ex,_⟩:=I.hok p _ hk;exact ⟨o,e,ex⟩
    ·obtain ⟨_,_,_,_,o,_,_,e,ex,_⟩:=I.hok p _ hk;exact ⟨o,e,ex⟩
   obtain ⟨o,e,ex⟩:=z;refine ⟨⟨o,e,ex.1⟩,fun a e2=>?_⟩;cases e2;exact ⟨o,e,ex.2.1⟩
  ·obtain ⟨o,_,_,_,e,ex,_⟩:=I.hok p _ hk;refine ⟨⟨o,e,ex.1⟩,fun a e2=>?_⟩;cases e2;exact ⟨o,e,ex.2.1⟩
 | _=>exact QT ty
def adL (K:Ai)(T:String)(r:V->List V->Hp->VK->Prop)(to:TE):TE:=fun σ H Q=>to σ H fun x H1=>tyV K T x H1/\r x [] H1 Q
def tBM (K:Ai)(T:String)(r:V->List V->Hp->VK->Prop)(to:TE)(t:TA):TE:=fun σ H Q=>to σ H fun x H1=>tyV K T x H1/\t σ H1 fun xs H2=>r x xs H2 Q
variable {o e:Expr}{es:List Expr}{to:TE}{t:TA}{name:Str}{apos cpos:Pos}{T id:String}{r:V->List V->Hp->VK->Prop}
theorem X5 (pa:PlainAttrs T)(slot:Slot T name id)(hty:typeOf (.builtin id)=pure (.type "method_descriptor"))(hm:MtR X id r)(ho:PE X o to)
  (hbase:TX o name X.env (eval o X.env)=eval o X.env:=by rfl) (hline:(apos.endLine==cpos.line)=true:=by rfl):PE X (.Call (.Attribute o name apos) [] [] cpos) (adL X.K T r to):=by
 intro pins s σ H Q I h;refine wpAny_Call_method0_late hbase hline<|GQ (ho pins s σ H _ I h) fun v s1 ⟨x,H1,I1,r1,ty,q1⟩=>?_
 obtain ⟨h1,h2⟩:=O2 I1 r1 ty;exact ⟨T,id,pa,slot,hty,h1,h2,Calls.callWith_builtin rfl<|PySem.evalArgs_none<|hm pins s1 σ H1 x [] v [] Q I1 r1 .nil q1⟩
theorem Wr (pa:PlainAttrs T)(slot:Slot T name id)(hty:typeOf (.builtin id)=pure (.type "method_descriptor"))(hm:MtR X id r)(ho:PE X o to)(ha:PA X (e::es) t)
  (hbase:TX o name X.env (eval o X.env)=eval o X.env:=by rfl)
  (hfew:((KR cpos (Fv (e::es) X.env)).all (fun x=>!x.1)&&(backToKw cpos (Tw [] X.env)).all (fun x=>x.1.isSome)
   && decide ((e::es).length+([]:List Od).length+(if ([]:List Od).isEmpty then 0 else 1)<30))=true:=by rfl)
  (hline:(apos.endLine==cpos.line)=true:=by rfl) (hs:Fv (e::es) X.env=(false,eval e X.env)::Fv es X.env:=by rfl) (hplain:(KR cpos (Fv es X.env)).any (·.1)=false:=by rfl) :
  PE X (.Call (.Attribute o name apos) (e::es) [] cpos) (tBM X.K T r to t):=by
 intro pins s σ H Q I h;refine wpAny_Call_method_late hbase hfew hline rfl<|GQ (ho pins s σ H _ I h) fun v s1 ⟨x,H1,I1,r1,ty,q1⟩=>?_
 obtain ⟨h1,h2⟩:=O2 I1 r1 ty;refine ⟨T,id,pa,slot,hty,h1,h2,?_⟩;have hA:=ha cpos pins s1 σ H1 _ I1 q1;rw [hs] at hA |-
 refine Calls.callWith_builtin (by show (false||(KR cpos<|Fv es X.env).any (·.1))=false;rw [hplain] <;> rfl)<|Calls.evalArgs_plain ?_
 exact GQ hA fun us s2 ⟨vs,H2,I2,r2,q2⟩=>hm pins s2 σ H2 x vs v us Q I2 r1 r2 q2
/- xs.append(e), list.index on a module's tuple .. are MtR facts of 06m -/
end
def MtM (X:Cx)(id:String)(r:V->List V->Hp->VK->Prop):Prop:=
 ∀ (pins:List (Addr×Obj)) (s:AP) (σ : St) (H:Hp) (x:V) (xs:List V) (v:Go) (us:List Go) (Q:VK),Ag X pins σ H s->RelV x v->Bp xs us->r x xs H Q ->
  CR (FJ X.prog X.w) X.A (call (.builtin id) (v::us)) (EP X pins σ Q) X.xe s
theorem Bp.one:∀ {x:V} {us:List Go},Bp [x] us->∃ u,us=[u]/\RelV x u
 | _,_,.cons r .nil=>⟨_,rfl,r⟩
theorem Bp.zero:∀ {us:List Go},Bp [] us->us=[]
 | _,.nil=>rfl
section
variable {X:Cx}{pins:List (Addr×Obj)}{σ : St}{H:Hp}{s:AP}{l b:Addr}{xs ys zs:List V}
theorem Ag.lset {its its':List Go}{n:Nat}{f:Array Go->Array Go}{t':Nat}(I:Ag X pins σ H s)(hH:H l=Dn (.lst xs))
  (e:s.heap.get? l=Dn { cls:=.type "list",data:=.seq its.toArray n }) (hf:f its.toArray=its'.toArray) (hv:Bp ys its') (hz:ys.length<=Gb) :
  Ag X pins σ (Fy H l (.lst ys)) { s with heap:=s.heap.update l (Obj.mapSeq f),toks:=t' }:=by
 have q:=PySem.IsL.update e f;rw [hf] at q;refine I.write (x:=l) (e:=l) (by rw [hH];exact trivial) (.inl rfl) (fun b' u hb hu=>(Heap.get?_update_other s.heap (Obj.mapSeq f)<|Jj hb).trans hu) ⟨_,q⟩ ?_;exact ⟨hz,its',_,hv,q⟩
theorem Ag.lnew {its:List Go}{t':Nat}(I:Ag X pins σ H s)(hv:Bp ys its)(hz:ys.length<=Gb) :
  Ag X pins σ (Fy H s.heap.objs.size (.lst ys)) { s with heap:=s.heap.push { cls:=.type "list",data:=.seq its.toArray },toks:=t' }:=
 I.laid (fun _ _ q=>Gj _ q) (Ge _) ⟨hz,its,0,hv,Jp _ rfl⟩
theorem Ag.fresh (I:Ag X pins σ H s):H s.heap.objs.size=FX:=I.hok.fresh (Ge _)
theorem Ag.lstM (I:Ag X pins σ H s)(hH:H l=Dn (.lst xs)):xs.length<=Gb/\∃ (its:List Go) (n:Nat),Bp xs its/\xs.length=its.length/\s.heap.get? l=Dn { cls:=.type "list",data:=.seq its.toArray n }:=by
 obtain ⟨z,its,n,r,e⟩:=I.hok l _ hH;exact ⟨z,its,n,r,r.length,e⟩
theorem zbl {n:Nat}(h:n<=Gb):Builtin.List.listTooLong n=false:=by
 unfold Builtin.List.listTooLong;exact decide_eq_false<|by lia
end
section
variable {X:Cx}
def Js:V->List V->Hp->VK->Prop:=fun x vs H Q=>∃ l xs y,x=.ref l/\vs=[y]/\H l=Dn (.lst xs)/\xs.length<Gb/\Q .non (Fy H l (.lst (xs++[y])))
theorem yJ:MtM X "list.append" Js:=by
 intro pins s σ H x vs v us Q I rx rv h;obtain ⟨l,xs,y,rfl,rfl,hH,hz,q⟩:=h;cases rx;obtain ⟨u,rfl,ru⟩:=rv.one;obtain ⟨z,its,n,r,hl,e⟩:=I.lstM hH;refine call_meets F.slot_list_append ⟨_,e,rfl⟩ F.entry_list_append (F.args_list_append_2 _ _) (PySem.list_append l its.toArray n u (by rw [Gz];lia)) ⟨e,?_⟩;refine ⟨.non,_,I.lset (its':=its++[u]) hH e (by simp) (r.append<|.cons ru .nil) ?_,rfl,q⟩;rw [Nt,List.length_singleton];lia
def KQ:V->List V->Hp->VK->Prop:=fun x vs H Q=>∃ l b xs zs,x=.ref l/\vs=[.ref b]/\H l=Dn (.lst xs)/\H b=Dn (.lst zs)/\xs.length+zs.length<=Gb/\Q .non (Fy H l (.lst (xs++zs)))
theorem zaI:MtM X "list.extend" KQ:=by
 intro pins s σ H x vs v us Q I rx rv h;obtain ⟨l,b,xs,zs,rfl,rfl,hH,hB,hz,q⟩:=h;cases rx;obtain ⟨u,rfl,ru⟩:=rv.one;cases ru;obtain ⟨z,its,n,r,hl,e⟩:=I.lstM hH;obtain ⟨z2,its2,n2,r2,hl2,e2⟩:=I.lstM hB;have hsz:its.toArray.size+its2.toArray.size<=Gb:=by rw [Gz,Gz];lia
 have hlong:¬ (!its.toArray.isEmpty&&Builtin.List.listTooLong (its.toArray.size+its2.toArray.size))=true:=by
  rw [zbl hsz,Bool.and_false];exact LI
 refine call_meets F.slot_list_extend ⟨_,e,rfl⟩ F.entry_list_extend (F.args_list_extend_2 _ _)
  (AutoSeq1.list_extend_list_list_0 l its.toArray n b its2.toArray n2 hlong (by rw [Gz];lia) (by lia)) ⟨e,e2,?_⟩
 refine ⟨.non,_,I.lset (its':=its++its2) hH e (by simp) (r.append r2) ?_,rfl,q⟩;rw [Nt];lia
def adX:R2:=fun x y H Q=>∃ l b xs zs,x=.ref l/\y=.ref b/\H l=Dn (.lst xs)/\H b=Dn (.lst zs)/\xs.length+zs.length<=Gb/\∀ p,H p=FX->Q (.ref p) (Fy H p (.lst (xs++zs)))
theorem PN:Jt X (Ly .Add) adX:=by
 intro pins s σ H x y v u Q I rx ry h;obtain ⟨l,b,xs,zs,rfl,rfl,hH,hB,hz,q⟩:=h;cases rx;cases ry;obtain ⟨z,its,n,r,hl,e⟩:=I.lstM hH;obtain ⟨z2,its2,n2,r2,hl2,e2⟩:=I.lstM hB;refine PySem.P.add_list e e2 ?_ (by rw [Gz,Gz];lia);have ea:its.toArray++its2.toArray=(its++its2).toArray:=by simp
 rw [ea];exact ⟨.ref _,_,I.lnew (t':=s.toks) (r.append r2) (by rw [Nt];lia),rfl,q _ I.fresh⟩
end
section
variable {prog:Fb}{w:FZ}{A:Fd}{E:Go->AP->Prop}{s:AP}
end
section
variable {X:Cx}
end
end L2
namespace Att
open PySem PySem.W PySem.Calls PyProof.Rows
theorem rR {P:Params}{h:Heap}:∀ (ns:List Int) (vs:List Go),WellAll P h vs (ns.map WData.int)->IntsAre vs ns:=by
 intro ns;induction ns with
 | nil=>
  intro vs w;rw [List.map_nil] at w;cases w;exact .nil
 | cons n ns ih=>
  intro vs w;rw [Lj] at w;cases w with
  | cons a b=>
   cases a;exact .cons _ _<|ih _ b
theorem zax {l:OpenLaw}{n:Nat}(hn:l.most=Dn n){P:Params}{h:Heap}{args:List WData}{vals:List Go}
  (hpre:l.row.toRowW.claim.pre args=true) (hwl:WellAll P h vals args) :
  ∃ a vs ns,vals=[Value.ref a]/\args=[WData.list (ns.map WData.int)]/\h.get? a=Dn { cls:=.type "list",data:=.seq vs.toArray }/\IntsAre vs ns/\ns.length<=n:=by
 have hsh:WShape.hasAll [] args [.list .int]=true:=(pre_splitW hpre).1;have hc:l.pre.holds [] { args:=args }=true:=(pre_splitW hpre).2;obtain ⟨d,r,rfl,h1,h2⟩:=hasAllW_cons hsh;obtain rfl:=hasAllW_nil h2;obtain ⟨xs,rfl,h3⟩:=hasW_list h1;obtain ⟨ns,rfl⟩:=items_int h3;have hlen:ns.length<=n:=by
  unfold OpenLaw.pre at hc;have h4:(WTm.not (.lt (.lit (.int (n:Int))) (.len (.arg 0)))).holds [] { args:=[.list (ns.map .int)] }=true:=by
   have h4:=(holds_andW hc).1;rw [hn] at h4;exact h4
  have h5:=condW_of h4 (w_not (w_lt w_lit (w_len_list (w_arg rfl))));rw [GJ] at h5;refine Nat.le_of_not_lt fun q=>?_;have q':(n:Int)<((ns.length:Nat):Int):=by lia
  first
   | (rw [decide_eq_true q'] at h5;exact absurd h5 (by decide))
   | (simp at h5;lia)
 cases hwl with
 | cons w1 w2=>
  cases w2;cases w1 with
  | list ho hall=>exact ⟨_,_,ns,rfl,rfl,ho,rR ns _ hall,hlen⟩
theorem aeL (l:OpenLaw)(args:List WData):l.row.toRowW.claim.post args (.bool true) args=true:=
 postW_of (r:=l.row.toRowW) (X:=(true==true))
  (show WShape.has [] (.bool true) .bool=true by first | rfl | decide | simp [WShape.has,WShape.arms,WShape.armsAll])
  (show (WTm.eq .res (.lit (.bool true))).value [] { args:=args,res:=Dn (.bool true),after:=args }=Dn (.bool (true==true)) from w_eq_bool (w_res rfl) w_lit) rfl
theorem Bt {l:OpenLaw}{n:Nat}{q:Fb}{loose:List Str}{XP:(Str->Option Go)->Heap->Prop}{YP:FZ->Heap->Prop}{d:DefRec}
  (hn:l.most=Dn n) (hdf:d.params.defaults=[])
  (call:∀ (w:FZ) (s₀ s₁ : AP) (mg mb:Str->Option Go) (fa:Addr) (o:Obj) (pm cd doc:Go) (a:Addr) (vs:List Go) (ns:List Int),
   Ground q loose [] XP w s₀ mg mb s₁.heap->YP w s₁.heap ->
   s₁.heap.get? fa=Dn o->o.data=.func (docDef d.name d.params d.body d.scope pm cd doc)->s₁.heap.CodeRec cd d.name->mg d.name=Dn (.ref fa) ->
   s₁.heap.get? a=Dn { cls:=.type "list",data:=.seq vs.toArray }->IntsAre vs ns->ns.length<=n->s₁.gens = #[] ->
   QM (FJ l.prog w) callerA (.call (.ref fa) ⟨[.ref a],[]⟩) (fun r s'=>r=.ok (.ret (.bool true))/\OldK s₁.heap s'.heap/\s'.os=s₁.os/\RK s'.gens) s₁) :
  WalkO q loose XP YP l.row.toRowW d [] (fun f vs=>PySem.call f vs):=by
 intro w s₀ s₁ mg mb G Y fa o pm cd doc dV kV ho hd hcd hD hmg hg args vals as hpre hlay hrd hwl hlo;obtain rfl:dV=.none:=Dflts.none hD hdf;obtain rfl:kV=.none:=Dflts.noKw hD;obtain ⟨a,vs,ns,rfl,rfl,hobj,hints,hlen⟩:=zax hn hpre hwl;refine enter_call<|codeAny_mono (call w s₀ s₁ mg mb fa o pm cd doc a vs ns G Y ho (fd_plain hd) hcd hmg hobj hints hlen hg) fun r s' hq=>?_
 obtain ⟨rfl,h2,h3,h4⟩:=hq;exact ⟨.inl ⟨.bool true,.bool true,[],rfl,fun _=>rfl,.bool true,aeL l _,fun _=>⟨List.Pairwise.nil,fun _ hm=>(nomatch hm)⟩⟩,h2,h3,h4⟩
section
variable {prog:Fb}{w:FZ}{A:Fd}{E:Go->AP->Prop}{s:AP}{K:Frag}
def ledger (h:Heap)(L d:Addr):List (Addr×Obj):=(Lh h.objs.size).filterMap fun a=>if a=L\/a=d then FX else (h.get? a).map fun o=>(a,o)
end
end Att
namespace L2
open PySem PySem.Spec PyProof.Rows
theorem yR:∀ {vs:List Go} {ns:List Int},IntsAre vs ns->Bp (ns.map V.int) vs
 | _,_,.nil=>.nil
 | _,_,.cons n t h=>.cons ⟨t,rfl⟩ (yR h)
def Only (H:Hp):Prop:=∀ b,H b=FX\/∃ o xs,H b=Dn (.frz o (.lst xs))
theorem ahy {P:Fb}{w:FZ}{K:Ai}{mg mb:Str->Option Go}{CX:Oa}{k:Nat}{fa a:Addr}{fd:Le}{x:Str}{sp:Sp}{s₁ : AP}{vs:List Go}{ns:List Int}
  (KX:K.In s₁.heap) (hns:s₁.heap.Ns JW mg) (hb:s₁.heap.Ns builtinsNs mb) (hbb:∀ x:Str,x ≠ "__name__"->mb x=RP x) (hlim:s₁.heap.NoLimit) (hg:s₁.gens = #[])
  (ha:s₁.heap.get? a=Dn { cls:=.type "list",data:=.seq vs.toArray }) (hi:IntsAre vs ns) (hl:ns.length<=Gb) (hr:mW k callerA)
  (F:∀ base:Heap,K.In base->base.Ns JW mg->qO P w K mg base CX k fa fd [x] sp) (hbind:∀ (s:AP) (u:Go),BindsTo s fd ⟨[u],[]⟩ [(x,u)])
  (hsp:∀ H:Hp,Only H->Hg K H a (ns.map V.int)->sp [.ref a] H (fun v _=>v=.bl true) fun _ _ _=>False)
  (hCX:∀ H e s',CX [] H s₁ (fun _ _ _=>False) e s'->False) :
  QM (FJ P w) callerA (.call (.ref fa) ⟨[.ref a],[]⟩) (fun r s'=>r=.ok (.ret (.bool true))/\OldK s₁.heap s'.heap/\s'.os=s₁.os/\RK s'.gens) s₁:=by
 have rv:=yR hi;have lenV:=hi.length
 -- from an abstract heap in which nothing but the script may be tracked
 have core:∀ H:Hp,Only H->Hg K H a (ns.map V.int)->KD P w H s₁.heap->(∀ b,H b≠FX->b=a)->(H a≠FX->K.lookup a=FX) ->
   QM (FJ P w) callerA (.call (.ref fa) ⟨[.ref a],[]⟩) (fun r s'=>r=.ok (.ret (.bool true))/\OldK s₁.heap s'.heap/\s'.os=s₁.os/\RK s'.gens) s₁:=by
  intro H hO hS hok hA hK;have base_of:∀ {b:Addr} {o:Obj},s₁.heap.get? b=Dn o->H b=FX->(MN s₁.heap H).get? b=Dn o:=fun e n=>aeD e n
  have noA:∀ {b:Addr} {o:Obj} {es:Array DictEntry} {ep:Nat},s₁.heap.get? b=Dn o->o.data=.dict es ep->H b=FX:=fun {b o es ep} e d=>by
   cases q:H b with
   | none=>rfl
   | some u=>
    have e':b=a:=hA b (by rw [q];simp);subst e';rw [ha] at e;cases e;have d':Data.seq vs.toArray _=Data.dict es ep:=d;cases d'
  have nsK:∀ {b:Addr} {m:Str->Option Go},s₁.heap.Ns b m->(MN s₁.heap H).Ns b m:=fun {b m} ⟨o,es,ep,e,d,r⟩=>⟨o,es,ep,base_of e (noA e d),d,r⟩
  have hKb:K.In (MN s₁.heap H):=fun b o e=>base_of (KX b o e) (by
   cases q:H b with
   | none=>rfl
   | some u=>
    have e':b=a:=hA b (by rw [q];simp);subst e';rw [hK (by rw [q];simp)] at e;cases e)
  have hM:Mod K mg (MN s₁.heap H):=⟨hKb,nsK hns,⟨mb,nsK hb,hbb⟩,let ⟨mc,h1,h2⟩:=hlim;⟨mc,nsK h1,h2⟩⟩
  have e0:Z8 P w K mg (MN s₁.heap H) callerA [] s₁ H:=⟨rfl,hM,fun b o e=>afK e,Nat.le_of_eq (zaC _ _),trivial,fun b hb=>absurd (show b∈([]:List Addr) from hb) (by simp),hok,.of_eq hg,fun v e=>(nomatch e)⟩
  refine codeAny_mono ((F _ hKb<|nsK hns).run callerA [] s₁ H ⟨[.ref a],[]⟩ [.ref a] [.ref a] _ _ hr e0 (hbind s₁<|.ref a) (.cons rfl .nil) (hsp H hO hS)) fun r s' h=>?_;cases r with
  | error e=>exact (hCX H e s' h).elim
  | ok fl=>
   cases fl with
   | next=>exact QT h
   | brk=>exact QT h
   | cont=>exact QT h
   | ret u=>
    obtain ⟨v,H',os,bare,un,hok',r',q⟩:=h;have q':v=.bl true:=q;subst q';obtain rfl:u=Value.bool true:=r';refine ⟨rfl,OldK.of_keep fun b o e=>?_,os,bare⟩;cases q:H b with
    | none=>exact un.keep b o e q (by intro z;exact absurd (show b∈([]:List Addr) from z) (by simp)) (by simp)
    | some u=>
     rcases hO b with z | ⟨ob,xs,z⟩
     ·rw [q] at z;cases z
     ·have z2:=un.frzs b ob _ z;obtain ⟨e1,_⟩:=hok b _ z;obtain ⟨e2,_⟩:=hok' b _ z2;rw [e] at e1;cases e1;exact e2
 cases hk:K.lookup a with
 | some o=>
  -- the script is one of the module's own objects
  have e:=KX a o hk;rw [ha] at e;cases e;refine core (fun _=>FX) (fun _=>.inl rfl) (.inr ⟨_,vs.toArray,_,hk,rfl,rfl,rfl,by rw [Gz,lenV];exact hl,by simpa using rv⟩) (fun b u z=>by have z':(FX:Option HO)=Dn u:=z;cases z') (fun b z=>absurd rfl z) fun z=>absurd rfl z
 | none=>
  refine core (fun b=>if b=a then Dn (.frz { cls:=.type "list",data:=.seq vs.toArray } (.lst<|ns.map V.int)) else FX) (fun b=>?_) (.inl<|.inr ⟨{ cls:=.type "list",data:=.seq vs.toArray },if_pos rfl⟩) (fun b u z=>?_) (fun b z=>?_) fun _=>hk
  ·by_cases hb:b=a
   ·exact .inr ⟨_,_,if_pos hb⟩
   ·exact .inl<|if_neg hb
  ·by_cases hb:b=a
   ·have z':=(if_pos hb).symm.trans z;cases z'
    subst hb;exact ⟨ha,by rw [GJ];exact hl,vs,_,rv,ha⟩
   ·have z':=(if_neg hb).symm.trans z;cases z'
  ·by_cases hb:b=a
   ·exact hb
   ·exact absurd (if_neg hb) z
theorem Kr {l:PySem.W.OpenLaw}{n k:Nat}{q:Fb}{loose:List Str}{XP:(Str->Option Go)->Heap->Prop}{YP:FZ->Heap->Prop}{d:DefRec}{K:Params->Ai}{CX:FZ->Oa}{sp:FZ->Sp}{x:Str}
  (hn:l.most=Dn n) (hn2:n<=Gb) (hdf:d.params.defaults=[]) (hr:mW k callerA)
  (hY:∀ (w:FZ) (h:Heap),YP w h->(K w.params).In h)
  (F:∀ (w:FZ) (mg:Str->Option Go) (fa:Addr) (h:Heap),(K w.params).In h->h.Ns JW mg->mg d.name=Dn (.ref fa) ->
   ∃ fd:Le,(∀ (s:AP) (u:Go),BindsTo s fd ⟨[u],[]⟩ [(x,u)]) /\
    ∀ base:Heap,(K w.params).In base->base.Ns JW mg->qO l.prog w (K w.params) mg base (CX w) k fa fd [x] (sp w))
  (hsp:∀ (w:FZ) (H:Hp) (a:Addr) (ns:List Int),ns.length<=n->Only H->Hg (K w.params) H a (ns.map V.int)->sp w [.ref a] H (fun v _=>v=.bl true) fun _ _ _=>False)
  (hCX:∀ (w:FZ) (H:Hp) (s:AP) (e:Go) (s':AP),CX w [] H s (fun _ _ _=>False) e s'->False) :
  PySem.W.WalkO q loose XP YP l.row.toRowW d [] (fun f vs=>PySem.call f vs):=by
 refine Att.Bt hn hdf fun w s₀ s₁ mg mb fa o pm cd doc a vs ns G Y ho hd hcd hmg hobj hints hlen hg=>?_;have KX:=hY w _ Y;obtain ⟨fd,hb,hF⟩:=F w mg fa _ KX G.T.g hmg;exact ahy KX G.T.g G.T.b G.T.builtins G.T.nolimit hg hobj hints (Hj hlen hn2) hr hF hb (fun H hO hS=>hsp w H a ns hlen hO hS) fun H e s'=>hCX w H s₁ e s'
end L2
/- THE LAST THEOREM (shape; LID, My.* are yours):
   My.Adr: a structure of the addresses that your layer names (classes,functions);My.Txt K t: a structure (Prop) of the equations over K;
   My.txt_mk:{K} {implicit addresses ..} (e1:nsIn K JW "law" = Dn (Dn (.ref f))) (e2:K.lookup f=Dn ⟨oc,od,.func (fnOf "law" "law" params body scope dV kV doc pm an cdv ct),sl⟩) (e3:codeIn K cdv "law" = true) .. : ∃ t,My.Txt K t
theorem PySem.Challenge.cw_LID_holds : PySem.Challenge.rw_LID.Holds := by
 w_on;o_law;k_head;(case hw=>w_witness2)
 k_fill
 refine L2.Kr (l:=PySem.Challenge.rw_LID) (n:=63) (k:=40) (x := "script") (CX:=fun w=>..) (sp:=fun _=>My.sp_law) rfl (by decide) rfl ⟨rfl,by decide,by decide⟩ (fun w h Y=>PySem.W.kIn_of Y) ?F ?S ?C
 case F=>
  intro w mg fa h KX G hmg;have T:∃ t,My.Txt (L2.KOf KX) t:=by
   dsimp only [L2.KOf]                          -- K must stand as «<heap const> w.params» for k_is;refine' My.txt_mk ?e1 ?e2 ?e3 ..
   (case e1=>PySem.W.k_is)                    -- in the order: a name -> its address -> its object -> its parts
   (case e2=>PySem.W.k_is)
   ..
  obtain ⟨t,T⟩:=T;have e0:=hmg.symm.trans (PySem.W.mg_of KX G T.law);cases e0                                       -- fa is the law's own address
  exact ⟨_,fun s u=>.of_eq rfl,fun base kb nb=>My.law_fn T kb nb⟩     -- if «.of_eq rfl» comes too early: refine' ⟨_,?b,fun base kb nb=>My.law_fn T kb nb⟩;exact fun s u=>.of_eq rfl
 case S=>exact fun w H a ns hl hO hS=>..
 case C=>exact ..
(the tactic k_is has no namespace: write k_is) -/
namespace L2
open PySem PySem.Spec PyProof.Rows
def ni (s:Stmt):Arguments:=match s with
 | .FunctionDef _ a _ _ _ _ _ _ _ _=>a
 | _=>{ posonlyargs:=[],args:=[],vararg:=FX,kwonlyargs:=[],kw_defaults:=[],kwarg:=FX,defaults:=[] }
def gU (s:Stmt):List Stmt:=match s with
 | .FunctionDef _ _ b _ _ _ _ _ _ _=>b
 | _=>[]
def bT (s:Stmt):Scope:=match s with
 | .FunctionDef _ _ _ _ _ _ sc _ _ _=>sc
 | _=>{ kind:=.function,names:=[],isGenerator:=false,isCoroutine:=false }
abbrev Ma:Oa:=fun _ _ _ _ _ _=>False
abbrev E0:XK:=fun _ _ _=>False
theorem XS {X:Cx}:Passes Ma X E0:=fun _ _ _ _ _ _ _ h=>h.elim
structure SN (K:Ai) (x qual:Str) (st:Stmt) (f:Addr) (fd:Le):Prop where
 ex:∃ (oc:Go) (od:Option Addr) (kV doc pm:Go) (an:Option Addr) (cdv ct:Go) (osl:Array (Option Go)),
  fd=Sq x qual (ni st) (gU st) (bT st) .none kV doc pm an cdv ct/\K.lookup f=Dn ⟨oc,od,.func fd,osl⟩/\Uj K cdv qual=true
 kp:Q6 K (.ref f)=true
section
variable {P:Fb}{w:FZ}{K:Ai}{mg:Str->Option Go}{base:Heap}
theorem SN.ok {x qual:Str}{st:Stmt}{f:Addr}{fd:Le}{N ps:List Str}{k:Nat}{sp:Sp}(F:SN K x qual st f fd)(S:m6 N ps (bT st))(len:∀ vs H Q E,sp vs H Q E->vs.length=ps.length)
  (hbody:∀ (cdv:Go) (A:Fd) (outer:List Env) (s:AP) (H:Hp) (vs:List V) (Q:VK) (E:XK),mW k (A.deeper (envOfC qual (bT st) s.heap.objs.size f cdv))->sp vs H Q E ->
   ∃ t,ML (Nj Ma P w K mg base N qual (bT st) f cdv A outer s H E).nox (gU st) t/\t { nx:=fun _ H'=>Q .non H',rt:=Q } (start N vs) H):qO P w K mg base Ma (k+1) f fd ps sp:=by
 obtain ⟨oc,od,kV,doc,pm,an,cdv,ct,osl,rfl,lk,hcd⟩:=F.ex;refine abS lk hcd S len fun A outer s H vs Q E hr hsp=>?_;obtain ⟨t,h,q⟩:=hbody cdv A outer s H vs Q E hr hsp;exact ⟨t,h.nox,q⟩
theorem SN.binds {x qual:Str}{st:Stmt}{f:Addr}{fd:Le}{ps:List Str}(F:SN K x qual st f fd)
  (h:∀ (kV doc pm:Go) (an:Option Addr) (cdv ct:Go) (us:List Go),us.length=ps.length->bindArgs (Sq x qual (ni st) (gU st) (bT st) .none kV doc pm an cdv ct) ⟨us,[]⟩=pure (ps.zip us)):Binds K fd ps []:=by
 obtain ⟨oc,od,kV,doc,pm,an,cdv,ct,osl,rfl,lk,hcd⟩:=F.ex;exact .all<|h kV doc pm an cdv ct
theorem Ij {x qual:Str}{st:Stmt}{f:Addr}{oc:Go}{od an:Option Addr}{osl:Array (Option Go)}{kV doc pm cdv ct:Go}(l:K.lookup f=Dn ⟨oc,od,.func (Sq x qual (ni st) (gU st) (bT st) .none kV doc pm an cdv ct),osl⟩)
  (c:Uj K cdv qual=true) (k:Q6 K (.ref f)=true):SN K x qual st f (Sq x qual (ni st) (gU st) (bT st) .none kV doc pm an cdv ct):=⟨⟨oc,od,kV,doc,pm,an,cdv,ct,osl,rfl,l,c⟩,k⟩
end
section
variable {X:Cx}
theorem pv (i:Nat){x:Str}{pos:Pos}(hN:X.N[i]?=Dn x:=by rfl)(hv:Vis X.env.scope x:=by first | exact Or.inl rfl | exact Or.inr (Or.inl rfl) | exact Or.inr (Or.inr rfl))(hd:(x==("__debug__" : Str))=false:=by decide)
  (hcd:(x==("__classdict__" : Str))=false:=by decide):PE X (.Name x pos) (aaZ i):=agJ hN hv hd hcd
end
def U9 (env:Env):List (Str×Kh)->List (Str×Addr)->List (Str×Addr)
 | [],cs=>cs
 | (n,k)::r,cs=>U9 env r (if (k==NameKind.free)=true then (n,(env.cells.lookup n).getD 0)::cs else cs)
def Qg (scope:Scope)(env:Env):List (Str×Addr):=U9 env scope.names []
theorem vD {env:Env}{p:Str×Addr}:∀ (l:List (Str×Kh)) (cs:List (Str×Addr)),p∈U9 env l cs->p∈cs\/((p.1,NameKind.free)∈l/\p.2=(env.cells.lookup p.1).getD 0)
 | [],cs,h=>.inl h
 | (n,k)::r,cs,h=>by
  rcases vD r _ h with h | ⟨h1,h2⟩
  ·by_cases hk:(k==NameKind.free)=true
   ·rw [if_pos hk] at h;rcases Fe.mp h with rfl | h
    ·have e:k=NameKind.free:=by simpa using hk
     subst e;exact .inr ⟨MJ,rfl⟩
    ·exact .inl h
   ·rw [if_neg hk] at h;exact .inl h
  ·exact .inr ⟨MK _ h1,h2⟩
theorem Ea {env:Env}{x:Str}:∀ (l:List (Str×Kh)) (cs:List (Str×Addr)),((x,NameKind.free)∈l\/∃ c,(x,c)∈cs)->∃ c,(x,c)∈U9 env l cs
 | [],cs,h=>by
  rcases h with h | h
  ·exact absurd h<|by simp
  ·exact h
 | (n,k)::r,cs,h=>by
  refine Ea r _ ?_;rcases h with h | ⟨c,h⟩
  ·rcases Fe.mp h with e | h
   ·injection e with e1 e2
    subst e1;subst e2;exact .inr ⟨_,by rw [if_pos<|by rfl];exact MJ⟩
   ·exact .inl h
  ·refine .inr ⟨c,?_⟩;by_cases hk:(k==NameKind.free)=true
   ·rw [if_pos hk];exact MK _ h
   ·rw [if_neg hk];exact h
theorem iC {x:Str}{c:Addr}:∀ {l:List (Str×Addr)},(x,c)∈l->∃ c',l.lookup x=Dn c'
 | [],h=>absurd h (by simp)
 | (n,d)::r,h=>by
  by_cases e:x=n
  ·subst e;exact ⟨d,by simp [Lp]⟩
  ·rcases Fe.mp h with q | q
   ·injection q with q1 _
    exact absurd q1 e
   ·obtain ⟨c',h'⟩:=iC q;refine ⟨c',?_⟩;have e':(x==n)=false:=beq_eq_false_iff_ne.mpr e;rw [Lp,e'];exact h'
theorem Il {scope:Scope}{env:Env}(h:∀ y∈scope.names,y.2=NameKind.free->∃ c,env.cells.lookup y.1=Dn c):closureFor scope env=pure (Qg scope env):=by
 unfold closureFor Qg;have key:∀ (l:List (Str×Kh)) (cs:List (Str×Addr)),(∀ y∈l,y.2=NameKind.free->∃ c,env.cells.lookup y.1=Dn c) ->
   (forIn l cs (fun (x:Str×Kh) (cs:List (Str×Addr))=>(if (x.2==NameKind.free)=true then cellOf env x.1 >>= fun c=>pure (ForInStep.yield ((x.1,c)::cs)) else pure (ForInStep.yield cs):Sem (ForInStep (List (Str×Addr))))))=pure (U9 env l cs):=by
  intro l;induction l with
  | nil=>intro cs _;rfl
  | cons x r ih=>
   intro cs hl;obtain ⟨n,k⟩:=x;rw [List.forIn_cons];have hr:∀ y∈r,y.2=NameKind.free->∃ c,env.cells.lookup y.1=Dn c:=fun y hy=>hl y (MK _ hy)
   by_cases hk:(k==NameKind.free)=true
   ·obtain ⟨c,hc⟩:=hl (n,k) MJ (by simpa using hk);have hc':env.cells.lookup n=Dn c:=hc;have e1:cellOf env n=pure c:=by unfold cellOf;rw [hc']
    simp only [hk,if_true,e1,pure_bind];rw [ih _ hr];simp only [U9,hk,if_true,hc',Uy]
   ·simp only [hk,if_false,pure_bind,Mp];rw [ih _ hr];simp only [U9,hk,if_false,Mp]
 have q:=key scope.names [] h
 simpa using q
theorem jD {y:Str}{c:Addr}:∀ {names:List (Str×Kh)} {n:Nat} {acc:List (Str×Addr)},(y,c)∈Jh n names acc↔(y,c)∈acc\/(y,c)∈Jh n names []
 | [],n,acc=>by simp [Jh]
 | (name,kind)::r,n,acc=>by
  unfold Jh;split
  ·rw [jD (acc:=(name,n)::acc),jD (acc:=[(name,n)])];simp only [Fe,Fx,or_false];exact ⟨fun h=>h.elim (fun h=>h.elim (fun h=>.inr<|.inl h) .inl) fun h=>.inr<|.inr h,fun h=>h.elim (fun h=>.inl<|.inr h) fun h=>h.elim (fun h=>.inl<|.inl h) .inr⟩
  ·exact jD
theorem BL {y:Str}{c:Addr}:∀ {names:List (Str×Kh)} {n:Nat},(y,c)∈Jh n names []->(y,NameKind.cell)∈names
 | [],n,h=>by simp [Jh] at h
 | (name,kind)::r,n,h=>by
  unfold Jh at h;split at h
  ·rename_i hk;rcases jD.mp h with q | q
   ·have hk':kind=.cell:=by simpa using hk
    simp only [Fe,Fx,or_false,Mx] at q;rw [q.1,hk'];exact MJ
   ·exact MK _<|BL q
  ·exact MK _<|BL h
theorem Hu {y:Str}:∀ {names:List (Str×Kh)} {n:Nat},(y,NameKind.cell)∈names->∃ c,(y,c)∈Jh n names []
 | [],n,h=>by simp at h
 | (name,kind)::r,n,h=>by
  unfold Jh;rcases Fe.mp h with q | q
  ·cases q;rw [if_pos (by rfl)];exact ⟨n,jD.mpr<|.inl MJ⟩
  ·split
   ·obtain ⟨c,hc⟩:=Hu (n:=n+1) q;exact ⟨c,jD.mpr<|.inr hc⟩
   ·exact Hu q
theorem Ws {h:Heap}{names:List (Str×Kh)}{y:Str}{c:Addr}(e:(y,c)∈Jh h.objs.size names []):(pushCells h names).IsCell c FX/\h.objs.size<=c:=
 (cellsFrom_ok names h h.objs.size [] ⟨fun _ _ z=>by simp at z,List.Pairwise.nil⟩ (Ge _)).empty y c e
theorem aeO {n:Nat}{names:List (Str×Kh)}{y z:Str}{c:Addr}(e:(y,c)∈Jh n names [])(e':(z,c)∈Jh n names []):y=z:=by
 have key:∀ (k:Nat),∃ h:Heap,h.objs.size=k:=fun k=>by
  induction k with
  | zero=>exact ⟨{ (default:Heap) with objs:=#[] },rfl⟩
  | succ k ih=>
   obtain ⟨h,e⟩:=ih;exact ⟨h.push { cls:=.type "cell",data:=.cell FX },by rw [QV,e]⟩
 obtain ⟨h,rfl⟩:=key n;exact name_of_addr (cellsFrom_ok names h h.objs.size [] ⟨fun _ _ z=>by simp at z,List.Pairwise.nil⟩<|Ge _).apart e e'
theorem aeo {M:Model}{A:Fd}{E:Go->AP->Prop}{s:AP}{scope:Scope}{globals:Addr}{closure:List (Str×Addr)}{qual:Str}{func:Option Addr}{code:Go}{ar:Env}{builtins:Addr}{Q:Env->AP->Prop}
  (hQ:Q { scope:=scope,locals:=s.heap.objs.size,globals:=globals,cells:=Jh (s.heap.objs.size+1) scope.names closure,qual:=qual,func:=func,code:=ar.code,frame:=ar.frame,builtins:=ar.builtins } { s with heap:=pushCells (s.heap.push { cls:=.type "dict",data:=.dict #[] }) scope.names }) :
  CR M A (newFunctionEnv scope globals closure [] qual func code (Dn ar) builtins) Q E s:=by
 simp only [newFunctionEnv,Option.isSome_some,if_true];refine Af<|wpAny_alloc ?_
 refine Af<|wpAny_layCells _ (fun name kind cells=>by cases hkc:kind==NameKind.cell <;> simp [hkc]) _ _ _ _ ?_
 rw [show ({ s with heap:=s.heap.push { cls:=.type "dict",data:=.dict #[] } }:AP).heap.objs.size=s.heap.objs.size+1 from QV ..];rw [List.forIn_nil];exact Af<|FP<|FP hQ
def blk (X:Cx)(scope:Scope)(N':List Str)(C:Addr)(s:AP)(H:Hp)(ex:List Addr):Cx where
 prog:=X.prog
 w:=X.w
 K:=X.K
 mg:=X.mg
 base:=X.base
 A:=X.A
 N:=N'
 s₀:=s
 H₀:=H
 env:=compEnvC scope (Jh (C+1) scope.names (Qg scope X.env)) C X.env
 outer:=X.stack
 stack:=X.stack
 ex:=ex
 fn:=fun y=>decide (scope.names.lookup y=Dn .cell)
 calm:=X.calm
 pn:=[]
 xe:=fun _ _=>False
structure jd (X:Cx) (scope:Scope) (x:List Str) (ix:List Nat):Prop where
 kind:scope.kind=.function
 own:∀ y∈x,scope.names.lookup y=Dn .local\/scope.names.lookup y=Dn .cell
 names:∀ y∈scope.names,scope.names.lookup y.1=Dn y.2
 free:∀ y∈scope.names,y.2=.free->X.env.scope.names.lookup y.1=Dn .cell\/X.env.scope.names.lookup y.1=Dn .free
 ixs:∀ i∈ix,scope.names.lookup (X.N.getD i "")=Dn .free
 nd:(x++ix.map fun i=>X.N.getD i "").Nodup
def Cw:List Str->Bool
 | []=>true
 | x::r=>!(r.contains x)&&Cw r
def acB (sc:Scope)(N:List Str)(scope:Scope)(x:List Str)(ix:List Nat):Bool:=
 decide (scope.kind=.function)&&x.all (fun y=>decide (scope.names.lookup y=Dn .local)||decide (scope.names.lookup y=Dn .cell)) &&
 scope.names.all (fun y=>decide (scope.names.lookup y.1=Dn y.2)) &&
 scope.names.all (fun y=>!decide (y.2=.free)||decide (sc.names.lookup y.1=Dn .cell)||decide (sc.names.lookup y.1=Dn .free)) &&
 ix.all (fun i=>decide (scope.names.lookup (N.getD i "")=Dn .free))&&Cw (x++ix.map fun i=>N.getD i "")
theorem zL:∀ {l:List Str},Cw l=true->l.Nodup
 | [],_=>SX
 | x::r,h=>by
  unfold Cw at h;rw [Nh] at h;refine N7.mpr ⟨fun hm=>?_,zL h.2⟩;have:r.contains x=true:=List.contains_iff_mem.mpr hm
  rw [this] at h;exact absurd h.1<|by decide
theorem cM {X:Cx}{scope:Scope}{x:List Str}{ix:List Nat}(h:acB X.env.scope X.N scope x ix=true):jd X scope x ix:=by
 unfold acB at h;simp only [Nh,Q0,decide_eq_true_eq,Bool.or_eq_true,Bool.not_eq_true',decide_eq_false_iff_not] at h;obtain ⟨⟨⟨⟨⟨h1,h3⟩,h4⟩,h5⟩,h6⟩,h7⟩:=h;refine ⟨h1,fun y hy=>h3 y hy,fun y hy=>h4 y hy,fun y hy hk=>?_,fun i hi=>h6 i hi,zL h7⟩
 ·rcases h5 y hy with (q | q) | q
  ·exact absurd hk q
  ·exact .inl q
  ·exact .inr q
def Jk (ix:List Nat)(σ : St):St:=ix.map fun i=>(σ[i]?).getD FX
abbrev gJ (X:Cx)(x:List Str)(ix:List Nat):List Str:=x++ix.map fun i=>X.N.getD i ""
theorem fV {scope:Scope}{env:Env}{x:Str}:∀ {names:List (Str×Kh)} {k:Kh},
  (names.map fun (p:Str×Kh)=>if (p.2==NameKind.free&&env.scope.kind==.function&&env.kindOf p.1==Dn .cell)=true then (p.1,NameKind.cell) else (p.1,p.2)).lookup x=Dn k ->
  names.lookup x=Dn k\/(k=.cell/\names.lookup x=Dn .free)
 | [],k,h=>by simp at h
 | (n,k')::r,k,h=>by
  rw [Lj] at h;cases hx:x==n with
  | true=>
   by_cases hc:(k'==NameKind.free&&env.scope.kind==.function&&env.kindOf n==Dn .cell)=true
   ·rw [if_pos hc] at h;simp only [Lp,hx] at h;have hk:k'=.free:=by
     have:=(Bool.and_eq_true_iff.mp (Bool.and_eq_true_iff.mp hc).1).1
     simpa using this
    subst hk;cases h;exact .inr ⟨rfl,by simp [Lp,hx]⟩
   ·rw [if_neg hc] at h;simp only [Lp,hx] at h;cases h;exact .inl<|by simp [Lp,hx]
  | false=>
   have h':(r.map fun (p:Str×Kh)=>if (p.2==NameKind.free&&env.scope.kind==.function&&env.kindOf p.1==Dn .cell)=true then (p.1,NameKind.cell) else (p.1,p.2)).lookup x=Dn k:=by
    by_cases hc:(k'==NameKind.free&&env.scope.kind==.function&&env.kindOf n==Dn .cell)=true
    ·rw [if_pos hc] at h;simpa only [Lp,hx] using h
    ·rw [if_neg hc] at h;simpa only [Lp,hx] using h
   rcases fV (scope:=scope) (env:=env) h' with q | ⟨q1,q2⟩
   ·exact .inl<|by simpa only [Lp,hx] using q
   ·exact .inr ⟨q1,by simpa only [Lp,hx] using q2⟩
theorem oE {env:Env}{x:Str}:∀ {names:List (Str×Kh)},names.lookup x=Dn .free ->
  (names.map fun (p:Str×Kh)=>if (p.2==NameKind.free&&env.scope.kind==.function&&env.kindOf p.1==Dn .cell)=true then (p.1,NameKind.cell) else (p.1,p.2)).lookup x=Dn .cell \/
  (names.map fun (p:Str×Kh)=>if (p.2==NameKind.free&&env.scope.kind==.function&&env.kindOf p.1==Dn .cell)=true then (p.1,NameKind.cell) else (p.1,p.2)).lookup x=Dn .free
 | [],h=>by simp at h
 | (n,k')::r,h=>by
  rw [Lj];cases hx:x==n with
  | true=>
   simp only [Lp,hx] at h;cases h;by_cases hc:(NameKind.free==NameKind.free&&env.scope.kind==.function&&env.kindOf n==Dn .cell)=true
   ·rw [if_pos hc];exact .inl (by simp [Lp,hx])
   ·rw [if_neg hc];exact .inr (by simp [Lp,hx])
  | false=>
   have h':r.lookup x=Dn .free:=by simpa only [Lp,hx] using h
   have ih:=oE (env:=env) h';by_cases hc:(k'==NameKind.free&&env.scope.kind==.function&&env.kindOf n==Dn .cell)=true
   ·rw [if_pos hc];simpa only [Lp,hx] using ih
   ·rw [if_neg hc];simpa only [Lp,hx] using ih
theorem pF {env:Env}{x:Str}:∀ {names:List (Str×Kh)},names.lookup x=Dn .cell ->
  (names.map fun (p:Str×Kh)=>if (p.2==NameKind.free&&env.scope.kind==.function&&env.kindOf p.1==Dn .cell)=true then (p.1,NameKind.cell) else (p.1,p.2)).lookup x=Dn .cell
 | [],h=>by simp at h
 | (n,k')::r,h=>by
  rw [Lj];cases hx:x==n with
  | true=>
   simp only [Lp,hx] at h;cases h;rw [if_neg (by simp)];simp [Lp,hx]
  | false=>
   have ih:=pF (env:=env) (show r.lookup x=Dn .cell by simpa only [Lp,hx] using h);split
   ·simpa only [Lp,hx] using ih
   ·simpa only [Lp,hx] using ih
section
variable {X:Cx}{pins:List (Addr×Obj)}{σ : St}{H:Hp}{s:AP}{scope:Scope}{x:List Str}{ix:List Nat}{C:Addr}{fp:List Addr}
theorem G9 (B:jd X scope x ix){y:Str}(hy:y∈x):Loc (relabel scope X.env) y/\(decide (scope.names.lookup y=Dn .cell)=true\/(relabel scope X.env).names.lookup y=Dn .local):=by
 rcases B.own y hy with q | q
 ·have:=lookup_relabel_local (env:=X.env) q
  exact ⟨.inl this,.inr this⟩
 ·exact ⟨.inr<|pF (env:=X.env) q,.inl<|decide_eq_true q⟩
theorem wK (I:Ag X pins σ H s)(B:jd X scope x ix):∀ y∈scope.names,y.2=NameKind.free->∃ c,X.env.cells.lookup y.1=Dn c:=fun y hy hk=>I.ok.has y.1 (B.free y hy hk)
theorem Zb (I:Ag X pins σ H s)(B:jd X scope x ix){y:Str}{c:Addr}(h:(y,c)∈Qg scope X.env):X.env.cells.lookup y=Dn c:=by
 rcases vD scope.names [] h with q | ⟨q1,q2⟩
 ·exact absurd q<|by simp
 ·obtain ⟨c',e⟩:=wK I B _ q1 rfl;have e':X.env.cells.lookup y=Dn c':=e;have q2':c=(X.env.cells.lookup y).getD 0:=q2;rw [e',Uy] at q2';rw [e',q2']
theorem oU (I:Ag X pins σ H s)(B:jd X scope x ix){y:Str}{c:Addr}(h:(Jh (C+1) scope.names (Qg scope X.env)).lookup y=Dn c):X.env.cells.lookup y=Dn c\/(y,c)∈Jh (C+1) scope.names []:=
 (jD.mp (RT h)).imp_left (Zb I B)
theorem GF {n:Nat}{names:List (Str×Kh)}{y:Str}{c:Addr}(e:(y,c)∈Jh n names []):n<=c:=by
 have key:∀ (names:List (Str×Kh)) (n:Nat),(y,c)∈Jh n names []->n<=c:=by
  intro names;induction names with
  | nil=>intro n h;simp [Jh] at h
  | cons a r ih=>
   intro n h;obtain ⟨name,kind⟩:=a;unfold Jh at h;split at h
   ·rcases jD.mp h with q | q
    ·simp only [Fe,Fx,or_false,Mx] at q;exact Nat.le_of_eq q.2.symm
    ·exact Hj (U0 n)<|ih (n+1) q
   ·exact ih n h
 exact key names n e
theorem zbK (B:jd X scope x ix){y:Str}{c:Addr}(hf:scope.names.lookup y=Dn .free)(h:(y,c)∈Jh (C+1) scope.names []):False:=by
 have:=B.names _ (BL h)
 simp only at this;rw [hf] at this;cases this
theorem Em {y:Str}(h:scope.names.lookup y=Dn .free\/scope.names.lookup y=Dn .cell):∃ c,(Jh (C+1) scope.names (Qg scope X.env)).lookup y=Dn c:=by
 rcases h with h | h
 ·obtain ⟨c,hc⟩:=Ea (env:=X.env) scope.names [] (.inl (RT h));exact iC<|jD.mpr<|.inl hc
 ·obtain ⟨c,hc⟩:=Hu (n:=C+1) (RT h);exact iC<|jD.mpr<|.inr hc
theorem Zk (I:Ag X pins σ H s)(B:jd X scope x ix)(hC:s.heap.objs.size<=C)(hf:∀ b∈fp,Gv X pins H b)(ho:∀ b∈fp,∃ o,s.heap.get? b=Dn o) :
  (blk X scope (gJ X x ix) C s H fp).Ok where
 mod:=I.ok.mod
 kind:=B.kind
 glob:=I.ok.glob
 blt:=I.ok.blt
 above:=hC
 inj:=fun y z c h1 h2=>by
  have far:∀ {y z:Str},X.env.cells.lookup y=Dn c->(z,c)∈Jh (C+1) scope.names []->False:=fun {y z} e q=>by
   obtain ⟨v,w⟩:=I.cell y c e;exact absurd (JB w.lt<|Hj (Hj hC<|U0 C)<|GF q)<|Mj _
  rcases oU I B h1 with q1 | q1
  ·rcases oU I B h2 with q2 | q2
   ·exact I.ok.inj y z c q1 q2
   ·exact (far q1 q2).elim
  ·rcases oU I B h2 with q2 | q2
   ·exact (far q2 q1).elim
   ·exact aeO q1 q2
 has:=fun y hy=>by
  have hy':(relabel scope X.env).names.lookup y=Dn .cell\/(relabel scope X.env).names.lookup y=Dn .free:=hy;rcases hy' with q | q
  ·rcases fV (scope:=scope) (env:=X.env) q with r | ⟨_,r⟩
   ·exact Em<|.inr r
   ·exact Em<|.inl r
  ·rcases fV (scope:=scope) (env:=X.env) q with r | ⟨r,_⟩
   ·exact Em<|.inl r
   ·cases r
 cab:=fun y c hf h=>by
  have hf':scope.names.lookup y=Dn .cell:=of_decide_eq_true hf;rcases jD.mp (RT h) with q | q
  ·rcases vD scope.names [] q with q | ⟨q1,_⟩
   ·exact absurd q<|by simp
   ·have:=B.names _ q1
    simp only at this;rw [hf'] at this;cases this
  ·exact Hj (Hj hC<|U0 C)<|GF q
 hd:=I.ok.hd
 qt:=I.qt0
 frames:=I.ok.frames
 stk:=.inl rfl
 exf:=fun b hb=>by
  obtain ⟨o,e⟩:=ho b hb;refine ⟨HI<|JB (Ga e) hC,fun y c h=>?_⟩;rcases oU I B h with q | q
  ·exact (hf b hb).2.2.2.2.1 y c q
  ·intro z;rw [z] at q;exact absurd (JB (Ga e)<|Hj (Hj hC<|U0 C)<|GF q)<|Mj _
 bs:=I.bs
 bsz:=Hj I.ok.bsz I.sz
 noex:=fun b o e hb=>by
  rcases (hf b hb).2.2.2.1 with q | q
  ·exact I.ok.noex b o e q
  ·exact absurd (JB (Ga e)<|Hj I.ok.bsz q)<|Mj _
 exfs:=fun b hb z=>by
  obtain ⟨_,h1,h2,_⟩:=hf b hb;rcases Fe.mp (I.stkSub b z) with e | e
  ·exact h1 e
  ·exact h2 e
 funs:=I.stack
 frf:=I.stkFree
theorem zbI {D:Addr}{h1:Heap}{tk:Nat}{m:Str->Option Go}(I:Ag X pins σ H s)(B:jd X scope x ix)(ok:(blk X scope (gJ X x ix) C s H fp).Ok)
  (hD:D=s.heap.objs.size) (k:∀ b o,s.heap.get? b=Dn o->h1.get? b=Dn o) (hl:h1.get? D=Dn { cls:=.type "list",data:=.seq #[] }) (hns:h1.Ns C m) (hCD:C≠D) (hC:s.heap.objs.size<=C) (hce:∀ y c,(y,c)∈Jh (C+1) scope.names []->h1.IsCell c FX) :
  Ag (blk X scope (gJ X x ix) C s H fp) [] (R0 x.length FX++Jk ix σ) (Fy H D (.lst [])) { s with heap:=h1,toks:=tk } where
 ok:=ok
 os:=rfl
 bare:=I.bare
 base:=Un.laid k (by rw [hD];exact Ge _) (I.hok.fresh (by rw [hD];exact Ge _))
 loc:=by
  refine ⟨m,hns,fun i y v e1 e2 e3=>?_⟩;by_cases hix:i<x.length
  ·rw [Ss (by simpa using hix),VN,if_pos hix] at e2;cases e2
  ·rw [Sv (by simpa using hix),List.length_replicate] at e2;have e1':(ix.map fun i=>X.N.getD i "")[i - x.length]?=Dn y:=by
    have z:(x++ix.map fun i=>X.N.getD i "")[i]?=Dn y:=e1
    rwa [Sv (by simpa using hix)] at z
   generalize i - x.length=j at e1' e2;unfold Jk at e2;rw [K8] at e1' e2;cases hj:ix[j]? with
   | none=>rw [hj] at e2;cases e2
   | some i'=>
    rw [hj] at e1' e2;simp only [Option.map_some,Option.some.injEq] at e1' e2;have hi:σ[i']?=Dn (Dn v):=by
     cases q:σ[i']? with
     | none=>rw [q] at e2;cases e2
     | some z=>rw [q] at e2;exact congrArg Dn e2
    have hlt:i'<X.N.length:=by
     have:=(Nk.mp hi).1
     rw [I.len] at this;exact this
    have hn:X.N[i']?=Dn y:=by
     rw [Rb,Kc hlt,Uy] at e1';rw [Kc hlt,e1']
    have hfree:scope.names.lookup y=Dn .free:=by
     have:=B.ixs i' (SM hj)
     rw [e1'] at this;exact this
    have kx:=B.free _ (RT hfree) rfl;have vis:Vis X.env.scope y:=by
     rcases kx with q | q
     ·exact .inr<|.inl q
     ·exact .inr<|.inr q
    obtain ⟨m',_,hl'⟩:=I.loc;obtain ⟨u,r,lk⟩:=hl' i' y v hn hi vis;refine ⟨u,r,?_⟩;rcases lk with ⟨q,_⟩ | ⟨_,c,hc,hcell⟩
    ·have q':X.env.scope.names.lookup y=Dn .local:=q;rcases kx with z | z <;> (rw [q'] at z;cases z)
    ·obtain ⟨c',hc'⟩:=Em (X:=X) (C:=C) (.inl hfree);have e:=(oU I B hc').resolve_right fun z=>zbK B hfree z
     rw [hc] at e;cases e;refine .inr ⟨oE (env:=X.env) hfree,c,hc',?_⟩;obtain ⟨o,ho,hd⟩:=hcell;exact ⟨o,k c o ho,hd⟩
 cell:=fun y c h=>by
  rcases oU I B h with q | q
  ·obtain ⟨v,o,ho,hd⟩:=I.cell y c q;exact ⟨v,o,k c o ho,hd⟩
  ·exact ⟨FX,hce y c q⟩
 free:=by
  show Fy H D (.lst []) C=FX;rw [aN hCD];exact I.hok.fresh hC
 freeC:=fun y c h=>by
  show Fy H D (.lst []) c=FX;rcases oU I B h with q | q
  ·obtain ⟨v,o,ho,hd⟩:=I.cell y c q;rw [aN (by rw [hD];exact HI (Ga ho))];exact I.freeC y c q
  ·have g:s.heap.objs.size<c:=JB (Nat.lt_succ_of_le hC) (GF q);rw [aN (by rw [hD];exact RQ g)];exact I.hok.fresh<|Tq g
 pin:=fun p hp=>absurd (show p∈([]:List (Addr×Obj)) from hp) (by simp)
 hok:=I.hok.laid k (by rw [hD];exact Ge _) ⟨RN _,[],0,.nil,hl⟩
 len:=by
  show (R0 x.length FX++Jk ix σ).length=(gJ X x ix).length;simp [Jk]
theorem KZ {σ':St}{H':Hp}{s':AP}{h':Heap}{p':List (Addr×Obj)}(I:Ag X pins σ H s)(hC:s.heap.objs.size<=C)(hf:∀ b∈fp,Gv X pins H b)(J:Ag (blk X scope (gJ X x ix) C s H fp) p' σ' H' s')
  (hs:NT C s'.heap h'):Ag X pins σ H' { s' with heap:=h' }:=by
 have I1:Ag X pins σ H' s':=I.call' (ch:=fp) J.os J.base J.hok J.bare fun b hb=>⟨(hf b hb).2.2.2.1,(hf b hb).2.1,(hf b hb).2.2.2.2.1,(hf b hb).2.2.2.2.2⟩
 refine I1.turned (it:=C) (t':=s'.toks) (fun b o hb e=>(hs.2 b hb).trans e) J.free (RQ<|JB I.lt hC) (.inr<|Hj I.sz hC) (fun y c e z=>?_)<|fun p hp z=>?_
 ·obtain ⟨v,q⟩:=I.cell y c e;exact absurd (JB q.lt (by rw [z];exact hC))<|Mj _
 ·exact absurd (JB (Ga (I.pin p hp).1) (by rw [z];exact hC))<|Mj _
end
def Vw (X:Cx)(ifs:List Expr)(t:TT):Prop:=
 ∀ (pins:List (Addr×Obj)) (s:AP) (σ : St) (H:Hp) (Q:Bool->Hp->Prop),Ag X pins σ H s->t σ H Q ->
  CR (FJ X.prog X.w) X.A (forIn ifs true fun c r=>if r=true then do let ok <-isTrue c X.env (eval c X.env);pure (ForInStep.yield ok) else pure (ForInStep.yield r)) (TP X pins σ Q) X.xe s
def adO:TT:=fun _ H Q=>Q true H
theorem agO {X:Cx}:Vw X [] adO:=fun _ _ _ H _ I h=>FP ⟨H,I,h⟩
theorem afA {X:Cx}{c:Expr}{t:TT}(h:PT X c t):Vw X [c] t:=fun pins s σ H Q I hq=>by
 rw [List.forIn_cons];refine Af ?_;rw [if_pos rfl];refine Af<|GQ (h pins s σ H Q I hq) fun b s1 q=>FP ?_
 exact FP q
def abb (n:Nat)(own:V->Hp->List V->Prop)(ix:List Nat)(tt:TT)(te:TE)(σ : St)(Q:VK)(J:It)(H1:Hp)(D:Addr):Prop:=∃ W:Nat->Nat->List V->Hp->Prop,(∃ m,W 0 m [] (Fy H1 D (.lst [])))/\∀ i m ys H,W i m ys H->H D=Dn (.lst ys) ->
 (J.stop i H/\Q (.ref D) H)\/(J.go i H/\ys.length<Gb/\∀ x H',J.yld i H x H'->∃ vs,own x H' vs/\vs.length=n/\tt (vs.map Dn++Jk ix σ) H' fun b H2=>
  if b=true then te (vs.map Dn++Jk ix σ) H2 (fun v H3=>H3 D=Dn (.lst ys)/\∃ m',m'<m/\W (i+1) m' (ys++[v]) (Fy H3 D (.lst (ys++[v]))))
  else H2 D=Dn (.lst ys)/\∃ m',m'<m/\W (i+1) m' ys H2)
def wLC (n:Nat)(own:V->Hp->List V->Prop)(ix:List Nat)(tt:TT)(te:TE)(σ : St)(Q:VK)(J:It)(H1:Hp):Prop:=∀ D,H1 D=FX->abb n own ix tt te σ Q J H1 D
def tLC (n:Nat)(own:V->Hp->List V->Prop)(ix:List Nat)(wi:TI)(tt:TT)(te:TE):TE:=fun σ H Q=>wi σ H fun J H1=>wLC n own ix tt te σ Q J H1
def Py (n:Nat)(own:V->Hp->List V->Prop):TG:=fun v σ H N=>∃ vs,own v H vs/\vs.length=n/\N (vs.map Dn++σ.drop n) H
theorem zaM {P:Fb}{w:FZ}{A:Fd}{R:Result->AP->Prop}{s:AP}{elt target iter:Expr}{ifs:List Expr}{scope:Scope}{pos:Pos}{it acc:Go}{env:Env}(Iv:Nat->AP->Prop)
  (turn:∀ n s,Iv n s->CR (FJ P w) A (Mw it) (fun r s₁=>match r with
   | none=>R (.ok .next) s₁
   | some v=>CR (FJ P w) A (letOwnedTupleGo target it v) (fun _ t₁=>CR (FJ P w) A (assign target env v) (fun _ s₂=>
     CR (FJ P w) A (forIn ifs true fun c r=>if r=true then do let ok <-isTrue c env (eval c env);pure (ForInStep.yield ok) else pure (ForInStep.yield r)) (fun ok s₃=>
      if ok=true then CR (FJ P w) A (eval elt env) (fun x s₄=>
       CR (FJ P w) A (call (.builtin "list.append") [acc,x]) (fun _ s₅=>∃ m,m<n/\Iv m s₅) (notedBy (FJ P w) A env fun e s'=>R (.error e) s') s₄) (notedBy (FJ P w) A env fun e s'=>R (.error e) s') s₃
      else ∃ m,m<n/\Iv m s₃) (notedBy (FJ P w) A env fun e s'=>R (.error e) s') s₂) (notedBy (FJ P w) A env fun e s'=>R (.error e) s') t₁) (notedBy (FJ P w) A env fun e s'=>R (.error e) s') s₁) (notedBy (FJ P w) A env fun e s'=>R (.error e) s') s)
  (n:Nat) (h:Iv n s):QM (FJ P w) A (.compLoop (.ListComp elt [⟨target,iter,ifs,0⟩] scope pos) 0 it acc env) R s:=by
 refine codeAny_loop rfl Iv (fun n s hI=>?_) n h;show CR _ A ((compTurn (.ListComp elt [⟨target,iter,ifs,0⟩] scope pos) 0 it acc env).onRaise (fun x=>do noteFrame x env;theTreesLotGoes x)) _ _ s;refine wpAny_noted ?_;rw [compTurn_list];refine Af<|wpAny_standAt<|Af<|Ml (turn n s hI) (fun r s₁ k₁=>?_) fun _ _ z=>z
 cases r with
 | none=>exact FP k₁
 | some v=>
  refine Af<|Ml k₁ (fun _ t₁ k₂=>Af<|Ml k₂ (fun _ s₂ k₃=>Af<|Ml k₃ (fun ok s₃ k₄=>?_) fun _ _ z=>z) fun _ _ z=>z) fun _ _ z=>z
  cases ok with
  | false=>exact FP ⟨rfl,k₄⟩
  | true=>exact Af (Af (Ml k₄ (fun x s₄ k₅=>Af (Ml k₅ (fun _ s₅ k₆=>FP (FP ⟨rfl,k₆⟩)) fun _ _ z=>z)) fun _ _ z=>z))
section
variable {X:Cx}{scope:Scope}{x:List Str}{ix:List Nat}{elt iter tg:Expr}{ifs:List Expr}{px pos:Pos}{wi:TI}{tt:TT}{te:TE}{own:V->Hp->List V->Prop}
theorem GZ {pins:List (Addr×Obj)}{σ : St}{s₂ : AP}{H2:Hp}{it:Addr}{fp:List Addr}{tn:Nat->Heap->Prop}{J:It}{Q:VK}{E:Go->AP->Prop}{RR:Go->Addr->Result->AP->Prop}
  (hc:J.cm=true->X.calm=true) (B:jd X scope x ix) (hg:∀ C s H fp,PG (blk X scope (gJ X x ix) C s H fp) tg (Py x.length own)) (ht:∀ C s H fp,Vw (blk X scope (gJ X x ix) C s H fp) ifs tt) (he:∀ C s H fp,PE (blk X scope (gJ X x ix) C s H fp) elt te)
  (I2:Ag X pins σ H2 s₂) (T:Turn X.prog X.w X.K tg J fp it tn) (st2:tn 0 s₂.heap) (f2:∀ b∈fp,Gv X pins H2 b) (hq:wLC x.length own ix tt te σ Q J H2)
  (hRR:∀ D C s' σ' H' p',s₂.heap.objs.size<=C->Ag (blk X scope (gJ X x ix) C s₂ H2 fp) p' σ' H' s'->Q (.ref D) H'->RR (.ref D) C (.ok .next) s') :
  CR (FJ X.prog X.w) X.A (newList []) (fun acc s₃=>CR (FJ X.prog X.w) X.A (newFunctionEnv scope X.env.globals (Qg scope X.env) [] X.env.qual FX .none (Dn X.env)) (fun cenv s₄=>
   QM (FJ X.prog X.w) X.A (.compStart (.ListComp elt [⟨tg,iter,ifs,0⟩] scope pos) 0 (.ref it) acc { cenv with scope:=relabel scope X.env }) (RR acc cenv.locals) s₄) E s₃) E s₂:=by
 refine Q5<|aeo ?_
 dsimp only;generalize hH2:s₂.heap.push { cls:=.type "list",dict:=FX,data:=.seq ([]:List Go).toArray }=HH;generalize hh1:pushCells (HH.push { cls:=.type "dict",data:=.dict #[] }) scope.names=h₁;have hns₁ : h₁.Ns HH.objs.size (fun _=>FX):=by
  obtain ⟨o,es,ep,ho,r⟩:=Heap.Ns.new HH (.type "dict");exact ⟨o,es,ep,by rw [<-hh1];exact pushCells_keeps _ _ _ _ ho,r⟩
 have hkeep:∀ b o,HH.get? b=Dn o->h₁.get? b=Dn o:=fun b o e=>by rw [<-hh1];exact pushCells_keeps _ _ _ _ (Gj _ e)
 have hce:∀ y c,(y,c)∈Jh (HH.objs.size+1) scope.names []->h₁.IsCell c FX:=fun y c e=>by
  rw [<-hh1];exact (Ws (h:=HH.push { cls:=.type "dict",data:=.dict #[] }) (by rw [QV];exact e)).1
 have hC:HH.objs.size=s₂.heap.objs.size+1:=by rw [<-hH2,QV]
 have hDC:s₂.heap.objs.size≠HH.objs.size:=by rw [hC];exact HI (Ul _)
 have hCle:s₂.heap.objs.size<=HH.objs.size:=by rw [hC];exact U0 _
 have old:∀ b o,s₂.heap.get? b=Dn o->h₁.get? b=Dn o:=fun b o e=>hkeep b o (hH2 ▸ Gj _ e)
 have hacc:h₁.get? s₂.heap.objs.size=Dn { cls:=.type "list",data:=.seq #[] }:=hkeep _ _ (hH2 ▸ Jp _ rfl);have hob:∀ b∈fp,∃ o,s₂.heap.get? b=Dn o:=fun b hb=>let ⟨o,e,_⟩:=T.obj 0 _ st2 b hb;⟨o,e⟩
 have ok:=Zk (C:=HH.objs.size) I2 B hCle f2 hob;obtain ⟨W,⟨m0,w0⟩,turn⟩:=hq s₂.heap.objs.size (I2.hok.fresh (Ge _))
 -- the iterator's records, in the block
 have stat:∀ {H':Hp},(∀ b∈fp,H' b=FX)->∀ b∈fp,Gv (blk X scope (gJ X x ix) HH.objs.size s₂ H2 fp) [] H' b:=fun {H'} hn b hb=>by
  obtain ⟨o,e⟩:=hob b hb;obtain ⟨_,g1,g2,g3,g4,g5⟩:=f2 b hb;refine ⟨hn b hb,HI<|JB (Ga e) hCle,fun z=>?_,.inl hb,fun y c h=>?_,fun p hp=>absurd (show p∈([]:List (Addr×Obj)) from hp)<|by simp⟩
  ·rcases Fe.mp (I2.stkSub b z) with q | q
   ·exact g1 q
   ·exact g2 q
  ·rcases oU I2 B h with q | q
   ·exact g4 y c q
   ·intro z;rw [z] at q;exact absurd (JB (Ga e)<|Hj (Hj hCle<|U0 _)<|GF q)<|Mj _
 have loop:∀ s₃ : AP,s₃ = { s₂ with heap:=h₁ } ->
   QM (FJ X.prog X.w) X.A (.compLoop (.ListComp elt [⟨tg,iter,ifs,0⟩] scope pos) 0 (.ref it) (.ref s₂.heap.objs.size) (compEnvC scope (Jh (HH.objs.size+1) scope.names (Qg scope X.env)) HH.objs.size X.env))
    (RR (.ref s₂.heap.objs.size) HH.objs.size) s₃:=by
  rintro s₃ rfl;have J0:=zbI (fp:=fp) (C:=HH.objs.size) (tk:=s₂.toks) I2 B ok rfl old hacc hns₁ (Jj hDC) hCle hce;have fr0:∀ b∈fp,Fy H2 s₂.heap.objs.size (.lst []) b=FX:=fun b hb=>by
   obtain ⟨o,e⟩:=hob b hb;rw [aN (HI (Ga e))];exact (f2 b hb).1
  refine zaM (fun k s'=>∃ i ys H',Ag (blk X scope (gJ X x ix) HH.objs.size s₂ H2 fp) [] (R0 x.length FX++Jk ix σ) H' s'/\tn i s'.heap/\(∀ b∈fp,H' b=FX)/\H' s₂.heap.objs.size=Dn (.lst ys)/\W i k ys H') ?_ m0
   ⟨0,[],_,J0,T.keep 0 _ _ st2 (fun b _ o e=>old b o e),fr0,bQ,w0⟩
  rintro n s₄ ⟨i,ys,H4,I4,st4,fr4,hD4,w4⟩;rcases turn i n ys H4 w4 hD4 with ⟨stop,qn⟩ | ⟨go,hz,step⟩
  ·refine GQ (T.done (blk X scope (gJ X x ix) HH.objs.size s₂ H2 fp) rfl rfl rfl hc i [] s₄ _ H4 _ I4 (stat fr4) st4 stop) fun r s5 ⟨hr,I5⟩=>?_;subst hr;exact hRR _ _ s5 _ H4 [] hCle I5 qn
  ·refine GQ (T.item (blk X scope (gJ X x ix) HH.objs.size s₂ H2 fp) rfl rfl rfl hc i [] s₄ _ H4 _ I4 (stat fr4) st4 go) fun r s5 ⟨u,hr,h5⟩=>?_;subst hr;refine Ml h5 (fun _ s6 ⟨xv,H6,I6,r6,y6,st6,fr6⟩=>?_) fun _ _ z=>z;have I6':=I6.pinned (stat fr6) (T.obj _ _ st6);obtain ⟨vs,hov,hvl,q7⟩:=step xv H6 y6;have fgt:∀ {σ9:St} {H9:Hp} {s9:AP} {p9:List (Addr×Obj)},σ9.length=x.length->Ag (blk X scope (gJ X x ix) HH.objs.size s₂ H2 fp) p9 (σ9++Jk ix σ) H9 s9->Ag (blk X scope (gJ X x ix) HH.objs.size s₂ H2 fp) p9 (R0 x.length FX++Jk ix σ) H9 s9:=fun {σ9 H9 s9 p9} hl I9=>
    I9.weak (by simp [hl]) fun k v e=>by
     by_cases hk:k<x.length
     ·rw [Ss (by simpa using hk),VN,if_pos hk] at e;cases e
     ·rw [Sv (by simpa using hk),List.length_replicate] at e;rw [Sv (by rw [hl];lia),hl];exact e
   refine Ml (hg _ _ _ _ _ s6 _ H6 xv u (fun σ9 H9=>σ9=vs.map Dn++(R0 x.length (FX:Option V)++Jk ix σ).drop x.length/\H9=H6) I6' r6 ⟨vs,hov,hvl,rfl,rfl⟩) (fun _ s7 ⟨σ7,H7,I7,e7,e8⟩=>?_) fun _ _ z=>z.elim;subst e7 e8;rw [List.drop_left' (by simp)] at I7;have hml:(vs.map Dn).length=x.length:=by rw [GJ];exact hvl
   refine Ml (ht _ _ _ _ _ s7 _ H7 _ I7 q7) (fun b s8 ⟨H8,I8,q8⟩=>?_) fun _ _ z=>z.elim;have pinned:∀ {H9:Hp} {s9:AP} {σ9:St},Ag (blk X scope (gJ X x ix) HH.objs.size s₂ H2 fp) ([]++xu fp s6.heap) σ9 H9 s9->tn (i+1) s9.heap/\∀ b∈fp,H9 b=FX:=fun {H9 s9 σ9} I9=>by
    refine ⟨T.keep _ _ _ st6 fun b hb o e=>(I9.pin (b,o)<|RW _<|RW _<|jL hb e).1,fun b hb=>?_⟩;obtain ⟨o,e,d⟩:=T.obj _ _ st6 b hb;exact (I9.pin (b,o)<|RW _<|RW _<|jL hb e).2.1
   cases b with
   | false=>
    rw [if_neg LI] at q8 |-
    obtain ⟨hD8,m',hm,w8⟩:=q8;obtain ⟨t8,f8⟩:=pinned I8;exact ⟨m',hm,i+1,ys,H8,fgt hml I8.unpinned,t8,f8,hD8,w8⟩
   | true=>
    rw [if_pos rfl] at q8 |-
    refine Ml (he _ _ _ _ _ s8 _ H8 _ I8 q8) (fun u9 s9 ⟨v9,H9,I9,r9,hD9,m',hm,w9⟩=>?_) fun _ _ z=>z.elim;refine Ml (yJ (X:=blk X scope (gJ X x ix) HH.objs.size s₂ H2 fp) _ s9 _ H9 (.ref s₂.heap.objs.size) [v9] _ [u9] (fun _ H'=>H'=Fy H9 s₂.heap.objs.size (.lst<|ys++[v9])) I9 rfl (.cons r9 .nil) ⟨_,ys,v9,rfl,rfl,hD9,hz,rfl⟩) (fun _ s10 ⟨_,H10,I10,_,e10⟩=>?_) fun _ _ z=>z.elim;subst e10;obtain ⟨t10,f10⟩:=pinned I10;exact ⟨m',hm,i+1,ys++[v9],_,fgt hml I10.unpinned,t10,f10,bQ,w9⟩
 exact codeAny_compStart_list (loop _ rfl)<|T.self _ 0 _ _ _ (T.keep 0 _ _ st2<|fun b _ o e=>old b o e)<|loop _ rfl
theorem aaB (ix:List Nat)(hc:X.calm=true)(B:jd X scope x ix)(hg:∀ C s H fp,PG (blk X scope (gJ X x ix) C s H fp) tg (Py x.length own))(hi:PI X tg iter wi)(ht:∀ C s H fp,Vw (blk X scope (gJ X x ix) C s H fp) ifs tt)(he:∀ C s H fp,PE (blk X scope (gJ X x ix) C s H fp) elt te)
  (hs:∀ v,S9 iter X.env v=pure v:=by intro _;rfl):PE X (.ListComp elt [⟨tg,iter,ifs,0⟩] scope pos) (tLC x.length own ix wi tt te):=by
 intro pins s σ H Q I h;rw [eval_ListComp];refine wpAny_comprehension_free (use:=FX) rfl hs (Il<|wK I B) B.kind (fun y hy hk=>by rw [B.names y hy,hk]) ?_;refine GQ (hi pins s σ H _ I h) fun v s1 h1=>GQ h1 fun itv s2 h2=>?_;obtain ⟨it,fp,tn,J,H2,e,I2,T,st2,f2,hq⟩:=h2;subst e;refine GZ (RR:=fun acc C=>compPost (FJ X.prog X.w) X.A X.xe FX (EP X pins σ Q) acc C) (fun _=>hc) B hg ht he I2 T st2 f2 hq fun D C s' σ' H' p' hC I' q'=>?_;obtain ⟨m,hn,_⟩:=I'.loc;exact ⟨m,hn,fun h' hs'=>⟨.ref D,H',KZ I2 hC f2 I' hs',rfl,q'⟩⟩
theorem WM (ix:List Nat){i:Nat}{y:Str}{py spos:Pos}(hN:X.N.Nodup)(hi':X.N[i]?=Dn y)(hy:Loc X.env.scope y)(hc:X.calm=true)(B:jd X scope x ix)(hg:∀ C s H fp,PG (blk X scope (gJ X x ix) C s H fp) tg (Py x.length own))(hi:PI X tg iter wi)
  (ht:∀ C s H fp,Vw (blk X scope (gJ X x ix) C s H fp) ifs tt) (he:∀ C s H fp,PE (blk X scope (gJ X x ix) C s H fp) elt te)
  (hsw:SQ (.ListComp elt [⟨tg,iter,ifs,0⟩] scope pos) (Dn (.Name y py)) spos.line X.env=pure true:=by rfl)
  (hf:X.fn y=true\/X.env.scope.names.lookup y=Dn .local:=by first | exact .inl rfl | exact .inr rfl | assumption)
  (hs:∀ v,S9 iter X.env v=pure v:=by intro _;rfl):PS X (.Assign [.Name y py] (.ListComp elt [⟨tg,iter,ifs,0⟩] scope pos) spos) (Zg (tLC x.length own ix wi tt te) (JQ i)):=by
 intro pins s σ H D I h;rw [exec_Assign_Name_used _ _ _ _ hsw];refine Af<|wpAny_standAt<|Af ?_
 show CR _ X.A (do let _ <-comprehension (.ListComp elt [⟨tg,iter,ifs,0⟩] scope pos) scope X.env _ (newList []) false (eval iter X.env) (Dn (assign (.Name y py) X.env))) _ _ s;refine Af<|Ml (wpAny_comprehension_free (use:=Dn (assign (.Name y py) X.env)) (Q:=fun _ s'=>SP X pins D .next s') rfl hs (Il<|wK I B) B.kind (fun y hy hk=>by rw [B.names y hy,hk]) ?_) (fun _ s' hq=>FP<|FP hq) fun _ _ e=>e
 refine GQ (hi pins s σ H _ I h) fun v s1 h1=>GQ h1 fun itv s2 h2=>?_;obtain ⟨it,fp,tn,J,H2,e,I2,T,st2,f2,hq⟩:=h2;subst e;refine GZ (RR:=fun acc C=>compPost (FJ X.prog X.w) X.A X.xe (Dn<|assign (.Name y py) X.env) (fun _ s'=>SP X pins D .next s') acc C) (fun _=>hc) B hg ht he I2 T st2 f2 hq fun D' C s' σ' H' p' hC I' q'=>?_;obtain ⟨m,hn,_⟩:=I'.loc;have I3:Ag X pins σ H' s':=KZ (h':=s'.heap) I2 hC f2 I' (.refl ..);show CR _ X.A (assign (.Name y py) X.env (.ref D')) _ _ s';have cneC:∀ z c,X.env.cells.lookup z=Dn c->c≠C:=fun z c e q=>by
  obtain ⟨v,w⟩:=I2.cell z c e;exact absurd (JB w.lt (by rw [q];exact hC))<|Mj _
 have lneC:X.env.locals≠C:=HI (JB I2.lt hC);refine wpAny_assign_Name<|yc (v:=.ref D') I3 hN hi' hy rfl (fun s'' I'' hsb=>?_) hf
 obtain ⟨a,hsb,ha⟩:=hsb;have haC:C≠a:=by
  rcases ha with rfl | ha
  ·exact Jj lneC
  ·exact Jj<|cneC _ _ ha
 refine ⟨m,hn.sameBut hsb haC,fun h' hs'=>⟨_,H',?_,q'⟩⟩;refine I''.turned (it:=C) (t':=s''.toks) (fun b o hb e=>(hs'.2 b hb).trans e) I'.free (Jj lneC) (.inr<|Hj I2.sz hC) cneC<|fun p hp z=>?_
 exact absurd (JB (Ga (I2.pin p hp).1) (by rw [z];exact hC))<|Mj _
end
def Sm (n:Nat)(i:Int):Prop:=i.natAbs<2^n
theorem Sm.bits {n:Nat}{i:Int}(h:Sm n i):Tf i<=n:=by
 unfold Tf;by_cases e:i=0
 ·subst e;exact RN _
 ·have e':(i==0)=false:=beq_eq_false_iff_ne.mpr e;rw [e'];have h0:i.natAbs≠0:=by lia
  have:=(Nat.log2_lt h0).mpr h
  simp only [Mp,if_false];lia
theorem Sm.mono {m n:Nat}{i:Int}(h:Sm m i)(hmn:m<=n):Sm n i:=JB h (Nat.pow_le_pow_right (by decide) hmn)
theorem Sm.mul {m n:Nat}{i j:Int}(h:Sm m i)(h':Sm n j):Sm (m+n) (i*j):=by
 unfold Sm at *;rw [Uc,Nat.pow_add];by_cases e:j.natAbs=0
 ·rw [e,Nat.mul_zero];exact Nat.mul_pos (Nat.pow_pos<|by decide)<|Nat.pow_pos<|by decide
 ·exact JB (Nat.mul_lt_mul_of_pos_right h<|Nat.pos_of_ne_zero e)<|Nat.mul_le_mul_left _<|Tq h'
theorem Sm.add {m n:Nat}{i j:Int}(h:Sm m i)(h':Sm n j):Sm (max m n+1) (i+j):=by
 have h1:=h.mono (Nat.le_max_left m n);have h2:=h'.mono (Nat.le_max_right m n);unfold Sm at *;rw [Nat.pow_succ];lia
theorem Sm.neg {n:Nat}{i:Int}(h:Sm n i):Sm n (-i):=by unfold Sm at *;rw [Int.natAbs_neg];exact h
theorem Sm.sub {m n:Nat}{i j:Int}(h:Sm m i)(h':Sm n j):Sm (max m n+1) (i - j):=by
 rw [Int.sub_eq_add_neg];exact h.add h'.neg
theorem Sm.zero {n:Nat}:Sm n 0:=Nat.pow_pos (by decide)
theorem nJ {n:Nat}{i:Int}(h1:-(2^n:Int)<i)(h2:i<(2^n:Int)):Sm n i:=by
 unfold Sm;have e:((2^n:Nat):Int)=(2:Int)^n:=by simp
 lia
theorem Sm.le {n:Nat}{i j:Int}(h:Sm n i)(hj:j.natAbs<=i.natAbs):Sm n j:=TQ hj h
def fB (i j:Int):Prop:=∃ m n,m<=1000000/\n<=1000000/\Sm m i/\Sm n j
theorem fB.ok {i j:Int}(h:fB i j):IntMulOk i j:=by
 obtain ⟨m,n,hm,hn,h1,h2⟩:=h;have e:(2:Nat)^20=1048576:=by decide
 exact .of_bits (by have:=h1.bits;lia) (by have:=h2.bits;lia)
def yg (_ j:Int):Prop:=j≠0/\∃ n,n<=8000/\Sm n j
theorem agG {n:Nat}{j:Int}(hn:n<=8000)(h:Sm n j):j.natAbs.log2<9000:=by
 by_cases e:j.natAbs=0
 ·rw [e];decide
 ·have:=(Nat.log2_lt e).mpr h
  lia
section
variable {X:Cx}
theorem zbx:Jt X (Ly .Mult) (rI fB fun i j=>.int (i*j)):=opI fun _ _ _ _ _ _ _ hc q=>mul_int q hc.ok
theorem zav:Jt X (Ly .FloorDiv) (rI yg fun i j=>.int (i.fdiv j)):=opI fun i j _ _ _ _ _ hc q=>by
 obtain ⟨h1,n,hn,h2⟩:=hc;exact floordiv_int h1 q<|.inl<|PyProof.noPylong_of_log2<|agG hn h2
theorem sU:∀ {bs:List Bool} {its:List Go} {i:Nat} {v:Go},Bp (bs.map V.bl) its->its[i]?=Dn v->∃ b,bs[i]?=Dn b/\v=.bool b
 | [],_,_,_,.nil,e=>by simp at e
 | b::bs,_,0,_,.cons r _,e=>by simp at e;subst e;exact ⟨b,rfl,r⟩
 | _::bs,_,i+1,v,.cons _ t,e=>by
  obtain ⟨b,h1,h2⟩:=sU (i:=i) (v:=v) t (by simpa using e);exact ⟨b,by simpa using h1,h2⟩
theorem zaB:∀ (bs:List Bool),((Lh bs.length).all fun i=>(bs[i]?).getD true)=bs.all id:=fun bs=>by
 rw [Bool.eq_iff_iff,Q0,Q0];constructor
 ·intro h b hb;obtain ⟨i,hi,rfl⟩:=List.mem_iff_getElem.mp hb;have:=h i (QX.mpr hi)
  simpa [hi] using this
 ·intro h i hi;have hi':=QX.mp hi;have:=h bs[i] (UG hi')
  simpa [hi'] using this
theorem zaL (hc:X.calm=true):gj X (.builtin "all") (fun xs H Q=>∃ (p:Addr) (bs:List Bool),xs=[.ref p]/\Hg X.K H p (bs.map V.bl)/\Q (.bl (bs.all id)) H):=by
 intro pins s σ H xs us Q I r h;obtain ⟨p,bs,rfl,hS,q⟩:=h;obtain ⟨u,rfl,ru⟩:=vals1 r;cases ru;obtain ⟨its,rv,pl,hz⟩:=I.list hS;have hlen:its.length=bs.length:=by rw [<-rv.length,GJ]
 have hl:=pl.isList;have hlt:p<s.heap.objs.size:=by obtain ⟨_,e,_⟩:=hl;exact Ga e
 refine call_all_walk<|TF hl ?_
 refine ⟨s.heap.objs.size,[s.heap.objs.size,p],[s.heap.objs.size],its.toArray.size,_,_,fun i=>(bs[i]?).getD true,rfl,Walks.list (A:=X.A.in1) (I.ok.hd hc) _ p (HI hlt) its.toArray,
  ⟨⟨_,Jp _ rfl,rfl,rfl⟩,hl.push _⟩,fun i v s' Q' E' hP hQ=>?_,fun h' tk hk=>?_⟩
 ·obtain ⟨b,e,rfl⟩:=sU rv (by simpa using hP);simp only [e,Uy] at hQ;exact Uq hQ
 ·have e:((Lh its.toArray.size).all fun i=>(bs[i]?).getD true)=bs.all id:=by
   rw [Gz,hlen];exact zaB bs
  rw [e];refine ⟨.bl<|bs.all id,H,I.kept (h':=h') (t':=tk)<|fun b x e=>?_,rfl,q⟩;exact hk b x (fun hm=>by rw [Nb.mp hm] at e;exact Mj _ (Ga e))<|Gj _ e
def acM (K:Ai)(H:Hp):V->String->Bool->Prop
 | .int _,T,b=>(T = "int"/\b=true)\/(T = "bool"/\b=false)\/(T = "tuple"/\b=false)\/(T = "list"/\b=false)
 | .bl _,T,b=>(T = "int"/\b=true)\/(T = "bool"/\b=true)\/(T = "tuple"/\b=false)\/(T = "list"/\b=false)
 | .str _,T,b=>(T = "int"/\b=false)\/(T = "bool"/\b=false)\/(T = "tuple"/\b=false)\/(T = "list"/\b=false)
 | .non,T,b=>(T = "int"/\b=false)\/(T = "bool"/\b=false)\/(T = "tuple"/\b=false)\/(T = "list"/\b=false)
 | .ref p,T,b=>(∃ xs,Hs K H p xs/\((T = "int"/\b=false)\/(T = "bool"/\b=false)\/(T = "tuple"/\b=true)\/(T = "list"/\b=false))) \/
   (∃ xs,Hg K H p xs/\((T = "int"/\b=false)\/(T = "bool"/\b=false)\/(T = "tuple"/\b=false)\/(T = "list"/\b=true)))
 | _,_,_=>False
theorem aht:gj X (.builtin "isinstance") (fun xs H Q=>∃ x T b,xs=[x,.ty T]/\acM X.K H x T b/\Q (.bl b) H):=by
 intro pins s σ H xs us Q I r h;obtain ⟨x,T,b,rfl,hi,q⟩:=h;obtain ⟨u,w',rfl,rx,ru⟩:=vals2 r;cases ru;have k0:EP X pins σ Q (.bool b) s:=⟨.bl b,H,I,rfl,q⟩
 have k1:EP X pins σ Q (.bool b) { s with toks:=s.toks+1 }:=⟨.bl b,H,I.tok _,rfl,q⟩
 cases x with
 | int i=>
  obtain ⟨t,rfl⟩:=rx;rcases hi with ⟨rfl,rfl⟩ | ⟨rfl,rfl⟩ | ⟨rfl,rfl⟩ | ⟨rfl,rfl⟩
  ·exact IsiPair.int_int k0
  ·exact IsiPair.int_bool k1
  ·exact IsiPair.int_tuple k1
  ·exact IsiPair.int_list k1
 | bl i=>
  cases rx;rcases hi with ⟨rfl,rfl⟩ | ⟨rfl,rfl⟩ | ⟨rfl,rfl⟩ | ⟨rfl,rfl⟩
  ·first | exact IsiPair.bool_int k0 | exact IsiPair.bool_int k1
  ·first | exact IsiPair.bool_bool k0 | exact IsiPair.bool_bool k1
  ·exact IsiPair.bool_tuple k1
  ·exact IsiPair.bool_list k1
 | str i=>
  obtain ⟨t,rfl⟩:=rx;rcases hi with ⟨rfl,rfl⟩ | ⟨rfl,rfl⟩ | ⟨rfl,rfl⟩ | ⟨rfl,rfl⟩
  ·exact IsiPair.str_int k1
  ·exact IsiPair.str_bool k1
  ·exact IsiPair.str_tuple k1
  ·exact IsiPair.str_list k1
 | non=>
  cases rx;rcases hi with ⟨rfl,rfl⟩ | ⟨rfl,rfl⟩ | ⟨rfl,rfl⟩ | ⟨rfl,rfl⟩
  ·exact IsiPair.NoneType_int k1
  ·exact IsiPair.NoneType_bool k1
  ·exact IsiPair.NoneType_tuple k1
  ·exact IsiPair.NoneType_list k1
 | ref p=>
  cases rx;rcases hi with ⟨xs,hS,hi⟩ | ⟨xs,hS,hi⟩
  ·obtain ⟨its,_,⟨o,e,c,_⟩,_⟩:=I.tuple hS;rcases hi with ⟨rfl,rfl⟩ | ⟨rfl,rfl⟩ | ⟨rfl,rfl⟩ | ⟨rfl,rfl⟩
   ·exact IsiPair.tuple_int e c k1
   ·exact IsiPair.tuple_bool e c k1
   ·exact IsiPair.tuple_tuple e c k0
   ·exact IsiPair.tuple_list e c k1
  ·obtain ⟨its,_,pl,_⟩:=I.list hS;obtain ⟨o,e,c,_⟩:=pl.isList;rcases hi with ⟨rfl,rfl⟩ | ⟨rfl,rfl⟩ | ⟨rfl,rfl⟩ | ⟨rfl,rfl⟩
   ·exact IsiPair.list_int e c k1
   ·exact IsiPair.list_bool e c k1
   ·exact IsiPair.list_tuple e c k1
   ·exact IsiPair.list_list e c k0
 | _=>exact (show False from hi).elim
end
inductive W where
 | non | bl (b:Bool) | int (i:Int) | str (x:Str) | ty (n:String) | tup (ws:List W) | lst (ws:List W) | loc (n:Nat) | kls (ws:List W) | exc (n:Str)
 | exa (n:Str) (ws:List W)
 | fnv (f:Addr) (i:Nat)
inductive Cell where
 | lst (ws:List W) | obj (C:Addr) (fs:List (Str×W)) | dct (kvs:List (Key×W))
 | dtt (kvs:List (List Int×W))
structure Gh where
 nx:Nat
 c:Nat->Option Cell
structure Mu where
 f:Nat->Option Addr
 hid:Addr->Prop
def adH (K:Ai)(p:Addr)(xs:List V):Prop:=
 ∃ (o:Obj) (its:Array Go) (n:Nat),K.lookup p=Dn o/\o.cls=.type "list"/\o.dict=FX/\o.data=.seq its n/\its.size<=Gb/\Bp xs its.toList
def Frz (H:Hp)(μ : Mu)(p:Addr)(xs:List V):Prop:=H p=Dn (.lst xs)/\(∀ n,μ.f n≠Dn p)/\¬ μ.hid p
def Frk (K:Ai)(H:Hp)(p:Addr)(xs:List V):Prop:=(∃ o,H p=Dn (.frz o (.lst xs)))\/adH K p xs
theorem Frz.sq {K:Ai}{H:Hp}{μ : Mu}{p:Addr}{xs:List V}(h:Frz H μ p xs):Hg K H p xs:=.inl (.inl h.1)
theorem Frk.sq {K:Ai}{H:Hp}{p:Addr}{xs:List V}(h:Frk K H p xs):Hg K H p xs:=by
 rcases h with h | h
 ·exact .inl<|.inr h
 ·exact .inr h
def vmB:List Go:=[.type "ValueError",.type "Exception",.type "BaseException",.type "object"]
def adZ (K:Ai)(C:Addr)(n:Str):Bool:=Lx K JW n==Dn (Dn (.ref C))&&PySem.W.typeIn K (.ref C)==Dn (.type "type")&&match PySem.W.clsIn K C with
 | some cd=>cd.name==n&&cd.mro.contains (.type "BaseException")
 | none=>false
def aaV (K:Ai)(C:Addr)(n:Str):Bool:=adZ K C n&&(match PySem.W.clsIn K C with
 | some cd=>(match cd.mro with
  | [.ref C',.ref R,a,b,c,d]=>C'==C&&[a,b,c,d]==vmB&&Lx K JW "EaselError"==Dn (Dn (.ref R))&&(PySem.W.clsIn K R).any (fun c=>c.name==("EaselError" : Str))
  | _=>false)
 | none=>false)&&Rr K (.ref C) "__getattribute__"==Dn (Dn (.builtin "BaseException.__getattribute__"))&&Rr K (.ref C) "__getattr__"==Dn FX&&Rr K (.ref C) "__class__"==Dn (Dn (.builtin "object.__class__"))&&PySem.W.specialIn K (.builtin "object.__class__") "__get__"==Dn (Dn (.builtin "getset_descriptor.__get__"))
 && PySem.W.takesIn K (.builtin "object.__class__")==Dn true
def acJ (n:Str):List Str:=if n = "Apart" then ["word", "places"] else ["at"]
def adT (K:Ai)(C:Addr)(n:Str):Bool:=aaV K C n&&PySem.W.hasDictIn K C&&(acJ n).all fun f=>Rr K (.ref C) f==Dn FX
def Xoa (K:Ai)(o:Obj)(n:Str)(dd:Addr):Prop:=∃ C,o.cls=.ref C/\o.dict=Dn dd/\PySem.W.notCls o=true/\adT K C n=true
def Xob (K:Ai)(o:Obj)(n:Str):Prop:=∃ C,o.cls=.ref C/\o.dict=FX/\PySem.W.notCls o=true/\aaV K C n=true
mutual
def Ab (K:Ai)(H:Hp)(μ : Mu):W->V->Prop
 | .non,v=>v=.non
 | .bl b,v=>v=.bl b
 | .int i,v=>v=.int i
 | .str x,v=>v=.str x
 | .ty n,v=>v=.ty n
 | .tup ws,v=>∃ p xs,v=.ref p/\Hs K H p xs/\aM K H μ ws xs
 | .lst ws,v=>∃ p xs,v=.ref p/\Frz H μ p xs/\aM K H μ ws xs
 | .kls ws,v=>∃ p xs,v=.ref p/\Frk K H p xs/\aM K H μ ws xs
 | .loc n,v=>∃ p,v=.ref p/\μ.f n=Dn p
 | .exc n,v=>∃ p o u,v=.ref p/\H p=Dn (.frz o u)/\Xob K o n
 | .exa n ws,v=>∃ p o u dd ns xs,v=.ref p/\H p=Dn (.frz o u)/\Xoa K o n dd/\H dd=Dn (.xd (List.zip ns xs))/\ns=acJ n/\ns.length=xs.length/\aM K H μ ws xs
 | .fnv f _,v=>v=.ref f
def aM (K:Ai)(H:Hp)(μ : Mu):List W->List V->Prop
 | [],xs=>xs=[]
 | w::ws,xs=>∃ v vs,xs=v::vs/\Ab K H μ w v/\aM K H μ ws vs
end
section
variable {K:Ai}{H H' H1 H2:Hp}{μ μ' μ1 μ2:Mu}{h h':Gh}{w:W}{ws:List W}{v:V}{xs:List V}
theorem aM.len:∀ {ws:List W} {xs:List V},aM K H μ ws xs->ws.length=xs.length
 | [],xs,h=>by
  have e:xs=[]:=by rw [aM] at h;exact h
  rw [e];rfl
 | w::ws,xs,h=>by
  rw [aM] at h;obtain ⟨v,vs,e,_,h⟩:=h;rw [e,Lk,Lk,aM.len h]
theorem aM.get:∀ {ws:List W} {xs:List V} {i:Nat} {w:W},aM K H μ ws xs->ws[i]?=Dn w->∃ v,xs[i]?=Dn v/\Ab K H μ w v
 | [],_,_,_,_,e=>by simp at e
 | a::ws,xs,0,w,h,e=>by
  rw [aM] at h;obtain ⟨v,vs,e1,r,_⟩:=h;simp at e;subst e;subst e1;exact ⟨v,rfl,r⟩
 | a::ws,xs,i+1,w,h,e=>by
  rw [aM] at h;obtain ⟨v,vs,e1,_,h⟩:=h;subst e1;obtain ⟨u,h1,h2⟩:=aM.get (i:=i) (w:=w) h (by simpa using e);exact ⟨u,by simpa using h1,h2⟩
theorem aM.nil:aM K H μ [] []:=by rw [aM]
theorem aM.cons (r:Ab K H μ w v)(h:aM K H μ ws xs):aM K H μ (w::ws) (v::xs):=by
 rw [aM];exact ⟨v,xs,rfl,r,h⟩
theorem aM.append:∀ {ws:List W} {xs:List V} {us:List W} {ys:List V},aM K H μ ws xs->aM K H μ us ys->aM K H μ (ws++us) (xs++ys)
 | [],xs,us,ys,h,g=>by
  rw [aM] at h;subst h;exact g
 | w::ws,xs,us,ys,h,g=>by
  rw [aM] at h;obtain ⟨v,vs,e,r,h⟩:=h;subst e;exact aM.cons r<|aM.append h g
theorem aM.one (r:Ab K H μ w v):aM K H μ [w] [v]:=aM.cons r aM.nil
theorem aM.set (r:Ab K H μ w v):∀ {ws:List W} {xs:List V} (i:Nat),aM K H μ ws xs->aM K H μ (ws.set i w) (xs.set i v)
 | [],xs,i,h=>by rw [aM] at h;subst h;exact aM.nil
 | a::ws,xs,0,h=>by
  rw [aM] at h;obtain ⟨u,vs,e,_,h⟩:=h;subst e;exact aM.cons r h
 | a::ws,xs,i+1,h=>by
  rw [aM] at h;obtain ⟨u,vs,e,q,h⟩:=h;subst e;exact aM.cons q<|aM.set r i h
theorem aM.take:∀ {ws:List W} {xs:List V} (n:Nat),aM K H μ ws xs->aM K H μ (ws.take n) (xs.take n)
 | _,_,0,_=>by simp only [List.take_zero];exact aM.nil
 | [],xs,n+1,h=>by rw [aM] at h;subst h;exact aM.nil
 | a::ws,xs,n+1,h=>by
  rw [aM] at h;obtain ⟨u,vs,e,q,h⟩:=h;subst e;exact aM.cons q<|aM.take n h
theorem aM.drop:∀ {ws:List W} {xs:List V} (n:Nat),aM K H μ ws xs->aM K H μ (ws.drop n) (xs.drop n)
 | _,_,0,h=>h
 | [],xs,n+1,h=>by rw [aM] at h;subst h;exact aM.nil
 | a::ws,xs,n+1,h=>by
  rw [aM] at h;obtain ⟨u,vs,e,q,h⟩:=h;subst e;exact aM.drop n h
structure Ex0 (K:Ai) (H:Hp) (μ : Mu) (H':Hp) (μ':Mu):Prop where
 t:∀ p xs,Hs K H p xs->Hs K H' p xs
 l:∀ p xs,Frz H μ p xs->Frz H' μ' p xs
 k:∀ p xs,Frk K H p xs->Frk K H' p xs
 m:∀ n p,μ.f n=Dn p->μ'.f n=Dn p
 x:∀ p o u,H p=Dn (.frz o u)->H' p=Dn (.frz o u)
 y:∀ p fs,H p=Dn (.xd fs)->H' p=Dn (.xd fs)
structure Ex (K:Ai) (H:Hp) (μ : Mu) (H':Hp) (μ':Mu):Prop extends Ex0 K H μ H' μ' where
 o:∀ p u,μ.hid p->H p=Dn u->μ'.hid p/\H' p=Dn u
mutual
theorem Ab.ex (e:Ex0 K H μ H' μ'):∀ {w:W} {v:V},Ab K H μ w v->Ab K H' μ' w v
 | .non,_,h=>by rw [Ab] at h |-;exact h
 | .bl _,_,h=>by rw [Ab] at h |-;exact h
 | .int _,_,h=>by rw [Ab] at h |-;exact h
 | .str _,_,h=>by rw [Ab] at h |-;exact h
 | .ty _,_,h=>by rw [Ab] at h |-;exact h
 | .tup ws,_,h=>by
  rw [Ab] at h |-
  obtain ⟨p,xs,e1,hs,hr⟩:=h;exact ⟨p,xs,e1,e.t _ _ hs,aM.ex e hr⟩
 | .lst ws,_,h=>by
  rw [Ab] at h |-
  obtain ⟨p,xs,e1,hs,hr⟩:=h;exact ⟨p,xs,e1,e.l _ _ hs,aM.ex e hr⟩
 | .kls ws,_,h=>by
  rw [Ab] at h |-
  obtain ⟨p,xs,e1,hs,hr⟩:=h;exact ⟨p,xs,e1,e.k _ _ hs,aM.ex e hr⟩
 | .loc n,_,h=>by
  rw [Ab] at h |-
  obtain ⟨p,e1,hm⟩:=h;exact ⟨p,e1,e.m _ _ hm⟩
 | .exc n,_,h=>by
  rw [Ab] at h |-
  obtain ⟨p,o,u,e1,hm,hx⟩:=h;exact ⟨p,o,u,e1,e.x _ _ _ hm,hx⟩
 | .exa n ws,_,h=>by
  rw [Ab] at h |-
  obtain ⟨p,o,u,dd,ns,xs,e1,hm,hx,hd,e2,e3,hr⟩:=h;exact ⟨p,o,u,dd,ns,xs,e1,e.x _ _ _ hm,hx,e.y _ _ hd,e2,e3,aM.ex e hr⟩
 | .fnv _ _,_,h=>by rw [Ab] at h |-;exact h
theorem aM.ex (e:Ex0 K H μ H' μ'):∀ {ws:List W} {xs:List V},aM K H μ ws xs->aM K H' μ' ws xs
 | [],_,h=>by rw [aM] at h |-;exact h
 | w::ws,_,h=>by
  rw [aM] at h |-
  obtain ⟨v,vs,e1,r,h⟩:=h;exact ⟨v,vs,e1,Ab.ex e r,aM.ex e h⟩
end
structure HB (K:Ai) (H:Hp) (μ : Mu) (H':Hp) (μ':Mu):Prop where
 r:∀ w v,Ab K H μ w v->Ab K H' μ' w v
 o:∀ p u,μ.hid p->H p=Dn u->μ'.hid p/\H' p=Dn u
theorem HB.refl:HB K H μ H μ:=⟨fun _ _ h=>h,fun _ _ h g=>⟨h,g⟩⟩
theorem HB.trans (a:HB K H μ H1 μ1)(b:HB K H1 μ1 H2 μ2):HB K H μ H2 μ2:=
 ⟨fun w v h=>b.r w v (a.r w v h),fun p u h g=>let ⟨h1,g1⟩:=a.o p u h g;b.o p u h1 g1⟩
theorem Ex.ext (e:Ex K H μ H' μ'):HB K H μ H' μ':=⟨fun _ _ h=>Ab.ex e.toEx0 h,e.o⟩
theorem HB.s (e:HB K H μ H' μ'):∀ {ws:List W} {xs:List V},aM K H μ ws xs->aM K H' μ' ws xs
 | [],_,h=>by rw [aM] at h |-;exact h
 | w::ws,_,h=>by
  rw [aM] at h |-
  obtain ⟨v,vs,e1,r,h⟩:=h;exact ⟨v,vs,e1,e.r _ _ r,HB.s e h⟩
def aam:Option HO->Prop
 | some (.lst _)=>True
 | some (.dK _)=>True
 | some (.ins _ _ _)=>True
 | some (.ext _)=>True
 | _=>False
def Zy {κ : Type}(K:Ai)(H:Hp)(μ : Mu):List (κ×W)->List (κ×V)->Prop:=Rv fun (p:κ×W) (q:κ×V)=>p.1=q.1/\Ab K H μ p.2 q.2
def adC (x:List Int×Addr×Go):DictEntry:=⟨reduceHash (Builtin.Tuple.tupleHashOf (x.1.map hashInt)),.ref x.2.1,x.2.2⟩
def ad3 (a:Addr)(xs:List (List Int×Addr×Go))(h:Heap):Prop:=xs.length<=Gb/\(a==sysModules)=false/\(xs.map (·.1)).Nodup/\∃ o es ep,h.get? a=Dn o/\o.ExactDict/\o.data=.dict es ep/\es.toList=xs.map adC
def uU (K:Ai)(H:Hp)(μ : Mu)(p:Addr):Cell->Prop
 | .lst ws=>∃ xs,H p=Dn (.lst xs)/\aM K H μ ws xs
 | .obj C fs=>∃ dx fvs,H p=Dn (.ins C dx fvs)/\Zy K H μ fs fvs
 | .dct kvs=>∃ kvv,H p=Dn (.dK kvv)/\Zy K H μ kvs kvv
 | .dtt kvs=>∃ xs vs,H p=Dn (.ext (ad3 p xs))/\kvs.map (·.1)=xs.map (·.1)/\Bp vs (xs.map (·.2.2))/\aM K H μ (kvs.map fun x=>W.tup (x.1.map W.int)) (xs.map fun x=>V.ref x.2.1)/\aM K H μ (kvs.map (·.2)) vs
structure Fi (K:Ai) (μ : Mu) (H:Hp) (h:Gh):Prop where
 inj:∀ m n p,μ.f m=Dn p->μ.f n=Dn p->m=n
 dom:∀ n p,μ.f n=Dn p->n<h.nx
 trk:∀ n p,μ.f n=Dn p->aam (H p)
 cel:∀ n c,h.c n=Dn c->∃ p,μ.f n=Dn p/\uU K H μ p c
 hd:∀ p,μ.hid p->(∃ xs,H p=Dn (.lst xs))/\∀ n,μ.f n≠Dn p
theorem uU.ext {p:Addr}{c:Cell}(e:HB K H μ H' μ')(hp:H' p=H p)(x:uU K H μ p c):uU K H' μ' p c:=by
 cases c with
 | lst ws=>obtain ⟨xs,a,b⟩:=x;exact ⟨xs,hp.trans a,e.s b⟩
 | obj C fs=>obtain ⟨dx,fvs,a,b⟩:=x;exact ⟨dx,fvs,hp.trans a,Paired.mapP b fun _ _ z=>⟨z.1,e.r _ _ z.2⟩⟩
 | dct kvs=>obtain ⟨kvv,a,b⟩:=x;exact ⟨kvv,hp.trans a,Paired.mapP b fun _ _ z=>⟨z.1,e.r _ _ z.2⟩⟩
 | dtt kvs=>obtain ⟨xs,vs,a,b,c,d,f⟩:=x;exact ⟨xs,vs,hp.trans a,b,c,e.s d,e.s f⟩
theorem Rd.laid {p q:Addr}{o u:HO}(hp:H p=FX)(r:Rd H q u):Rd (Fy H p o) q u:=by
 have ne:q≠p:=by
  rcases r with r | ⟨_,r⟩
  ·exact aU r hp
  ·exact aU r hp
 unfold Rd;rw [aN ne];exact r
theorem Ex.laid {p:Addr}{o:HO}(hp:H p=FX):Ex K H μ (Fy H p o) μ where
 t:=fun q xs h=>by
  rcases h with h | h
  ·exact .inl<|h.laid hp
  ·exact .inr h
 l:=fun q xs h=>⟨by rw [aN (aU h.1 hp)];exact h.1,h.2⟩
 k:=fun q xs h=>by
  rcases h with ⟨o',h⟩ | h
  ·exact .inl ⟨o',by rw [aN<|aU h hp];exact h⟩
  ·exact .inr h
 m:=fun _ _ h=>h
 x:=fun q o' u e=>by rw [aN (aU e hp)];exact e
 y:=fun q fs e=>by rw [aN (aU e hp)];exact e
 o:=fun q u z e=>⟨z,by rw [aN (aU e hp)];exact e⟩
theorem Fi.laid {p:Addr}{o:HO}(R:Fi K μ H h)(hp:H p=FX):Fi K μ (Fy H p o) h where
 inj:=R.inj
 dom:=R.dom
 trk:=fun n q e=>by
  have:=R.trk n q e
  have ne:q≠p:=fun z=>by subst z;rw [hp] at this;exact this
  rw [aN ne];exact this
 cel:=fun n c e=>by
  obtain ⟨q,e1,x⟩:=R.cel n c e;have:=R.trk n q e1
  have ne:q≠p:=fun z=>by subst z;rw [hp] at this;exact this
  exact ⟨q,e1,x.ext (Ex.laid hp).ext (aN ne)⟩
 hd:=fun q z=>by
  obtain ⟨⟨xs,e⟩,g⟩:=R.hd q z;exact ⟨⟨xs,by rw [aN<|aU e hp];exact e⟩,g⟩
theorem Ab.tupNew {p:Addr}(hp:H p=FX)(r:aM K H μ ws xs):Ab K (Fy H p (.tup xs)) μ (.tup ws) (.ref p):=by
 rw [Ab];exact ⟨p,xs,rfl,Hs.of bQ,(Ex.laid hp).ext.s r⟩
theorem Ab.lstNew {p:Addr}(R:Fi K μ H h)(hp:H p=FX)(r:aM K H μ ws xs):Ab K (Fy H p (.lst xs)) μ (.lst ws) (.ref p):=by
 rw [Ab];refine ⟨p,xs,rfl,⟨bQ,fun n e=>?_,fun z=>?_⟩,(Ex.laid hp).ext.s r⟩
 ·have:=R.trk n p e
  rw [hp] at this;exact this
 ·obtain ⟨⟨xs,e⟩,_⟩:=R.hd p z;rw [hp] at e;cases e
def Mu.put (μ : Mu)(n:Nat)(p:Addr):Mu:=⟨fun m=>if m=n then Dn p else μ.f m,μ.hid⟩
theorem Mu.put_same {n:Nat}{p:Addr}:(μ.put n p).f n=Dn p:=by show (if n=n then Dn p else μ.f n)=_;rw [if_pos rfl]
theorem Mu.put_ne {m n:Nat}{p:Addr}(e:m≠n):(μ.put n p).f m = μ.f m:=by show (if m=n then Dn p else μ.f m)=_;rw [if_neg e]
def Gh.new (h:Gh)(c:Cell):Gh:=⟨h.nx+1,fun m=>if m=h.nx then Dn c else h.c m⟩
def Gh.set (h:Gh)(n:Nat)(c:Cell):Gh:=⟨h.nx,fun m=>if m=n then Dn c else h.c m⟩
theorem Fi.dead (R:Fi K μ H h){n:Nat}(hn:h.nx<=n):μ.f n=FX:=by
 cases e:μ.f n with
 | none=>rfl
 | some p=>exact absurd (R.dom n p e) (by lia)
theorem Ex.newCell {p:Addr}{o:HO}(R:Fi K μ H h)(hp:H p=FX):Ex K H μ (Fy H p o) (μ.put h.nx p) where
 t:=fun q xs z=>(Ex.laid (μ:=μ) hp).t q xs z
 l:=fun q xs z=>by
  have nq:=aU z.1 hp;refine ⟨by rw [aN nq];exact z.1,fun n e=>?_,z.2.2⟩;by_cases hn:n=h.nx
  ·subst hn;rw [Mu.put_same] at e;exact nq (HS e).symm
  ·rw [Mu.put_ne hn] at e;exact z.2.1 n e
 k:=fun q xs z=>(Ex.laid (μ:=μ) hp).k q xs z
 m:=fun n q e=>by
  have hn:n≠h.nx:=fun z=>by subst z;rw [R.dead (Ge _)] at e;cases e
  rw [Mu.put_ne hn];exact e
 x:=fun q o' u e=>by rw [aN (aU e hp)];exact e
 y:=fun q fs e=>by rw [aN (aU e hp)];exact e
 o:=fun q u z e=>⟨z,by rw [aN (aU e hp)];exact e⟩
theorem Fi.newCell {p:Addr}{o:HO}{c:Cell}(R:Fi K μ H h)(hp:H p=FX)(mo:aam (Dn o))(ck:uU K (Fy H p o) (μ.put h.nx p) p c):Fi K (μ.put h.nx p) (Fy H p o) (h.new c) where
 inj:=fun m n q em en=>by
  by_cases hm:m=h.nx
  ·by_cases hn:n=h.nx
   ·rw [hm,hn]
   ·rw [hm,Mu.put_same] at em;rw [Mu.put_ne hn] at en;have e:p=q:=HS em;subst e;have:=R.trk n _ en
    rw [hp] at this;exact this.elim
  ·rw [Mu.put_ne hm] at em;by_cases hn:n=h.nx
   ·rw [hn,Mu.put_same] at en;have e:p=q:=HS en;subst e;have:=R.trk m _ em
    rw [hp] at this;exact this.elim
   ·rw [Mu.put_ne hn] at en;exact R.inj m n q em en
 dom:=fun n q e=>by
  show n<h.nx+1;by_cases hn:n=h.nx
  ·lia
  ·rw [Mu.put_ne hn] at e;have:=R.dom n q e
   lia
 trk:=fun n q e=>by
  by_cases hn:n=h.nx
  ·rw [hn,Mu.put_same] at e;have e:p=q:=HS e;subst e;rw [bQ];exact mo
  ·rw [Mu.put_ne hn] at e;have:=R.trk n q e
   have ne:q≠p:=fun z=>by subst z;rw [hp] at this;exact this
   rw [aN ne];exact this
 cel:=fun n d e=>by
  have e:(if n=h.nx then Dn c else h.c n)=Dn d:=e;by_cases hn:n=h.nx
  ·rw [if_pos hn] at e;have e:c=d:=HS e;subst e;exact ⟨p,by rw [hn,Mu.put_same],ck⟩
  ·rw [if_neg hn] at e;obtain ⟨q,e1,x⟩:=R.cel n d e;have:=R.trk n q e1
   have ne:q≠p:=fun z=>by subst z;rw [hp] at this;exact this
   exact ⟨q,by rw [Mu.put_ne hn];exact e1,x.ext (Ex.newCell R hp).ext (aN ne)⟩
 hd:=fun q z=>by
  obtain ⟨⟨xs,e⟩,g⟩:=R.hd q z;have ne:=aU e hp;refine ⟨⟨xs,by rw [aN ne];exact e⟩,fun n en=>?_⟩;by_cases hn:n=h.nx
  ·rw [hn,Mu.put_same] at en;exact ne (HS en).symm
  ·rw [Mu.put_ne hn] at en;exact g n en
theorem Rd.kept {p q:Addr}{o u:HO}(mo:aam (H p))(r:Rd H q u)(hn:q≠p):Rd (Fy H p o) q u:=by
 unfold Rd;rw [aN hn];exact r
theorem Ex.write {n:Nat}{p:Addr}{o:HO}(R:Fi K μ H h)(hn:μ.f n=Dn p):Ex K H μ (Fy H p o) μ where
 t:=fun q xs z=>by
  rcases z with z | z
  ·refine .inl<|z.kept (R.trk n p hn) fun e=>?_
   subst e;have:=R.trk n q hn
   rcases z with r | ⟨_,r⟩ <;> rw [r] at this <;> exact this
  ·exact .inr z
 l:=fun q xs z=>⟨by rw [aN (fun e=>z.2.1 n (by rw [e];exact hn))];exact z.1,z.2⟩
 k:=fun q xs z=>by
  rcases z with ⟨o',z⟩ | z
  ·refine .inl ⟨o',?_⟩;rw [aN (fun e=>?_)]
   ·exact z
   ·subst e;have:=R.trk n q hn
    rw [z] at this;exact this
  ·exact .inr z
 m:=fun _ _ e=>e
 x:=fun q o' u e=>by
  rw [aN (fun y=>?_)]
  ·exact e
  ·subst y;have:=R.trk n q hn
   rw [e] at this;exact this
 y:=fun q fs e=>by
  rw [aN (fun y=>?_)]
  ·exact e
  ·subst y;have:=R.trk n q hn
   rw [e] at this;exact this
 o:=fun q u z e=>⟨z,by rw [aN (fun y=>(R.hd q z).2 n (by rw [y];exact hn))];exact e⟩
theorem Fi.write {n:Nat}{p:Addr}{o:HO}{c:Cell}(R:Fi K μ H h)(hn:μ.f n=Dn p)(mo:aam (Dn o))(ck:uU K (Fy H p o) μ p c):Fi K μ (Fy H p o) (h.set n c) where
 inj:=R.inj
 dom:=R.dom
 trk:=fun m q e=>by
  by_cases z:q=p
  ·subst z;rw [bQ];exact mo
  ·rw [aN z];exact R.trk m q e
 cel:=fun m d e=>by
  have e:(if m=n then Dn c else h.c m)=Dn d:=e;by_cases hm:m=n
  ·rw [if_pos hm] at e;have e:c=d:=HS e;subst e;exact ⟨p,by rw [hm];exact hn,ck⟩
  ·rw [if_neg hm] at e;obtain ⟨q,e1,x⟩:=R.cel m d e;have ne:q≠p:=fun z=>by subst z;exact hm (R.inj m n q e1 hn)
   exact ⟨q,e1,x.ext (Ex.write R hn).ext (aN ne)⟩
 hd:=fun q z=>by
  obtain ⟨⟨xs,e⟩,g⟩:=R.hd q z;exact ⟨⟨xs,by rw [aN<|fun y=>g n (by rw [y];exact hn)];exact e⟩,g⟩
mutual
def Lo (k:Nat):W->Prop
 | .tup ws=>Kv k ws
 | .lst ws=>Kv k ws
 | .kls ws=>Kv k ws
 | .exa _ ws=>Kv k ws
 | .loc n=>n<k
 | _=>True
def Kv (k:Nat):List W->Prop
 | []=>True
 | w::ws=>Lo k w/\Kv k ws
end
mutual
theorem Ab.lo {k:Nat}(hd:∀ n p,μ.f n=Dn p->n<k):∀ {w:W} {v:V},Ab K H μ w v->Lo k w
 | .non,_,_=>by rw [Lo] <;> first | trivial | (intros;contradiction)
 | .bl _,_,_=>by rw [Lo] <;> first | trivial | (intros;contradiction)
 | .int _,_,_=>by rw [Lo] <;> first | trivial | (intros;contradiction)
 | .str _,_,_=>by rw [Lo] <;> first | trivial | (intros;contradiction)
 | .ty _,_,_=>by rw [Lo] <;> first | trivial | (intros;contradiction)
 | .exc _,_,_=>by rw [Lo] <;> first | trivial | (intros;contradiction)
 | .fnv _ _,_,_=>by rw [Lo] <;> first | trivial | (intros;contradiction)
 | .exa _ ws,_,h=>by
  rw [Ab] at h;obtain ⟨_,_,_,_,_,_,_,_,_,_,_,_,hr⟩:=h;rw [Lo];exact aM.lo hd hr
 | .tup ws,_,h=>by
  rw [Ab] at h;obtain ⟨p,xs,_,_,hr⟩:=h;rw [Lo];exact aM.lo hd hr
 | .lst ws,_,h=>by
  rw [Ab] at h;obtain ⟨p,xs,_,_,hr⟩:=h;rw [Lo];exact aM.lo hd hr
 | .kls ws,_,h=>by
  rw [Ab] at h;obtain ⟨p,xs,_,_,hr⟩:=h;rw [Lo];exact aM.lo hd hr
 | .loc n,_,h=>by
  rw [Ab] at h;obtain ⟨p,_,hm⟩:=h;rw [Lo];exact hd n p hm
theorem aM.lo {k:Nat}(hd:∀ n p,μ.f n=Dn p->n<k):∀ {ws:List W} {xs:List V},aM K H μ ws xs->Kv k ws
 | [],_,_=>by rw [Kv];trivial
 | w::ws,_,h=>by
  rw [aM] at h;obtain ⟨v,vs,_,r,h⟩:=h;rw [Kv];exact ⟨Ab.lo hd r,aM.lo hd h⟩
end
def Mu.cut (μ : Mu)(k:Nat):Mu:=⟨fun n=>if n<k then μ.f n else FX,μ.hid⟩
theorem Mu.cut_some {k n:Nat}{p:Addr}(e:(μ.cut k).f n=Dn p):n<k/\μ.f n=Dn p:=by
 have e:(if n<k then μ.f n else FX)=Dn p:=e;by_cases hn:n<k
 ·rw [if_pos hn] at e;exact ⟨hn,e⟩
 ·rw [if_neg hn] at e;cases e
mutual
theorem Ab.cut {k:Nat}:∀ {w:W} {v:V},Ab K H μ w v->Lo k w->Ab K H (μ.cut k) w v
 | .non,_,h,_=>by rw [Ab] at h |-;exact h
 | .bl _,_,h,_=>by rw [Ab] at h |-;exact h
 | .int _,_,h,_=>by rw [Ab] at h |-;exact h
 | .str _,_,h,_=>by rw [Ab] at h |-;exact h
 | .ty _,_,h,_=>by rw [Ab] at h |-;exact h
 | .exc _,_,h,_=>by rw [Ab] at h |-;exact h
 | .fnv _ _,_,h,_=>by rw [Ab] at h |-;exact h
 | .exa _ ws,_,h,l=>by
  rw [Ab] at h |-
  rw [Lo] at l;obtain ⟨p,o,u,dd,ns,xs,e1,hm,hx,hd,e2,e3,hr⟩:=h;exact ⟨p,o,u,dd,ns,xs,e1,hm,hx,hd,e2,e3,aM.cut hr l⟩
 | .tup ws,_,h,l=>by
  rw [Ab] at h |-
  rw [Lo] at l;obtain ⟨p,xs,e1,hs,hr⟩:=h;exact ⟨p,xs,e1,hs,aM.cut hr l⟩
 | .lst ws,_,h,l=>by
  rw [Ab] at h |-
  rw [Lo] at l;obtain ⟨p,xs,e1,hs,hr⟩:=h;exact ⟨p,xs,e1,⟨hs.1,fun n e=>hs.2.1 n (Mu.cut_some e).2,hs.2.2⟩,aM.cut hr l⟩
 | .kls ws,_,h,l=>by
  rw [Ab] at h |-
  rw [Lo] at l;obtain ⟨p,xs,e1,hs,hr⟩:=h;exact ⟨p,xs,e1,hs,aM.cut hr l⟩
 | .loc n,_,h,l=>by
  rw [Ab] at h |-
  rw [Lo] at l;obtain ⟨p,e1,hm⟩:=h;refine ⟨p,e1,?_⟩;show (if n<k then μ.f n else FX)=Dn p;rw [if_pos l];exact hm
theorem aM.cut {k:Nat}:∀ {ws:List W} {xs:List V},aM K H μ ws xs->Kv k ws->aM K H (μ.cut k) ws xs
 | [],_,h,_=>by rw [aM] at h |-;exact h
 | w::ws,_,h,l=>by
  rw [aM] at h |-
  rw [Kv] at l;obtain ⟨v,vs,e1,r,h⟩:=h;exact ⟨v,vs,e1,Ab.cut r l.1,aM.cut h l.2⟩
end
end
section
variable {K:Ai}{H H' H1 H2:Hp}{μ μ' μ1 μ2:Mu}{h h':Gh}{w:W}{ws:List W}{v:V}{xs ys:List V}{p:Addr}
def Mu.hide (μ : Mu)(p:Addr):Mu:=⟨μ.f,fun q=>q=p\/μ.hid q⟩
def Mu.unhide (μ : Mu)(p:Addr):Mu:=⟨μ.f,fun q=>q≠p/\μ.hid q⟩
structure K4 (p:Addr) (K:Ai) (H:Hp) (μ : Mu) (H':Hp) (μ':Mu):Prop where
 r:∀ w v,Ab K H μ w v->Ab K H' μ' w v
 o:∀ q u,q≠p->μ.hid q->H q=Dn u->μ'.hid q/\H' q=Dn u
theorem HB.x (a:HB K H μ H1 μ1)(hp:¬ μ.hid p)(b:K4 p K H1 μ1 H2 μ2):HB K H μ H2 μ2:=
 ⟨fun w v z=>b.r w v (a.r w v z),fun q u z e=>let ⟨z1,e1⟩:=a.o q u z e;b.o q u (fun y=>hp (by rw [<-y];exact z)) z1 e1⟩
theorem HB.hide {o:HO}(hp:H p=FX):HB K H μ (Fy H p o) (μ.hide p):=Ex.ext {
 t:=fun q xs z=>(Ex.laid (μ:=μ) hp).t q xs z
 l:=fun q xs z=>by
  have nq:=aU z.1 hp;refine ⟨by rw [aN nq];exact z.1,z.2.1,fun y=>?_⟩;rcases y with y | y
  ·exact nq y
  ·exact z.2.2 y
 k:=fun q xs z=>(Ex.laid (μ:=μ) hp).k q xs z
 m:=fun _ _ e=>e
 x:=fun q o' u e=>by rw [aN (aU e hp)];exact e
 y:=fun q fs e=>by rw [aN (aU e hp)];exact e
 o:=fun q u z e=>⟨.inr z,by rw [aN (aU e hp)];exact e⟩ }
theorem Fi.nohid (R:Fi K μ H h)(hp:H p=FX):¬ μ.hid p:=fun z=>by
 obtain ⟨⟨xs,e⟩,_⟩:=R.hd p z;rw [hp] at e;cases e
theorem Fi.hide (R:Fi K μ H h)(hp:H p=FX):Fi K (μ.hide p) (Fy H p (.lst xs)) h where
 inj:=R.inj
 dom:=R.dom
 trk:=(R.laid hp).trk
 cel:=fun n c e=>by
  obtain ⟨q,e1,x⟩:=R.cel n c e;have:=R.trk n q e1
  have ne:q≠p:=fun z=>by subst z;rw [hp] at this;exact this
  exact ⟨q,e1,x.ext (HB.hide hp)<|aN ne⟩
 hd:=fun q z=>by
  rcases z with z | z
  ·subst z;refine ⟨⟨xs,bQ⟩,fun n e=>?_⟩;have:=R.trk n q e
   rw [hp] at this;exact this
  ·exact (R.laid (o:=.lst xs) hp).hd q z
theorem Ex0.grow (R:Fi K μ H h)(hp:μ.hid p):Ex0 K H μ (Fy H p (.lst ys)) μ where
 t:=fun q xs z=>by
  rcases z with z | z
  ·refine .inl ?_;unfold Rd;rw [aN (fun y=>?_)]
   ·exact z
   ·subst y;obtain ⟨⟨xs',e⟩,_⟩:=R.hd q hp;rcases z with r | ⟨_,r⟩ <;> rw [e] at r <;> cases r
  ·exact .inr z
 l:=fun q xs z=>⟨by rw [aN (fun y=>z.2.2 (by rw [y];exact hp))];exact z.1,z.2⟩
 k:=fun q xs z=>by
  rcases z with ⟨o',z⟩ | z
  ·refine .inl ⟨o',?_⟩;rw [aN (fun y=>?_)]
   ·exact z
   ·subst y;obtain ⟨⟨xs',e⟩,_⟩:=R.hd q hp;rw [e] at z;cases z
  ·exact .inr z
 m:=fun _ _ e=>e
 x:=fun q o' u e=>by
  rw [aN (fun y=>?_)]
  ·exact e
  ·subst y;obtain ⟨⟨xs',e'⟩,_⟩:=R.hd q hp;rw [e'] at e;cases e
 y:=fun q fs e=>by
  rw [aN (fun y=>?_)]
  ·exact e
  ·subst y;obtain ⟨⟨xs',e'⟩,_⟩:=R.hd q hp;rw [e'] at e;cases e
theorem K4.grow (R:Fi K μ H h)(hp:μ.hid p):K4 p K H μ (Fy H p (.lst ys)) μ:=
 ⟨fun _ _ z=>Ab.ex (Ex0.grow R hp) z,fun q u ne z e=>⟨z,by rw [aN ne];exact e⟩⟩
theorem Fi.grow (R:Fi K μ H h)(hp:μ.hid p):Fi K μ (Fy H p (.lst ys)) h where
 inj:=R.inj
 dom:=R.dom
 trk:=fun n q e=>by
  have ne:q≠p:=fun z=>(R.hd p hp).2 n (by rw [<-z];exact e)
  rw [aN ne];exact R.trk n q e
 cel:=fun n c e=>by
  obtain ⟨q,e1,x⟩:=R.cel n c e;have ne:q≠p:=fun z=>(R.hd p hp).2 n (by rw [<-z];exact e1)
  refine ⟨q,e1,?_⟩;cases c with
  | lst ws=>obtain ⟨xs,a,b⟩:=x;exact ⟨xs,(aN ne).trans a,aM.ex (Ex0.grow R hp) b⟩
  | obj C fs=>obtain ⟨dx,fvs,a,b⟩:=x;exact ⟨dx,fvs,(aN ne).trans a,Paired.mapP b fun _ _ z=>⟨z.1,Ab.ex (Ex0.grow R hp) z.2⟩⟩
  | dct kvs=>obtain ⟨kvv,a,b⟩:=x;exact ⟨kvv,(aN ne).trans a,Paired.mapP b fun _ _ z=>⟨z.1,Ab.ex (Ex0.grow R hp) z.2⟩⟩
  | dtt kvs=>obtain ⟨xs,vs,a,b,c,d,f⟩:=x;exact ⟨xs,vs,(aN ne).trans a,b,c,aM.ex (Ex0.grow R hp) d,aM.ex (Ex0.grow R hp) f⟩
 hd:=fun q z=>by
  by_cases e:q=p
  ·subst e;exact ⟨⟨ys,bQ⟩,(R.hd q hp).2⟩
  ·rw [aN e];exact R.hd q z
theorem Ex0.unhide:Ex0 K H μ H (μ.unhide p) where
 t:=fun _ _ z=>z
 l:=fun q xs z=>⟨z.1,z.2.1,fun y=>z.2.2 y.2⟩
 k:=fun _ _ z=>z
 m:=fun _ _ e=>e
 x:=fun _ _ _ e=>e
 y:=fun _ _ e=>e
theorem K4.unhide:K4 p K H μ H (μ.unhide p):=⟨fun _ _ z=>Ab.ex Ex0.unhide z,fun q u ne z e=>⟨⟨ne,z⟩,e⟩⟩
theorem Fi.unhide (R:Fi K μ H h):Fi K (μ.unhide p) H h where
 inj:=R.inj
 dom:=R.dom
 trk:=R.trk
 cel:=fun n c e=>by
  obtain ⟨q,e1,x⟩:=R.cel n c e;refine ⟨q,e1,?_⟩;cases c with
  | lst ws=>obtain ⟨xs,a,b⟩:=x;exact ⟨xs,a,aM.ex Ex0.unhide b⟩
  | obj C fs=>obtain ⟨dx,fvs,a,b⟩:=x;exact ⟨dx,fvs,a,Paired.mapP b fun _ _ z=>⟨z.1,Ab.ex Ex0.unhide z.2⟩⟩
  | dct kvs=>obtain ⟨kvv,a,b⟩:=x;exact ⟨kvv,a,Paired.mapP b fun _ _ z=>⟨z.1,Ab.ex Ex0.unhide z.2⟩⟩
  | dtt kvs=>obtain ⟨xs,vs,a,b,c,d,f⟩:=x;exact ⟨xs,vs,a,b,c,aM.ex Ex0.unhide d,aM.ex Ex0.unhide f⟩
 hd:=fun q z=>R.hd q z.2
theorem Ab.built (R:Fi K μ H h)(hp:μ.hid p)(e:H p=Dn (.lst xs))(r:aM K H μ ws xs):Ab K H (μ.unhide p) (.lst ws) (.ref p):=by
 rw [Ab];exact ⟨p,xs,rfl,⟨e,(R.hd p hp).2,fun z=>z.1 rfl⟩,aM.ex Ex0.unhide r⟩
end
abbrev Sw:=List (Option W)
abbrev WK:=W->Gh->Prop
abbrev ME:=Sw->Gh->WK->Prop
abbrev MT:=Sw->Gh->(Bool->Gh->Prop)->Prop
abbrev MA:=Sw->Gh->(List W->Gh->Prop)->Prop
structure bR where
 nx:Sw->Gh->Prop
 rt:WK
 bk:Sw->Gh->Prop:=fun _ _=>False
 ct:Sw->Gh->Prop:=fun _ _=>False
abbrev MS:=bR->Sw->Gh->Prop
abbrev MG:=W->Sw->Gh->(Sw->Gh->Prop)->Prop
abbrev Ny:=List W->Sw->Gh->(Sw->Gh->Prop)->Prop
structure Xw where
 cls:Str
 fs:List (Str×W)
abbrev EY:=Xw->Gh->Prop
abbrev kI:=List W->Gh->WK->EY->Prop
def EF:EY:=fun _ _=>False
structure Slots (K:Ai) (H:Hp) (μ : Mu) (σw:Sw) (σ : St):Prop where
 len:σw.length = σ.length
 get:∀ (i:Nat) (w:W),σw[i]?=Dn (Dn w)->∃ v,σ[i]?=Dn (Dn v)/\Ab K H μ w v
inductive DQ (K:Ai) (H:Hp) (μ : Mu) (Q:WK) (v:V) (H':Hp):Prop where
 | mk (μ':Mu) (w:W) (h':Gh) (e:HB K H μ H' μ') (R:Fi K μ' H' h') (r:Ab K H' μ' w v) (q:Q w h'):DQ K H μ Q v H'
inductive DB (K:Ai) (H:Hp) (μ : Mu) (Q:Bool->Gh->Prop) (b:Bool) (H':Hp):Prop where
 | mk (μ':Mu) (h':Gh) (e:HB K H μ H' μ') (R:Fi K μ' H' h') (q:Q b h'):DB K H μ Q b H'
inductive DA (K:Ai) (H:Hp) (μ : Mu) (Q:List W->Gh->Prop) (vs:List V) (H':Hp):Prop where
 | mk (μ':Mu) (ws:List W) (h':Gh) (e:HB K H μ H' μ') (R:Fi K μ' H' h') (r:aM K H' μ' ws vs) (q:Q ws h'):DA K H μ Q vs H'
inductive DN (K:Ai) (H:Hp) (μ : Mu) (N:Sw->Gh->Prop) (σ':St) (H':Hp):Prop where
 | mk (μ':Mu) (σw':Sw) (h':Gh) (e:HB K H μ H' μ') (R:Fi K μ' H' h') (S:Slots K H' μ' σw' σ') (q:N σw' h'):DN K H μ N σ' H'
section
variable {K:Ai}{H H' H1 H2:Hp}{μ μ' μ1 μ2:Mu}{h h' h1:Gh}{w:W}{v:V}{σ : St}{σw:Sw}
theorem Slots.ext (S:Slots K H μ σw σ)(e:HB K H μ H' μ'):Slots K H' μ' σw σ:=⟨S.len,fun i w q=>let ⟨v,a,b⟩:=S.get i w q;⟨v,a,e.r _ _ b⟩⟩
theorem Slots.set (S:Slots K H μ σw σ)(r:Ab K H μ w v)(i:Nat):Slots K H μ (σw.set i (Dn w)) (σ.set i (Dn v)):=by
 refine ⟨by rw [List.length_set,List.length_set,S.len],fun j u q=>?_⟩;rw [List.getElem?_set] at q |-
 by_cases hij:i=j
 ·rw [if_pos hij] at q |-
  by_cases hl:i < σw.length
  ·rw [if_pos hl] at q;rw [if_pos (by rw [<-S.len];exact hl)];have e:w=u:=by injection q with q;injection q
   subst e;exact ⟨v,rfl,r⟩
  ·rw [if_neg hl] at q;cases q
 ·rw [if_neg hij] at q |-
  exact S.get j u q
theorem DQ.trans {Q:WK}(e:HB K H μ H1 μ1)(q:DQ K H1 μ1 Q v H'):DQ K H μ Q v H':=let ⟨μ',w,h',a,b,c,d⟩:=q;⟨μ',w,h',e.trans a,b,c,d⟩
theorem DB.trans {Q:Bool->Gh->Prop}{b:Bool}(e:HB K H μ H1 μ1)(q:DB K H1 μ1 Q b H'):DB K H μ Q b H':=let ⟨μ',h',a,b,c⟩:=q;⟨μ',h',e.trans a,b,c⟩
theorem DN.trans {N:Sw->Gh->Prop}{σ':St}(e:HB K H μ H1 μ1)(q:DN K H1 μ1 N σ' H'):DN K H μ N σ' H':=let ⟨μ',w,h',a,b,c,d⟩:=q;⟨μ',w,h',e.trans a,b,c,d⟩
end
inductive tD (K:Ai) (m:ME) (σ : St) (H:Hp) (Q:VK):Prop where
 | mk (μ : Mu) (h:Gh) (σw:Sw) (Qw:WK) (R:Fi K μ H h) (S:Slots K H μ σw σ) (x:m σw h Qw) (k:∀ v H',DQ K H μ Qw v H'->Q v H'):tD K m σ H Q
inductive tDT (K:Ai) (m:MT) (σ : St) (H:Hp) (Q:Bool->Hp->Prop):Prop where
 | mk (μ : Mu) (h:Gh) (σw:Sw) (Qw:Bool->Gh->Prop) (R:Fi K μ H h) (S:Slots K H μ σw σ) (x:m σw h Qw) (k:∀ b H',DB K H μ Qw b H'->Q b H'):tDT K m σ H Q
inductive tDA (K:Ai) (m:MA) (σ : St) (H:Hp) (Q:List V->Hp->Prop):Prop where
 | mk (μ : Mu) (h:Gh) (σw:Sw) (Qw:List W->Gh->Prop) (R:Fi K μ H h) (S:Slots K H μ σw σ) (x:m σw h Qw) (k:∀ vs H',DA K H μ Qw vs H'->Q vs H'):tDA K m σ H Q
inductive tDG (K:Ai) (g:MG) (v:V) (σ : St) (H:Hp) (N:St->Hp->Prop):Prop where
 | mk (μ : Mu) (h:Gh) (σw:Sw) (w:W) (Nw:Sw->Gh->Prop) (R:Fi K μ H h) (S:Slots K H μ σw σ) (r:Ab K H μ w v) (x:g w σw h Nw) (k:∀ σ' H',DN K H μ Nw σ' H'->N σ' H'):tDG K g v σ H N
inductive aci (K:Ai) (g:Ny) (vs:List V) (σ : St) (H:Hp) (N:St->Hp->Prop):Prop where
 | mk (μ : Mu) (h:Gh) (σw:Sw) (ws:List W) (Nw:Sw->Gh->Prop) (R:Fi K μ H h) (S:Slots K H μ σw σ) (r:aM K H μ ws vs) (x:g ws σw h Nw) (k:∀ σ' H',DN K H μ Nw σ' H'->N σ' H'):aci K g vs σ H N
structure Eo (K:Ai) (H:Hp) (μ : Mu) (Dw:bR) (D:Ends):Prop where
 nx:∀ σ' H',DN K H μ Dw.nx σ' H'->D.nx σ' H'
 rt:∀ v H',DQ K H μ Dw.rt v H'->D.rt v H'
 bk:∀ σ' H',DN K H μ Dw.bk σ' H'->D.bk σ' H'
 ct:∀ σ' H',DN K H μ Dw.ct σ' H'->D.ct σ' H'
inductive tDS (K:Ai) (m:MS) (D:Ends) (σ : St) (H:Hp):Prop where
 | mk (μ : Mu) (h:Gh) (σw:Sw) (Dw:bR) (R:Fi K μ H h) (S:Slots K H μ σw σ) (x:m Dw σw h) (k:Eo K H μ Dw D):tDS K m D σ H
theorem Eo.trans {K:Ai}{H H1:Hp}{μ μ1:Mu}{Dw:bR}{D:Ends}(k:Eo K H μ Dw D)(e:HB K H μ H1 μ1):Eo K H1 μ1 Dw D:=
 ⟨fun _ _ q=>k.nx _ _ (q.trans e),fun _ _ q=>k.rt _ _ (q.trans e),fun _ _ q=>k.bk _ _ (q.trans e),fun _ _ q=>k.ct _ _ (q.trans e)⟩
section
variable {X:Cx}{e:Expr}{es:List Expr}{st:Stmt}{sts:List Stmt}
theorem PE.of {t t':TE}(h:PE X e t)(k:∀ σ H Q,t' σ H Q->t σ H Q):PE X e t':=fun pins s σ H Q I q=>h pins s σ H Q I (k σ H Q q)
theorem PT.of {t t':TT}(h:PT X e t)(k:∀ σ H Q,t' σ H Q->t σ H Q):PT X e t':=fun pins s σ H Q I q=>h pins s σ H Q I (k σ H Q q)
theorem PW.of {t t':TT}(h:PW X e t)(k:∀ σ H Q,t' σ H Q->t σ H Q):PW X e t':=fun wh pins s σ H Q I q=>h wh pins s σ H Q I (k σ H Q q)
theorem PA.of {t t':TA}(h:PA X es t)(k:∀ σ H Q,t' σ H Q->t σ H Q):PA X es t':=fun pos pins s σ H Q I q=>h pos pins s σ H Q I (k σ H Q q)
theorem PG.of {t t':TG}(h:PG X e t)(k:∀ v σ H Q,t' v σ H Q->t v σ H Q):PG X e t':=fun pins s σ H v u Q I r q=>h pins s σ H v u Q I r (k v σ H Q q)
theorem Rg.of {t t':R8}(h:Rg X es t)(k:∀ v σ H Q,t' v σ H Q->t v σ H Q):Rg X es t':=fun pins s σ H v u Q I r q=>h pins s σ H v u Q I r (k v σ H Q q)
theorem PS.of {t t':TS}(h:PS X st t)(k:∀ D σ H,t' D σ H->t D σ H):PS X st t':=fun pins s σ H D I q=>h pins s σ H D I (k D σ H q)
theorem ML.of {t t':TS}(h:ML X sts t)(k:∀ D σ H,t' D σ H->t D σ H):ML X sts t':=fun pins s σ H D I q=>h pins s σ H D I (k D σ H q)
end
abbrev DE (X:Cx)(e:Expr)(m:ME):Prop:=PE X e (tD X.K m)
abbrev DT (X:Cx)(e:Expr)(m:MT):Prop:=PT X e (tDT X.K m)
abbrev DWt (X:Cx)(e:Expr)(m:MT):Prop:=PW X e (tDT X.K m)
abbrev KH (X:Cx)(es:List Expr)(m:MA):Prop:=PA X es (tDA X.K m)
abbrev DG (X:Cx)(e:Expr)(m:MG):Prop:=PG X e (tDG X.K m)
abbrev aal (X:Cx)(es:List Expr)(m:Ny):Prop:=Rg X es (aci X.K m)
abbrev DS (X:Cx)(st:Stmt)(m:MS):Prop:=PS X st (tDS X.K m)
abbrev RB (X:Cx)(st:List Stmt)(m:MS):Prop:=ML X st (tDS X.K m)
section
variable {X:Cx}{e a b c:Expr}{ma mb mc:ME}{pos:Pos}
def aq (i:Nat):ME:=fun σ h Q=>match σ[i]? with
 | some (Dn w)=>Q w h
 | _=>False
def mC (w:W):ME:=fun _ h Q=>Q w h
theorem dv (i:Nat)(he:PE X e (aaZ i)):DE X e (aq i):=he.of fun σ H Q ⟨μ,h,σw,Qw,R,S,m,k⟩=>by
 unfold aq at m;cases q:σw[i]? with
 | none=>rw [q] at m;exact m.elim
 | some o=>
  rw [q] at m;cases o with
  | none=>exact m.elim
  | some w=>
   obtain ⟨v,h1,h2⟩:=S.get i w q;exact ⟨v,h1,k _ _ ⟨μ,w,h,.refl,R,h2,m⟩⟩
theorem dc {w:W}{v:V}(he:PE X e (tC v))(r:∀ H μ,Ab X.K H μ w v):DE X e (mC w):=he.of fun σ H Q ⟨μ,h,σw,Qw,R,S,m,k⟩=>k _ _ ⟨μ,w,h,.refl,R,r H μ,m⟩
theorem aA {i:Int}{j pos}:DE X (.Constant (.int i) j pos) (mC (.int i)):=dc Y4 fun _ _=>by rw [Ab]
theorem Kl {i:Bool}{j pos}:DE X (.Constant (.bool i) j pos) (mC (.bl i)):=dc abv fun _ _=>by rw [Ab]
theorem QW {j pos}:DE X (.Constant .none j pos) (mC .non):=dc YZ fun _ _=>by rw [Ab]
abbrev M2:=W->W->Gh->WK->Prop
def JI (r:M2)(ma mb:ME):ME:=fun σ h Q=>ma σ h fun x h1=>mb σ h1 fun y h2=>r x y h2 Q
def acF (K:Ai)(r:R2)(mr:M2):Prop:=∀ {H:Hp} {μ : Mu} {h:Gh} {x y:V} {wx wy:W} {Qw:WK} {Q:VK},Fi K μ H h->Ab K H μ wx x->Ab K H μ wy y->mr wx wy h Qw ->
 (∀ v H',DQ K H μ Qw v H'->Q v H')->r x y H Q
theorem two {K:Ai}{σ : St}{H:Hp}{Q:VK}{mr:M2}{R2':V->V->Hp->Prop}(h:tD K (JI mr ma mb) σ H Q)
  (k:∀ {H2:Hp} {μ2:Mu} {h2:Gh} {x y:V} {wx wy:W} {Qw:WK},Fi K μ2 H2 h2->Ab K H2 μ2 wx x->Ab K H2 μ2 wy y->mr wx wy h2 Qw->(∀ v H',DQ K H2 μ2 Qw v H'->Q v H')->R2' x y H2) :
  tD K ma σ H fun x H1=>tD K mb σ H1 fun y H2=>R2' x y H2:=by
 obtain ⟨μ,g,σw,Qw,R,S,m,q⟩:=h;refine ⟨μ,g,σw,_,R,S,m,fun x H1 ⟨μ1,wx,h1,e1,R1,r1,m1⟩=>?_⟩;refine ⟨μ1,h1,σw,_,R1,S.ext e1,m1,fun y H2 ⟨μ2,wy,h2,e2,R2,r2,m2⟩=>?_⟩;exact k R2 (e2.r _ _ r1) r2 m2 fun v H' z=>q _ _<|(z.trans e2).trans e1
def M6 (X:Cx)(f:Go->Go->Sem Go)(mr:M2):Prop:=∃ r,Jt X f r/\acF X.K r mr
theorem aQ {op:Operator}{mr:M2}(ho:M6 X (Ly op) mr)(ha:DE X a ma)(hb:DE X b mb):DE X (.BinOp a op b pos) (JI mr ma mb):=by
 obtain ⟨r,o,s⟩:=ho;exact (aaP o ha hb).of fun σ H Q h=>two h fun R r1 r2 m k=>s R r1 r2 m k
theorem aa5 {op:CmpOp}{mr:M2}(ho:M6 X (Lz op) mr)(ha:DE X a ma)(hb:DE X b mb)(hm:Sh op b=false):DE X (.Compare a [op] [b] pos) (JI mr ma mb):=by
 obtain ⟨r,o,s⟩:=ho;exact (agM o ha hb hm).of fun σ H Q h=>two h fun R r1 r2 m k=>s R r1 r2 m k
def bG (m:ME):MT:=fun σ h Q=>m σ h fun w h1=>match w with
 | .bl c=>Q c h1
 | _=>False
theorem ahA {K:Ai}{σ : St}{H:Hp}{m:ME}{Q:Bool->Hp->Prop}(h:tDT K (bG m) σ H Q):tD K m σ H fun x H'=>∃ k,x=.bl k/\Q k H':=by
 obtain ⟨μ,g,σw,Qw,R,S,mm,q⟩:=h;refine ⟨μ,g,σw,_,R,S,mm,fun v H' ⟨μ1,w,h1,e1,R1,r1,m1⟩=>?_⟩;cases w with
 | bl c=>rw [Ab] at r1;exact ⟨c,r1,q _ _ ⟨μ1,h1,e1,R1,m1⟩⟩
 | _=>exact m1.elim
theorem Zj {op:CmpOp}{mr:M2}(ho:M6 X (Lz op) mr)(ha:DE X a ma)(hb:DE X b mb)(hm:Sh op b=false):DT X (.Compare a [op] [b] pos) (bG (JI mr ma mb)):=by
 obtain ⟨r,o,s⟩:=ho;exact (agL o ha hb hm).of fun σ H Q h=>two (ahA h) fun R r1 r2 m k=>s R r1 r2 m k
def Hi (c:Bool)(a b:Prop):Prop:=match c with
 | true=>a
 | false=>b
def br (c:Bool)(a b:Prop):Prop:=(c=true->a)/\(c=false->b)
theorem Ve {c:Bool}{a b:Prop}(e:c=true)(x:a):br c a b:=⟨fun _=>x,fun z=>by rw [e] at z;cases z⟩
theorem z9 {c:Bool}{a b:Prop}(e:c=false)(x:b):br c a b:=⟨fun z=>(by rw [e] at z;cases z),fun _=>x⟩
theorem tZ {c:Prop} [Decidable c] {a b:Prop} (x:c->a) (y:¬ c->b):br (decide c) a b:=⟨fun e=>x (of_decide_eq_true e),fun e=>y (of_decide_eq_false e)⟩
def X6 (t u:MT):MT:=fun σ h Q=>t σ h fun c h1=>br c (u σ h1 Q) (Q false h1)
def Ol (t u:MT):MT:=fun σ h Q=>t σ h fun c h1=>br c (Q true h1) (u σ h1 Q)
def Gp (t:MT):MT:=fun σ h Q=>t σ h fun c h1=>Q (!c) h1
variable {tA tB':MT}{rest:List Expr}
theorem Je (ha:DT X a tA):DWt X (.BoolOp .And [a] pos) tA:=ahC ha
theorem oG (ha:DT X a tA):DWt X (.BoolOp .Or [a] pos) tA:=Z7 ha
theorem PL (ha:DT X a tA)(hb:DWt X (.BoolOp .And (b::rest) pos) tB'):DWt X (.BoolOp .And (a::b::rest) pos) (X6 tA tB'):=(agx ha hb).of fun σ H Q ⟨μ,g,σw,Qw,R,S,m,q⟩=>by
 refine ⟨μ,g,σw,_,R,S,m,fun c H1 ⟨μ1,h1,e1,R1,m1⟩=>?_⟩;cases c with
 | true=>
  rw [if_pos rfl];exact ⟨μ1,h1,σw,_,R1,S.ext e1,m1.1 rfl,fun b H' z=>q _ _<|z.trans e1⟩
 | false=>
  rw [if_neg LI];exact q _ _ ⟨μ1,h1,e1,R1,m1.2 rfl⟩
theorem vZ (ha:DT X a tA)(hb:DWt X (.BoolOp .Or (b::rest) pos) tB'):DWt X (.BoolOp .Or (a::b::rest) pos) (Ol tA tB'):=(abh ha hb).of fun σ H Q ⟨μ,g,σw,Qw,R,S,m,q⟩=>by
 refine ⟨μ,g,σw,_,R,S,m,fun c H1 ⟨μ1,h1,e1,R1,m1⟩=>?_⟩;cases c with
 | true=>
  rw [if_pos rfl];exact q _ _ ⟨μ1,h1,e1,R1,m1.1 rfl⟩
 | false=>
  rw [if_neg LI];exact ⟨μ1,h1,σw,_,R1,S.ext e1,m1.2 rfl,fun b H' z=>q _ _<|z.trans e1⟩
theorem jW (ha:DT X a tA):DT X (.UnaryOp .Not a pos) (Gp tA):=(Xz ha).of fun σ H Q ⟨μ,g,σw,Qw,R,S,m,q⟩=>
 ⟨μ,g,σw,_,R,S,m,fun c H1 ⟨μ1,h1,e1,R1,m1⟩=>q _ _ ⟨μ1,h1,e1,R1,m1⟩⟩
def ab5 (a b:ME):ME:=fun σ h Q=>a σ h fun x h1=>match x with
 | .bl true=>b σ h1 Q
 | .bl false=>Q (.bl false) h1
 | _=>False
def adk (a b:ME):ME:=fun σ h Q=>a σ h fun x h1=>match x with
 | .bl false=>b σ h1 Q
 | .bl true=>Q (.bl true) h1
 | _=>False
def Tg (a:ME):ME:=fun σ h Q=>a σ h fun x h1=>match x with
 | .bl c=>Q (.bl (!c)) h1
 | _=>False
theorem aa7 (ha:DE X a ma):DE X (.UnaryOp .Not a pos) (Tg ma):=(WY ha).of fun σ H Q ⟨μ,g,σw,Qw,R,S,m,q⟩=>by
 refine ⟨μ,g,σw,_,R,S,m,fun v H1 ⟨μ1,w,h1,e1,R1,r1,m1⟩=>?_⟩;cases w with
 | bl c=>rw [Ab] at r1;exact ⟨c,r1,q _ _ ⟨μ1,.bl (!c),h1,e1,R1,by rw [Ab],m1⟩⟩
 | _=>exact m1.elim
def mIf (t:MT)(a b:ME):ME:=fun σ h Q=>t σ h fun c h1=>br c (a σ h1 Q) (b σ h1 Q)
theorem acH (hc:DT X c tA)(ha:DE X a ma)(hb:DE X b mb):DE X (.IfExp c a b pos) (mIf tA ma mb):=(afz hc ha hb).of fun σ H Q ⟨μ,g,σw,Qw,R,S,m,q⟩=>by
 refine ⟨μ,g,σw,_,R,S,m,fun c H1 ⟨μ1,h1,e1,R1,m1⟩=>?_⟩;cases c with
 | true=>
  rw [if_pos rfl];exact ⟨μ1,h1,σw,_,R1,S.ext e1,m1.1 rfl,fun b H' z=>q _ _<|z.trans e1⟩
 | false=>
  rw [if_neg LI];exact ⟨μ1,h1,σw,_,R1,S.ext e1,m1.2 rfl,fun b H' z=>q _ _<|z.trans e1⟩
def mUn (r:W->Gh->WK->Prop)(a:ME):ME:=fun σ h Q=>a σ h fun x h1=>r x h1 Q
def Vv:W->Gh->WK->Prop:=fun x h Q=>match x with
 | .int i=>Q (.int (-i)) h
 | _=>False
theorem Oj (ha:DE X a ma):DE X (.UnaryOp .USub a pos) (mUn Vv ma):=(aas Zd ha).of fun σ H Q ⟨μ,g,σw,Qw,R,S,m,q⟩=>by
 refine ⟨μ,g,σw,_,R,S,m,fun v H1 ⟨μ1,w,h1,e1,R1,r1,m1⟩=>?_⟩;cases w with
 | int i=>rw [Ab] at r1;exact ⟨i,r1,q _ _ ⟨μ1,.int (-i),h1,e1,R1,by rw [Ab],m1⟩⟩
 | _=>exact m1.elim
def aH:MA:=fun _ h Q=>Q [] h
def aj (a:ME)(r:MA):MA:=fun σ h Q=>a σ h fun x h1=>r σ h1 fun xs h2=>Q (x::xs) h2
variable {es:List Expr}{mr:MA}
theorem mL:KH X [] aH:=Jx.of fun σ H Q ⟨μ,g,σw,Qw,R,S,m,q⟩=>q _ _ ⟨μ,[],g,.refl,R,.nil,m⟩
theorem ahE (ha:DE X e ma)(hr:KH X es mr)(hs:Fv (e::es) X.env=(false,eval e X.env)::Fv es X.env:=by rfl):KH X (e::es) (aj ma mr):=(BJ ha hr hs).of fun σ H Q ⟨μ,g,σw,Qw,R,S,m,q⟩=>by
 refine ⟨μ,g,σw,_,R,S,m,fun v H1 ⟨μ1,w,h1,e1,R1,r1,m1⟩=>?_⟩;refine ⟨μ1,h1,σw,_,R1,S.ext e1,m1,fun vs H2 ⟨μ2,ws,h2,e2,R2,r2,m2⟩=>?_⟩;exact q _ _ ⟨μ2,w::ws,h2,e1.trans e2,R2,.cons (e2.r _ _ r1) r2,m2⟩
def jf (n:Nat)(P:Prop):Prop:=Hi (RM n 1000) P (n<=Gb/\P)
theorem jf.ok {n:Nat}{P:Prop}(h:jf n P):n<=Gb/\P:=by
 unfold jf at h;cases e:RM n 1000 with
 | true=>rw [e] at h;exact ⟨Hj (Oh e) (by decide),h⟩
 | false=>rw [e] at h;exact h
theorem jf.mk {n:Nat}{P:Prop}(hn:n<=Gb)(h:P):jf n P:=by
 unfold jf;cases e:RM n 1000 with
 | true=>exact h
 | false=>exact ⟨hn,h⟩
def qy (t:MA):ME:=fun σ h Q=>t σ h fun ws h1=>jf ws.length (Q (.tup ws) h1)
def Dy (t:MA):ME:=fun σ h Q=>t σ h fun ws h1=>jf ws.length (Q (.lst ws) h1)
def nM (t:MA):ME:=fun σ h Q=>t σ h fun ws h1=>jf ws.length (Q (.loc h1.nx) (h1.new (.lst ws)))
theorem lF {x1}(h:KH X es mr):DE X (.Tuple es x1 pos) (qy mr):=(Xa h).of fun σ H Q ⟨μ,g,σw,Qw,R,S,m,q⟩=>
 ⟨μ,g,σw,_,R,S,m,fun vs H1 ⟨μ1,ws,h1,e1,R1,r1,sz⟩=>⟨by rw [<-r1.len];exact sz.ok.1,fun p hp=>q _ _ ⟨μ1,.tup ws,h1,e1.trans (Ex.laid hp).ext,R1.laid hp,.tupNew hp r1,sz.ok.2⟩⟩⟩
theorem ux (h:KH X es mr):DE X (.List es pos) (Dy mr):=(O4 h).of fun σ H Q ⟨μ,g,σw,Qw,R,S,m,q⟩=>
 ⟨μ,g,σw,_,R,S,m,fun vs H1 ⟨μ1,ws,h1,e1,R1,r1,sz⟩=>⟨by rw [<-r1.len];exact sz.ok.1,fun p hp=>q _ _ ⟨μ1,.lst ws,h1,e1.trans (Ex.laid hp).ext,R1.laid hp,.lstNew R1 hp r1,sz.ok.2⟩⟩⟩
theorem Px {K:Ai}{H:Hp}{μ : Mu}{h:Gh}{p:Addr}{ws:List W}{xs:List V}(R:Fi K μ H h)(hp:H p=FX)(r:aM K H μ ws xs) :
  Fi K (μ.put h.nx p) (Fy H p (.lst xs)) (h.new (.lst ws)):=R.newCell hp trivial ⟨xs,bQ,(Ex.newCell R hp).ext.s r⟩
theorem qK (h:KH X es mr):DE X (.List es pos) (nM mr):=(O4 h).of fun σ H Q ⟨μ,g,σw,Qw,R,S,m,q⟩=>
 ⟨μ,g,σw,_,R,S,m,fun vs H1 ⟨μ1,ws,h1,e1,R1,r1,sz⟩=>⟨by rw [<-r1.len];exact sz.ok.1,fun p hp=>q _ _ ⟨μ1.put h1.nx p,.loc h1.nx,h1.new (.lst ws),e1.trans (Ex.newCell R1 hp).ext,Px R1 hp r1,by rw [Ab];exact ⟨p,rfl,Mu.put_same⟩,sz.ok.2⟩⟩⟩
inductive lift (K:Ai) (ms:kI) (vs:List V) (H:Hp) (Q:VK) (E:XK):Prop where
 | mk (μ : Mu) (h:Gh) (ws:List W) (Qw:WK) (R:Fi K μ H h) (r:aM K H μ ws vs) (x:ms ws h Qw EF) (k:∀ v H',DQ K H μ Qw v H'->Q v H'):lift K ms vs H Q E
def aF (ms:kI)(E:EY)(ma:MA):ME:=fun σ h Q=>ma σ h fun ws h1=>ms ws h1 Q E
theorem call_of {K:Ai}{σ : St}{H:Hp}{Q:VK}{E:XK}{ms:kI}{ma:MA}(h:tD K (aF ms EF ma) σ H Q):Vf (lift K ms) [] E (tDA K ma) σ H Q:=by
 obtain ⟨μ,g,σw,Qw,R,S,m,q⟩:=h;refine ⟨μ,g,σw,_,R,S,m,fun vs H1 ⟨μ1,ws,h1,e1,R1,r1,m1⟩=>?_⟩;show lift K ms (vs++[]) H1 Q E;rw [Uk];exact ⟨μ1,h1,ws,Qw,R1,r1,m1,fun v H' z=>q _ _<|z.trans e1⟩
theorem Xo {k:Nat}{f:Addr}{fd:Le}{ps:List Str}{ms:kI}{x:Str}{p:Pos}(F:qO X.prog X.w X.K X.mg X.base Ma k f fd ps (lift X.K ms))(hr:mW k X.A)(hg:Gl X x)(hm:X.mg x=Dn (.ref f))(hk:Q6 X.K (.ref f)=true)
  (hb:Binds X.K fd ps []) (ha:KH X (e::es) mr) (hdb:(x==("__debug__" : Str))=false:=by decide) (he:Fv (e::es) X.env=(false,eval e X.env)::Fv es X.env:=by rfl) (hpl:(KR pos (Fv es X.env)).any (·.1)=false:=by rfl) :
  DE X (.Call (.Name x p) (e::es) [] pos) (aF ms EF mr):=(zbH F hr hg hm hk hb .nil XS ha hdb he hpl).of fun _ _ _ h=>call_of h
theorem zbF {k:Nat}{f:Addr}{fd:Le}{ps:List Str}{ms:kI}{x:Str}{p:Pos}(F:qO X.prog X.w X.K X.mg X.base Ma k f fd ps (lift X.K ms))(hr:mW k X.A)(hg:Gl X x)(hm:X.mg x=Dn (.ref f))(hk:Q6 X.K (.ref f)=true)
  (hb:Binds X.K fd ps []) (hdb:(x==("__debug__" : Str))=false:=by decide):DE X (.Call (.Name x p) [] [] pos) (aF ms EF aH):=(ahu F hr hg hm hk hb .nil XS hdb).of fun σ H Q ⟨μ,g,σw,Qw,R,S,m,q⟩=>
 ⟨μ,g,[],Qw,R,.nil,m,q⟩
def Z9 (h:Gh)(w:W):Option Bool:=match w with
 | .non=>Dn false
 | .bl b=>Dn b
 | .int i=>Dn (i != 0)
 | .tup ws=>Dn (!ws.isEmpty)
 | .lst ws=>Dn (!ws.isEmpty)
 | .kls ws=>Dn (!ws.isEmpty)
 | .loc n=>(match h.c n with
  | some (.lst ws)=>Dn (!ws.isEmpty)
  | _=>FX)
 | _=>FX
def wQ (m:ME):MT:=fun σ h Q=>m σ h fun w h1=>match Z9 h1 w with
 | some b=>Q b h1
 | none=>False
theorem aM.emp {K:Ai}{H:Hp}{μ : Mu}{ws:List W}{xs:List V}(r:aM K H μ ws xs):ws.isEmpty=xs.isEmpty:=by
 have:=r.len
 cases ws <;> cases xs <;> first | rfl | cases this
theorem dR (he:DE X e ma)(h:∀ whole,isTrue e X.env whole=(do let v <-whole;standAt e.pos;RL [v] (truthy v)):=by intro _;rfl):DT X e (wQ ma):=(ahg he h).of fun σ H Q ⟨μ,g,σw,Qw,R,S,m,q⟩=>by
 refine ⟨μ,g,σw,_,R,S,m,fun v H1 ⟨μ1,w,h1,e1,R1,r1,m1⟩=>?_⟩;split at m1
 ·rename_i b eb;refine ⟨b,?_,q _ _ ⟨μ1,h1,e1,R1,m1⟩⟩;cases w with
  | non=>rw [Ab] at r1;subst r1;cases eb;rfl
  | bl c=>rw [Ab] at r1;subst r1;cases eb;rfl
  | int c=>rw [Ab] at r1;subst r1;cases eb;rfl
  | tup ws=>
   rw [Ab] at r1;obtain ⟨p,xs,ev,hs,rs⟩:=r1;subst ev;cases eb;exact .inr<|.inl ⟨xs,hs,by rw [rs.emp]⟩
  | lst ws=>
   rw [Ab] at r1;obtain ⟨p,xs,ev,hs,rs⟩:=r1;subst ev;cases eb;exact .inl ⟨xs,hs.sq,by rw [rs.emp]⟩
  | kls ws=>
   rw [Ab] at r1;obtain ⟨p,xs,ev,hs,rs⟩:=r1;subst ev;cases eb;exact .inl ⟨xs,hs.sq,by rw [rs.emp]⟩
  | loc n=>
   rw [Ab] at r1;obtain ⟨p,ev,hm⟩:=r1;subst ev;unfold Z9 at eb;dsimp only at eb;cases ec:h1.c n with
   | none=>rw [ec] at eb;cases eb
   | some cl=>
    rw [ec] at eb;cases cl with
    | lst ws=>
     cases eb;obtain ⟨p',hm',xs,hx,rs⟩:=R1.cel n _ ec;have ep:p'=p:=by rw [hm] at hm';exact (HS hm').symm
     subst ep;exact .inl ⟨xs,.of hx,by rw [rs.emp]⟩
    | _=>cases eb
  | _=>cases eb
 ·exact m1.elim
abbrev MC:=List W->Gh->WK->Prop
def HN (r:MC)(ma:MA):ME:=fun σ h Q=>ma σ h fun ws h1=>r ws h1 Q
def acq (K:Ai)(r:List V->Hp->VK->Prop)(mr:MC):Prop:=∀ {H:Hp} {μ : Mu} {h:Gh} {vs:List V} {ws:List W} {Qw:WK} {Q:VK},Fi K μ H h->aM K H μ ws vs->mr ws h Qw->(∀ v H',DQ K H μ Qw v H'->Q v H')->r vs H Q
def m7 (X:Cx)(f:Go)(mr:MC):Prop:=∃ r,gj X f r/\acq X.K r mr
theorem Wj {K:Ai}{σ : St}{H:Hp}{Q:VK}{r:List V->Hp->VK->Prop}{mc:MC}{ma:MA}(s:acq K r mc)(h:tD K (HN mc ma) σ H Q):tCB r (tDA K ma) σ H Q:=by
 obtain ⟨μ,g,σw,Qw,R,S,m,q⟩:=h;exact ⟨μ,g,σw,_,R,S,m,fun vs H1 ⟨μ1,ws,h1,e1,R1,r1,m1⟩=>s R1 r1 m1 fun v H' z=>q _ _<|z.trans e1⟩
theorem agj {x:Str}{p:Pos}{id:String}{mc:MC}(hc:m7 X (.builtin id) mc)(hg:Gl X x)(hm:X.mg x=FX)(hv:RP x=Dn (.builtin id))(ha:KH X (e::es) mr)(hn:x ≠ "__name__":=by decide)(hdb:(x==("__debug__" : Str))=false:=by decide)
  (he:Fv (e::es) X.env=(false,eval e X.env)::Fv es X.env:=by rfl) (hpl:(KR pos (Fv es X.env)).any (·.1)=false:=by rfl):DE X (.Call (.Name x p) (e::es) [] pos) (HN mc mr):=by
 obtain ⟨r,c,s⟩:=hc;exact (BZ c hg hm hv ha hn hdb he hpl).of fun _ _ _ h=>Wj s h
theorem zbd {x:Str}{p:Pos}{T:String}{mc:MC}(hc:m7 X (.type T) mc)(hg:Gl X x)(hm:X.mg x=FX)(hv:RP x=Dn (.type T))(ha:KH X (e::es) mr)(hn:x ≠ "__name__":=by decide)(hdb:(x==("__debug__" : Str))=false:=by decide)
  (he:Fv (e::es) X.env=(false,eval e X.env)::Fv es X.env:=by rfl) (hpl:(KR pos (Fv es X.env)).any (·.1)=false:=by rfl):DE X (.Call (.Name x p) (e::es) [] pos) (HN mc mr):=by
 obtain ⟨r,c,s⟩:=hc;exact (zp c hg hm hv ha hn hdb he hpl).of fun _ _ _ h=>Wj s h
end
section
variable {X:Cx}{e a b c tg:Expr}{ma mb mc:ME}{pos:Pos}{es:List Expr}
def Mk (i:Nat):MG:=fun w σ h N=>N (σ.set i (Dn w)) h
theorem agl {i:Nat}(hg:PG X e (JQ i)):DG X e (Mk i):=hg.of fun v σ H N ⟨μ,h,σw,w,Nw,R,S,r,m,k⟩=>k _ _ ⟨μ,σw.set i (Dn w),h,.refl,R,S.set r i,m⟩
def Gq:Ny:=fun ws σ h N=>match ws with
 | []=>N σ h
 | _=>False
def cL (g:MG)(r:Ny):Ny:=fun ws σ h N=>match ws with
 | w::ws'=>g w σ h fun σ1 h1=>r ws' σ1 h1 N
 | []=>False
theorem jm:aal X [] Gq:=Hw.of fun vs σ H N ⟨μ,h,σw,ws,Nw,R,S,r,m,k⟩=>by
 cases ws with
 | nil=>rw [aM] at r;exact ⟨r,k _ _ ⟨μ,σw,h,.refl,R,S,m⟩⟩
 | cons w ws=>exact m.elim
theorem aX {g:MG}{u:Ny}(h1:DG X e g)(h2:aal X es u)(hs:(Lb (e::es) X.env).map (·.2)=assign e X.env::(Lb es X.env).map (·.2):=by rfl):aal X (e::es) (cL g u):=(vA h1 h2 hs).of fun vs σ H N ⟨μ,h,σw,ws,Nw,R,S,r,m,k⟩=>by
 cases ws with
 | nil=>exact m.elim
 | cons w ws=>
  rw [aM] at r;obtain ⟨v,vr,ev,r1,r2⟩:=r;refine ⟨v,vr,ev,μ,h,σw,w,_,R,S,r1,m,fun σ1 H1 ⟨μ1,σw1,h1,e1,R1,S1,m1⟩=>?_⟩;exact ⟨μ1,h1,σw1,ws,_,R1,S1,e1.s r2,m1,fun σ2 H2 z=>k _ _<|z.trans e1⟩
def acC (n:Nat)(g:Ny):MG:=fun w σ h N=>match w with
 | .tup ws=>Hi (Ls ws.length n) (g ws σ h N) False
 | _=>False
abbrev Yb:=W->W->W->Gh->(Gh->Prop)->Prop
def Qd (K:Ai)(t:ZQ)(ms:Yb):Prop:=∀ {H:Hp} {μ : Mu} {h:Gh} {o i v:V} {wo wi w:W} {Nw:Gh->Prop} {N:Hp->Prop},Fi K μ H h->Ab K H μ wo o->Ab K H μ wi i->Ab K H μ w v->ms wo wi w h Nw ->
 (∀ H',(∃ μ' h',HB K H μ H' μ'/\Fi K μ' H' h'/\Nw h')->N H')->t o i v H N
def abu (mo mi:ME)(ms:Yb):MG:=fun w σ h N=>mo σ h fun o h1=>mi σ h1 fun i h2=>ms o i w h2 fun h3=>N σ h3
theorem ZS {o i:Expr}{mo mi:ME}{t:ZQ}{ms:Yb}(ho:DE X o mo)(hi:DE X i mi)(hs:aay X t)(hm:Qd X.K t ms)
  (ha:∀ v,assign (.Subscript o i pos) X.env v=(do
   let ov <-RL [v] (eval o X.env)
   let iv <-RL [v,ov] (eval i X.env)
   standAt pos
   RL [v,ov,iv] (setItem ov iv v)
   release [v,ov,iv] []):=by intro _;rfl):DG X (.Subscript o i pos) (abu mo mi ms):=
 (Wq ho hi hs ha).of fun v σ H N ⟨μ,h,σw,w,Nw,R,S,r,m,k⟩=>by
  refine ⟨μ,h,σw,_,R,S,m,fun o H1 ⟨μ1,wo,h1,e1,R1,r1,m1⟩=>?_⟩;refine ⟨μ1,h1,σw,_,R1,S.ext e1,m1,fun i H2 ⟨μ2,wi,h2,e2,R2,r2,m2⟩=>?_⟩;refine hm R2 (e2.r _ _ r1) r2 (e2.r _ _<|e1.r _ _ r) m2 fun H3 ⟨μ3,h3,e3,R3,m3⟩=>?_;exact k _ _ ⟨μ3,σw,h3,(e1.trans e2).trans e3,R3,S.ext<|(e1.trans e2).trans e3,m3⟩
def N6:Yb:=fun o i w h N=>match o,i with
 | .loc n,.int k=>(match h.c n with
  | some (.lst ws)=>(match Ms ws.length k with
   | some j=>N (h.set n (.lst (ws.set j w)))
   | none=>False)
  | _=>False)
 | _,_=>False
theorem Fi.lstAt {K:Ai}{μ : Mu}{H:Hp}{h:Gh}{n:Nat}{ws:List W}(R:Fi K μ H h)(e:h.c n=Dn (.lst ws)):∃ p xs,μ.f n=Dn p/\H p=Dn (.lst xs)/\aM K H μ ws xs:=by
 obtain ⟨p,e1,xs,e2,r⟩:=R.cel n _ e;exact ⟨p,xs,e1,e2,r⟩
theorem zbj {K:Ai}:Qd K X4 N6:=by
 intro H μ h o i v wo wi w Nw N R ro ri r m k;cases wo with
 | loc n=>
  cases wi with
  | int z=>
   rw [Ab] at ro;rw [Ab] at ri;obtain ⟨p,eo,hp⟩:=ro;unfold N6 at m;dsimp only at m;cases ec:h.c n with
   | none=>rw [ec] at m;exact m.elim
   | some cl=>
    rw [ec] at m;cases cl with
    | lst ws=>
     dsimp only at m;obtain ⟨p',xs,hp',hx,rs⟩:=R.lstAt ec;have ep:p'=p:=by rw [hp] at hp';exact (HS hp').symm
     subst ep;cases ej:Ms ws.length z with
     | none=>rw [ej] at m;exact m.elim
     | some j=>
      rw [ej] at m;refine ⟨p',xs,z,j,eo,ri,hx,by rw [<-rs.len];exact ej,k _ ⟨μ,_,(Ex.write R hp).ext,R.write hp trivial ?_,m⟩⟩;exact ⟨_,bQ,aM.set ((Ex.write R hp).ext.r _ _ r) j<|(Ex.write R hp).ext.s rs⟩
    | _=>exact m.elim
  | _=>exact m.elim
 | _=>exact m.elim
variable {st:Stmt}{rest body:List Stmt}{m1 m2:MS}{t:MT}
def bV:MS:=fun D σ h=>D.nx σ h
def aV (m u:MS):MS:=fun D σ h=>m { D with nx:=u D } σ h
theorem aW:RB X [] bV:=zby.of fun D σ H ⟨μ,h,σw,Dw,R,S,m,k⟩=>k.nx _ _ ⟨μ,σw,h,.refl,R,S,m⟩
theorem aB (h1:DS X st m1):RB X [st] m1:=agX h1
theorem au (h1:DS X st m1)(h2:RB X rest m2):RB X (st::rest) (aV m1 m2):=(ahF h1 h2).of fun D σ H ⟨μ,h,σw,Dw,R,S,m,k⟩=>by
 refine ⟨μ,h,σw,_,R,S,m,?_,k.rt,k.bk,k.ct⟩;intro σ' H' ⟨μ1,σw1,h1,e1,R1,S1,m1⟩;exact ⟨μ1,h1,σw1,Dw,R1,S1,m1,k.trans e1⟩
def gY (m:ME):MS:=fun D σ h=>m σ h fun _ h1=>D.nx σ h1
theorem eE (he:DE X e ma)(hs:SQ e FX pos.line X.env=pure false:=by rfl):DS X (.Expr e pos) (gY ma):=(agz he hs).of fun D σ H ⟨μ,h,σw,Dw,R,S,m,k⟩=>
 ⟨μ,h,σw,_,R,S,m,fun v H1 ⟨μ1,w,h1,e1,R1,_,m1⟩=>k.nx _ _ ⟨μ1,σw,h1,e1,R1,S.ext e1,m1⟩⟩
def bZ (m:ME):MS:=fun D σ h=>m σ h D.rt
theorem aJ (he:DE X e ma):DS X (.Return (Dn e) pos) (bZ ma):=(Y8 he).of fun D σ H ⟨μ,h,σw,Dw,R,S,m,k⟩=>⟨μ,h,σw,_,R,S,m,k.rt⟩
def fY (t:MT)(a b:MS):MS:=fun D σ h=>t σ h fun c h1=>br c (a D σ h1) (b D σ h1)
theorem cB {a b:List Stmt}(hc:DT X c t)(ha:RB X a m1)(hb:RB X b m2):DS X (.If c a b pos) (fY t m1 m2):=(abL hc ha hb).of fun D σ H ⟨μ,h,σw,Dw,R,S,m,k⟩=>by
 refine ⟨μ,h,σw,_,R,S,m,fun b H1 ⟨μ1,h1,e1,R1,q⟩=>?_⟩;cases b with
 | true=>rw [if_pos rfl];exact ⟨μ1,h1,σw,Dw,R1,S.ext e1,q.1 rfl,k.trans e1⟩
 | false=>rw [if_neg LI];exact ⟨μ1,h1,σw,Dw,R1,S.ext e1,q.2 rfl,k.trans e1⟩
def fG (x:Str)(E:EY):MS:=fun _ _ h=>E ⟨x,[]⟩ h
theorem cT {x:Str}:DS X st (fG x EF):=zbu.of fun _ _ _ ⟨_,_,_,_,_,_,m,_⟩=>m.elim
def bx (m:ME)(g:MG):MS:=fun D σ h=>m σ h fun w h1=>g w σ h1 D.nx
theorem afP {K:Ai}{σ : St}{H:Hp}{D:Ends}{m:ME}{g:MG}(q:tDS K (bx m g) D σ H):Zg (tD K m) (tDG K g) D σ H:=by
 obtain ⟨μ,h,σw,Dw,R,S,m,k⟩:=q;exact ⟨μ,h,σw,_,R,S,m,fun v H1 ⟨μ1,w,h1,e1,R1,r1,m1⟩=>⟨μ1,h1,σw,w,_,R1,S.ext e1,r1,m1,fun σ' H' z=>k.nx _ _<|z.trans e1⟩⟩
theorem rQ {g:MG}(he:DE X e ma)(hg:DG X tg g)(hs:swapsWithSole [tg] e pos.line X.env=pure false:=by rfl)(hw:swappedStores [tg] e X.env=pure FX:=by rfl)
  (h1:(Lb [tg] X.env).map (·.2)=[assign tg X.env]:=by rfl):DS X (.Assign [tg] e pos) (bx ma g):=(XQ he hg hs hw h1).of fun _ _ _ q=>afP q
theorem Hq {K:Ai}{σ : St}{H:Hp}{D:Ends}{m:ME}{t:TE}{i:Nat}(ht:∀ σ H Q,tD K m σ H Q->t σ H Q)(q:tDS K (bx m (Mk i)) D σ H):Zg t (JQ i) D σ H:=by
 obtain ⟨μ,h,σw,Dw,R,S,m,k⟩:=q;exact ht _ _ _ ⟨μ,h,σw,_,R,S,m,fun v H1 ⟨μ1,w,h1,e1,R1,r1,m1⟩=>k.nx _ _ ⟨μ1,σw.set i<|some w,h1,e1,R1,(S.ext e1).set r1 i,m1⟩⟩
theorem Yh {i:Nat}{x:Str}{pos':Pos}(hN:X.N.Nodup)(hi:X.N[i]?=Dn x)(hx:Loc X.env.scope x)(he:DE X e ma)(hs:SQ e (Dn (.Name x pos')) pos.line X.env=pure false:=by rfl)
  (hf:X.fn x=true\/X.env.scope.names.lookup x=Dn .local:=by first | exact .inl rfl | exact .inr rfl | assumption) :
  DS X (.Assign [.Name x pos'] e pos) (bx ma (Mk i)):=(Zu hN hi hx he hs hf).of fun _ _ _ q=>Hq (fun _ _ _ z=>z) q
def ad6 (i j:Nat)(ta:MA):MS:=fun D σ h=>ta σ h fun ws h1=>match ws with
 | [v,w]=>D.nx ((σ.set i (Dn v)).set j (Dn w)) h1
 | _=>False
def Du (t:MT)(b:MS):MS:=fun D σ h=>∃ Wm:Nat->Sw->Gh->Prop,(∃ m,Wm m σ h)/\∀ m σ h,Wm m σ h ->
 t σ h fun c h1=>br c (b { D with nx:=fun σ' h'=>∃ m',m'<m/\Wm m' σ' h',ct:=fun σ' h'=>∃ m',m'<m/\Wm m' σ' h',bk:=D.nx } σ h1) (D.nx σ h1)
theorem Ek {body:List Stmt}{pos:Pos}(hp:Va (FJ X.prog X.w) X.A X.env X.xe)(hc:DT X c t)(hb:RB X body m1):DS X (.While c body [] pos) (Du t m1):=(aeY hp hc hb).of fun D σ H ⟨μ,h,σw,Dw,R,S,m,k⟩=>by
 obtain ⟨Wm,⟨m0,w0⟩,turn⟩:=m;refine ⟨fun n σ' H'=>DN X.K H μ (Wm n) σ' H',⟨m0,μ,σw,h,.refl,R,S,w0⟩,fun n σ1 H1 ⟨μ1,σw1,h1,e1,R1,S1,w1⟩=>?_⟩;refine ⟨μ1,h1,σw1,_,R1,S1,turn n σw1 h1 w1,fun b H2 ⟨μ2,h2,e2,R2,q⟩=>?_⟩;have e12:=e1.trans e2;cases b with
 | true=>
  dsimp only;rw [if_pos rfl];refine ⟨fun σ' H'=>∃ m',m'<n/\DN X.K H μ (Wm m') σ' H',fun _ _ z=>z,μ2,h2,σw1,_,R2,S1.ext e2,q.1 rfl,?_⟩;have again:∀ (σ':St) (H':Hp),DN X.K H2 μ2 (fun σ' h'=>∃ m',m'<n/\Wm m' σ' h') σ' H'->∃ m',m'<n/\DN X.K H μ (Wm m') σ' H':=fun σ' H' ⟨μ3,σw3,h3,e3,R3,S3,m',hm,w3⟩=>
   ⟨m',hm,μ3,σw3,h3,e12.trans e3,R3,S3,w3⟩
  exact ⟨again,fun v H' z=>k.rt _ _<|z.trans e12,fun σ' H' z=>k.nx _ _<|z.trans e12,again⟩
 | false=>
  dsimp only;rw [if_neg LI];exact k.nx _ _ ⟨μ2,σw1,h2,e12,R2,S1.ext e2,q.2 rfl⟩
structure Src where
 ws:List W
 cell:Option (Nat×List W)
def Src.chk (s:Src)(h:Gh):Prop:=match s.cell with
 | none=>True
 | some n=>h.c n.1=Dn (.lst n.2)
abbrev MI:=Sw->Gh->(Src->Gh->Prop)->Prop
def Vt (K:Ai)(J:It)(src:Src)(H:Hp)(μ : Mu):Prop:=∀ {H2:Hp} {μ2:Mu} {h2:Gh} {i:Nat},HB K H μ H2 μ2->Fi K μ2 H2 h2->src.chk h2 ->
 (∀ w,src.ws[i]?=Dn w->J.go i H2/\∀ x H3,J.yld i H2 x H3->∃ μ3,HB K H2 μ2 H3 μ3/\Fi K μ3 H3 h2/\Ab K H3 μ3 w x)/\(src.ws.length<=i->J.stop i H2)
inductive DI (K:Ai) (H:Hp) (μ : Mu) (Rw:Src->Gh->Prop) (J:It) (H':Hp):Prop where
 | mk (μ':Mu) (src:Src) (h':Gh) (e:HB K H μ H' μ') (R:Fi K μ' H' h') (o:Vt K J src H' μ') (q:Rw src h'):DI K H μ Rw J H'
inductive tDI (K:Ai) (mi:MI) (σ : St) (H:Hp) (R:It->Hp->Prop):Prop where
 | mk (μ : Mu) (h:Gh) (σw:Sw) (Rw:Src->Gh->Prop) (q:Fi K μ H h) (S:Slots K H μ σw σ) (x:mi σw h Rw) (k:∀ J H',DI K H μ Rw J H'->R J H'):tDI K mi σ H R
abbrev Oi (X:Cx)(tg iter:Expr)(mi:MI):Prop:=PI X tg iter (tDI X.K mi)
theorem PI.of {iter:Expr}{t t':TI}(h:PI X tg iter t)(k:∀ σ H R,t' σ H R->t σ H R):PI X tg iter t':=fun pins s σ H R I q=>h pins s σ H R I (k σ H R q)
def cG (h:Gh):W->Option (List W)
 | .lst ws=>Dn ws
 | .kls ws=>Dn ws
 | .loc n=>(match h.c n with
  | some (.lst ws)=>Dn ws
  | _=>FX)
 | _=>FX
def view (h:Gh):W->Option (List W)
 | .tup ws=>Dn ws
 | .lst ws=>Dn ws
 | .kls ws=>Dn ws
 | .loc n=>cG h (.loc n)
 | _=>FX
def xG (h:Gh):W->Option Src
 | .tup ws=>Dn ⟨ws,FX⟩
 | .lst ws=>Dn ⟨ws,FX⟩
 | .kls ws=>Dn ⟨ws,FX⟩
 | .loc n=>(match h.c n with
  | some (.lst ws)=>Dn ⟨ws,Dn (n,ws)⟩
  | _=>FX)
 | _=>FX
theorem ahL {K:Ai}{H:Hp}{μ : Mu}{p:Addr}{ws:List W}(r:Ab K H μ (.lst ws) (.ref p)):Vt K (Itl K p) ⟨ws,FX⟩ H μ:=by
 intro H2 μ2 h2 i e R2 _;have r2:=e.r _ _ r;rw [Ab] at r2;obtain ⟨q,xs,eq,hf,rs⟩:=r2;cases eq;refine ⟨fun w ew=>?_,fun hl=>⟨xs,hf.sq,by rw [<-rs.len];exact hl⟩⟩;obtain ⟨v,ev,rv⟩:=rs.get ew;refine ⟨⟨xs,v,hf.sq,ev⟩,fun x H3 ⟨e3,y⟩=>?_⟩;subst e3;have:=y xs hf.sq
 rw [ev] at this;cases this;exact ⟨μ2,.refl,R2,rv⟩
theorem zbA {K:Ai}{H:Hp}{μ : Mu}{p:Addr}{ws:List W}(r:Ab K H μ (.kls ws) (.ref p)):Vt K (Itl K p) ⟨ws,FX⟩ H μ:=by
 intro H2 μ2 h2 i e R2 _;have r2:=e.r _ _ r;rw [Ab] at r2;obtain ⟨q,xs,eq,hf,rs⟩:=r2;cases eq;refine ⟨fun w ew=>?_,fun hl=>⟨xs,hf.sq,by rw [<-rs.len];exact hl⟩⟩;obtain ⟨v,ev,rv⟩:=rs.get ew;refine ⟨⟨xs,v,hf.sq,ev⟩,fun x H3 ⟨e3,y⟩=>?_⟩;subst e3;have:=y xs hf.sq
 rw [ev] at this;cases this;exact ⟨μ2,.refl,R2,rv⟩
theorem aeB {K:Ai}{H:Hp}{μ : Mu}{p:Addr}{n:Nat}{ws:List W}(r:Ab K H μ (.loc n) (.ref p)):Vt K (Itl K p) ⟨ws,Dn (n,ws)⟩ H μ:=by
 intro H2 μ2 h2 i e R2 ck;have r2:=e.r _ _ r;rw [Ab] at r2;obtain ⟨q,eq,hm⟩:=r2;cases eq;obtain ⟨p',xs,hm',hx,rs⟩:=R2.lstAt (show h2.c n=Dn (.lst ws) from ck);have ep:p'=p:=by rw [hm] at hm';exact (HS hm').symm
 subst ep;refine ⟨fun w ew=>?_,fun hl=>⟨xs,.of hx,by rw [<-rs.len];exact hl⟩⟩;obtain ⟨v,ev,rv⟩:=rs.get ew;refine ⟨⟨xs,v,.of hx,ev⟩,fun x H3 ⟨e3,y⟩=>?_⟩;subst e3;have:=y xs (.of hx)
 rw [ev] at this;cases this;exact ⟨μ2,.refl,R2,rv⟩
theorem agK {K:Ai}{H:Hp}{μ : Mu}{p:Addr}{ws:List W}(r:Ab K H μ (.tup ws) (.ref p)):Vt K (Itt K p) ⟨ws,FX⟩ H μ:=by
 intro H2 μ2 h2 i e R2 _;have r2:=e.r _ _ r;rw [Ab] at r2;obtain ⟨q,xs,eq,hf,rs⟩:=r2;cases eq;refine ⟨fun w ew=>?_,fun hl=>⟨xs,hf,by rw [<-rs.len];exact hl⟩⟩;obtain ⟨v,ev,rv⟩:=rs.get ew;refine ⟨⟨xs,v,hf,ev⟩,fun x H3 ⟨e3,y⟩=>?_⟩;subst e3;have:=y xs hf
 rw [ev] at this;cases this;exact ⟨μ2,.refl,R2,rv⟩
def adB (K:Ai)(tl:TE):TI:=fun σ H R=>tl σ H fun x H1=>(∃ a,x=.ref a/\(∃ xs,Hg K H1 a xs)/\R (Itl K a) H1)\/(∃ a,x=.ref a/\(∃ xs,Hs K H1 a xs)/\R (Itt K a) H1)
theorem Zf {l:Expr}{tl:TE}(hl:PE X l tl):PI X tg l (adB X.K tl):=by
 intro pins s σ H R I h;refine GQ (hl pins s σ H _ I h) fun v s1 ⟨x,H1,I1,r1,q1⟩=>?_;rcases q1 with ⟨a,e,⟨xs,hq⟩,q⟩ | ⟨a,e,⟨xs,hq⟩,q⟩
 ·subst e;cases r1;obtain ⟨its,rv,p,hz⟩:=I1.list hq;refine TF p.isList ?_;refine ⟨s1.heap.objs.size,[s1.heap.objs.size],_,_,H1,rfl,I1.kept (t':=s1.toks) fun b o e=>Gj _ e,aep a _,⟨_,Jp _ rfl,rfl,rfl⟩,fun b hb=>?_,q⟩;have e:b=s1.heap.objs.size:=by simpa using hb
  subst e;exact I1.fpOk (Ge _)<|I1.hok.fresh<|Ge _
 ·subst e;cases r1;obtain ⟨its,rv,p,hz⟩:=I1.tuple hq;refine wpAny_pyIter_tuple (show s1.heap.IsTuple a its.toArray from p) ?_;refine ⟨s1.heap.objs.size,[s1.heap.objs.size],_,_,H1,rfl,I1.kept (t':=s1.toks) fun b o e=>Gj _ e,aef a _,⟨_,Jp _ rfl,rfl,rfl⟩,fun b hb=>?_,q⟩;have e:b=s1.heap.objs.size:=by simpa using hb
  subst e;exact I1.fpOk (Ge _)<|I1.hok.fresh<|Ge _
def Gi (m:ME):MI:=fun σ h R=>m σ h fun w h1=>match xG h1 w with
 | some s=>R s h1
 | none=>False
theorem bW {l:Expr}(hl:DE X l ma):Oi X tg l (Gi ma):=PI.of (Zf hl) fun σ H Q ⟨μ,h,σw,Rw,R,S,m,k⟩=>by
 refine ⟨μ,h,σw,_,R,S,m,fun v H1 ⟨μ1,w,h1,e1,R1,r1,m1⟩=>?_⟩;cases w with
 | tup ws=>
  have r1':=r1;rw [Ab] at r1;obtain ⟨p,xs,ev,hs,_⟩:=r1;subst ev;exact .inr ⟨p,rfl,⟨xs,hs⟩,k _ _ ⟨μ1,⟨ws,FX⟩,h1,e1,R1,agK r1',m1⟩⟩
 | lst ws=>
  have r1':=r1;rw [Ab] at r1;obtain ⟨p,xs,ev,hs,_⟩:=r1;subst ev;exact .inl ⟨p,rfl,⟨xs,hs.sq⟩,k _ _ ⟨μ1,⟨ws,FX⟩,h1,e1,R1,ahL r1',m1⟩⟩
 | kls ws=>
  have r1':=r1;rw [Ab] at r1;obtain ⟨p,xs,ev,hs,_⟩:=r1;subst ev;exact .inl ⟨p,rfl,⟨xs,hs.sq⟩,k _ _ ⟨μ1,⟨ws,FX⟩,h1,e1,R1,zbA r1',m1⟩⟩
 | loc n=>
  have r1':=r1;rw [Ab] at r1;obtain ⟨p,ev,hm⟩:=r1;subst ev;unfold xG at m1;dsimp only at m1;cases ec:h1.c n with
  | none=>rw [ec] at m1;exact m1.elim
  | some cl=>
   rw [ec] at m1;cases cl with
   | lst ws=>
    obtain ⟨p',xs,hm',hx,rs⟩:=R1.lstAt ec;have ep:p'=p:=by rw [hm] at hm';exact (HS hm').symm
    subst ep;exact .inl ⟨p',rfl,⟨xs,.of hx⟩,k _ _ ⟨μ1,⟨ws,Dn (n,ws)⟩,h1,e1,R1,aeB r1',m1⟩⟩
   | _=>exact m1.elim
 | _=>exact m1.elim
def zP (lo:Int)(n:Nat):List W:=(Lh n).map fun (k:Nat)=>.int (lo+(k:Int))
theorem Ov {K:Ai}{H:Hp}{μ : Mu}{lo:Int}{n:Nat}:Vt K (Itr lo n) ⟨zP lo n,FX⟩ H μ:=by
 intro H2 μ2 h2 i e R2 _;refine ⟨fun w ew=>?_,fun hl=>?_⟩
 ·have hi:i<n:=by
   have:=(Nk.mp ew).1
   simpa [zP] using this
  have ew':w=.int (lo+(i:Int)):=by
   unfold zP at ew;rw [K8,List.getElem?_range hi] at ew;exact (HS ew).symm
  subst ew';refine ⟨hi,fun x H3 ⟨e3,y⟩=>?_⟩;subst e3;exact ⟨μ2,.refl,R2,by rw [Ab];exact y⟩
 ·have:n<=i:=by simpa [zP] using hl
  exact this
def yK (j:Int)(P:Prop):Prop:=Hi (decide (-1000<=j)&&decide (j<=1000)) P ((-(2^62)<=j/\j<2^62)/\P)
theorem yK.ok {j:Int}{P:Prop}(h:yK j P):(-(2^62)<=j/\j<2^62)/\P:=by
 unfold yK at h;cases e:(decide (-1000<=j)&&decide (j<=1000)) with
 | true=>
  rw [e] at h;rw [Nh,decide_eq_true_iff,decide_eq_true_iff] at e;exact ⟨⟨by lia,by lia⟩,h⟩
 | false=>rw [e] at h;exact h
theorem yK.mk {j:Int}{P:Prop}(h1:-(2^62)<=j)(h2:j<2^62)(h:P):yK j P:=by
 unfold yK;cases e:(decide (-1000<=j)&&decide (j<=1000)) with
 | true=>exact h
 | false=>exact ⟨⟨h1,h2⟩,h⟩
def iu (ma:MA):MI:=fun σ h R=>ma σ h fun ws h1=>match ws with
 | [.int j]=>yK j (R ⟨zP 0 j.toNat,FX⟩ h1)
 | _=>False
def Jf (ma:MA):MI:=fun σ h R=>ma σ h fun ws h1=>match ws with
 | [.int i,.int j]=>yK i (yK j (R ⟨zP i (j - i).toNat,FX⟩ h1))
 | _=>False
theorem zaQ {a:Expr}{mr:MA}{p pos:Pos}(hg:Gl X "range")(hm:X.mg "range" = FX)(ha:KH X [a] mr)(hs:Fv [a] X.env=[(false,eval a X.env)]:=by rfl):Oi X tg (.Call (.Name "range" p) [a] [] pos) (iu mr):=
 PI.of (zaN hg hm ha hs) fun σ H Q ⟨μ,h,σw,Rw,R,S,m,k⟩=>by
  refine ⟨μ,h,σw,_,R,S,m,fun vs H1 ⟨μ1,ws,h1,e1,R1,r1,m1⟩=>?_⟩;split at m1
  ·rename_i j;rw [aM] at r1;obtain ⟨v,vr,ev,ra,r1⟩:=r1;rw [aM] at r1;rw [Ab] at ra;subst ev r1 ra;exact ⟨j,rfl,m1.ok.1.1,m1.ok.1.2,k _ _ ⟨μ1,_,h1,e1,R1,Ov,m1.ok.2⟩⟩
  ·exact m1.elim
theorem zay {a b:Expr}{mr:MA}{p pos:Pos}(hg:Gl X "range")(hm:X.mg "range" = FX)(ha:KH X [a,b] mr)(hs:Fv [a,b] X.env=[(false,eval a X.env),(false,eval b X.env)]:=by rfl)(hs2:Fv [b] X.env=[(false,eval b X.env)]:=by rfl) :
  Oi X tg (.Call (.Name "range" p) [a,b] [] pos) (Jf mr):=
 PI.of (zaF hg hm ha hs hs2) fun σ H Q ⟨μ,h,σw,Rw,R,S,m,k⟩=>by
  refine ⟨μ,h,σw,_,R,S,m,fun vs H1 ⟨μ1,ws,h1,e1,R1,r1,m1⟩=>?_⟩;split at m1
  ·rename_i i j;rw [aM] at r1;obtain ⟨v,vr,ev,ra,r1⟩:=r1;rw [aM] at r1;obtain ⟨v',vr',ev',rb,r1⟩:=r1;rw [aM] at r1;rw [Ab] at ra rb;subst ev ev' r1 ra rb;exact ⟨i,j,rfl,⟨m1.ok.1.1,m1.ok.1.2,m1.ok.2.ok.1.1,m1.ok.2.ok.1.2⟩,k _ _ ⟨μ1,_,h1,e1,R1,Ov,m1.ok.2.ok.2⟩⟩
  ·exact m1.elim
def Src.go (s:Src)(h:Gh)(P:Prop):Prop:=match s.cell with
 | none=>P
 | some n=>h.c n.1=Dn (.lst n.2)/\P
theorem Src.go_ok {s:Src}{h:Gh}{P:Prop}(x:s.go h P):s.chk h/\P:=by
 unfold Src.go at x;unfold Src.chk;cases e:s.cell with
 | none=>rw [e] at x;exact ⟨trivial,x⟩
 | some n=>rw [e] at x;exact x
def eU (s:Src)(g:MG)(b:MS)(D:bR):List W->Sw->Gh->Prop
 | [],σ,h=>s.go h (D.nx σ h)
 | w::r,σ,h=>s.go h (g w σ h fun σ1 h1=>b { D with nx:=eU s g b D r,ct:=eU s g b D r,bk:=D.nx } σ1 h1)
def uf (mi:MI)(g:MG)(b:MS):MS:=fun D σ h=>mi σ h fun s h1=>eU s g b D s.ws σ h1
theorem gw {iter:Expr}{body:List Stmt}{mi:MI}{g:MG}{mb0:MS}{pos:Pos}(hp:Va (FJ X.prog X.w) X.A X.env X.xe)(hc:X.calm=true)(hi:Oi X tg iter mi)(hg:DG X tg g)(hb:RB X body mb0)
  (hs:∀ x,S9 iter X.env x=pure x:=by intro _;rfl):DS X (.For tg iter body [] pos) (uf mi g mb0):=(Yt hp hc hi hg hb hs).of fun D σ H ⟨μ,h,σw,Dw,R,S,m,k⟩=>by
 refine ⟨μ,h,σw,_,R,S,m,fun J H1 ⟨μ1,src,h1,e1,R1,ok,m1⟩=>?_⟩;refine ⟨fun i n σ' H'=>n=src.ws.length - i/\i<=src.ws.length/\DN X.K H1 μ1 (eU src g mb0 Dw<|src.ws.drop i) σ' H',⟨src.ws.length,by simp,RN _,μ1,σw,h1,.refl,R1,S.ext e1,by rw [Ug];exact m1⟩,?_⟩;rintro i n σ2 H2 ⟨hn,hle,μ2,σw2,h2,e2,R2,S2,m2⟩;by_cases hlt:i<src.ws.length
 ·rw [VR hlt] at m2;obtain ⟨ck,m2⟩:=Src.go_ok m2;obtain ⟨hgo,hy⟩:=(ok e2 R2 ck).1 src.ws[i] (Kc hlt);refine .inr ⟨hgo,fun σ' H'=>DN X.K H2 μ2 (eU src g mb0 Dw<|src.ws.drop<|i+1) σ' H',fun σ' H' z=>⟨src.ws.length - (i+1),by lia,rfl,hlt,z.trans e2⟩,fun x H3 y=>?_⟩;obtain ⟨μ3,e3,R3,rx⟩:=hy x H3 y;refine ⟨μ3,h2,σw2,src.ws[i],_,R3,S2.ext e3,rx,m2,fun σ4 H4 ⟨μ4,σw4,h4,e4,R4,S4,m4⟩=>?_⟩;have e24:=e3.trans e4;have e14:=(e1.trans e2).trans e24;exact ⟨μ4,h4,σw4,_,R4,S4,m4,fun σ' H' z=>z.trans e24,fun v H' z=>k.rt _ _<|z.trans e14,fun σ' H' z=>k.nx _ _<|z.trans e14,fun σ' H' z=>z.trans e24⟩
 ·have ei:i=src.ws.length:=by lia
  subst ei;rw [List.drop_length] at m2;obtain ⟨ck,m2⟩:=Src.go_ok m2;exact .inl ⟨(ok e2 R2 ck).2 (Ge _),k.nx _ _ ⟨μ2,σw2,h2,e1.trans e2,R2,S2,m2⟩⟩
def tV (ix:List Nat)(σ : Sw):Sw:=ix.map fun i=>(σ[i]?).getD FX
theorem Slots.blk {K:Ai}{H:Hp}{μ : Mu}{σw:Sw}{σ : St}{ix:List Nat}(S:Slots K H μ σw σ):∀ {ws:List W} {vs:List V},aM K H μ ws vs->Slots K H μ (ws.map Dn++tV ix σw) (vs.map Dn++Jk ix σ):=by
 intro ws vs r;have hl:=r.len;refine ⟨by simp [tV,Jk,hl],fun i u q=>?_⟩;by_cases hi:i<ws.length
 ·rw [Ss (by simpa using hi),K8] at q;have q':ws[i]?=Dn u:=by
   cases e:ws[i]? with
   | none=>rw [e] at q;cases q
   | some a=>rw [e] at q;simpa using q
  obtain ⟨v,hv,rv⟩:=r.get q';refine ⟨v,?_,rv⟩;rw [Ss (by rw [GJ];lia),K8,hv];rfl
 ·rw [Sv (by simpa using hi),GJ] at q;rw [Sv (by rw [GJ];lia),GJ,<-hl];generalize i - ws.length=i at q |-
  unfold tV at q;unfold Jk;rw [K8] at q |-
  cases e:ix[i]? with
  | none=>rw [e] at q;cases q
  | some j=>
   rw [e] at q;cases e2:σw[j]? with
   | none=>simp [e2] at q
   | some o=>
    have eo:o=Dn u:=by simpa [e2] using q
    subst eo;obtain ⟨v',h1,h2⟩:=S.get j u e2;exact ⟨v',by simp [h1],h2⟩
def fU:MT:=fun _ h Q=>Q true h
def nu (s:Src)(own:W->Option (List W))(ix:List Nat)(tt:MT)(te:ME)(σ : Sw)(Q:WK):List W->List W->Gh->Prop
 | [],acc,h=>s.go h (Q (.lst acc) h)
 | w::r,acc,h=>s.go h (match own w with
  | some vs=>tt (vs.map Dn++tV ix σ) h fun c h1=>Hi c (te (vs.map Dn++tV ix σ) h1 fun v h2=>nu s own ix tt te σ Q r (acc++[v]) h2) (nu s own ix tt te σ Q r acc h1)
  | none=>False)
def GC (own:W->Option (List W))(ix:List Nat)(mi:MI)(tt:MT)(te:ME):ME:=fun σ h Q=>mi σ h fun s h1=>jf s.ws.length (nu s own ix tt te σ Q s.ws [] h1)
def Ar (K:Ai)(n:Nat)(own:V->Hp->List V->Prop)(ow:W->Option (List W)):Prop:=∀ {H:Hp} {μ : Mu} {w:W} {v:V} {ws:List W},Ab K H μ w v->ow w=Dn ws->∃ vs,own v H vs/\vs.length=n/\aM K H μ ws vs
def Gm (w:W):Option (List W):=Dn [w]
def Ro (n:Nat)(w:W):Option (List W):=match w with
 | .tup ws=>(match Ls ws.length n with
  | true=>Dn ws
  | false=>FX)
 | _=>FX
def ov1:V->Hp->List V->Prop:=fun v _ vs=>vs=[v]
def ovT (K:Ai):V->Hp->List V->Prop:=fun v H vs=>∃ a,v=.ref a/\Hs K H a vs
theorem FT {K:Ai}:Ar K 1 ov1 Gm:=by
 intro H μ w v ws r e;cases (show Dn [w]=Dn ws from e)
 exact ⟨[v],rfl,rfl,.one r⟩
theorem GD {K:Ai}{n:Nat}:Ar K n (ovT K) (Ro n):=by
 intro H μ w v ws r e;cases w with
 | tup us=>
  unfold Ro at e;dsimp only at e;cases en:Ls us.length n with
  | false=>rw [en] at e;cases e
  | true=>
   rw [en] at e;cases (show Dn us=Dn ws from e)
   rw [Ab] at r;obtain ⟨p,xs,ev,hs,rs⟩:=r;exact ⟨xs,⟨p,ev,hs⟩,by rw [<-rs.len];exact V4 en,rs⟩
 | _=>cases e
abbrev Vq (X:Cx)(ifs:List Expr)(m:MT):Prop:=Vw X ifs (tDT X.K m)
theorem iy:Vq X [] fU:=fun pins s σ H Q I ⟨μ,h,σw,Qw,R,S,m,k⟩=>agO pins s σ H Q I (k _ _ ⟨μ,h,.refl,R,m⟩)
theorem rN (h:DT X c t):Vq X [c] t:=afA h
theorem Xy {K:Ai}{σ : St}{H:Hp}{Q:VK}{n:Nat}{own:V->Hp->List V->Prop}{ow:W->Option (List W)}{ix:List Nat}{mi:MI}{tt:MT}{te:ME}(oo:Ar K n own ow)(q:tD K (GC ow ix mi tt te) σ H Q):tLC n own ix (tDI K mi) (tDT K tt) (tD K te) σ H Q:=by
 obtain ⟨μ,h,σw,Qw,R,S,m,k⟩:=q;refine ⟨μ,h,σw,_,R,S,m,fun J H1 ⟨μ1,src,h1,e1,R1,ok,hz0⟩=>?_⟩;obtain ⟨hz,m1⟩:=hz0.ok;intro D hD;have nD:=R1.nohid hD;have hD1:HB K H1 μ1 (Fy H1 D (.lst [])) (μ1.hide D):=HB.hide hD;refine ⟨fun i n ys H'=>n=src.ws.length - i/\i<=src.ws.length/\ys.length<=i/\H' D=Dn (.lst ys)/\∃ μ' acc h',HB K H1 μ1 H' μ'/\Fi K μ' H' h'/\μ'.hid D/\aM K H' μ' acc ys/\nu src ow ix tt te σw Qw (src.ws.drop i) acc h',
  ⟨src.ws.length,by simp,RN _,Ge _,bQ,μ1.hide D,[],h1,hD1,R1.hide hD,.inl rfl,.nil,by rw [Ug];exact m1⟩,?_⟩
 rintro i n' ys H2 ⟨hn,hle,hys,hH2,μ2,acc,h2,e2,R2,hid2,ra,m2⟩ _;by_cases hlt:i<src.ws.length
 ·rw [VR hlt] at m2;obtain ⟨ck,m2⟩:=Src.go_ok m2;obtain ⟨hgo,hy⟩:=(ok e2 R2 ck).1 src.ws[i] (Kc hlt);refine .inr ⟨hgo,by lia,fun x H3 y=>?_⟩;obtain ⟨μ3,e3,R3,rx⟩:=hy x H3 y;have e13:=e2.trans e3;cases eo:ow src.ws[i] with
  | none=>rw [eo] at m2;exact m2.elim
  | some us=>
   rw [eo] at m2;obtain ⟨vs,hov,hvl,rvs⟩:=oo rx eo;have S3:=(S.ext (e1.trans e13)).blk (ix:=ix) rvs;refine ⟨vs,hov,hvl,μ3,h2,_,_,R3,S3,m2,fun b H4 ⟨μ4,h4,e4,R4,m4⟩=>?_⟩;have e24:=e3.trans e4;obtain ⟨hid4,hH4⟩:=e24.o D _ hid2 hH2;cases b with
   | false=>
    dsimp only;rw [if_neg LI];exact ⟨hH4,src.ws.length - (i+1),by lia,rfl,hlt,by lia,hH4,μ4,acc,h4,e2.trans e24,R4,hid4,e24.s ra,m4⟩
   | true=>
    dsimp only;rw [if_pos rfl];refine ⟨μ4,h4,_,_,R4,S3.ext e4,m4,fun v H5 ⟨μ5,w5,h5,e5,R5,r5,m5⟩=>?_⟩;have e25:=e24.trans e5;obtain ⟨hid5,hH5⟩:=e25.o D _ hid2 hH2;have g:=K4.grow (ys:=ys++[v]) R5 hid5;have rs:aM K (Fy H5 D (.lst (ys++[v]))) μ5 (acc++[w5]) (ys++[v]):=aM.ex (Ex0.grow R5 hid5) (aM.append (e25.s ra) (aM.one r5));exact ⟨hH5,src.ws.length - (i+1),by lia,rfl,hlt,by rw [Nt];simp;lia,bQ,μ5,acc++[w5],h5,(e2.trans e25).x nD g,R5.grow hid5,hid5,rs,m5⟩
 ·have ei:i=src.ws.length:=by lia
  subst ei;rw [List.drop_length] at m2;obtain ⟨ck,m2⟩:=Src.go_ok m2;exact .inl ⟨(ok e2 R2 ck).2 (Ge _),k _ _ ⟨μ2.unhide D,.lst acc,h2,e1.trans<|e2.x nD .unhide,R2.unhide,Ab.built R2 hid2 hH2 ra,m2⟩⟩
variable {scope:Scope}{x:Str}{xs:List Str}{ix:List Nat}{elt iter:Expr}{ifs:List Expr}{px:Pos}{mi:MI}{tt:MT}{te:ME}
theorem Ey (B:jd X scope [x] ix)(C:Addr)(s:AP)(H:Hp)(fp:List Addr):PG (blk X scope (gJ X [x] ix) C s H fp) (.Name x px) (Py 1 ov1):=by
 obtain ⟨o1,o2⟩:=G9 B (y:=x) (by simp);intro pins s' σ H' v u Q I r ⟨vs,hv,hl,q⟩;cases hv;refine vp (X:=blk X scope (gJ X [x] ix) C s H fp) (i:=0) B.nd rfl o1 o2 pins s' σ H' v u Q I r ?_;have hlen:σ.length=(gJ X [x] ix).length:=I.len;cases σ with
 | nil=>simp at hlen
 | cons o σ=>exact q
theorem Hv {y:Str}{py pt:Pos}{kt:Nat}(hc:X.calm=true)(B:jd X scope [x,y] ix)(C:Addr)(s:AP)(H:Hp)(fp:List Addr)
  (h1:∀ env,(Lb [.Name x px,.Name y py] env).map (·.2)=assign (.Name x px) env::(Lb [.Name y py] env).map (·.2):=by intro _;rfl)
  (h2:∀ env,(Lb [.Name y py] env).map (·.2)=assign (.Name y py) env::(Lb [] env).map (·.2):=by intro _;rfl)
  (h3:∀ env,(Lb [.Name x px,.Name y py] env).length=2:=by intro _;rfl) (h4:∀ env,(Lb [.Name x px,.Name y py] env).findIdx? (·.1)=FX:=by intro _;rfl) :
  PG (blk X scope (gJ X [x,y] ix) C s H fp) (.Tuple [.Name x px,.Name y py] kt pt) (Py 2 (ovT X.K)):=by
 obtain ⟨o1,u1⟩:=G9 B (y:=x) (by simp);obtain ⟨o2,u2⟩:=G9 B (y:=y) (by simp);intro pins s' σ H' v u Q I r ⟨vs,⟨a,ea,ha⟩,hl,q⟩;have hlen:σ.length=(gJ X [x,y] ix).length:=I.len;refine agA (X:=blk X scope (gJ X [x,y] ix) C s H fp) (n:=2) hc (vA (vp (i:=0) B.nd rfl o1 u1) (vA (vp (i:=1) B.nd rfl o2 u2) Hw<|h2 _)<|h1 _) (h3 _) (h4 _) pins s' σ H' v u Q I r ?_;refine ⟨a,vs,ea,ha,hl,?_⟩;match vs,hl,q with
 | [v1,v2],_,q=>
  match σ,hlen,q with
  | [],hlen,_=>simp at hlen
  | [_],hlen,_=>simp at hlen
  | _::_::σ,_,q=>exact ⟨v1,[v2],rfl,v2,[],rfl,rfl,q⟩
theorem W7 {own:V->Hp->List V->Prop}{ow:W->Option (List W)}(ix:List Nat)(hc:X.calm=true)(B:jd X scope xs ix)(oo:Ar X.K xs.length own ow)(hg:∀ C s H fp,PG (blk X scope (gJ X xs ix) C s H fp) tg (Py xs.length own))(hi:Oi X tg iter mi)
  (ht:∀ C s H fp,Vq (blk X scope (gJ X xs ix) C s H fp) ifs tt) (he:∀ C s H fp,DE (blk X scope (gJ X xs ix) C s H fp) elt te)
  (hs:∀ v,S9 iter X.env v=pure v:=by intro _;rfl):DE X (.ListComp elt [⟨tg,iter,ifs,0⟩] scope pos) (GC ow ix mi tt te):=(aaB ix hc B hg hi ht he hs).of fun _ _ _ q=>Xy oo q
theorem Jc {own:V->Hp->List V->Prop}{ow:W->Option (List W)}(ix:List Nat){i:Nat}{y:Str}{py spos:Pos}(hN:X.N.Nodup)(hi':X.N[i]?=Dn y)(hy:Loc X.env.scope y)(hc:X.calm=true)(B:jd X scope xs ix)(oo:Ar X.K xs.length own ow)
  (hg:∀ C s H fp,PG (blk X scope (gJ X xs ix) C s H fp) tg (Py xs.length own)) (hi:Oi X tg iter mi)
  (ht:∀ C s H fp,Vq (blk X scope (gJ X xs ix) C s H fp) ifs tt) (he:∀ C s H fp,DE (blk X scope (gJ X xs ix) C s H fp) elt te)
  (hsw:SQ (.ListComp elt [⟨tg,iter,ifs,0⟩] scope pos) (Dn (.Name y py)) spos.line X.env=pure true:=by rfl)
  (hf:X.fn y=true\/X.env.scope.names.lookup y=Dn .local:=by first | exact .inl rfl | exact .inr rfl | assumption)
  (hs:∀ v,S9 iter X.env v=pure v:=by intro _;rfl):DS X (.Assign [.Name y py] (.ListComp elt [⟨tg,iter,ifs,0⟩] scope pos) spos) (bx (GC ow ix mi tt te) (Mk i)):=
 (WM ix hN hi' hy hc B hg hi ht he hsw hf hs).of fun _ _ _ q=>Hq (fun _ _ _ z=>Xy oo z) q
theorem abP {κ : Type}{K:Ai}{H0 H:Hp}{μ0 μ : Mu}{k:Nat}(hd:∀ n p,μ0.f n=Dn p->n<k):∀ {fs:List (κ×W)} {f0 fv:List (κ×V)},Zy K H0 μ0 fs f0->Zy K H μ fs fv->Zy K H (μ.cut k) fs fv
 | [],_,_,_,.nil=>.nil
 | _::_,_,_,.cons a b,.cons c d=>.cons ⟨c.1,Ab.cut c.2 (Ab.lo hd a.2)⟩ (abP hd b d)
def qz (pure:Bool)(h:Gh)(w:W)(h':Gh)(Q:WK):Prop:=match pure with
 | false=>Q w h'
 | true=>(∀ n c,n<h.nx->h.c n=Dn c->h'.c n=Dn c)/\((Lo h.nx w/\Q w h)\/∃ n ws,w=.loc n/\h.nx<=n/\h'.c n=Dn (.lst ws)/\Kv h.nx ws/\Q (.lst ws) h)
def Fw (n N:Nat)(pure:Bool)(body:EY->MS):kI:=fun ws h Q E=>Hi (Ls ws.length n)
 (body E { nx:=fun _ h'=>qz pure h .non h' Q,rt:=fun w h'=>qz pure h w h' Q } (ws.map Dn++R0 (N - ws.length) FX) h) False
theorem Qp {n N:Nat}{pure:Bool}{body:EY->MS}{ws:List W}{h:Gh}{Q:WK}{E:EY}(x:Fw n N pure body ws h Q E):ws.length=n /\
  body E { nx:=fun _ h'=>qz pure h .non h' Q,rt:=fun w h'=>qz pure h w h' Q } (ws.map Dn++R0 (N - ws.length) FX) h:=by
 unfold Fw at x;cases e:Ls ws.length n with
 | true=>rw [e] at x;exact ⟨V4 e,x⟩
 | false=>rw [e] at x;exact (show False from x).elim
theorem Fi.cut {K:Ai}{H H':Hp}{μ μ':Mu}{h h':Gh}(R:Fi K μ H h)(R':Fi K μ' H' h')(e:HB K H μ H' μ')(hc:∀ n c,h.c n=Dn c->h'.c n=Dn c):Fi K (μ'.cut h.nx) H' h where
 inj:=fun m n p a b=>R'.inj m n p (Mu.cut_some a).2 (Mu.cut_some b).2
 dom:=fun n p a=>(Mu.cut_some a).1
 trk:=fun n p a=>R'.trk n p (Mu.cut_some a).2
 cel:=fun n c a=>by
  obtain ⟨p0,m0,x0⟩:=R.cel n c a;obtain ⟨p,m,x⟩:=R'.cel n c (hc n c a);have hn:=R.dom n p0 m0;refine ⟨p,by show (if n<h.nx then μ'.f n else FX)=Dn p;rw [if_pos hn];exact m,?_⟩;cases c with
  | lst ws=>
   obtain ⟨xs0,_,r0⟩:=x0;obtain ⟨xs,hx,r⟩:=x;exact ⟨xs,hx,aM.cut r<|aM.lo R.dom r0⟩
  | obj C fs=>
   obtain ⟨dx0,f0,_,r0⟩:=x0;obtain ⟨dx,fv,hx,r⟩:=x;exact ⟨dx,fv,hx,abP R.dom r0 r⟩
  | dct kvs=>
   obtain ⟨f0,_,r0⟩:=x0;obtain ⟨fv,hx,r⟩:=x;exact ⟨fv,hx,abP R.dom r0 r⟩
  | dtt kvs=>
   obtain ⟨_,_,_,_,_,d0,f0⟩:=x0;obtain ⟨xs,vs,a,b,c,d,f⟩:=x;exact ⟨xs,vs,a,b,c,aM.cut d<|aM.lo R.dom d0,aM.cut f<|aM.lo R.dom f0⟩
 hd:=fun p z=>⟨(R'.hd p z).1,fun n a=>(R'.hd p z).2 n (Mu.cut_some a).2⟩
theorem HB.cut {K:Ai}{H H':Hp}{μ μ':Mu}{h:Gh}(R:Fi K μ H h)(e:HB K H μ H' μ'):HB K H μ H' (μ'.cut h.nx):=
 ⟨fun w v r=>Ab.cut (e.r w v r) (Ab.lo R.dom r),fun p u z a=>e.o p u z a⟩
theorem Hr {K:Ai}{H H':Hp}{μ μ':Mu}{h h':Gh}{w:W}{v:V}{Q:WK}{pure:Bool}(R:Fi K μ H h)(e:HB K H μ H' μ')(R':Fi K μ' H' h')(r:Ab K H' μ' w v)(x:qz pure h w h' Q):DQ K H μ Q v H':=by
 cases pure with
 | false=>exact ⟨μ',w,h',e,R',r,x⟩
 | true=>
  obtain ⟨hc0,⟨lo,q⟩ | ⟨n,ws,ew,hn,ec,lo,q⟩⟩:=x;all_goals have hc:∀ n c,h.c n=Dn c->h'.c n=Dn c:=fun n c a=>hc0 n c (let ⟨p,m,_⟩:=R.cel n c a;R.dom n p m) a
  ·exact ⟨μ'.cut h.nx,w,h,e.cut R,R.cut R' e hc,Ab.cut r lo,q⟩
  ·subst ew;refine ⟨μ'.cut h.nx,.lst ws,h,e.cut R,R.cut R' e hc,?_,q⟩;rw [Ab] at r;rw [Ab];obtain ⟨p,ev,hm⟩:=r;obtain ⟨p',xs,hm',hx,rs⟩:=R'.lstAt ec;have ep:p'=p:=by rw [hm] at hm';exact (HS hm').symm
   subst ep;refine ⟨p',xs,ev,⟨hx,fun m a=>?_,fun z=>(R'.hd p' z).2 n hm⟩,aM.cut rs lo⟩;obtain ⟨a1,a2⟩:=Mu.cut_some a;have:=R'.inj m n p' a2 hm
   lia
theorem zak {K:Ai}{H:Hp}{μ : Mu}{N:List Str}:∀ {ws:List W} {vs:List V},aM K H μ ws vs->Slots K H μ (ws.map Dn++R0 (N.length - ws.length) FX) (start N vs):=by
 intro ws vs r;have hl:=r.len;refine ⟨by simp [start,hl],fun i w q=>?_⟩;by_cases hi:i<ws.length
 ·rw [Ss (by simpa using hi),K8] at q;have q':ws[i]?=Dn w:=by
   cases e:ws[i]? with
   | none=>rw [e] at q;cases q
   | some a=>rw [e] at q;simpa using q
  obtain ⟨v,hv,rv⟩:=r.get q';refine ⟨v,?_,rv⟩;unfold start;rw [Ss (by rw [GJ];lia),K8,hv];rfl
 ·rw [Sv (by simpa using hi),VN] at q;split at q <;> cases q
theorem ach {P:Fb}{w:FZ}{K:Ai}{mg:Str->Option Go}{base:Heap}{x qual:Str}{st:Stmt}{f:Addr}{fd:Le}{N ps:List Str}{k:Nat}{pure:Bool}{body:EY->MS}(F:SN K x qual st f fd)(S:m6 N ps (bT st))
  (hb:∀ (cdv:Go) (A:Fd) (outer:List Env) (s:AP) (H:Hp) (E:XK),mW k (A.deeper (envOfC qual (bT st) s.heap.objs.size f cdv)) ->
   RB (Nj Ma P w K mg base N qual (bT st) f cdv A outer s H E).nox (gU st) (body EF)):qO P w K mg base Ma (k+1) f fd ps (lift K (Fw ps.length N.length pure body)):=by
 refine F.ok S (fun vs H Q E ⟨μ,h,ws,Qw,R,r,m,k⟩=>by rw [<-r.len];exact (Qp m).1)<|fun cdv A outer s H vs Q E hr ⟨μ,h,ws,Qw,R,r,m0,k⟩=>?_
 obtain ⟨hl,m⟩:=Qp m0;refine ⟨_,hb cdv A outer s H E hr,μ,h,_,_,R,zak r,m,?_,?_,?_,?_⟩
 ·rintro σ' H' ⟨μ1,σw1,h1,e1,R1,S1,m1⟩;exact k _ _<|Hr (w:=.non) R e1 R1 (by rw [Ab]) m1
 ·rintro v H' ⟨μ1,w1,h1,e1,R1,r1,m1⟩;exact k _ _<|Hr R e1 R1 r1 m1
 ·rintro σ' H' ⟨μ1,σw1,h1,e1,R1,S1,m1⟩;exact m1.elim
 ·rintro σ' H' ⟨μ1,σw1,h1,e1,R1,S1,m1⟩;exact m1.elim
end
section
variable {X:Cx}{K:Ai}
theorem DQ.int {H:Hp}{μ : Mu}{h:Gh}{i:Int}{Q:WK}(R:Fi K μ H h)(q:Q (.int i) h):DQ K H μ Q (.int i) H:=⟨μ,.int i,h,.refl,R,by rw [Ab],q⟩
theorem DQ.bl {H:Hp}{μ : Mu}{h:Gh}{i:Bool}{Q:WK}(R:Fi K μ H h)(q:Q (.bl i) h):DQ K H μ Q (.bl i) H:=⟨μ,.bl i,h,.refl,R,by rw [Ab],q⟩
def zaf (C:Int->Int->Prop)(g:Int->Int->Int):M2:=fun x y h Q=>match x,y with
 | .int i,.int j=>C i j/\Q (.int (g i j)) h
 | _,_=>False
def pJ:M2:=fun x y h Q=>match x,y with
 | .int i,.int j=>Q (.int (i - j)) h
 | _,_=>False
theorem jw:M6 X (Ly .Sub) pJ:=⟨_,ZC,by
 intro H μ h x y wx wy Qw Q R rx ry m k;unfold pJ at m;split at m
 ·rw [Ab] at rx ry;exact ⟨_,_,rx,ry,k _ _<|.int R m⟩
 ·exact m.elim⟩
def bJ:M2:=fun x y h Q=>match x,y with
 | .int i,.int j=>fB i j/\Q (.int (i*j)) h
 | _,_=>False
theorem aP:M6 X (Ly .Mult) bJ:=⟨_,zbx,by
 intro H μ h x y wx wy Qw Q R rx ry m k;unfold bJ at m;split at m
 ·rw [Ab] at rx ry;exact ⟨_,_,rx,ry,m.1,k _ _<|.int R m.2⟩
 ·exact m.elim⟩
def uV:M2:=fun x y h Q=>match x,y with
 | .int i,.int j=>yg i j/\Q (.int (i.fdiv j)) h
 | _,_=>False
theorem wF:M6 X (Ly .FloorDiv) uV:=⟨_,zav,by
 intro H μ h x y wx wy Qw Q R rx ry m k;unfold uV at m;split at m
 ·rw [Ab] at rx ry;exact ⟨_,_,rx,ry,m.1,k _ _<|.int R m.2⟩
 ·exact m.elim⟩
def je:M2:=fun x y h Q=>match x,y with
 | .int i,.int j=>j≠0/\Q (.int (i.fmod j)) h
 | _,_=>False
theorem gQ:M6 X (Ly .Mod) je:=⟨_,aeS,by
 intro H μ h x y wx wy Qw Q R rx ry m k;unfold je at m;split at m
 ·rw [Ab] at rx ry;exact ⟨_,_,rx,ry,m.1,k _ _<|.int R m.2⟩
 ·exact m.elim⟩
def Gs:M2:=fun x y h Q=>match x,y with
 | .int i,.int j=>ab6 i j/\Q (.int (i^j.toNat)) h
 | _,_=>False
theorem Ez:M6 X (Ly .Pow) Gs:=⟨_,W8,by
 intro H μ h x y wx wy Qw Q R rx ry m k;unfold Gs at m;split at m
 ·rw [Ab] at rx ry;exact ⟨_,_,rx,ry,m.1,k _ _<|.int R m.2⟩
 ·exact m.elim⟩
def kLt:M2:=fun x y h Q=>match x,y with
 | .int i,.int j=>Q (.bl (decide (i<j))) h
 | _,_=>False
theorem Yd:M6 X (Lz .Lt) kLt:=⟨_,abN,by
 intro H μ h x y wx wy Qw Q R rx ry m k;unfold kLt at m;split at m
 ·rw [Ab] at rx ry;exact ⟨_,_,rx,ry,k _ _<|.bl R m⟩
 ·exact m.elim⟩
def Ob:M2:=fun x y h Q=>match x,y with
 | .int i,.int j=>Q (.bl (decide (j<i))) h
 | _,_=>False
theorem Vx:M6 X (Lz .Gt) Ob:=⟨_,abf,by
 intro H μ h x y wx wy Qw Q R rx ry m k;unfold Ob at m;split at m
 ·rw [Ab] at rx ry;exact ⟨_,_,rx,ry,k _ _<|.bl R m⟩
 ·exact m.elim⟩
theorem aM.ne_nil {H:Hp}{μ : Mu}{ws:List W}{xs:List V}(r:aM K H μ ws xs):xs=[]↔ws=[]:=by
 have:=r.len
 constructor
 ·intro e;subst e;exact VD this
 ·intro e;subst e;exact VD this.symm
def Aw:M2:=fun x y h Q=>match y with
 | .int i=>(match view h x with
  | some ws=>(match Jy ws i with
   | some w=>Q w h
   | none=>False)
  | none=>False)
 | _=>False
theorem aM.at {H:Hp}{μ : Mu}{ws:List W}{xs:List V}{i:Int}{w:W}(r:aM K H μ ws xs)(e:Jy ws i=Dn w):∃ v,Jy xs i=Dn v/\Ab K H μ w v:=by
 unfold Jy at e |-
 rw [<-r.len];cases q:Ms ws.length i with
 | none=>rw [q] at e;cases e
 | some j=>rw [q] at e;exact r.get e
theorem cA {H:Hp}{μ : Mu}{h:Gh}{w:W}{v:V}{ws:List W}(R:Fi K μ H h)(r:Ab K H μ w v)(e:cG h w=Dn ws):∃ p xs,v=.ref p/\Hg K H p xs/\aM K H μ ws xs:=by
 cases w with
 | lst us=>
  rw [Ab] at r;obtain ⟨p,xs,ev,hs,rs⟩:=r;cases (show Dn us=Dn ws from e)
  exact ⟨p,xs,ev,hs.sq,rs⟩
 | kls us=>
  rw [Ab] at r;obtain ⟨p,xs,ev,hs,rs⟩:=r;cases (show Dn us=Dn ws from e)
  exact ⟨p,xs,ev,hs.sq,rs⟩
 | loc n=>
  rw [Ab] at r;obtain ⟨p,ev,hm⟩:=r;unfold cG at e;dsimp only at e;cases ec:h.c n with
  | none=>rw [ec] at e;cases e
  | some cl=>
   rw [ec] at e;cases cl with
   | lst us=>
    cases (show Dn us=Dn ws from e)
    obtain ⟨p',xs,hm',hx,rs⟩:=R.lstAt ec;have ep:p'=p:=by rw [hm] at hm';exact (HS hm').symm
    subst ep;exact ⟨p',xs,ev,.of hx,rs⟩
   | _=>cases e
 | _=>cases e
theorem vJ {H:Hp}{μ : Mu}{h:Gh}{w:W}{v:V}{ws:List W}(R:Fi K μ H h)(r:Ab K H μ w v)(e:view h w=Dn ws):∃ p xs,v=.ref p/\(Hg K H p xs\/Hs K H p xs)/\aM K H μ ws xs:=by
 cases w with
 | tup us=>
  rw [Ab] at r;obtain ⟨p,xs,ev,hs,rs⟩:=r;cases (show Dn us=Dn ws from e)
  exact ⟨p,xs,ev,.inr hs,rs⟩
 | lst us=>
  obtain ⟨p,xs,ev,hs,rs⟩:=cA (ws:=ws) R r e;exact ⟨p,xs,ev,.inl hs,rs⟩
 | kls us=>
  obtain ⟨p,xs,ev,hs,rs⟩:=cA (ws:=ws) R r e;exact ⟨p,xs,ev,.inl hs,rs⟩
 | loc n=>
  obtain ⟨p,xs,ev,hs,rs⟩:=cA (ws:=ws) R r e;exact ⟨p,xs,ev,.inl hs,rs⟩
 | _=>cases e
theorem Wy:acF K (rIx K) Aw:=by
 intro H μ h x y wx wy Qw Q R rx ry m k;unfold Aw at m;split at m
 ·rename_i i;split at m
  ·rename_i ws ev;split at m
   ·rename_i w ew;obtain ⟨p,xs,ex,hs,rs⟩:=vJ R rx ev;obtain ⟨v,hv,rv⟩:=rs.at ew;rw [Ab] at ry;have fin:=k _ _ ⟨μ,w,h,.refl,R,rv,m⟩;rcases hs with hs | hs
    ·exact .inl ⟨p,xs,i,v,ex,ry,hs,hv,fin⟩
    ·exact .inr<|.inl ⟨p,xs,i,v,ex,ry,hs,hv,fin⟩
   ·exact m.elim
  ·exact m.elim
 ·exact m.elim
theorem adw {a b:Expr}{ma mb:ME}{pos:Pos}(ha:DE X a ma)(hb:DE X b mb)(hs:BK b):DE X (.Subscript a b pos) (JI Aw ma mb):=(aat X7 ha hb hs).of fun σ H Q h=>two h fun R r1 r2 m k=>Wy R r1 r2 m k
abbrev MO:=Sw->Gh->(Option Int->Gh->Prop)->Prop
def tDO (K:Ai)(m:MO):TO:=fun σ H Q=>∃ μ h σw Qw,Fi K μ H h/\Slots K H μ σw σ/\m σw h Qw/\∀ o H',(∃ μ' h',HB K H μ H' μ'/\Fi K μ' H' h'/\Qw o h')->Q o H'
abbrev DO (X:Cx)(e:Option Expr)(m:MO):Prop:=PO X e (tDO X.K m)
theorem PO.of {e:Option Expr}{t t':TO}(h:PO X e t)(k:∀ σ H Q,t' σ H Q->t σ H Q):PO X e t':=by
 unfold PO at h |-
 intros
 apply h <;> first | assumption | (apply k;assumption)
def gR:MO:=fun _ h Q=>Q FX h
def cP (m:ME):MO:=fun σ h Q=>m σ h fun w h1=>match w with
 | .int i=>Q (Dn i) h1
 | _=>False
theorem oh:DO X FX gR:=PO.of zbB fun σ H Q ⟨μ,h,σw,Qw,R,S,m,k⟩=>k _ _ ⟨μ,h,.refl,R,m⟩
theorem bA {e:Expr}{ma:ME}(he:DE X e ma):DO X (Dn e) (cP ma):=PO.of (zbz he) fun σ H Q ⟨μ,h,σw,Qw,R,S,m,k⟩=>by
 refine ⟨μ,h,σw,_,R,S,m,fun v H1 ⟨μ1,w,h1,e1,R1,r1,m1⟩=>?_⟩;split at m1
 ·rw [Ab] at r1;exact ⟨_,r1,k _ _ ⟨μ1,h1,e1,R1,m1⟩⟩
 ·exact m1.elim
def Bc (xs:List W)(lo hi:Option Int):List W:=(xs.drop (HT.sIx xs.length 0 lo)).take (HT.sIx xs.length xs.length hi - HT.sIx xs.length 0 lo)
def LK (r:W->Option Int->Option Int->Gh->WK->Prop)(m:ME)(l u:MO):ME:=fun σ h Q=>m σ h fun x h1=>l σ h1 fun lo h2=>u σ h2 fun hi h3=>r x lo hi h3 Q
theorem aM.cutv {H:Hp}{μ : Mu}{ws:List W}{xs:List V}(r:aM K H μ ws xs)(lo hi:Option Int):aM K H μ (Bc ws lo hi) (LQ xs lo hi):=by
 unfold Bc LQ;rw [<-r.len];exact (r.drop _).take _
end
mutual
def Fo:W->W->Bool
 | .non,.non=>true
 | .bl a,.bl b=>a==b
 | .bl a,.int b=>(if a then 1 else 0)==b
 | .int a,.bl b=>a==(if b then 1 else 0)
 | .int a,.int b=>a==b
 | .str a,.str b=>a==b
 | .tup a,.tup b=>oO a b
 | .lst a,.lst b=>oO a b
 | _,_=>false
def oO:List W->List W->Bool
 | [],[]=>true
 | a::as,b::bs=>Fo a b&&oO as bs
 | _,_=>false
end
def GR:Nat->W->Bool
 | _,.non=>true
 | _,.bl _=>true
 | _,.int _=>true
 | _,.str _=>true
 | n+1,.tup ws=>ws.all (GR n)
 | n+1,.lst ws=>ws.all (GR n)
 | _,_=>false
mutual
def Dt (K:Ai)(H:Hp):W->V->Prop
 | .non,v=>v=.non
 | .bl b,v=>v=.bl b
 | .int i,v=>v=.int i
 | .str x,v=>v=.str x
 | .tup ws,v=>∃ p xs,v=.ref p/\Hs K H p xs/\Iw K H ws xs
 | .lst ws,v=>∃ p xs,v=.ref p/\Hg K H p xs/\Iw K H ws xs
 | .ty _,_=>False
 | .kls _,_=>False
 | .loc _,_=>False
 | .exc _,_=>False
 | .exa _ _,_=>False
 | .fnv _ _,_=>False
def Iw (K:Ai)(H:Hp):List W->List V->Prop
 | [],xs=>xs=[]
 | w::ws,xs=>∃ v vs,xs=v::vs/\Dt K H w v/\Iw K H ws vs
end
section
variable {X:Cx}{K:Ai}{H:Hp}{μ : Mu}{h:Gh}
theorem Iw.len:∀ {ws:List W} {xs:List V},Iw K H ws xs->ws.length=xs.length
 | [],xs,h=>by
  have e:xs=[]:=by rw [Iw] at h;exact h
  rw [e];rfl
 | w::ws,xs,h=>by
  rw [Iw] at h;obtain ⟨v,vs,e,_,h⟩:=h;rw [e,Lk,Lk,Iw.len h]
theorem Iw.get:∀ {ws:List W} {xs:List V} {i:Nat} {w:W},Iw K H ws xs->ws[i]?=Dn w->∃ v,xs[i]?=Dn v/\Dt K H w v
 | [],_,_,_,_,e=>by simp at e
 | a::ws,xs,0,w,h,e=>by
  rw [Iw] at h;obtain ⟨v,vs,e1,r,_⟩:=h;simp at e;subst e;subst e1;exact ⟨v,rfl,r⟩
 | a::ws,xs,i+1,w,h,e=>by
  rw [Iw] at h;obtain ⟨v,vs,e1,_,h⟩:=h;subst e1;obtain ⟨u,h1,h2⟩:=Iw.get (i:=i) (w:=w) h (by simpa using e);exact ⟨u,by simpa using h1,h2⟩
theorem zu {n:Nat}(one:∀ {w:W} {v:V},Ab K H μ w v->GR n w=true->Dt K H w v):∀ {ws:List W} {xs:List V},aM K H μ ws xs->ws.all (GR n)=true->Iw K H ws xs
 | [],_,h,_=>by rw [aM] at h;rw [Iw];exact h
 | w::ws,_,h,p=>by
  rw [aM] at h;rw [Iw];obtain ⟨v,vs,e,r,h⟩:=h;rw [Tt,Nh] at p;exact ⟨v,vs,e,one r p.1,zu one h p.2⟩
theorem N8:∀ (n:Nat) {w:W} {v:V},Ab K H μ w v->GR n w=true->Dt K H w v:=by
 intro n;induction n with
 | zero=>
  intro w v r p;cases w with
  | non=>rw [Ab] at r;rw [Dt];exact r
  | bl _=>rw [Ab] at r;rw [Dt];exact r
  | int _=>rw [Ab] at r;rw [Dt];exact r
  | str _=>rw [Ab] at r;rw [Dt];exact r
  | _=>simp [GR] at p
 | succ n ih=>
  intro w v r p;cases w with
  | non=>rw [Ab] at r;rw [Dt];exact r
  | bl _=>rw [Ab] at r;rw [Dt];exact r
  | int _=>rw [Ab] at r;rw [Dt];exact r
  | str _=>rw [Ab] at r;rw [Dt];exact r
  | tup ws=>
   rw [Ab] at r;rw [Dt];obtain ⟨p',xs,e,hs,rs⟩:=r;exact ⟨p',xs,e,hs,zu ih rs<|by simpa [GR] using p⟩
  | lst ws=>
   rw [Ab] at r;rw [Dt];obtain ⟨p',xs,e,hs,rs⟩:=r;exact ⟨p',xs,e,hs.sq,zu ih rs<|by simpa [GR] using p⟩
  | _=>simp [GR] at p
theorem vG:∀ {a b:List W},a.length≠b.length->oO a b=false
 | [],[],h=>absurd rfl h
 | [],_::_,_=>by simp [oO]
 | _::_,[],_=>by simp [oO]
 | a::as,b::bs,h=>by
  rw [oO,vG (a:=as) (b:=bs) (by simpa using h),Bool.and_false]
def WW (a b:List W)(j:Nat):Bool:=Fo (a.getD j .non) (b.getD j .non)
theorem wu:∀ {a b:List W},a.length=b.length->(Lh a.length).all (WW a b)=oO a b
 | [],[],_=>by simp [oO]
 | [],_::_,h=>by simp at h
 | _::_,[],h=>by simp at h
 | a::as,b::bs,h=>by
  rw [oO,<-wu (a:=as) (b:=bs) (by simpa using h),Lk,List.range_succ_eq_map,Tt,List.all_map];rfl
mutual
theorem Et {pins:List (Addr×Obj)}{s:AP}{σ : St}(I:Ag X pins σ H s):∀ {w u:W} {v:V},Dt X.K H w v->Dt X.K H u v->Fo w u=true
 | .non,u,v,h,g=>by rw [Dt] at h;subst h;cases u <;> rw [Dt] at g <;> first | rfl | exact g.elim | (obtain ⟨_,_,g,_⟩:=g;cases g;done) | (cases g;done)
 | .bl b,u,v,h,g=>by rw [Dt] at h;subst h;cases u <;> rw [Dt] at g <;> first | (injection g with g;simp [Fo,g];done) | exact g.elim | (obtain ⟨_,_,g,_⟩:=g;cases g;done) | (cases g;done)
 | .int b,u,v,h,g=>by rw [Dt] at h;subst h;cases u <;> rw [Dt] at g <;> first | (injection g with g;simp [Fo,g];done) | exact g.elim | (obtain ⟨_,_,g,_⟩:=g;cases g;done) | (cases g;done)
 | .str b,u,v,h,g=>by rw [Dt] at h;subst h;cases u <;> rw [Dt] at g <;> first | (injection g with g;simp [Fo,g];done) | exact g.elim | (obtain ⟨_,_,g,_⟩:=g;cases g;done) | (cases g;done)
 | .tup ws,u,v,h,g=>by
  rw [Dt] at h;obtain ⟨p,xs,e,hs,ds⟩:=h;subst e;cases u with
  | tup us=>
   rw [Dt] at g;obtain ⟨p',xs',e',hs',ds'⟩:=g;cases e'
   have:=I.tuple_inj hs hs'
   subst this;rw [Fo];exact tY I ds ds'
  | lst us=>
   rw [Dt] at g;obtain ⟨p',xs',e',hs',ds'⟩:=g;cases e'
   obtain ⟨_,_,t,_⟩:=I.tuple hs;obtain ⟨_,_,l,_⟩:=I.list hs';exact absurd rfl<|VJ l.isList<|show s.heap.IsTuple _ _ from t
  | ty _=>rw [Dt] at g;exact g.elim
  | loc _=>rw [Dt] at g;exact g.elim
  | kls _=>rw [Dt] at g;exact g.elim
  | _=>rw [Dt] at g;cases g
 | .lst ws,u,v,h,g=>by
  rw [Dt] at h;obtain ⟨p,xs,e,hs,ds⟩:=h;subst e;cases u with
  | lst us=>
   rw [Dt] at g;obtain ⟨p',xs',e',hs',ds'⟩:=g;cases e'
   have:=I.list_inj hs hs'
   subst this;rw [Fo];exact tY I ds ds'
  | tup us=>
   rw [Dt] at g;obtain ⟨p',xs',e',hs',ds'⟩:=g;cases e'
   obtain ⟨_,_,t,_⟩:=I.tuple hs';obtain ⟨_,_,l,_⟩:=I.list hs;exact absurd rfl<|VJ l.isList<|show s.heap.IsTuple _ _ from t
  | ty _=>rw [Dt] at g;exact g.elim
  | loc _=>rw [Dt] at g;exact g.elim
  | kls _=>rw [Dt] at g;exact g.elim
  | _=>rw [Dt] at g;cases g
 | .ty _,_,_,h,_=>by rw [Dt] at h;exact h.elim
 | .loc _,_,_,h,_=>by rw [Dt] at h;exact h.elim
 | .exc _,_,_,h,_=>by rw [Dt] at h;exact h.elim
 | .exa _ _,_,_,h,_=>by rw [Dt] at h;exact h.elim
 | .kls _,_,_,h,_=>by rw [Dt] at h;exact h.elim
theorem tY {pins:List (Addr×Obj)}{s:AP}{σ : St}(I:Ag X pins σ H s):∀ {ws us:List W} {vs:List V},Iw X.K H ws vs->Iw X.K H us vs->oO ws us=true
 | [],us,vs,h,g=>by
  rw [Iw] at h;subst h;cases us with
  | nil=>rfl
  | cons _ _=>rw [Iw] at g;obtain ⟨_,_,g,_⟩:=g;cases g
 | w::ws,us,vs,h,g=>by
  rw [Iw] at h;obtain ⟨v,vs',e,h1,h2⟩:=h;subst e;cases us with
  | nil=>rw [Iw] at g;cases g
  | cons u us=>
   rw [Iw] at g;obtain ⟨v',vs'',e',g1,g2⟩:=g;cases e'
   rw [oO,Et I h1 g1,tY I h2 g2];rfl
end
theorem in1_units {A:Fd}:A.in1.units=A.units+1:=rfl
theorem aeN {n:Nat}{ws:List W}(h:GR n (.lst ws)=true):∃ m,n=m+1/\ws.all (GR m)=true:=by
 cases n with
 | zero=>simp [GR] at h
 | succ m=>exact ⟨m,rfl,by simpa [GR] using h⟩
theorem CT {s:AP}{A:Fd}{n:Nat}{ws us:List W}{xs ys:List V}{its jts:List Go}(d1:Iw K H ws xs)(d2:Iw K H us ys)(p1:ws.all (GR n)=true)(p2:us.all (GR n)=true)(r1:Bp xs its)(r2:Bp ys jts)
  (one:∀ {w u:W} {v x:V} {a b:Go},Dt K H w v->Dt K H u x->GR n w=true->GR n u=true->RelV v a->RelV x b->Sx A s a b (Fo w u)) :
  ∀ j (h1:j<its.toArray.size) (h2:j<jts.toArray.size),Sx A s its.toArray[j] jts.toArray[j] (WW ws us j):=by
 intro j h1 h2;have l1:j<ws.length:=by rw [d1.len,r1.length];simpa using h1
 have l2:j<us.length:=by rw [d2.len,r2.length];simpa using h2
 obtain ⟨v,ev,dv⟩:=d1.get (Kc l1);obtain ⟨x,ex,dx⟩:=d2.get (Kc l2);obtain ⟨a,ea,ra⟩:=r1.get ev;obtain ⟨b,eb,rb⟩:=r2.get ex;have ea':its.toArray[j]=a:=by simpa using (Nk.mp ea).2
 have eb':jts.toArray[j]=b:=by simpa using (Nk.mp eb).2
 have e:WW ws us j=Fo ws[j] us[j]:=by
  unfold WW;rw [Rb,Rb,Kc l1,Kc l2];rfl
 rw [ea',eb',e];exact one dv dx (Q0.mp p1 _<|UG l1) (Q0.mp p2 _<|UG l2) ra rb
theorem size_of {ws:List W}{xs:List V}{its:List Go}(d:Iw K H ws xs)(r:Bp xs its):its.toArray.size=ws.length:=by
 rw [d.len,r.length];simp
theorem aeW {ws us:List W}:((Lh (min ws.length us.length)).all (WW ws us)&&ws.length==us.length)=oO ws us:=by
 by_cases e:ws.length=us.length
 ·rw [<-e,Nat.min_self,wu e];simp
 ·rw [vG e];have e2:(ws.length==us.length)=false:=beq_eq_false_iff_ne.mpr e;rw [e2,Bool.and_false]
inductive Kd (s:AP):W->Go->Prop where
 | non:Kd s .non .none
 | bl (b:Bool):Kd s (.bl b) (.bool b)
 | int (i:Int) (t:Tok):Kd s (.int i) (.int i t)
 | str (x:Str) (t:Tok):Kd s (.str x) (.str x t)
 | tup (ws:List W) {p:Addr} {its:Array Go} (q:s.heap.IsTuple p its):Kd s (.tup ws) (.ref p)
 | lst (ws:List W) {p:Addr} {its:Array Go} (q:s.heap.IsList p its):Kd s (.lst ws) (.ref p)
theorem zm {pins:List (Addr×Obj)}{s:AP}{σ : St}(I:Ag X pins σ H s){w:W}{v:V}{a:Go}(d:Dt X.K H w v)(r:RelV v a):Kd s w a:=by
 cases w with
 | non=>rw [Dt] at d;subst d;cases r;exact .non
 | bl b=>rw [Dt] at d;subst d;cases r;exact .bl b
 | int b=>rw [Dt] at d;subst d;obtain ⟨t,rfl⟩:=r;exact .int b t
 | str b=>rw [Dt] at d;subst d;obtain ⟨t,rfl⟩:=r;exact .str b t
 | tup ws=>rw [Dt] at d;obtain ⟨p,xs,e,hs,_⟩:=d;subst e;cases r;obtain ⟨its,_,q,_⟩:=I.tuple hs;exact .tup ws q
 | lst ws=>rw [Dt] at d;obtain ⟨p,xs,e,hs,_⟩:=d;subst e;cases r;obtain ⟨its,_,q,_⟩:=I.list hs;exact .lst ws q.isList
 | _=>rw [Dt] at d;exact d.elim
def sq1:W->Bool
 | .tup _=>true
 | .lst _=>true
 | _=>false
def rW:W->W->Bool
 | .tup _,.tup _=>true
 | .lst _,.lst _=>true
 | _,_=>false
def aai (w u:W):Bool:=!(sq1 w||sq1 u)
open SeqAt.EqAt in
theorem Ql {s:AP}{A:Fd}{w u:W}{a b:Go}(hu:A.units<Jd)(k1:Kd s w a)(k2:Kd s u b)(h:rW w u=false)(f:aai w u=false):Sx A s a b (Fo w u):=by
 cases k1 <;> cases k2 <;> try (first | (cases h;done) | (cases f;done))
 ·apply none_tuple <;> assumption
 ·apply none_list <;> assumption
 ·apply bool_tuple <;> assumption
 ·apply bool_list <;> assumption
 ·apply int_tuple <;> assumption
 ·apply int_list <;> assumption
 ·apply str_tuple <;> assumption
 ·apply str_list <;> assumption
 ·apply tuple_none <;> assumption
 ·apply tuple_bool <;> assumption
 ·apply tuple_int <;> assumption
 ·apply tuple_str <;> assumption
 ·apply tuple_list <;> assumption
 ·apply list_none <;> assumption
 ·apply list_bool <;> assumption
 ·apply list_int <;> assumption
 ·apply list_str <;> assumption
 ·apply list_tuple <;> assumption
open SeqAt.RcAt in
theorem Zz {s:AP}{A:Fd}{w u:W}{a b:Go}(hu:A.units<Jd)(k1:Kd s w a)(k2:Kd s u b)(h:rW w u=false):SeqAt.RcAt A s a b (Fo w u):=by
 cases k1 <;> cases k2 <;> try (first | (cases h;done))
 ·apply none_none <;> assumption
 ·apply none_bool <;> assumption
 ·apply none_int <;> assumption
 ·apply none_str <;> assumption
 ·apply none_tuple <;> assumption
 ·apply none_list <;> assumption
 ·apply bool_none <;> assumption
 ·apply bool_bool <;> assumption
 ·apply bool_int <;> assumption
 ·apply bool_str <;> assumption
 ·apply bool_tuple <;> assumption
 ·apply bool_list <;> assumption
 ·apply int_none <;> assumption
 ·apply int_bool <;> assumption
 ·apply int_int <;> assumption
 ·apply int_str <;> assumption
 ·apply int_tuple <;> assumption
 ·apply int_list <;> assumption
 ·apply str_none <;> assumption
 ·apply str_bool <;> assumption
 ·apply str_int <;> assumption
 ·apply str_str <;> assumption
 ·apply str_tuple <;> assumption
 ·apply str_list <;> assumption
 ·apply tuple_none <;> assumption
 ·apply tuple_bool <;> assumption
 ·apply tuple_int <;> assumption
 ·apply tuple_str <;> assumption
 ·apply tuple_list <;> assumption
 ·apply list_none <;> assumption
 ·apply list_bool <;> assumption
 ·apply list_int <;> assumption
 ·apply list_str <;> assumption
 ·apply list_tuple <;> assumption
open SeqAt.RcNeAt in
theorem agp {s:AP}{A:Fd}{w u:W}{a b:Go}(hu:A.units<Jd)(k1:Kd s w a)(k2:Kd s u b)(h:rW w u=false):SeqAt.RcNeAt A s a b (!Fo w u):=by
 cases k1 <;> cases k2 <;> try (first | (cases h;done))
 ·apply none_none <;> assumption
 ·apply none_bool <;> assumption
 ·apply none_int <;> assumption
 ·apply none_str <;> assumption
 ·apply none_tuple <;> assumption
 ·apply none_list <;> assumption
 ·apply bool_none <;> assumption
 ·apply bool_bool <;> assumption
 ·apply bool_int <;> assumption
 ·apply bool_str <;> assumption
 ·apply bool_tuple <;> assumption
 ·apply bool_list <;> assumption
 ·apply int_none <;> assumption
 ·apply int_bool <;> assumption
 ·apply int_int <;> assumption
 ·apply int_str <;> assumption
 ·apply int_tuple <;> assumption
 ·apply int_list <;> assumption
 ·apply str_none <;> assumption
 ·apply str_bool <;> assumption
 ·apply str_int <;> assumption
 ·apply str_str <;> assumption
 ·apply str_tuple <;> assumption
 ·apply str_list <;> assumption
 ·apply tuple_none <;> assumption
 ·apply tuple_bool <;> assumption
 ·apply tuple_int <;> assumption
 ·apply tuple_str <;> assumption
 ·apply tuple_list <;> assumption
 ·apply list_none <;> assumption
 ·apply list_bool <;> assumption
 ·apply list_int <;> assumption
 ·apply list_str <;> assumption
 ·apply list_tuple <;> assumption
theorem zM:∀ {w u:W},rW w u=true->(∃ ws us,w=.tup ws/\u=.tup us)\/∃ ws us,w=.lst ws/\u=.lst us
 | .tup ws,.tup us,_=>.inl ⟨ws,us,rfl,rfl⟩
 | .lst ws,.lst us,_=>.inr ⟨ws,us,rfl,rfl⟩
def wV:V->W
 | .bl b=>.bl b
 | .int b=>.int b
 | .str b=>.str b
 | _=>.non
theorem aap {v x:V}(h:ou v=true)(g:ou x=true):Fo (wV v) (wV x)=QK v x:=by
 cases v <;> first | (cases h;done) | (cases x <;> first | (cases g;done) | rfl)
theorem Qz {w:W}{v:V}(d:Dt K H w v)(h:sq1 w=false):ou v=true/\w=wV v:=by
 cases w with
 | tup _=>cases h
 | lst _=>cases h
 | non=>rw [Dt] at d;subst d;exact ⟨rfl,rfl⟩
 | bl _=>rw [Dt] at d;subst d;exact ⟨rfl,rfl⟩
 | int _=>rw [Dt] at d;subst d;exact ⟨rfl,rfl⟩
 | str _=>rw [Dt] at d;subst d;exact ⟨rfl,rfl⟩
 | _=>rw [Dt] at d;exact d.elim
theorem Ow {s:AP}{A:Fd}{w u:W}{v x:V}{a b:Go}(dw:Dt K H w v)(du:Dt K H u x)(hf:aai w u=true)(ra:RelV v a)(rb:RelV x b):Sx A s a b (Fo w u):=by
 have hf:=Bool.or_eq_false_iff.mp (Eq.mp (Bool.not_eq_true' _) hf);have ⟨f1,e1⟩:=Qz dw hf.1;have ⟨f2,e2⟩:=Qz du hf.2;rw [e1,e2,aap f1 f2];exact Pz ra rb f1 f2
theorem QF {pins:List (Addr×Obj)}{s:AP}{σ : St}(I:Ag X pins σ H s){n:Nat}{A:Fd}{w u:W}{v x:V}{a b:Go}(ih:∀ {w u:W} {v x:V} {a b:Go},Dt X.K H w v->Dt X.K H u x->GR n w=true->GR n u=true->RelV v a->RelV x b->Sx A.in1 s a b (Fo w u))(hu:A.units<Jd)(h2:rW w u=true)(dw:Dt X.K H w v)(du:Dt X.K H u x)(pw:GR (n+1) w=true)(pu:GR (n+1) u=true)(ra:RelV v a)(rb:RelV x b):∃ p q,v=.ref p/\x=.ref q/\a=.ref p/\b=.ref q/\SeqAt.RcAt A s a b (Fo w u)/\SeqAt.RcNeAt A s a b (!Fo w u):=by
 rcases zM h2 with ⟨ws,us,rfl,rfl⟩ | ⟨ws,us,rfl,rfl⟩ <;> rw [Dt] at dw du <;> obtain ⟨p,xs1,rfl,hs1,ds1⟩:=dw <;> obtain ⟨q,xs2,rfl,hs2,ds2⟩:=du <;> cases ra <;> cases rb <;> refine ⟨p,q,rfl,rfl,rfl,rfl,?_⟩ <;> rw [Fo] <;> rw [GR] at pw pu
 ·obtain ⟨its1,rv1,q1,_⟩:=I.tuple hs1;obtain ⟨its2,rv2,q2,_⟩:=I.tuple hs2;have it:=CT ds1 ds2 pw pu rv1 rv2 ih;rw [<-aeW,<-size_of ds1 rv1,<-size_of ds2 rv2];exact ⟨.tuples q1 q2 hu it,.tuples q1 q2 hu it⟩
 ·obtain ⟨its1,rv1,q1,_⟩:=I.list hs1;obtain ⟨its2,rv2,q2,_⟩:=I.list hs2;by_cases hl:ws.length=us.length
  ·have it:=CT ds1 ds2 pw pu rv1 rv2 ih;have e:its1.toArray.size=its2.toArray.size:=by rw [size_of ds1 rv1,size_of ds2 rv2,hl]
   rw [<-wu hl,<-size_of ds1 rv1];exact ⟨.lists q1.isList q2.isList e hu it,.lists q1.isList q2.isList e hu it⟩
  ·rw [vG hl];have e:(its1.toArray.size != its2.toArray.size)=true:=by rw [size_of ds1 rv1,size_of ds2 rv2];exact bne_iff_ne.mpr hl
   exact ⟨.lists_lengths q1.isList q2.isList e hu,.lists_lengths q1.isList q2.isList e hu⟩
theorem Kq {w u:W}(h:rW w u=true):∀ {n:Nat},GR n w=true->∃ m,n=m+1
 | 0,p=>by rcases zM h with ⟨_,_,rfl,_⟩ | ⟨_,_,rfl,_⟩ <;> cases p
 | m+1,_=>⟨m,rfl⟩
theorem Xj {pins:List (Addr×Obj)}{s:AP}{σ : St}(I:Ag X pins σ H s):∀ (n:Nat) {A:Fd} {w u:W} {v x:V} {a b:Go},A.units+n<Jd->Dt X.K H w v->Dt X.K H u x->GR n w=true->GR n u=true->RelV v a->RelV x b->Sx A s a b (Fo w u):=by
 intro n;induction n with
 | zero=>
  intro A w u v x a b hu dw du pw pu ra rb;by_cases hf:aai w u=true
  ·exact Ow dw du hf ra rb
  by_cases h2:rW w u=true
  ·obtain ⟨m,e⟩:=Kq h2 pw;cases e
  ·exact Ql hu (zm I dw ra) (zm I du rb) (U8 _ ▸ h2)<|U8 _ ▸ hf
 | succ n ih=>
  intro A w u v x a b hu dw du pw pu ra rb;by_cases hf:aai w u=true
  ·exact Ow dw du hf ra rb
  by_cases h2:rW w u=true
  ·have hu':=TQ (Nat.le_add_right _ _) hu;obtain ⟨p,q,rfl,rfl,rfl,rfl,z,_⟩:=QF I (ih (A:=A.in1) (by rw [in1_units,Nat.add_assoc,Nat.add_comm 1];exact hu)) hu' h2 dw du pw pu ra rb;by_cases hp:p=q
   ·subst hp;rw [Et I dw du];exact SeqAt.EqAt.same _
   ·exact SeqAt.EqAt.of_refs hp z
  ·exact Ql (TQ (Nat.le_add_right _ _) hu) (zm I dw ra) (zm I du rb) (U8 _ ▸ h2)<|U8 _ ▸ hf
theorem rcN {pins:List (Addr×Obj)}{s:AP}{σ : St}(I:Ag X pins σ H s){m:Nat}{A:Fd}{w u:W}{v x:V}{a b:Go}{p:Prop}(hu:A.units+(m+1)<Jd)(hu':A.units<Jd)(h2:rW w u=true)(dw:Dt X.K H w v)(du:Dt X.K H u x)(pw:GR (m+1) w=true)(pu:GR (m+1) u=true)(ra:RelV v a)(rb:RelV x b)(f:SeqAt.RcAt A s a b (Fo w u)/\SeqAt.RcNeAt A s a b (!Fo w u)->p):p:=by
 obtain ⟨_,_,_,_,_,_,z⟩:=QF I (Xj I m (A:=A.in1) (by rw [in1_units,Nat.add_assoc,Nat.add_comm 1];exact hu)) hu' h2 dw du pw pu ra rb;exact f z
theorem abH {pins:List (Addr×Obj)}{s:AP}{σ : St}(I:Ag X pins σ H s)(n:Nat){A:Fd}{w u:W}{v x:V}{a b:Go}(hu:A.units+n<Jd)(dw:Dt X.K H w v)(du:Dt X.K H u x)(pw:GR n w=true)(pu:GR n u=true)(ra:RelV v a)(rb:RelV x b):SeqAt.RcAt A s a b (Fo w u):=by
 have hu':=TQ (Nat.le_add_right _ _) hu;by_cases h2:rW w u=true
 ·obtain ⟨m,rfl⟩:=Kq h2 pw;exact rcN I hu hu' h2 dw du pw pu ra rb (·.1)
 ·exact Zz hu' (zm I dw ra) (zm I du rb)<|U8 _ ▸ h2
theorem zbL {pins:List (Addr×Obj)}{s:AP}{σ : St}(I:Ag X pins σ H s)(n:Nat){A:Fd}{w u:W}{v x:V}{a b:Go}(hu:A.units+n<Jd)(dw:Dt X.K H w v)(du:Dt X.K H u x)(pw:GR n w=true)(pu:GR n u=true)(ra:RelV v a)(rb:RelV x b):SeqAt.RcNeAt A s a b (!Fo w u):=by
 have hu':=TQ (Nat.le_add_right _ _) hu;by_cases h2:rW w u=true
 ·obtain ⟨m,rfl⟩:=Kq h2 pw;exact rcN I hu hu' h2 dw du pw pu ra rb (·.2)
 ·exact agp hu' (zm I dw ra) (zm I du rb)<|U8 _ ▸ h2
def Mz (h:Gh):W->Option W
 | .loc n=>(match h.c n with
  | some (.lst ws)=>Dn (.lst ws)
  | _=>FX)
 | w=>Dn w
theorem vf {w d:W}{v:V}{n:Nat}(R:Fi K μ H h)(r:Ab K H μ w v)(e:Mz h w=Dn d)(p:GR n d=true):Dt K H d v:=by
 have other:Mz h w=Dn w->Dt K H d v:=fun z=>by
  rw [z] at e;cases e;exact N8 n r p
 cases w with
 | loc m=>
  unfold Mz at e;dsimp only at e;cases ec:h.c m with
  | none=>rw [ec] at e;cases e
  | some cl=>
   rw [ec] at e;cases cl with
   | lst us=>
    cases (show Dn (W.lst us)=Dn d from e)
    obtain ⟨p',xs,hm',hx,rs⟩:=R.lstAt ec;rw [Ab] at r;obtain ⟨q,ev,hm⟩:=r;have ep:p'=q:=by rw [hm] at hm';exact (HS hm').symm
    subst ep;obtain ⟨k,rfl,p⟩:=aeN p;rw [Dt];exact ⟨p',xs,ev,.of hx,zu (N8 k) rs p⟩
   | _=>cases e
 | _=>exact other rfl
def ac0 (K:Ai)(neg:Bool):R2:=fun x y H Q=>∃ w u,Dt K H w x/\Dt K H u y/\GR 30 w=true/\GR 30 u=true/\Q (.bl (if neg then !Fo w u else Fo w u)) H
theorem agN (hu:X.A.units+30<Jd):Jt X (Lz .Eq) (ac0 X.K false):=by
 intro pins s σ H x y v u Q I rx ry ⟨w,w',d1,d2,p1,p2,q⟩;exact abH I 30 hu d1 d2 p1 p2 rx ry X.prog X.w X.xe _<|BR I q rfl
theorem Y7 (hu:X.A.units+30<Jd):Jt X (Lz .NotEq) (ac0 X.K true):=by
 intro pins s σ H x y v u Q I rx ry ⟨w,w',d1,d2,p1,p2,q⟩;exact zbL I 30 hu d1 d2 p1 p2 rx ry X.prog X.w X.xe _<|BR I q rfl
def JV:M2:=fun x y h Q=>match Mz h x,Mz h y with
 | some a,Dn b=>Hi (GR 30 a&&GR 30 b) (Q (.bl (Fo a b)) h) False
 | _,_=>False
def JG:M2:=fun x y h Q=>match Mz h x,Mz h y with
 | some a,Dn b=>Hi (GR 30 a&&GR 30 b) (Q (.bl (!Fo a b)) h) False
 | _,_=>False
theorem ug (hu:X.A.units+30<Jd):M6 X (Lz .Eq) JV:=⟨_,agN hu,by
 intro H μ h x y wx wy Qw Q R rx ry m k;unfold JV at m;split at m
 ·rename_i a b ea eb;cases hp:(GR 30 a&&GR 30 b) with
  | true=>
   rw [hp] at m;rw [Nh] at hp;exact ⟨a,b,vf R rx ea hp.1,vf R ry eb hp.2,hp.1,hp.2,k _ _<|.bl R m⟩
  | false=>rw [hp] at m;exact (show False from m).elim
 ·exact m.elim⟩
theorem zO (hu:X.A.units+30<Jd):M6 X (Lz .NotEq) JG:=⟨_,Y7 hu,by
 intro H μ h x y wx wy Qw Q R rx ry m k;unfold JG at m;split at m
 ·rename_i a b ea eb;cases hp:(GR 30 a&&GR 30 b) with
  | true=>
   rw [hp] at m;rw [Nh] at hp;exact ⟨a,b,vf R rx ea hp.1,vf R ry eb hp.2,hp.1,hp.2,k _ _<|.bl R m⟩
  | false=>rw [hp] at m;exact (show False from m).elim
 ·exact m.elim⟩
theorem ad0 {A:Fd}{k:Nat}(hr:mW k A):A.units+30<Jd:=by have:=hr.units;lia
end
section
variable {X:Cx}{K:Ai}
theorem kE {H:Hp}{μ : Mu}{w:W}{vs:List V}(r:aM K H μ [w] vs):∃ v,vs=[v]/\Ab K H μ w v:=by
 rw [aM] at r;obtain ⟨v,vr,ev,ra,r⟩:=r;rw [aM] at r;subst r;exact ⟨v,ev,ra⟩
theorem WX {H:Hp}{μ : Mu}{w u:W}{vs:List V}(r:aM K H μ [w,u] vs):∃ v x,vs=[v,x]/\Ab K H μ w v/\Ab K H μ u x:=by
 rw [aM] at r;obtain ⟨v,vr,ev,ra,r⟩:=r;obtain ⟨x,e,rb⟩:=kE r;subst e;exact ⟨v,x,ev,ra,rb⟩
theorem fB.of {i j:Int}{m n:Nat}(hi:Sm m i)(hj:Sm n j)(hm:m<=1000000)(hn:n<=1000000):fB i j:=⟨m,n,hm,hn,hi,hj⟩
theorem Sm.lit {i:Int}(h:RM (i.natAbs+1) (2^64)=true):Sm 64 i:=by
 have:=Oh h
 unfold Sm;lia
def LR:MC:=fun ws h Q=>match ws with
 | [w]=>(match view h w with
  | some xs=>Q (.int (xs.length:Int)) h
  | none=>False)
 | _=>False
theorem Oc:m7 X (.builtin "len") LR:=⟨_,zE,by
 intro H μ h vs ws Qw Q R r m k;unfold LR at m;split at m
 ·split at m
  ·rename_i w _ xs ev;obtain ⟨v,e,rv⟩:=kE r;obtain ⟨p,ys,ex,hs,rs⟩:=vJ R rv ev;subst e ex;exact ⟨p,ys,rfl,hs,by rw [<-rs.len];exact k _ _ (.int R m)⟩
  ·exact m.elim
 ·exact m.elim⟩
def Ds:MC:=fun ws h Q=>match ws with
 | [.int i]=>Q (.int (if i<0 then -i else i)) h
 | _=>False
theorem zX:m7 X (.builtin "abs") Ds:=⟨_,afO,by
 intro H μ h vs ws Qw Q R r m k;unfold Ds at m;split at m
 ·obtain ⟨v,e,rv⟩:=kE r;rw [Ab] at rv;subst e rv;exact ⟨_,rfl,k _ _<|.int R m⟩
 ·exact m.elim⟩
def Km:List W->Option (List Bool)
 | []=>Dn []
 | .bl b::ws=>(Km ws).map (b::·)
 | _=>FX
theorem Ax {H:Hp}{μ : Mu}:∀ {ws:List W} {xs:List V} {bs:List Bool},aM K H μ ws xs->Km ws=Dn bs->xs=bs.map V.bl
 | [],xs,bs,r,e=>by
  rw [aM] at r;cases (show Dn []=Dn bs from e)
  exact r
 | w::ws,xs,bs,r,e=>by
  rw [aM] at r;obtain ⟨v,vr,ev,ra,r⟩:=r;cases w with
  | bl b=>
   rw [Ab] at ra;rw [Km] at e;cases q:Km ws with
   | none=>rw [q] at e;cases e
   | some cs=>
    rw [q] at e;cases (show Dn (b::cs)=Dn bs from e)
    rw [ev,ra,Ax r q];rfl
  | _=>cases e
def Ye:MC:=fun ws h Q=>match ws with
 | [w]=>(match cG h w with
  | some us=>(match Km us with
   | some bs=>Q (.bl (bs.all id)) h
   | none=>False)
  | none=>False)
 | _=>False
theorem abM (hc:X.calm=true):m7 X (.builtin "all") Ye:=⟨_,zaL hc,by
 intro H μ h vs ws Qw Q R r m k;unfold Ye at m;split at m
 ·split at m
  ·split at m
   ·rename_i w _ us ev _ bs eb;obtain ⟨v,e,rv⟩:=kE r;obtain ⟨p,ys,ex,hs,rs⟩:=cA R rv ev;subst e ex;exact ⟨p,bs,rfl,by rw [<-Ax rs eb];exact hs,k _ _<|.bl R m⟩
   ·exact m.elim
  ·exact m.elim
 ·exact m.elim⟩
def aag (h:Gh)(w:W)(T:String):Option Bool:=match w with
 | .int _=>if T = "int" then Dn true else if T = "bool"\/T = "tuple"\/T = "list" then Dn false else FX
 | .bl _=>if T = "int"\/T = "bool" then Dn true else if T = "tuple"\/T = "list" then Dn false else FX
 | .str _=>if T = "int"\/T = "bool"\/T = "tuple"\/T = "list" then Dn false else FX
 | .non=>if T = "int"\/T = "bool"\/T = "tuple"\/T = "list" then Dn false else FX
 | .tup _=>if T = "tuple" then Dn true else if T = "int"\/T = "bool"\/T = "list" then Dn false else FX
 | w=>(match cG h w with
  | some _=>if T = "list" then Dn true else if T = "int"\/T = "bool"\/T = "tuple" then Dn false else FX
  | none=>FX)
theorem ahi {H:Hp}{μ : Mu}{h:Gh}{w:W}{v:V}{T:String}{b:Bool}(R:Fi K μ H h)(r:Ab K H μ w v)(e:aag h w T=Dn b):acM K H v T b:=by
 unfold aag at e;split at e
 ·rw [Ab] at r;subst r;split at e
  ·rename_i t;subst t;cases e;exact .inl ⟨rfl,rfl⟩
  ·split at e
   ·rename_i t;cases e;rcases t with t | t | t <;> subst t
    ·exact .inr<|.inl ⟨rfl,rfl⟩
    ·exact .inr<|.inr<|.inl ⟨rfl,rfl⟩
    ·exact .inr<|.inr<|.inr ⟨rfl,rfl⟩
   ·cases e
 ·rw [Ab] at r;subst r;split at e
  ·rename_i t;cases e;rcases t with t | t <;> subst t
   ·exact .inl ⟨rfl,rfl⟩
   ·exact .inr<|.inl ⟨rfl,rfl⟩
  ·split at e
   ·rename_i t;cases e;rcases t with t | t <;> subst t
    ·exact .inr<|.inr<|.inl ⟨rfl,rfl⟩
    ·exact .inr<|.inr<|.inr ⟨rfl,rfl⟩
   ·cases e
 ·rw [Ab] at r;subst r;split at e
  ·rename_i t;cases e;rcases t with t | t | t | t <;> subst t
   ·exact .inl ⟨rfl,rfl⟩
   ·exact .inr<|.inl ⟨rfl,rfl⟩
   ·exact .inr<|.inr<|.inl ⟨rfl,rfl⟩
   ·exact .inr<|.inr<|.inr ⟨rfl,rfl⟩
  ·cases e
 ·rw [Ab] at r;subst r;split at e
  ·rename_i t;cases e;rcases t with t | t | t | t <;> subst t
   ·exact .inl ⟨rfl,rfl⟩
   ·exact .inr<|.inl ⟨rfl,rfl⟩
   ·exact .inr<|.inr<|.inl ⟨rfl,rfl⟩
   ·exact .inr<|.inr<|.inr ⟨rfl,rfl⟩
  ·cases e
 ·rw [Ab] at r;obtain ⟨p,xs,ev,hs,_⟩:=r;subst ev;refine .inl ⟨xs,hs,?_⟩;split at e
  ·rename_i t;subst t;cases e;exact .inr (.inr (.inl ⟨rfl,rfl⟩))
  ·split at e
   ·rename_i t;cases e;rcases t with t | t | t <;> subst t
    ·exact .inl ⟨rfl,rfl⟩
    ·exact .inr<|.inl ⟨rfl,rfl⟩
    ·exact .inr<|.inr<|.inr ⟨rfl,rfl⟩
   ·cases e
 ·split at e
  ·rename_i ws ev;obtain ⟨p,xs,ex,hs,_⟩:=cA R r ev;subst ex;refine .inr ⟨xs,hs,?_⟩;split at e
   ·rename_i t;subst t;cases e;exact .inr (.inr (.inr ⟨rfl,rfl⟩))
   ·split at e
    ·rename_i t;cases e;rcases t with t | t | t <;> subst t
     ·exact .inl ⟨rfl,rfl⟩
     ·exact .inr<|.inl ⟨rfl,rfl⟩
     ·exact .inr<|.inr<|.inl ⟨rfl,rfl⟩
    ·cases e
  ·cases e
def Zw:MC:=fun ws h Q=>match ws with
 | [w,.ty T]=>(match aag h w T with
  | some b=>Q (.bl b) h
  | none=>False)
 | _=>False
theorem abX:m7 X (.builtin "isinstance") Zw:=⟨_,aht,by
 intro H μ h vs ws Qw Q R r m k;unfold Zw at m;split at m
 ·split at m
  ·rename_i w T _ b eb;obtain ⟨v,x,e,rv,rx⟩:=WX r;have hi:=ahi R rv eb;rw [Ab] at rx;subst e rx;exact ⟨v,T,b,rfl,hi,k _ _<|.bl R m⟩
  ·exact m.elim
 ·exact m.elim⟩
def yS:MC:=fun ws h Q=>match ws with
 | [.tup us]=>Q (.tup us) h
 | [w]=>(match cG h w with
  | some us=>Q (.tup us) h
  | none=>False)
 | _=>False
theorem Ih:m7 X (.type "tuple") yS:=⟨_,vW,by
 intro H μ h vs ws Qw Q R r m k;unfold yS at m;split at m
 ·obtain ⟨v,e,rv⟩:=kE r;have rv':=rv;rw [Ab] at rv;obtain ⟨p,xs,ex,hs,rs⟩:=rv;subst e ex;exact ⟨p,xs,rfl,.inr ⟨hs,k _ _ ⟨μ,_,h,.refl,R,rv',m⟩⟩⟩
 ·split at m
  ·rename_i w _ _ us ev;obtain ⟨v,e,rv⟩:=kE r;obtain ⟨p,ys,ex,hs,rs⟩:=cA R rv ev;subst e ex;exact ⟨p,ys,rfl,.inl ⟨hs,fun l hl=>k _ _ ⟨μ,_,h,(Ex.laid hl).ext,R.laid hl,.tupNew hl rs,m⟩⟩⟩
  ·exact m.elim
 ·exact m.elim⟩
def xq:MC:=fun ws h Q=>match ws with
 | [w]=>(match view h w with
  | some us=>Q (.lst us) h
  | none=>False)
 | _=>False
theorem yZ:m7 X (.type "list") xq:=⟨_,zj,by
 intro H μ h vs ws Qw Q R r m k;unfold xq at m;split at m
 ·split at m
  ·rename_i w _ xs ev;obtain ⟨v,e,rv⟩:=kE r;obtain ⟨p,ys,ex,hs,rs⟩:=vJ R rv ev;subst e ex;exact ⟨p,ys,rfl,hs,fun l hl=>k _ _ ⟨μ,_,h,(Ex.laid hl).ext,R.laid hl,.lstNew R hl rs,m⟩⟩
  ·exact m.elim
 ·exact m.elim⟩
abbrev MM:=W->List W->Gh->WK->Prop
def aae (K:Ai)(r:V->List V->Hp->VK->Prop)(mr:MM):Prop:=∀ {H:Hp} {μ : Mu} {h:Gh} {x:V} {vs:List V} {wx:W} {ws:List W} {Qw:WK} {Q:VK},Fi K μ H h->Ab K H μ wx x->aM K H μ ws vs->mr wx ws h Qw->(∀ v H',DQ K H μ Qw v H'->Q v H')->r x vs H Q
def Fz (h:Gh)(w:W)(P:Prop):Prop:=match w with
 | .loc n=>(match h.c n with
  | some (.lst _)=>P
  | _=>False)
 | _=>False
theorem El {H:Hp}{μ : Mu}{h:Gh}{w:W}{v:V}{P:Prop}(R:Fi K μ H h)(r:Ab K H μ w v)(e:Fz h w P):tyV K "list" v H/\P:=by
 unfold Fz at e;split at e
 ·split at e
  ·rename_i n _ ws ec;rw [Ab] at r;obtain ⟨p,ev,hm⟩:=r;obtain ⟨p',xs,hm',hx,rs⟩:=R.lstAt ec;have ep:p'=p:=by rw [hm] at hm';exact (HS hm').symm
   subst ep ev;exact ⟨.inl ⟨rfl,xs,.of hx⟩,e⟩
  ·exact e.elim
 ·exact e.elim
def wg (r:MM)(mo:ME)(ma:MA):ME:=fun σ h Q=>mo σ h fun x h1=>Fz h1 x (ma σ h1 fun xs h2=>r x xs h2 Q)
variable {o e:Expr}{es:List Expr}{mo:ME}{ma:MA}{name:Str}{apos cpos:Pos}{id:String}{r:V->List V->Hp->VK->Prop}{mr:MM}
theorem acn (slot:Slot "list" name id)(hty:typeOf (.builtin id)=pure (.type "method_descriptor"))(hm:MtR X id r)(hs:aae X.K r mr)(ho:DE X o mo)(ha:KH X (e::es) ma)
  (hbase:TX o name X.env (eval o X.env)=eval o X.env:=by rfl)
  (hfew:((KR cpos (Fv (e::es) X.env)).all (fun x=>!x.1)&&(backToKw cpos (Tw [] X.env)).all (fun x=>x.1.isSome)
   && decide ((e::es).length+([]:List Od).length+(if ([]:List Od).isEmpty then 0 else 1)<30))=true:=by rfl)
  (hline:(apos.endLine==cpos.line)=true:=by rfl) (hst:Fv (e::es) X.env=(false,eval e X.env)::Fv es X.env:=by rfl) (hplain:(KR cpos (Fv es X.env)).any (·.1)=false:=by rfl) :
  DE X (.Call (.Attribute o name apos) (e::es) [] cpos) (wg mr mo ma):=(Wr PySem.F.plainAttrs_list slot hty hm ho ha hbase hfew hline hst hplain).of fun σ H Q ⟨μ,h,σw,Qw,R,S,m,k⟩=>by
 refine ⟨μ,h,σw,_,R,S,m,fun v H1 ⟨μ1,w,h1,e1,R1,r1,il⟩=>⟨(El R1 r1 il).1,?_⟩⟩;have m1:=(El R1 r1 il).2;exact ⟨μ1,h1,σw,_,R1,S.ext e1,m1,fun vs H2 ⟨μ2,ws,h2,e2,R2,r2,m2⟩=>hs R2 (e2.r _ _ r1) r2 m2 fun v H' z=>k _ _<|(z.trans e2).trans e1⟩
def cI:MM:=fun x ws h Q=>match x,ws with
 | .loc n,[w]=>(match h.c n with
  | some (.lst us)=>us.length<Gb/\Q .non (h.set n (.lst (us++[w])))
  | _=>False)
 | _,_=>False
theorem Vc {H:Hp}{μ : Mu}{h:Gh}{n:Nat}{v:V}{us:List W}(R:Fi K μ H h)(r:Ab K H μ (.loc n) v)(ec:h.c n=Dn (.lst us)):∃ p xs,v=.ref p/\μ.f n=Dn p/\H p=Dn (.lst xs)/\aM K H μ us xs:=by
 rw [Ab] at r;obtain ⟨p,ev,hm⟩:=r;obtain ⟨p',xs,hm',hx,rs⟩:=R.lstAt ec;have ep:p'=p:=by rw [hm] at hm';exact (HS hm').symm
 subst ep;exact ⟨p',xs,ev,hm,hx,rs⟩
theorem DQ.wrote {H:Hp}{μ : Mu}{h:Gh}{n:Nat}{p:Addr}{us:List W}{xs:List V}{Q:WK}{w:W}{v:V}(R:Fi K μ H h)(hm:μ.f n=Dn p)(rs:aM K H μ us xs)(rw':Ab K H μ w v)(q:Q w (h.set n (.lst us))):DQ K H μ Q v (Fy H p (.lst xs)):=
 ⟨μ,w,h.set n (.lst us),(Ex.write R hm).ext,R.write hm trivial ⟨xs,bQ,(Ex.write R hm).ext.s rs⟩,(Ex.write R hm).ext.r _ _ rw',q⟩
theorem zbg:aae K Js cI:=by
 intro H μ h x vs wx ws Qw Q R rx rs m k;unfold cI at m;split at m
 ·split at m
  ·rename_i n w _ us ec;obtain ⟨p,xs,ex,hm,hx,r1⟩:=Vc R rx ec;obtain ⟨v,ev,rv⟩:=kE rs;exact ⟨p,xs,v,ex,ev,hx,by rw [<-r1.len];exact m.1,k _ _<|.wrote R hm (r1.append<|.one rv) (by rw [Ab]) m.2⟩
  ·exact m.elim
 ·exact m.elim
theorem iz (ho:DE X o mo)(ha:KH X [e] ma)
  (hbase:TX o "append" X.env (eval o X.env)=eval o X.env:=by rfl)
  (hfew:((KR cpos (Fv [e] X.env)).all (fun x=>!x.1)&&(backToKw cpos (Tw [] X.env)).all (fun x=>x.1.isSome)
   && decide (([e]:List Expr).length+([]:List Od).length+(if ([]:List Od).isEmpty then 0 else 1)<30))=true:=by rfl)
  (hline:(apos.endLine==cpos.line)=true:=by rfl) (hst:Fv [e] X.env=(false,eval e X.env)::Fv [] X.env:=by rfl) (hplain:(KR cpos (Fv [] X.env)).any (·.1)=false:=by rfl) :
  DE X (.Call (.Attribute o "append" apos) [e] [] cpos) (wg cI mo ma):=acn PySem.F.slot_list_append PySem.F.type_list_append yJ zbg ho ha hbase hfew hline hst hplain
end
section
variable {X:Cx}{K:Ai}
theorem YB:Jt X (Lz .Is) (fun x y H Q=>∃ c b,x=.bl c/\y=.bl b/\Q (.bl (c==b)) H):=by
 intro pins s σ H x y v u Q I rx ry ⟨c,b,ex,ey,q⟩;subst ex ey;cases rx;cases ry;exact is_bool<|BR I q rfl
def Um:W->Bool
 | .non=>true
 | _=>false
theorem afS {H:Hp}{μ : Mu}{w:W}{v:V}(r:Ab K H μ w v):decide (v=.non)=Um w:=by
 cases w with
 | non=>rw [Ab] at r;subst r;rfl
 | bl _=>rw [Ab] at r;subst r;rfl
 | int _=>rw [Ab] at r;subst r;rfl
 | str _=>rw [Ab] at r;subst r;rfl
 | ty _=>rw [Ab] at r;subst r;rfl
 | tup _=>rw [Ab] at r;obtain ⟨_,_,e,_⟩:=r;subst e;rfl
 | lst _=>rw [Ab] at r;obtain ⟨_,_,e,_⟩:=r;subst e;rfl
 | kls _=>rw [Ab] at r;obtain ⟨_,_,e,_⟩:=r;subst e;rfl
 | loc _=>rw [Ab] at r;obtain ⟨_,e,_⟩:=r;subst e;rfl
 | exc _=>rw [Ab] at r;obtain ⟨_,_,_,e,_⟩:=r;subst e;rfl
 | exa _ _=>rw [Ab] at r;obtain ⟨_,_,_,_,_,_,e,_⟩:=r;subst e;rfl
 | fnv _ _=>rw [Ab] at r;subst r;rfl
def kIs:M2:=fun x y h Q=>match x,y with
 | .bl c,.bl b=>Q (.bl (c==b)) h
 | w,.non=>Q (.bl (Um w)) h
 | _,_=>False
def aaX:M2:=fun x y h Q=>match x,y with
 | .bl c,.bl b=>Q (.bl (!(c==b))) h
 | w,.non=>Q (.bl (!Um w)) h
 | _,_=>False
theorem acA:M6 X (Lz .Is) kIs:=⟨_,YB.or Yw,by
 intro H μ h x y wx wy Qw Q R rx ry m k;unfold kIs at m;split at m
 ·rw [Ab] at rx ry;exact .inl ⟨_,_,rx,ry,k _ _<|.bl R m⟩
 ·rw [<-afS rx] at m;rw [Ab] at ry;exact .inr ⟨ry,k _ _<|.bl R m⟩
 ·exact m.elim⟩
theorem zau (bs:List Bool):((Lh bs.length).any fun i=>(bs[i]?).getD true)=bs.any id:=by
 rw [Bool.eq_iff_iff,List.any_eq_true,List.any_eq_true];constructor
 ·rintro ⟨i,hi,e⟩;have hi':=QX.mp hi;exact ⟨bs[i],UG hi',by simpa [hi'] using e⟩
 ·rintro ⟨b,hb,e⟩;obtain ⟨i,hi,rfl⟩:=List.mem_iff_getElem.mp hb;exact ⟨i,QX.mpr hi,by simpa [hi] using e⟩
theorem zaW (hc:X.calm=true):gj X (.builtin "any") (fun xs H Q=>∃ (p:Addr) (bs:List Bool),xs=[.ref p]/\Hg X.K H p (bs.map V.bl)/\Q (.bl (bs.any id)) H):=by
 intro pins s σ H xs us Q I r ⟨p,bs,e,hS,q⟩;subst e;obtain ⟨u,rfl,ru⟩:=vals1 r;cases ru;obtain ⟨its,rv,pl,hz⟩:=I.list hS;have hlen:its.length=bs.length:=by rw [<-rv.length,GJ]
 have hl:=pl.isList;have hlt:p<s.heap.objs.size:=by obtain ⟨_,e,_⟩:=hl;exact Ga e
 refine call_any_walk<|TF hl ?_
 refine ⟨s.heap.objs.size,[s.heap.objs.size,p],[s.heap.objs.size],its.toArray.size,_,_,fun i=>(bs[i]?).getD true,rfl,Walks.list (A:=X.A.in1) (I.ok.hd hc) _ p (HI hlt) its.toArray,
  ⟨⟨_,Jp _ rfl,rfl,rfl⟩,hl.push _⟩,fun i v s' Q' E' hP hQ=>?_,fun h' tk hk=>?_⟩
 ·obtain ⟨b,e,rfl⟩:=sU rv (by simpa using hP);simp only [e,Uy] at hQ;exact Uq hQ
 ·have e:((Lh its.toArray.size).any fun i=>(bs[i]?).getD true)=bs.any id:=by
   rw [Gz,hlen];exact zau bs
  rw [e];refine ⟨.bl<|bs.any id,H,I.kept (h':=h') (t':=tk)<|fun b x e=>?_,rfl,q⟩;exact hk b x (fun hm=>by rw [Nb.mp hm] at e;exact Mj _ (Ga e))<|Gj _ e
def Te:MC:=fun ws h Q=>match ws with
 | [w]=>(match cG h w with
  | some us=>(match Km us with
   | some bs=>Q (.bl (bs.any id)) h
   | none=>False)
  | none=>False)
 | _=>False
theorem W9 (hc:X.calm=true):m7 X (.builtin "any") Te:=⟨_,zaW hc,by
 intro H μ h vs ws Qw Q R r m k;unfold Te at m;split at m
 ·split at m
  ·split at m
   ·rename_i w _ us ev _ bs eb;obtain ⟨v,e,rv⟩:=kE r;obtain ⟨p,ys,ex,hs,rs⟩:=cA R rv ev;subst e ex;exact ⟨p,bs,rfl,by rw [<-Ax rs eb];exact hs,k _ _<|.bl R m⟩
   ·exact m.elim
  ·exact m.elim
 ·exact m.elim⟩
def pL:W->Bool
 | .non=>true
 | .bl _=>true
 | .int _=>true
 | .str _=>true
 | _=>false
theorem PJ {H:Hp}{μ : Mu}{w:W}{v:V}(r:Ab K H μ w v)(f:pL w=true):ou v=true:=by
 cases w <;> first | (rw [Ab] at r;subst r;rfl) | cases f
theorem HX {H:Hp}{μ : Mu}:∀ {ws:List W} {vs:List V},aM K H μ ws vs->ws.all pL=true->vs.all ou=true
 | [],_,r,_=>by rw [aM] at r;subst r;rfl
 | w::ws,_,r,f=>by
  rw [aM] at r;obtain ⟨v,vs,e,r1,r2⟩:=r;subst e;rw [Tt,Nh] at f |-
  exact ⟨PJ r1 f.1,HX r2 f.2⟩
theorem ac5 {H:Hp}{μ : Mu}{w u:W}{v x:V}(r:Ab K H μ w v)(q:Ab K H μ u x)(f:pL w=true)(g:pL u=true):QK v x=Fo w u:=by
 cases w <;> cases u <;> first
  | (rw [Ab] at r;rw [Ab] at q;subst r;subst q;rfl)
  | (cases f;done)
  | (cases g;done)
theorem Xr {H:Hp}{μ : Mu}{u:W}{x:V}(q:Ab K H μ u x)(g:pL u=true):∀ {ws:List W} {vs:List V},aM K H μ ws vs->ws.all pL=true->inV x vs=ws.any fun w=>Fo w u
 | [],_,r,_=>by rw [aM] at r;subst r;rfl
 | w::ws,_,r,f=>by
  rw [aM] at r;obtain ⟨v,vs,e,r1,r2⟩:=r;subst e;rw [Tt,Nh] at f;have:=Xr q g r2 f.2
  unfold inV at this |-
  rw [List.any_cons,List.any_cons,this,ac5 r1 q f.1 g]
def V2:M2:=fun x y h Q=>match view h y with
 | some ws=>Hi (pL x&&ws.all pL) (Q (.bl (!(ws.any fun w=>Fo w x))) h) False
 | none=>False
theorem abI:M6 X (Lz .NotIn) V2:=⟨_,zK,by
 intro H μ h x y wx wy Qw Q R rx ry m k;unfold V2 at m;split at m
 ·rename_i ws ev;obtain ⟨p,xs,ey,hs,rs⟩:=vJ R ry ev;cases hp:(pL wx&&ws.all pL) with
  | true=>
   rw [hp] at m;rw [Nh] at hp;exact ⟨p,xs,ey,hs,PJ rx hp.1,HX rs hp.2,k _ _ (by rw [if_pos rfl,Xr rx hp.1 rs hp.2];exact .bl R m)⟩
  | false=>rw [hp] at m;exact (show False from m).elim
 ·exact m.elim⟩
theorem zbi:Jt X (Ly .Add) (fun x y H Q=>∃ a b ys,x=.ref a/\y=.ref b/\Hs X.K H a []/\Hs X.K H b ys/\Q (.ref b) H):=by
 intro pins s σ H x y v u Q I rx ry ⟨a,b,ys,ex,ey,ha,hb,q⟩;subst ex ey;cases rx;cases ry;obtain ⟨its,r1,p1,_⟩:=I.tuple ha;obtain ⟨jts,r2,p2,_⟩:=I.tuple hb;cases r1;obtain ⟨⟨cls,dd,data,sl⟩,ho,hc,n,hd⟩:=id p1;obtain ⟨⟨cls2,dd2,data2,sl2⟩,ho2,hc2,n2,hd2⟩:=id p2;simp only at hc hd hc2 hd2;subst hc hd hc2 hd2;exact concat_meets ⟨_,ho,rfl⟩ ⟨_,ho2,rfl⟩ noFill_tuple_add seq_tuple_add PySem.F.slot_tuple_add PySem.F.entry_tuple_add (PySem.F.args_tuple_add_2 _ _)
  (tuple_addW0 a b _ _ n n2 dd dd2 sl sl2 (by simp)) ⟨ho,ho2,⟨.ref b,H,I,rfl,q⟩⟩
def T6 (h:Gh):W->Option (List W)
 | .lst ws=>Dn ws
 | .loc n=>(match h.c n with
  | some (.lst ws)=>Dn ws
  | _=>FX)
 | _=>FX
theorem tQ {H:Hp}{μ : Mu}{h:Gh}{w:W}{v:V}{ws:List W}(R:Fi K μ H h)(r:Ab K H μ w v)(e:T6 h w=Dn ws):∃ p xs,v=.ref p/\H p=Dn (.lst xs)/\aM K H μ ws xs:=by
 cases w with
 | lst us=>
  rw [Ab] at r;obtain ⟨p,xs,ev,hs,rs⟩:=r;cases (show Dn us=Dn ws from e)
  exact ⟨p,xs,ev,hs.1,rs⟩
 | loc n=>
  unfold T6 at e;dsimp only at e;cases ec:h.c n with
  | none=>rw [ec] at e;cases e
  | some cl=>
   rw [ec] at e;cases cl with
   | lst us=>
    cases (show Dn us=Dn ws from e)
    obtain ⟨p,xs,ev,_,hx,rs⟩:=Vc R r ec;exact ⟨p,xs,ev,hx,rs⟩
   | _=>cases e
 | _=>cases e
def bD:M2:=fun x y h Q=>match x,y with
 | .int i,.int j=>Q (.int (i+j)) h
 | .tup [],.tup b=>Q (.tup b) h
 | .tup (a0::a),.tup b=>jf (a.length+1+b.length) (Q (.tup (a0::a++b)) h)
 | x,y=>(match T6 h x,T6 h y with
  | some a,Dn b=>jf (a.length+b.length) (Q (.lst (a++b)) h)
  | _,_=>False)
theorem bf:M6 X (Ly .Add) bD:=⟨_,(XJ.or (zbi.or agm)).or PN,by
 intro H μ h x y wx wy Qw Q R rx ry m k;unfold bD at m;split at m
 ·rw [Ab] at rx ry;exact .inl<|.inl ⟨_,_,rx,ry,k _ _<|.int R m⟩
 ·rename_i b;have ry':=ry;rw [Ab] at rx ry;obtain ⟨p,xs,ex,hx,r1⟩:=rx;obtain ⟨q,ys,ey,hy,r2⟩:=ry;rw [aM] at r1;subst r1;rw [ey] at ry';exact .inl<|.inr<|.inl ⟨p,q,ys,ex,ey,hx,hy,k _ _ ⟨μ,_,h,.refl,R,ry',m⟩⟩
 ·rename_i a0 a b;have rx':=rx;rw [Ab] at rx ry;obtain ⟨p,xs,ex,hx,r1⟩:=rx;obtain ⟨q,ys,ey,hy,r2⟩:=ry;have sz:=m.ok.1;refine .inl<|.inr<|.inr ⟨p,q,xs,ys,ex,ey,hx,hy,fun z=>(by have:=r1.ne_nil.mp z;cases this),by rw [<-r1.len,<-r2.len];exact sz,fun z=>?_,fun z l hl=>?_⟩
  ·have eb:b=[]:=r2.ne_nil.mp z;subst eb;refine k _ _ ⟨μ,.tup (a0::a++[]),h,.refl,R,?_,m.ok.2⟩;rw [Uk,<-ex];exact rx'
  ·exact k _ _ ⟨μ,_,h,(Ex.laid hl).ext,R.laid hl,.tupNew hl<|r1.append r2,m.ok.2⟩
 ·split at m
  ·rename_i a b ea eb;obtain ⟨p,xs,ex,hx,r1⟩:=tQ R rx ea;obtain ⟨q,ys,ey,hy,r2⟩:=tQ R ry eb;have sz:=m.ok.1;exact .inr ⟨p,q,xs,ys,ex,ey,hx,hy,by rw [<-r1.len,<-r2.len];exact sz,fun l hl=>k _ _ ⟨μ,_,h,(Ex.laid hl).ext,R.laid hl,.lstNew R hl<|r1.append r2,m.ok.2⟩⟩
  ·exact m.elim⟩
def iw:MM:=fun x ws h Q=>match x,ws with
 | .loc n,[w]=>(match h.c n,T6 h w with
  | some (.lst us),Dn zs=>jf (us.length+zs.length) (Q .non (h.set n (.lst (us++zs))))
  | _,_=>False)
 | _,_=>False
theorem afe:aae K KQ iw:=by
 intro H μ h x vs wx ws Qw Q R rx rs m k;unfold iw at m;split at m
 ·split at m
  ·rename_i n w _ _ us zs ec ez;obtain ⟨p,xs,ex,hm,hx,r1⟩:=Vc R rx ec;obtain ⟨v,ev,rv⟩:=kE rs;obtain ⟨q,ys,ey,hy,r2⟩:=tQ R rv ez;subst ey;have sz:=m.ok.1;exact ⟨p,q,xs,ys,ex,ev,hx,hy,by rw [<-r1.len,<-r2.len];exact sz,k _ _<|.wrote R hm (r1.append r2) (by rw [Ab]) m.ok.2⟩
  ·exact m.elim
 ·exact m.elim
variable {o e:Expr}{mo:ME}{ma:MA}{apos cpos:Pos}
theorem Dk (ho:DE X o mo)(ha:KH X [e] ma)
  (hbase:TX o "extend" X.env (eval o X.env)=eval o X.env:=by rfl)
  (hfew:((KR cpos (Fv [e] X.env)).all (fun x=>!x.1)&&(backToKw cpos (Tw [] X.env)).all (fun x=>x.1.isSome)
   && decide (([e]:List Expr).length+([]:List Od).length+(if ([]:List Od).isEmpty then 0 else 1)<30))=true:=by rfl)
  (hline:(apos.endLine==cpos.line)=true:=by rfl) (hst:Fv [e] X.env=(false,eval e X.env)::Fv [] X.env:=by rfl) (hplain:(KR cpos (Fv [] X.env)).any (·.1)=false:=by rfl) :
  DE X (.Call (.Attribute o "extend" apos) [e] [] cpos) (wg iw mo ma):=acn PySem.F.slot_list_extend PySem.F.type_list_extend zaI afe ho ha hbase hfew hline hst hplain
end
def Nv (K:Ai):Sp:=fun vs H Q _=>∃ (a:Addr) (ns:List Int),vs=[.ref a]/\Hg K H a (ns.map V.int)/\Only H/\ns.length<=63/\∀ H',Q (.bl true) H'
def g0:Gh:=⟨0,fun _=>FX⟩
def μ0:Mu:=⟨fun _=>FX,fun _=>False⟩
theorem adS {K:Ai}{H:Hp}:Fi K μ0 H g0 where
 inj:=fun m n p h=>by cases (show (FX:Option Addr)=Dn p from h)
 dom:=fun n p h=>by cases (show (FX:Option Addr)=Dn p from h)
 trk:=fun n p h=>by cases (show (FX:Option Addr)=Dn p from h)
 cel:=fun n c h=>by cases (show (FX:Option Cell)=Dn c from h)
 hd:=fun p h=>QT h
theorem zF {K:Ai}{H:Hp}{μ : Mu}:∀ ns:List Int,aM K H μ (ns.map W.int) (ns.map V.int)
 | []=>.nil
 | n::ns=>.cons (by rw [Ab]) (zF ns)
theorem ahr {P:Fb}{w:FZ}{K:Ai}{mg:Str->Option Go}{base:Heap}{k:Nat}{f:Addr}{fd:Le}{ps:List Str}{ms:kI}
  (hm:∀ ns:List Int,ns.length<=63->ms [.kls (ns.map W.int)] g0 (fun w _=>w=.bl true) EF) (F:qO P w K mg base Ma k f fd ps (lift K ms)):qO P w K mg base Ma k f fd ps (Nv K):=
 F.imp fun vs H Q E ⟨a,ns,e,hS,hO,hl,q⟩=>by
  subst e;refine ⟨μ0,g0,[.kls<|ns.map W.int],_,adS,.one ?_,hm ns hl,fun v H' ⟨μ',w',h',_,_,r,e⟩=>?_⟩
  ·rw [Ab];refine ⟨a,ns.map V.int,rfl,?_,zF ns⟩;rcases hS with (hS | hS) | hS
   ·rcases hO a with z | ⟨o,xs,z⟩ <;> rw [hS] at z <;> cases z
   ·exact .inl hS
   ·exact .inr hS
  ·subst e;rw [Ab] at r;subst r;exact q H'
inductive Sk where
 | l | t
def Sk.sq (k:Sk)(h:Heap)(a:Addr)(its:Array Go):Prop:=match k with
 | .l=>h.IsList a its
 | .t=>h.IsTuple a its
def Sk.it (k:Sk)(h:Heap)(i a:Addr)(n:Nat):Prop:=match k with
 | .l=>h.IsListIter i a n
 | .t=>h.IsTupleIter i a n
def Sk.nm:Sk->String
 | .l => "list_iterator"
 | .t => "tuple_iterator"
section
variable {P:Fb}{w:FZ}{A:Fd}{E:Go->AP->Prop}{s:AP}{k k1 k2:Sk}
theorem Sk.it_at {h h':Heap}{i a:Addr}{n:Nat}(x:k.it h i a n)(e:∀ o,h.get? i=Dn o->h'.get? i=Dn o):k.it h' i a n:=by
 cases k with
 | l=>obtain ⟨o,ho,r⟩:=x;exact ⟨o,e o ho,r⟩
 | t=>obtain ⟨o,ho,r⟩:=x;exact ⟨o,e o ho,r⟩
theorem Sk.sq_at {h h':Heap}{a:Addr}{its:Array Go}(x:k.sq h a its)(e:∀ o,h.get? a=Dn o->h'.get? a=Dn o):k.sq h' a its:=by
 cases k with
 | l=>obtain ⟨o,ho,r⟩:=x;exact ⟨o,e o ho,r⟩
 | t=>obtain ⟨o,ho,r⟩:=x;exact ⟨o,e o ho,r⟩
theorem Sk.it_obj {h:Heap}{i a:Addr}{n:Nat}(x:k.it h i a n):∃ o,h.get? i=Dn o/\o.cls=.type k.nm/\o.data=.fields #[.ref a,.int n 0]:=by
 cases k with
 | l=>exact x
 | t=>exact x
theorem zbm {it t:Addr}{i:Nat}{its:Array Go}{x:Go}{Q:Go->AP->Prop}(hi:s.heap.IsTupleIter it t i)(ht:s.heap.IsTuple t its)(hx:its[i]?=Dn x)
  (q:∀ h',h'.IsTupleIter it t (i+1)->NT it s.heap h'->Q x { s with heap:=h' }):CR (FJ P w) A (Rf (.ref it)) Q E s:=by
 obtain ⟨o,go,gc,gd⟩:=id hi;obtain ⟨ol,gol,_,nl,gdl⟩:=ht;unfold Rf;refine Af (Rz (name:=Rq "__next__") hi.typeIs VF
  (RZ VF hi.typeIs PySem.F.entry_tuple_iterator_next ?_ (PySem.F.args_tuple_iterator_next_1 _)))
 show CR _ _ (field (.ref it) 0 >>= _) _ _ s;refine Af<|KY go gd (x:=.ref t) rfl ?_
 show CR _ _ (if (Value.ref t==Value.none)=true then _ else _) _ _ s;rw [if_neg (by exact LI)];show CR _ _ (field (.ref it) 1 >>= _) _ _ s;refine Af<|KY go gd (x:=.int i 0) rfl ?_
 show CR _ _ (seqItems? (.ref t) >>= _) _ _ s;refine Af<|RX gol gdl ?_
 simp only [Int.toNat_natCast,hx];refine Af<|Ut go gd (by simp)<|FP ⟨x,rfl,FP<|q _ ?_<|SJ ..⟩
 exact ⟨_,Sy _ go<|V8<|TV gd _,(Obj.cls_mapFields ..).trans gc,by rw [TV gd];simp [Mi]⟩
theorem yh {it t:Addr}{i:Nat}{its:Array Go}{Q:Go->AP->Prop}(hh:A.handled=FX)(hi:s.heap.IsTupleIter it t i)(ht:s.heap.IsTuple t its)(hx:its[i]?=FX)
  (q:∀ h' e,Ti it s.heap h'->(∃ o,h'.get? e=Dn o/\o.cls=.type "StopIteration")->E (.ref e) { s with heap:=h' }):CR (FJ P w) A (Rf (.ref it)) Q E s:=by
 obtain ⟨o,go,gc,gd⟩:=id hi;obtain ⟨ol,gol,_,nl,gdl⟩:=ht;unfold Rf;refine Af (Rz (name:=Rq "__next__") hi.typeIs VF
  (RZ VF hi.typeIs PySem.F.entry_tuple_iterator_next ?_ (PySem.F.args_tuple_iterator_next_1 _)))
 show CR _ _ (field (.ref it) 0 >>= _) _ _ s;refine Af<|KY go gd (x:=.ref t) rfl ?_
 show CR _ _ (if (Value.ref t==Value.none)=true then _ else _) _ _ s;rw [if_neg (by exact LI)];show CR _ _ (field (.ref it) 1 >>= _) _ _ s;refine Af<|KY go gd (x:=.int i 0) rfl ?_
 show CR _ _ (seqItems? (.ref t) >>= _) _ _ s;refine Af<|RX gol gdl ?_
 simp only [Int.toNat_natCast,hx];refine Af<|T8<|Af<|Ut go gd (by simp) ?_
 show CR _ _ (newExc (.type "StopIteration") [] >>= _) _ _ _;refine Af ?_;simp only [newExc,newTuple];refine Af<|Q5 ?_<|by size_fits
 refine Af (m:=Us _ _)<|Ru (a:=Value.none) (by first | rfl | (simp only [Us];rfl)) ?_
 refine Q5 ?_<|by size_fits
 simp only [raiseNew];refine Af<|wpAny_handled ?_
 first | rw [show A.in1.handled=FX from hh] | rw [hh]
 refine Af<|FP<|wpAny_throw ?_
 exact q _ _ (((SJ ..).extBut.push _).push _) ⟨_,Jp _ rfl,rfl⟩
theorem Sk.next {it a:Addr}{i:Nat}{its:Array Go}{x:Go}{Q:Go->AP->Prop}(hi:k.it s.heap it a i)(hs:k.sq s.heap a its)(hx:its[i]?=Dn x)
  (q:∀ h',k.it h' it a (i+1)->NT it s.heap h'->Q x { s with heap:=h' }):CR (FJ P w) A (Rf (.ref it)) Q E s:=by
 cases k with
 | l=>exact wpAny_nextOf_list_item hi hs hx q
 | t=>exact zbm hi hs hx q
theorem Sk.stop {it a:Addr}{i:Nat}{its:Array Go}{Q:Go->AP->Prop}(hh:A.handled=FX)(hi:k.it s.heap it a i)(hs:k.sq s.heap a its)(hx:its[i]?=FX)
  (q:∀ h' e,Ti it s.heap h'->(∃ o,h'.get? e=Dn o/\o.cls=.type "StopIteration")->E (.ref e) { s with heap:=h' }):CR (FJ P w) A (Rf (.ref it)) Q E s:=by
 cases k with
 | l=>exact wpAny_nextOf_list_end hh hi hs hx q
 | t=>exact yh hh hi hs hx q
theorem Sk.iter {a:Addr}{its:Array Go}{Q:Go->AP->Prop}(hs:k.sq s.heap a its)
  (q:Q (.ref s.heap.objs.size) { s with heap:=s.heap.push { cls:=.type k.nm,data:=.fields #[.ref a,.int 0 0] } }):CR (FJ P w) A (pyIter (.ref a)) Q E s:=by
 cases k with
 | l=>exact TF hs q
 | t=>exact wpAny_pyIter_tuple hs q
structure Zap (z TI TO i1 i2:Addr):Prop where
 a1:TI≠z
 a2:TO≠z
 a3:i1≠z
 a4:i2≠z
 a5:TI≠TO
 a6:TI≠i1
 a7:TI≠i2
 a8:TO≠i1
 a9:TO≠i2
 b1:i1≠i2
structure Off (a z TO i1 i2:Addr):Prop where
 z:a≠z
 o:a≠TO
 i:a≠i1
 j:a≠i2
theorem zbk {z TI TO i1 i2 l1 l2:Addr}{n1 n2:Nat}{xs ys:Array Go}{x y a b:Go}{Q:Option Go->AP->Prop}(D:Zap z TI TO i1 i2)(o1:Off l1 z TO i1 i2)(o2:Off l2 z TO i1 i2)
  (gz:IsZip s.heap z TI TO .none) (gI:Mv s.heap TI (.ref i1) (.ref i2)) (gO:Mv s.heap TO a b) (g1:k1.it s.heap i1 l1 n1) (g2:k2.it s.heap i2 l2 n2) (gx:k1.sq s.heap l1 xs) (gy:k2.sq s.heap l2 ys)
  (hx:xs[n1]?=Dn x) (hy:ys[n2]?=Dn y)
  (q:∀ h',IsZip h' z TI TO (Mi s.heap.objs.size)->Mv h' TO x y->k1.it h' i1 l1 (n1+1)->k2.it h' i2 l2 (n2+1)->Mv h' s.heap.objs.size x y->h'.objs.size=s.heap.objs.size+1 ->
   (∀ c o,c≠z->c≠TO->c≠i1->c≠i2->s.heap.get? c=Dn o->h'.get? c=Dn o)->Q (Dn (.ref s.heap.objs.size)) { s with heap:=h' }) :
  CR (FJ P w) A (Mw (.ref z)) Q E s:=by
 have gT:s.TypeIs (.ref z) "zip":=⟨_,gz,rfl⟩
 unfold Mw;refine Af<|Tc<|Rz (name:=Rq "__next__") gT VG<|RZ VG gT PySem.F.entry_zip_next ?_<|PySem.F.args_zip_next_1 _
 show CR _ _ (field (.ref z) 2 >>= _) _ _ _;refine Af<|KY gz rfl (x:=.bool false) rfl ?_
 show CR _ _ (field (.ref z) 3 >>= _) _ _ _;refine Af<|KY gz rfl (x:=.ref TI) rfl ?_
 refine Af<|RX gI rfl ?_
 show CR _ _ (Vb (.ref z) >>= _) _ _ _;refine Af ?_;unfold Vb;refine Af<|KY gz rfl (x:=.none) rfl<|FP ?_
 simp only [if_true];refine Af<|T8 ?_
 refine Af<|KY gz rfl (x:=.ref TO) rfl ?_
 refine Af<|UL gz (by simp) fun h₁ z₁ s₁=>?_
 replace z₁ : IsZip h₁ z TI TO .ellipsis:=z₁;refine Af ?_;simp only [List.zipIdx_cons,List.zipIdx_nil,List.forIn_cons,List.forIn_nil]
 -- the first one
 refine Af<|Af<|wpAny_onRaise ?_
 show CR _ _ (Rf (.ref i1) >>= _) _ _ _;refine Af<|Sk.next (k:=k1) (s:={ s with heap:=h₁ }) (Sk.it_at g1 fun o e=>s₁.extBut _ o D.a3 e) (Sk.sq_at gx fun o e=>s₁.extBut _ o o1.z e) hx fun h₂ g1₂ s₂=>FP ?_
 have gO₂ : Mv h₂ TO a b:=s₂.extBut _ _ D.a8 (s₁.extBut _ _ D.a2 gO);refine Af<|RX gO₂ rfl ?_
 refine Af<|wpAny_updateSeq_pair gO₂ fun h₃ gO₃ s₃=>?_
 replace gO₃ : Mv h₃ TO x b:=gO₃;refine Af<|wpAny_letGo<|FP ?_
 -- the second one
 refine Af<|Af<|wpAny_onRaise ?_
 show CR _ _ (Rf (.ref i2) >>= _) _ _ _;refine Af (Sk.next (k:=k2) (s:={ s with heap:=h₃ }) (Sk.it_at g2 fun o e=>s₃.extBut _ o D.a9.symm (s₂.extBut _ o D.b1.symm (s₁.extBut _ o D.a4 e)))
  (Sk.sq_at gy fun o e=>s₃.extBut _ o o2.o (s₂.extBut _ o o2.i (s₁.extBut _ o o2.z e))) hy fun h₄ g2₄ s₄=>FP ?_)
 have gO₄ : Mv h₄ TO x b:=s₄.extBut _ _ D.a9 gO₃;refine Af<|RX gO₄ rfl ?_
 refine Af<|wpAny_updateSeq_pair gO₄ fun h₅ gO₅ s₅=>?_
 replace gO₅ : Mv h₅ TO x y:=gO₅;refine Af<|wpAny_letGo<|FP<|FP ?_
 -- the pair is handed out
 refine Af<|RX gO₅ rfl ?_
 refine Af<|wpAny_newTuple ?_
 have size:h₅.objs.size=s.heap.objs.size:=by rw [s₅.1,s₄.1,s₃.1,s₂.1,s₁.1]
 have z₅ : IsZip h₅ z TI TO .ellipsis:=s₅.extBut _ _ D.a2.symm (s₄.extBut _ _ D.a4.symm (s₃.extBut _ _ D.a2.symm (s₂.extBut _ _ D.a3.symm z₁)));have all₅ : ∀ c o,c≠z->c≠TO->c≠i1->c≠i2->s.heap.get? c=Dn o->h₅.get? c=Dn o:=fun c o c1 c2 c3 c4 e=>s₅.extBut _ _ c2 (s₄.extBut _ _ c4 (s₃.extBut _ _ c2 (s₂.extBut _ _ c3 (s₁.extBut _ _ c1 e))))
 have g1₅ : k1.it h₅ i1 l1 (n1+1):=Sk.it_at g1₂ fun o e=>s₅.extBut _ o D.a8.symm (s₄.extBut _ o D.b1 (s₃.extBut _ o D.a8.symm e))
 have g2₅ : k2.it h₅ i2 l2 (n2+1):=Sk.it_at g2₄ fun o e=>s₅.extBut _ o D.a9.symm e
 have zlt:z<h₅.objs.size:=Ga z₅;show CR _ _ (Builtin.SmallTypes.ownedTupleHandOut (.ref z) (.ref h₅.objs.size) >>= _) _ _ _;refine Af ?_;unfold Builtin.SmallTypes.ownedTupleHandOut;have z₆ : IsZip (h₅.push { cls:=.type "tuple",data:=.seq #[x,y] }) z TI TO .ellipsis:=Gj _ z₅;refine Af<|UL z₆ (by simp) fun h₇ z₇ s₇=>?_
 replace z₇ : IsZip h₇ z TI TO (Mi h₅.objs.size):=z₇;refine UL z₇ (by simp) fun h₈ z₈ s₈=>?_;replace z₈ : IsZip h₈ z TI TO (Mi h₅.objs.size):=z₈;have up:∀ c o,c≠z->h₅.get? c=Dn o->h₈.get? c=Dn o:=fun c o c1 e=>s₈.extBut _ _ c1 (s₇.extBut _ _ c1 (Gj _ e))
 have T₈ : Mv h₈ h₅.objs.size x y:=s₈.extBut _ _ (RQ zlt) (s₇.extBut _ _ (RQ zlt) (Jp _ rfl));have size8:h₈.objs.size=h₅.objs.size+1:=by rw [s₈.1,s₇.1,QV]
 rw [size] at z₈ T₈ size8;refine FP ⟨_,rfl,FP ?_⟩;show Q (Dn (.ref h₅.objs.size)) _;rw [size];exact q h₈ z₈ (up _ _ D.a2 gO₅) (Sk.it_at g1₅ fun o e=>up _ o D.a3 e) (Sk.it_at g2₅ fun o e=>up _ o D.a4 e) T₈ size8 fun c o c1 c2 c3 c4 e=>up c o c1<|all₅ c o c1 c2 c3 c4 e
theorem zbt {z TI TO i1 i2 l1 l2:Addr}{n1 n2:Nat}{xs ys:Array Go}{a b:Go}{Q:Option Go->AP->Prop}(hh:A.handled=FX)(D:Zap z TI TO i1 i2)(o1:Off l1 z TO i1 i2)(o2:Off l2 z TO i1 i2)
  (gz:IsZip s.heap z TI TO .none) (gI:Mv s.heap TI (.ref i1) (.ref i2)) (gO:Mv s.heap TO a b) (g1:k1.it s.heap i1 l1 n1) (g2:k2.it s.heap i2 l2 n2) (gx:k1.sq s.heap l1 xs) (gy:k2.sq s.heap l2 ys)
  (hend:xs[n1]?=FX\/ys[n2]?=FX)
  (q:∀ h',(∀ c o,c≠z->c≠TO->c≠i1->c≠i2->s.heap.get? c=Dn o->h'.get? c=Dn o)->Q FX { s with heap:=h' }):CR (FJ P w) A (Mw (.ref z)) Q E s:=by
 have gT:s.TypeIs (.ref z) "zip":=⟨_,gz,rfl⟩
 have fin:∀ (h':Heap) (e:Addr),(∀ c o,c≠z->c≠TO->c≠i1->c≠i2->s.heap.get? c=Dn o->h'.get? c=Dn o)->(∃ o,h'.get? e=Dn o/\o.cls=.type "StopIteration") ->
   CR (FJ P w) A (do if <-isInstance (.ref e) (.type "StopIteration") then pure FX else throw (.ref e)) Q E { s with heap:=h' }:=fun h' e all ⟨o,ho,hc⟩=>
  Af (wpAny_isInstance (T := "StopIteration") (b:=true) ⟨o,ho,hc⟩ isSubtype_stop (FP (q _ all)))
 unfold Mw;refine Af<|Tc<|Rz (name:=Rq "__next__") gT VG<|RZ VG gT PySem.F.entry_zip_next ?_<|PySem.F.args_zip_next_1 _
 show CR _ _ (field (.ref z) 2 >>= _) _ _ _;refine Af<|KY gz rfl (x:=.bool false) rfl ?_
 show CR _ _ (field (.ref z) 3 >>= _) _ _ _;refine Af<|KY gz rfl (x:=.ref TI) rfl ?_
 refine Af<|RX gI rfl ?_
 show CR _ _ (Vb (.ref z) >>= _) _ _ _;refine Af ?_;unfold Vb;refine Af<|KY gz rfl (x:=.none) rfl<|FP ?_
 simp only [if_true];refine Af<|T8 ?_
 refine Af<|KY gz rfl (x:=.ref TO) rfl ?_
 refine Af<|UL gz (by simp) fun h₁ z₁ s₁=>?_
 replace z₁ : IsZip h₁ z TI TO .ellipsis:=z₁;refine Af ?_;simp only [List.zipIdx_cons,List.zipIdx_nil,List.forIn_cons,List.forIn_nil];refine Af<|Af<|wpAny_onRaise ?_
 show CR _ _ (Rf (.ref i1) >>= _) _ _ _;have g1₁ : k1.it h₁ i1 l1 n1:=Sk.it_at g1 fun o e=>s₁.extBut _ o D.a3 e
 have gx₁ : k1.sq h₁ l1 xs:=Sk.sq_at gx fun o e=>s₁.extBut _ o o1.z e
 cases hx:xs[n1]? with
 | none=>
  refine Af<|Sk.stop (k:=k1) (s:={ s with heap:=h₁ }) hh g1₁ gx₁ hx fun h₂ e s₂ he=>?_
  obtain ⟨oe,hoe,hce⟩:=he;have z₂ : IsZip h₂ z TI TO .ellipsis:=s₂ _ _ D.a3.symm z₁;have ez:e≠z:=fun y=>by subst y;rw [z₂] at hoe;cases hoe;simp at hce
  refine UL z₂ (by simp) fun h₃ _ s₃=>fin h₃ e (fun c o c1 _ c3 _ y=>s₃.extBut _ _ c1<|s₂ _ _ c3<|s₁.extBut _ _ c1 y) ⟨oe,s₃.extBut _ _ ez hoe,hce⟩
 | some x=>
  have hy:ys[n2]?=FX:=by
   rcases hend with h | h
   ·rw [hx] at h;cases h
   ·exact h
  refine Af<|Sk.next (k:=k1) (s:={ s with heap:=h₁ }) g1₁ gx₁ hx fun h₂ g1₂ s₂=>FP ?_
  have gO₂ : Mv h₂ TO a b:=s₂.extBut _ _ D.a8 (s₁.extBut _ _ D.a2 gO);refine Af<|RX gO₂ rfl ?_
  refine Af<|wpAny_updateSeq_pair gO₂ fun h₃ gO₃ s₃=>?_
  refine Af<|wpAny_letGo<|FP ?_
  refine Af<|Af<|wpAny_onRaise ?_
  show CR _ _ (Rf (.ref i2) >>= _) _ _ _;refine Af (Sk.stop (k:=k2) (s:={ s with heap:=h₃ }) hh (Sk.it_at g2 fun o e=>s₃.extBut _ o D.a9.symm (s₂.extBut _ o D.b1.symm (s₁.extBut _ o D.a4 e)))
   (Sk.sq_at gy fun o e=>s₃.extBut _ o o2.o (s₂.extBut _ o o2.i (s₁.extBut _ o o2.z e))) hy fun h₄ e s₄ he=>?_)
  obtain ⟨oe,hoe,hce⟩:=he;have z₄ : IsZip h₄ z TI TO .ellipsis:=s₄ _ _ D.a4.symm (s₃.extBut _ _ D.a2.symm (s₂.extBut _ _ D.a3.symm z₁));have ez:e≠z:=fun y=>by subst y;rw [z₄] at hoe;cases hoe;simp at hce
  refine UL z₄ (by simp) fun h₅ _ s₅=>fin h₅ e (fun c o c1 c2 c3 c4 y=>s₅.extBut _ _ c1<|s₄ _ _ c4<|s₃.extBut _ _ c2<|s₂.extBut _ _ c3<|s₁.extBut _ _ c1 y) ⟨oe,s₅.extBut _ _ ez hoe,hce⟩
abbrev zh1 (k1:Sk)(h:Heap)(l1:Addr):Heap:=h.push { cls:=.type k1.nm,data:=.fields #[.ref l1,.int 0 0] }
abbrev zh2 (k1 k2:Sk)(h:Heap)(l1 l2:Addr):Heap:=(zh1 k1 h l1).push { cls:=.type k2.nm,data:=.fields #[.ref l2,.int 0 0] }
abbrev zh3 (k1 k2:Sk)(h:Heap)(l1 l2:Addr):Heap:=(zh2 k1 k2 h l1 l2).push { cls:=.type "tuple",data:=.seq #[.ref h.objs.size,.ref (zh1 k1 h l1).objs.size] }
abbrev zh4 (k1 k2:Sk)(h:Heap)(l1 l2:Addr):Heap:=(zh3 k1 k2 h l1 l2).push { cls:=.type "tuple",data:=.seq #[.none,.none] }
abbrev zh5 (k1 k2:Sk)(h:Heap)(l1 l2:Addr):Heap:=(zh4 k1 k2 h l1 l2).push { cls:=.type "zip",data:=.fields #[.none,.bool false,.bool false,.ref (zh2 k1 k2 h l1 l2).objs.size,.ref (zh3 k1 k2 h l1 l2).objs.size] }
theorem ahK (l1 l2:Addr)(xs ys:Array Go):Meets (R6.«zip.__new__» ⟨[.type "zip",.ref l1,.ref l2],[]⟩) (fun _ R s=>k1.sq s.heap l1 xs/\k2.sq s.heap l2 ys /\
   R (.ok (.ret (.ref (zh4 k1 k2 s.heap l1 l2).objs.size))) { s with heap:=zh5 k1 k2 s.heap l1 l2 }):=
 .of_wp fun prog w A R s h=>by
  obtain ⟨hp,g,d,tk,os⟩:=s;obtain ⟨gl1,gl2,h⟩:=h;have hsub:=sub_zip;have L1:k1.sq (Shared.heap ⟨hp,g,d,tk,os⟩) l1 xs:=gl1;have L2':k2.sq (Shared.heap ⟨hp.push { cls:=.type k1.nm,data:=.fields #[.ref l1,.int 0 0] },g,d,tk,os⟩) l2 ys:=Sk.sq_at gl2 fun o e=>Gj _ e
  wp_walk using Sk.iter L1,Sk.iter L2'
  exact ⟨_,rfl,h⟩
theorem zbr {l1 l2:Addr}{xs ys:Array Go}{Q:Go->AP->Prop}(gl1:k1.sq s.heap l1 xs)(gl2:k2.sq s.heap l2 ys)
  (q:∀ h',IsZip h' (s.heap.objs.size+4) (s.heap.objs.size+2) (s.heap.objs.size+3) .none->Mv h' (s.heap.objs.size+2) (.ref s.heap.objs.size) (.ref (s.heap.objs.size+1)) ->
   Mv h' (s.heap.objs.size+3) .none .none->k1.it h' s.heap.objs.size l1 0->k2.it h' (s.heap.objs.size+1) l2 0->h'.objs.size=s.heap.objs.size+5 ->
   (∀ c o,s.heap.get? c=Dn o->h'.get? c=Dn o)->Q (.ref (s.heap.objs.size+4)) { s with heap:=h' }):CR (FJ P w) A (call (.type "zip") [.ref l1,.ref l2]) Q E s:=by
 refine callType_new PySem.F.called_zip (by decide) (PySem.F.typeCall_zip_2 _ _) (PySem.F.newCall_zip_2 _ _) (fun obj=>PySem.F.args_object_init_3 obj _ _) PySem.F.entry_zip_new (ahK (k1:=k1) (k2:=k2) l1 l2 xs ys) ⟨gl1,gl2,?_⟩;have e1:(zh1 k1 s.heap l1).objs.size=s.heap.objs.size+1:=QV ..;have e2:(zh2 k1 k2 s.heap l1 l2).objs.size=s.heap.objs.size+2:=by rw [QV,e1]
 have e3:(zh3 k1 k2 s.heap l1 l2).objs.size=s.heap.objs.size+3:=by rw [QV,e2]
 have e4:(zh4 k1 k2 s.heap l1 l2).objs.size=s.heap.objs.size+4:=by rw [QV,e3]
 have e5:(zh5 k1 k2 s.heap l1 l2).objs.size=s.heap.objs.size+5:=by rw [QV,e4]
 have f5:(zh5 k1 k2 s.heap l1 l2).get? (zh4 k1 k2 s.heap l1 l2).objs.size=Dn _:=Jp _ rfl;have f4:(zh5 k1 k2 s.heap l1 l2).get? (zh3 k1 k2 s.heap l1 l2).objs.size=Dn _:=Gj _ (Jp _ rfl);have f3:(zh5 k1 k2 s.heap l1 l2).get? (zh2 k1 k2 s.heap l1 l2).objs.size=Dn _:=Gj _ (Gj _ (Jp _ rfl));have f2:(zh5 k1 k2 s.heap l1 l2).get? (zh1 k1 s.heap l1).objs.size=Dn _:=Gj _ (Gj _ (Gj _ (Jp _ rfl)));have f1:(zh5 k1 k2 s.heap l1 l2).get? s.heap.objs.size=Dn _:=Gj _ (Gj _ (Gj _ (Gj _ (Jp _ rfl))));show _/\_;rw [e2,e3,e4] at f5;rw [e1,e2] at f3;rw [e3] at f4;rw [e1] at f2;rw [e4];refine ⟨⟨_,f5,rfl⟩,q _ f5 f3 f4 ?_ ?_ e5 fun c o x=>Gj _<|Gj _<|Gj _<|Gj _<|Gj _ x⟩
 ·cases k1 with
  | l=>exact ⟨_,f1,rfl,rfl⟩
  | t=>exact ⟨_,f1,rfl,rfl⟩
 ·cases k2 with
  | l=>exact ⟨_,f2,rfl,rfl⟩
  | t=>exact ⟨_,f2,rfl,rfl⟩
end
section
variable {X:Cx}{pins:List (Addr×Obj)}{σ : St}{H:Hp}{s:AP}{h':Heap}
theorem Ag.turnedL {t':Nat}{ch:List Addr}(I:Ag X pins σ H s)(k:∀ b o,b∉ch->s.heap.get? b=Dn o->h'.get? b=Dn o)(hf:∀ b∈ch,Gv X pins H b):Ag X pins σ H { s with heap:=h',toks:=t' }:=by
 have nit:∀ b u,H b=Dn u->b∉ch:=fun b u e z=>by rw [(hf b z).1] at e;cases e
 refine I.step (g':=s.gens) (d':=s.drawn) (ch:=ch) (fun b hb=>?_) (fun b o _ _ hc e _=>k b o hc e) (fun b o _ _ hc e _=>⟨o.slots,k b o hc e⟩) (fun _ _ _ _ n=>n)
  (fun b o hc e=>⟨o,k b o hc e⟩) (fun _ _ e=>e) (fun _ _ _ e=>e) (fun b ps e=>⟨#[],by rw [e];simp⟩) (fun m hm=>?_) (fun b u e=>?_) I.bare
 ·obtain ⟨_,f1,_,f3,f4,f5⟩:=hf b hb;exact ⟨f3,f1,f4,f5⟩
 ·obtain ⟨o,es,ep,ho,r⟩:=hm;exact ⟨o,es,ep,k _ o (fun z=>(hf _ z).2.1 rfl) ho,r⟩
 ·refine (I.hok b u e).stay (fun c v hc q=>k c v ?_ q) (fun _ q=>q) fun _ _ q=>q;rcases hc with z | z
  ·rw [z];exact nit b u e
  ·exact nit c _ z
end
def Sk.v (k:Sk)(K:Ai)(H:Hp)(a:Addr)(xs:List V):Prop:=match k with
 | .l=>Hg K H a xs
 | .t=>Hs K H a xs
theorem Ag.sk {X:Cx}{pins:List (Addr×Obj)}{σ : St}{H:Hp}{s:AP}{k:Sk}{a:Addr}{xs:List V}(I:Ag X pins σ H s)(h:k.v X.K H a xs):∃ its:List Go,Bp xs its/\k.sq s.heap a its.toArray:=by
 cases k with
 | l=>obtain ⟨its,r,p,_⟩:=I.list h;exact ⟨its,r,p.isList⟩
 | t=>obtain ⟨its,r,p,_⟩:=I.tuple h;exact ⟨its,r,p⟩
theorem Ag.sk_inj {X:Cx}{pins:List (Addr×Obj)}{σ : St}{H:Hp}{s:AP}{k:Sk}{a:Addr}{xs ys:List V}(I:Ag X pins σ H s)(h:k.v X.K H a xs)(g:k.v X.K H a ys):xs=ys:=by
 cases k with
 | l=>exact I.list_inj h g
 | t=>exact I.tuple_inj h g
def Itz (K:Ai)(k1 k2:Sk)(l1 l2:Addr):It:=
  ⟨fun i H=>∃ xs ys x y,k1.v K H l1 xs/\k2.v K H l2 ys/\xs[i]?=Dn x/\ys[i]?=Dn y,
   fun i H v H'=>∃ p x y,H p=FX/\v=.ref p/\H'=Fy H p (.tup [x,y])/\(∀ xs,k1.v K H l1 xs->xs[i]?=Dn x)/\∀ ys,k2.v K H l2 ys->ys[i]?=Dn y,
   fun i H=>∃ xs ys,k1.v K H l1 xs/\k2.v K H l2 ys/\(xs.length<=i\/ys.length<=i),true⟩
def aa0 (k1 k2:Sk)(z TI TO i1 i2 l1 l2:Addr)(n:Nat)(h:Heap):Prop:=IsZip h z TI TO .none/\Mv h TI (.ref i1) (.ref i2)/\(∃ a b,Mv h TO a b)/\k1.it h i1 l1 n/\k2.it h i2 l2 n
theorem afq {P:Fb}{w:FZ}{K:Ai}{elts:List Expr}{kt:Nat}{pos:Pos}{k1 k2:Sk}{z TI TO i1 i2 l1 l2:Addr}(D:Zap z TI TO i1 i2)(o1:Off l1 z TO i1 i2)(o2:Off l2 z TO i1 i2) :
  Turn P w K (.Tuple elts kt pos) (Itz K k1 k2 l1 l2) [z,TI,TO,i1,i2] z (aa0 k1 k2 z TI TO i1 i2 l1 l2) where
 mem:=by simp
 obj:=fun i h st b hb=>by
  obtain ⟨gz,gI,⟨a,b',gO⟩,g1,g2⟩:=st;simp only [Fe,Fx,or_false] at hb;rcases hb with rfl | rfl | rfl | rfl | rfl
  ·exact ⟨_,gz,fun v y=>by cases y⟩
  ·exact ⟨_,gI,fun v y=>by cases y⟩
  ·exact ⟨_,gO,fun v y=>by cases y⟩
  ·obtain ⟨o,e,_,d⟩:=Sk.it_obj g1;exact ⟨o,e,fun v y=>by rw [d] at y;cases y⟩
  ·obtain ⟨o,e,_,d⟩:=Sk.it_obj g2;exact ⟨o,e,fun v y=>by rw [d] at y;cases y⟩
 keep:=fun i h h' st k=>by
  obtain ⟨gz,gI,⟨a,b,gO⟩,g1,g2⟩:=st;exact ⟨k z (by simp) _ gz,k TI (by simp) _ gI,⟨a,b,k TO (by simp) _ gO⟩,Sk.it_at g1 fun o e=>k i1 (by simp) o e,Sk.it_at g2 fun o e=>k i2 (by simp) o e⟩
 item:=by
  intro X hP hw hK hc i pins s σ H E I hf st hg;subst hP hw hK;obtain ⟨gz,gI,⟨a,b,gO⟩,g1,g2⟩:=st;obtain ⟨xs,ys,x,y,hx,hy,ex,ey⟩:=hg;obtain ⟨its,r1,p1⟩:=I.sk hx;obtain ⟨jts,r2,p2⟩:=I.sk hy;obtain ⟨u,hu,ru⟩:=r1.get ex;obtain ⟨v,hv,rv⟩:=r2.get ey;refine zbk D o1 o2 gz gI gO g1 g2 p1 p2 (x:=u) (y:=v) (by simpa using hu) (by simpa using hv) fun h1 z1 O1 g1' g2' T1 size1 all1=>⟨_,rfl,?_⟩;have pz:s.heap.objs.size≠z:=RQ (Ga gz);have lt:∀ b∈[z,TI,TO,i1,i2],s.heap.objs.size≠b:=fun b hb=>by
   simp only [Fe,Fx,or_false] at hb;rcases hb with rfl | rfl | rfl | rfl | rfl
   ·exact pz
   ·exact RQ<|Ga gI
   ·exact RQ<|Ga gO
   ·obtain ⟨o,e,_⟩:=Sk.it_obj g1;exact RQ (Ga e)
   ·obtain ⟨o,e,_⟩:=Sk.it_obj g2;exact RQ (Ga e)
  have all:∀ c o,c∉[z,TI,TO,i1,i2]->s.heap.get? c=Dn o->h1.get? c=Dn o:=fun c o hc e=>
   all1 c o (fun q=>hc (by simp [q])) (fun q=>hc (by simp [q])) (fun q=>hc (by simp [q])) (fun q=>hc (by simp [q])) e
  refine wpAny_letOwnedTupleGo_zip (s:={ s with heap:=h1 }) z1 fun h2 z2 sb=>?_;have fr:H s.heap.objs.size=FX:=I.hok.fresh (Ge _);have I1:Ag X pins σ (Fy H s.heap.objs.size (.tup [x,y])) { s with heap:=s.heap.push { cls:=.type "tuple",data:=.seq #[u,v] } }:=
   I.laid (t':=s.toks) (fun b o e=>Gj _ e) (Ge _) ⟨(by show 2<=Gb;decide),[u,v],.cons ru (.cons rv .nil),⟨_,Jp _ rfl,rfl,⟨_,rfl⟩,rfl⟩⟩
  have hf1:∀ b∈[z,TI,TO,i1,i2],Gv X pins (Fy H s.heap.objs.size (.tup [x,y])) b:=fun b hb=>⟨by rw [aN (Jj (lt b hb))];exact (hf b hb).1,(hf b hb).2⟩
  have I2:Ag X pins σ (Fy H s.heap.objs.size (.tup [x,y])) { s with heap:=h2 }:=by
   refine Ag.turnedL (s:={ s with heap:=s.heap.push { cls:=.type "tuple",data:=.seq #[u,v] } }) (h':=h2) (t':=s.toks) (ch:=[z,TI,TO,i1,i2]) I1 (fun b o hb e=>?_) hf1;have bz:b≠z:=fun q=>hb (by simp [q])
   rcases Heap.get?_push_cases e with ⟨rfl,rfl⟩ | e'
   ·exact sb.extBut _ _ bz T1
   ·exact sb.extBut _ _ bz<|all b o hb e'
  refine ⟨.ref s.heap.objs.size,_,I2,rfl,⟨s.heap.objs.size,x,y,fr,rfl,rfl,fun xs' q=>by rw [I.sk_inj q hx];exact ex,fun ys' q=>by rw [I.sk_inj q hy];exact ey⟩,?_,fun b hb=>(hf1 b hb).1⟩;exact ⟨z2,sb.extBut _ _ D.a1<|all1 _ _ D.a1 D.a5 D.a6 D.a7 gI,⟨u,v,sb.extBut _ _ D.a2 O1⟩,Sk.it_at g1' fun o e=>sb.extBut _ o D.a3 e,Sk.it_at g2' fun o e=>sb.extBut _ o D.a4 e⟩
 done:=by
  intro X hP hw hK hc i pins s σ H E I hf st hg;subst hP hw hK;obtain ⟨gz,gI,⟨a,b,gO⟩,g1,g2⟩:=st;obtain ⟨xs,ys,hx,hy,hend⟩:=hg;obtain ⟨its,r1,p1⟩:=I.sk hx;obtain ⟨jts,r2,p2⟩:=I.sk hy;have l1:=r1.length;have l2:=r2.length;refine zbt (I.ok.hd<|hc rfl) D o1 o2 gz gI gO g1 g2 p1 p2 (hend.imp (fun q=>by simp;lia) fun q=>by simp;lia) fun h1 all1=>⟨rfl,I.turnedL (t':=s.toks) (ch:=[z,TI,TO,i1,i2]) (fun c o hc e=>?_) hf⟩;exact all1 c o (fun q=>hc<|by simp [q]) (fun q=>hc<|by simp [q]) (fun q=>hc<|by simp [q]) (fun q=>hc<|by simp [q]) e
 self:=fun _ _ _ _ _ st h=>wpAny_pyIter_zip st.1 h
section
variable {X:Cx}{K:Ai}
def sqk (K:Ai)(H:Hp)(x:V)(k:Sk)(a:Addr):Prop:=x=.ref a/\∃ xs,k.v K H a xs
def ad2 (K:Ai)(ta:TA):TI:=fun σ H R=>ta σ H fun vs H1=>∃ x y k1 k2 a b,vs=[x,y]/\sqk K H1 x k1 a/\sqk K H1 y k2 b/\R (Itz K k1 k2 a b) H1
theorem Sk.sq_lt {k:Sk}{h:Heap}{a:Addr}{its:Array Go}(x:k.sq h a its):a<h.objs.size:=by
 cases k with
 | l=>obtain ⟨o,e,_⟩:=x;exact Ga e
 | t=>obtain ⟨o,e,_⟩:=x;exact Ga e
theorem lR {a b:Nat}(h:a≠b):(show Addr from a)≠(show Addr from b):=h
theorem Wg (n:Nat):Zap (n+4) (n+2) (n+3) n (n+1) where
 a1:=lR (show n+2≠n+4 by lia)
 a2:=lR (show n+3≠n+4 by lia)
 a3:=lR (show n≠n+4 by lia)
 a4:=lR (show n+1≠n+4 by lia)
 a5:=lR (show n+2≠n+3 by lia)
 a6:=lR (show n+2≠n by lia)
 a7:=lR (show n+2≠n+1 by lia)
 a8:=lR (show n+3≠n by lia)
 a9:=lR (show n+3≠n+1 by lia)
 b1:=lR (show n≠n+1 by lia)
theorem pG {a n:Nat}(h:a<n):Off a (n+4) (n+3) n (n+1) where
 z:=lR (show a≠n+4 by lia)
 o:=lR (show a≠n+3 by lia)
 i:=lR (show a≠n by lia)
 j:=lR (show a≠n+1 by lia)
theorem abU {n c:Nat}(h:c∈([n+4,n+2,n+3,n,n+1]:List Nat)):n<=c:=by
 simp only [Fe,Fx,or_false] at h;lia
theorem W3 {e1 e2:Expr}{ta:TA}{p pos tpos:Pos}{elts:List Expr}{kt:Nat}(hg:Gl X "zip")(hm:X.mg "zip" = FX)(ha:PA X [e1,e2] ta)
  (hs:Fv [e1,e2] X.env=(false,eval e1 X.env)::Fv [e2] X.env:=by rfl) (hpl:(KR pos (Fv [e2] X.env)).any (·.1)=false:=by rfl) :
  PI X (.Tuple elts kt tpos) (.Call (.Name "zip" p) [e1,e2] [] pos) (ad2 X.K ta):=by
 intro pins s σ H R I h;refine UJ<|qT I hg hm boot_zip ?_ (by decide)<|by decide
 refine V7 (GQ (ha pos pins s σ H _ I h) fun us s1 ⟨vs,H1,I1,r1,q1⟩=>?_) hs hpl;obtain ⟨x,y,k1,k2,a,b,ev,⟨ex,xs,hx⟩,⟨ey,ys,hy⟩,q⟩:=q1;subst ev ex ey;obtain ⟨u1,u2,eu,ru1,ru2⟩:=vals2 r1;subst eu;cases ru1;cases ru2;obtain ⟨its,r1,p1⟩:=I1.sk hx;obtain ⟨jts,r2,p2⟩:=I1.sk hy;have la:=Sk.sq_lt p1;have lb:=Sk.sq_lt p2;refine zbr p1 p2 fun h' gz gI gO g1 g2 size all=>?_;refine wpAny_pyIter_zip gz ?_;have I2:Ag X pins σ H1 { s1 with heap:=h' }:=I1.kept (t':=s1.toks) all;generalize hn:s1.heap.objs.size=n at gz gI gO g1 g2 size la lb |-
 refine ⟨n+4,[n+4,n+2,n+3,n,n+1],_,_,H1,rfl,I2,afq (Wg n) (pG la)<|pG lb,⟨gz,gI,⟨_,_,gO⟩,g1,g2⟩,fun c hc=>?_,q⟩;have hc':n<=c:=abU hc;exact I1.fpOk (by rw [hn];exact hc')<|I1.hok.fresh (by rw [hn];exact hc')
def sS:List W->List W->List W
 | a::as,b::bs=>.tup [a,b]::sS as bs
 | _,_=>[]
theorem Dz:∀ {as bs:List W} {i:Nat} {w:W},(sS as bs)[i]?=Dn w->∃ a b,as[i]?=Dn a/\bs[i]?=Dn b/\w=.tup [a,b]
 | [],_,_,_,e=>by simp [sS] at e
 | _::_,[],_,_,e=>by simp [sS] at e
 | a::as,b::bs,0,w,e=>by
  have e:Dn (W.tup [a,b])=Dn w:=e;exact ⟨a,b,rfl,rfl,(HS e).symm⟩
 | a::as,b::bs,i+1,w,e=>by
  obtain ⟨x,y,h1,h2,h3⟩:=Dz (as:=as) (bs:=bs) (i:=i) (w:=w) (by simpa [sS] using e);exact ⟨x,y,by simpa using h1,by simpa using h2,h3⟩
theorem Ca:∀ {as bs:List W},(sS as bs).length=min as.length bs.length
 | [],bs=>by simp [sS]
 | _::_,[]=>by simp [sS]
 | a::as,b::bs=>by rw [sS,Lk,Ca,Lk,Lk];lia
def tE:W->Option (List W)
 | .tup ws=>Dn ws
 | .lst ws=>Dn ws
 | .kls ws=>Dn ws
 | _=>FX
theorem BW {H:Hp}{μ : Mu}{w:W}{v:V}{ws:List W}(r:Ab K H μ w v)(e:tE w=Dn ws):∃ k a,v=.ref a/\∀ {H2:Hp} {μ2:Mu},HB K H μ H2 μ2->∃ xs,Sk.v k K H2 a xs/\aM K H2 μ2 ws xs:=by
 cases w with
 | tup us=>
  cases (show Dn us=Dn ws from e)
  have r0:=r;rw [Ab] at r;obtain ⟨p,xs,ev,hs,rs⟩:=r;subst ev;refine ⟨.t,p,rfl,fun {H2 μ2} x=>?_⟩;have r2:=x.r _ _ r0;rw [Ab] at r2;obtain ⟨q,ys,ev,hs,rs⟩:=r2;cases ev;exact ⟨ys,hs,rs⟩
 | lst us=>
  cases (show Dn us=Dn ws from e)
  have r0:=r;rw [Ab] at r;obtain ⟨p,xs,ev,hs,rs⟩:=r;subst ev;refine ⟨.l,p,rfl,fun {H2 μ2} x=>?_⟩;have r2:=x.r _ _ r0;rw [Ab] at r2;obtain ⟨q,ys,ev,hs,rs⟩:=r2;cases ev;exact ⟨ys,hs.sq,rs⟩
 | kls us=>
  cases (show Dn us=Dn ws from e)
  have r0:=r;rw [Ab] at r;obtain ⟨p,xs,ev,hs,rs⟩:=r;subst ev;refine ⟨.l,p,rfl,fun {H2 μ2} x=>?_⟩;have r2:=x.r _ _ r0;rw [Ab] at r2;obtain ⟨q,ys,ev,hs,rs⟩:=r2;cases ev;exact ⟨ys,hs.sq,rs⟩
 | _=>cases e
def PK (h:Gh)(x y:W):Option Src:=match tE x,tE y with
 | some as,Dn bs=>Dn ⟨sS as bs,FX⟩
 | none,Dn bs=>(match x with
  | .loc n=>(match h.c n with
   | some (.lst as)=>Dn ⟨sS as bs,Dn (n,as)⟩
   | _=>FX)
  | _=>FX)
 | _,_=>FX
theorem afm {H:Hp}{μ : Mu}{h:Gh}{w:W}{v:V}{ws:List W}{o:Option (Nat×List W)}(R:Fi K μ H h)(r:Ab K H μ w v)(e:(tE w=Dn ws/\o=FX)\/∃ n,w=.loc n/\h.c n=Dn (.lst ws)/\o=Dn (n,ws)) :
  ∃ k a,v=.ref a/\∀ {H2:Hp} {μ2:Mu} {h2:Gh},HB K H μ H2 μ2->Fi K μ2 H2 h2->Src.chk ⟨ws,o⟩ h2->∃ xs,Sk.v k K H2 a xs/\aM K H2 μ2 ws xs:=by
 rcases e with ⟨e,rfl⟩ | ⟨n,rfl,ec,rfl⟩
 ·obtain ⟨k,a,ev,f⟩:=BW r e;exact ⟨k,a,ev,fun x _ _=>f x⟩
 ·have r0:=r;rw [Ab] at r;obtain ⟨p,ev,hm⟩:=r;subst ev;refine ⟨.l,p,rfl,fun {H2 μ2 h2} x R2 ck=>?_⟩;have r2:=x.r _ _ r0;rw [Ab] at r2;obtain ⟨q,eq,hm2⟩:=r2;cases eq;obtain ⟨p',xs,hm',hx,rs⟩:=R2.lstAt (show h2.c n=Dn (.lst ws) from ck);have ep:p'=p:=by rw [hm2] at hm';exact (HS hm').symm
  subst ep;exact ⟨xs,.of hx,rs⟩
theorem agy {h:Gh}{x y:W}{s:Src}(e:PK h x y=Dn s):∃ as bs o,s=⟨sS as bs,o⟩/\((tE x=Dn as/\o=FX)\/∃ n,x=.loc n/\h.c n=Dn (.lst as)/\o=Dn (n,as))/\tE y=Dn bs:=by
 unfold PK at e;split at e
 ·rename_i as bs ea eb;exact ⟨as,bs,FX,(HS e).symm,.inl ⟨ea,rfl⟩,eb⟩
 ·rename_i bs ea eb;split at e
  ·split at e
   ·rename_i n _ as ec;exact ⟨as,bs,_,(HS e).symm,.inr ⟨n,rfl,ec,rfl⟩,eb⟩
   ·cases e
  ·cases e
 ·cases e
def P0 (ma:MA):MI:=fun σ h R=>ma σ h fun ws h1=>match ws with
 | [x,y]=>(match PK h1 x y with
  | some s=>R s h1
  | none=>False)
 | _=>False
theorem xM {e1 e2:Expr}{mr:MA}{p pos tpos:Pos}{elts:List Expr}{kt:Nat}(hg:Gl X "zip")(hm:X.mg "zip" = FX)(ha:KH X [e1,e2] mr)
  (hs:Fv [e1,e2] X.env=(false,eval e1 X.env)::Fv [e2] X.env:=by rfl) (hpl:(KR pos (Fv [e2] X.env)).any (·.1)=false:=by rfl) :
  Oi X (.Tuple elts kt tpos) (.Call (.Name "zip" p) [e1,e2] [] pos) (P0 mr):=PI.of (W3 hg hm ha hs hpl) fun σ H Q ⟨μ,h,σw,Rw,R,S,m,k⟩=>by
 refine ⟨μ,h,σw,_,R,S,m,fun vs H1 ⟨μ1,ws,h1,e1,R1,r1,m1⟩=>?_⟩;split at m1
 ·split at m1
  ·rename_i x y _ s es;obtain ⟨as,bs,o,rfl,ea,eb⟩:=agy es;obtain ⟨v,u,ev,rv,ru⟩:=WX r1;obtain ⟨ka,a,e3,fa⟩:=afm R1 rv ea;obtain ⟨kb,b,e4,fb⟩:=BW ru eb;have ck1:Src.chk ⟨as,o⟩ h1:=by
    rcases ea with ⟨_,rfl⟩ | ⟨n,_,ec,rfl⟩
    ·exact trivial
    ·exact ec
   obtain ⟨xs,hxs,_⟩:=fa .refl R1 ck1;obtain ⟨ys,hys,_⟩:=fb .refl;refine ⟨v,u,ka,kb,a,b,ev,⟨e3,xs,hxs⟩,⟨e4,ys,hys⟩,k _ _ ⟨μ1,⟨sS as bs,o⟩,h1,e1,R1,?_,m1⟩⟩;intro H2 μ2 h2 i e2 R2 ck;obtain ⟨xs2,hxs2,rxs⟩:=fa e2 R2 ck;obtain ⟨ys2,hys2,rys⟩:=fb e2;refine ⟨fun w ew=>?_,fun hl=>⟨xs2,ys2,hxs2,hys2,?_⟩⟩
   ·obtain ⟨p1,p2,ep1,ep2,rfl⟩:=Dz ew;obtain ⟨q1,eq1,rq1⟩:=rxs.get ep1;obtain ⟨q2,eq2,rq2⟩:=rys.get ep2;refine ⟨⟨xs2,ys2,q1,q2,hxs2,hys2,eq1,eq2⟩,fun x' H3 ⟨pa,x1,x2,hp,ex',eH3,f1,f2⟩=>?_⟩;have g1:=f1 xs2 hxs2;have g2:=f2 ys2 hys2;rw [eq1] at g1;rw [eq2] at g2;cases g1;cases g2;subst ex' eH3;exact ⟨μ2,(Ex.laid hp).ext,R2.laid hp,.tupNew hp<|.cons rq1<|.one rq2⟩
   ·have l1:=rxs.len;have l2:=rys.len;have:min as.length bs.length<=i:=by rw [<-Ca];exact hl
    lia
  ·exact m1.elim
 ·exact m1.elim
theorem vQ:∀ {ns:List Int} {its:List Go} {i:Nat} {v:Go},Bp (ns.map V.int) its->its[i]?=Dn v->∃ t,v=.int (ns.getD i 0) t
 | [],_,_,_,.nil,e=>by simp at e
 | n::ns,_,0,_,.cons r _,e=>by
  simp at e;subst e;exact r
 | _::ns,_,i+1,v,.cons _ t,e=>by
  obtain ⟨t',h⟩:=vQ (i:=i) (v:=v) t (by simpa using e);exact ⟨t',by simpa using h⟩
theorem qN (ns:List Int):∀ k,k<=ns.length->preSum (fun i=>ns.getD i 0) k=(ns.take k).sum
 | 0,_=>by simp [preSum]
 | k+1,h=>by
  rw [preSum,qN ns k (by lia),M4,List.sum_append,Kc (by lia),Rb,Kc (by lia)];show _=_+(ns[k]+0);rw [Int.add_zero];rfl
theorem aen (hc:X.calm=true):gj X (.builtin "sum") (fun xs H Q=>∃ (p:Addr) (ns:List Int),xs=[.ref p]/\Hg X.K H p (ns.map V.int)/\Q (.int ns.sum) H):=by
 intro pins s σ H xs us Q I r ⟨p,ns,e,hS,q⟩;subst e;obtain ⟨u,rfl,ru⟩:=vals1 r;cases ru;obtain ⟨its,rv,pl,hz⟩:=I.list hS;have hlen:its.length=ns.length:=by rw [<-rv.length,GJ]
 have hl:=pl.isList;have hlt:p<s.heap.objs.size:=by obtain ⟨_,e,_⟩:=hl;exact Ga e
 refine call_sum_walkAnyS<|TF hl ?_
 refine ⟨s.heap.objs.size,[s.heap.objs.size,p],[s.heap.objs.size],_,its.toArray.size,_,_,fun i=>ns.getD i 0,rfl,(Walks.list (A:=X.A.in1) (I.ok.hd hc) _ p (HI hlt) its.toArray).toS,
  ⟨⟨_,Jp _ rfl,rfl,rfl⟩,hl.push _⟩,fun b hb=>?_,fun i v hP=>vQ rv (by simpa using hP),fun s' t' hm=>?_⟩
 ·rw [QV];simp only [Fe,Fx,or_false] at hb;rcases hb with rfl | rfl
  ·exact Ul _
  ·exact Nat.lt_succ_of_lt hlt
 ·have e:preSum (fun i=>ns.getD i 0) its.toArray.size=ns.sum:=by rw [Gz,hlen,qN ns _ (Ge _),NQ]
  rw [e];obtain ⟨hh,gg,dd,tt,oo⟩:=s';have hg:gg=s.gens:=hm.gens;have hd:dd=s.drawn:=hm.drawn;have ho:oo=s.os:=hm.os;subst hg hd ho;refine ⟨.int ns.sum,H,I.kept (h':=hh) (t':=tt)<|fun b x e=>?_,⟨t',rfl⟩,q⟩;exact hm.heap b x (fun hm=>by rw [Nb.mp hm] at e;exact Mj _ (Ga e))<|Gj _ e
def Fg:List W->Option (List Int)
 | []=>Dn []
 | .int i::ws=>(Fg ws).map (i::·)
 | _=>FX
theorem Cy {H:Hp}{μ : Mu}:∀ {ws:List W} {xs:List V} {ns:List Int},aM K H μ ws xs->Fg ws=Dn ns->xs=ns.map V.int
 | [],xs,ns,r,e=>by
  rw [aM] at r;cases (show Dn []=Dn ns from e)
  exact r
 | w::ws,xs,ns,r,e=>by
  rw [aM] at r;obtain ⟨v,vr,ev,ra,r⟩:=r;cases w with
  | int b=>
   rw [Ab] at ra;rw [Fg] at e;cases q:Fg ws with
   | none=>rw [q] at e;cases e
   | some cs=>
    rw [q] at e;cases (show Dn (b::cs)=Dn ns from e)
    rw [ev,ra,Cy r q];rfl
  | _=>cases e
def X8:MC:=fun ws h Q=>match ws with
 | [w]=>(match cG h w with
  | some us=>(match Fg us with
   | some ns=>Q (.int ns.sum) h
   | none=>False)
  | none=>False)
 | _=>False
theorem aaq (hc:X.calm=true):m7 X (.builtin "sum") X8:=⟨_,aen hc,by
 intro H μ h vs ws Qw Q R r m k;unfold X8 at m;split at m
 ·split at m
  ·split at m
   ·rename_i w _ us ev _ ns eb;obtain ⟨v,e,rv⟩:=kE r;obtain ⟨p,ys,ex,hs,rs⟩:=cA R rv ev;subst e ex;exact ⟨p,ns,rfl,by rw [<-Cy rs eb];exact hs,k _ _<|.int R m⟩
   ·exact m.elim
  ·exact m.elim
 ·exact m.elim⟩
end
theorem Cj:Manifest.owners.lookup (String.ofList ['d','e','s','r','e','v','e','r'].reverse)=Dn Manifest.sig_reversed:=by kernel_rfl
theorem Pj:mroOf (.type "reversed")=pure [.type "reversed",.type "object"]:=by
 rw [mroOf_type]
 kernel_rfl
theorem ZR:typeLookup (.type "reversed") "__new__" = pure (Dn (.builtin "reversed.__new__")):=by
 rw [Ud,V1]
 kernel_rfl
theorem dG:Slot "reversed" "__next__" "reversed.__next__":=
  .of (owner := "reversed") (n := "__next__")
    (by rw [Ud,V1]
        kernel_rfl)
    (by decide +kernel) (by decide +kernel)
    (by decide +kernel)
    (by first
        | exact .inl (by decide +kernel)
        | exact .inr (by decide +kernel))
    (by rw [Tv]
        kernel_rfl)
theorem mG:entryFor table "reversed.__next__" = Dn R6.«reversed.__next__»:=entryFor_of_tree (by kernel_rfl)
theorem oW (a:Go):argsOk "reversed.__next__" ⟨[a],[]⟩:=by
 unfold argsOk;rw [signature?_of (id := "reversed.__next__") (n:=['_','_','t','x','e','n','_','_']) (o:=['d','e','s','r','e','v','e','r']) (by kernel_rfl) Cj]
 kernel_rfl
theorem oZ:Slot "reversed" "__iter__" "reversed.__iter__":=
  .of (owner := "reversed") (n := "__iter__")
    (by rw [Ud,V1]
        kernel_rfl)
    (by decide +kernel) (by decide +kernel)
    (by decide +kernel)
    (by first
        | exact .inl (by decide +kernel)
        | exact .inr (by decide +kernel))
    (by rw [Tv]
        kernel_rfl)
theorem yp (a:Go):argsOk "reversed.__iter__" ⟨[a],[]⟩:=by
 unfold argsOk;rw [signature?_of (id := "reversed.__iter__") (n:=['_','_','r','e','t','i','_','_']) (o:=['d','e','s','r','e','v','e','r']) (by kernel_rfl) Cj]
 kernel_rfl
theorem wD:entryFor table "reversed.__iter__" = Dn R6.«dict_keyiterator.__iter__»:=
  entryFor_alias (id' := "dict_keyiterator.__iter__") (by kernel_rfl)
    (by first
        | rfl
        | decide +kernel
        | (unfold String.splitOn;simp +decide [String.splitOnAux]))
    (by decide +kernel) (by kernel_rfl)
theorem zag (a:Go):checkTypeCall "reversed" ⟨[a],[]⟩=pure ():=by kernel_rfl
theorem aej (a:Go):checkBuiltinCall "reversed.__new__" ⟨[.type "reversed",a],[]⟩=pure ():=by kernel_rfl
theorem yN:entryFor table "reversed.__new__" = Dn R6.«reversed.__new__»:=entryFor_of_tree (by kernel_rfl)
theorem Xu:isSubtype (.type "reversed") (.type "reversed")=pure true:=by
 rw [Tv]
 kernel_rfl
theorem zam:typeLookup (.type "tuple") "__reversed__" = pure FX:=by
 rw [Ud,V1]
 kernel_rfl
theorem zal:isSubtype (.type "tuple") (.type "dict")=pure false:=by
 rw [Tv]
 kernel_rfl
def TY (l:Addr)(i:Int):Obj:={ cls:=.type "reversed",data:=.fields #[.ref l,Mi i] }
def Ko (h:Heap)(a l:Addr)(i:Int):Prop:=∃ o,h.get? a=Dn o/\o.cls=.type "reversed"/\o.data=.fields #[.ref l,Mi i]
section
variable {P:Fb}{w:FZ}{A:Fd}{E:Go->AP->Prop}{s:AP}
theorem Ko.typeIs {a l:Addr}{i:Int}(x:Ko s.heap a l i):s.TypeIs (.ref a) "reversed":=let ⟨o,g,c,_⟩:=x;⟨o,g,c⟩
theorem Ko.at {h h':Heap}{a l:Addr}{i:Int}(x:Ko h a l i)(e:∀ o,h.get? a=Dn o->h'.get? a=Dn o):Ko h' a l i:=let ⟨o,g,r⟩:=x;⟨o,e _ g,r⟩
theorem afQ (a:Go):Builtin.SmallTypes.newClass "reversed" ⟨[.type "reversed",a],[]⟩=pure (.type "reversed",[a]):=by
 unfold Builtin.SmallTypes.newClass;simp only [isType,Xu,pure_bind,Bool.not_true,Mp];rfl
theorem afJ:Slot "reversed" "__init__" "object.__init__":=
  .of (owner := "object") (n := "__init__")
    (by rw [Ud,V1]
        kernel_rfl)
    (by decide +kernel) (by decide +kernel)
    (by decide +kernel)
    (by first
        | exact .inl (by decide +kernel)
        | exact .inr (by decide +kernel))
    (by rw [Tv]
        kernel_rfl)
theorem afH:TypeCalled "reversed" "reversed.__new__" "object.__init__":=
  ⟨by decide +kernel,by decide +kernel,⟨_,_,Pj⟩,madeBy_type Pj ZR (by decide +kernel),by decide +kernel,
    by rw [Tv]
       kernel_rfl,afJ⟩
theorem zbC (l:Addr)(xs:Array Go):Meets (R6.«reversed.__new__» ⟨[.type "reversed",.ref l],[]⟩) (fun _ R s=>IsTup s.heap l xs/\(xs.size:Int)<2^63 /\
   R (.ok (.ret (.ref s.heap.objs.size))) { s with heap:=s.heap.push (TY l ((xs.size:Int) - 1)),toks:=s.toks+1+1 }):=by
 refine .of_wp fun prog w A R s ⟨ht,hfit,q⟩=>?_;unfold R6.«reversed.__new__»;refine Af<|Ru (afQ _) ?_
 try dsimp only
 refine Af<|Ru (a:=()) (by rfl) ?_
 refine Af<|Ru (a:=()) (by rfl) ?_
 try dsimp only
 refine Af<|Ue ht.typeIs zam ?_
 try dsimp only
 refine Af ?_;refine Af<|wpAny_isInstance (U := "dict") (b:=false) ht.typeIs zal ?_
 rw [if_neg LI];refine Af<|Ue ht.typeIs T3.lookup ?_
 show CR _ _ (if (_:Bool)=true then pure true else _) _ _ _;rw [if_pos (by decide +kernel)];refine FP ?_;rw [if_neg (by decide)];refine Af<|len_tuple ht hfit ?_
 refine Af<|Ru (a:=Dn (xs.size:Int)) (by rfl) ?_
 try dsimp only
 refine Af ?_;show CR _ _ (newObj (.type "reversed") (.fields #[.ref l,Mi ((xs.size:Int) - 1)])) _ _ _;exact Q5 (FP ⟨_,rfl,q⟩)<|by size_fits
theorem afE {l:Addr}{xs:Array Go}{Q:Go->AP->Prop}(ht:IsTup s.heap l xs)(hfit:(xs.size:Int)<2^63)
  (q:Q (.ref s.heap.objs.size) { s with heap:=s.heap.push (TY l ((xs.size:Int) - 1)),toks:=s.toks+1+1 }):CR (FJ P w) A (call (.type "reversed") [.ref l]) Q E s:=by
 refine callType_new afH (by decide) (zag _) (aej _) (fun obj=>PySem.F.args_object_init_2 obj _) yN (zbC l xs) ⟨ht,hfit,?_⟩;exact ⟨⟨_,Jp _ rfl,rfl⟩,q⟩
theorem zbe {it l:Addr}{i:Nat}{xs:Array Go}{x:Go}{Q:Option Go->AP->Prop}(hi:Ko s.heap it l (i:Int))(ht:IsTup s.heap l xs)(hfit:(xs.size:Int)<2^63)(hx:xs[i]?=Dn x)
  (q:∀ h',Ko h' it l ((i:Int) - 1)->NT it s.heap h'->Q (Dn x) { s with heap:=h',toks:=s.toks+1 }):CR (FJ P w) A (Mw (.ref it)) Q E s:=by
 obtain ⟨o,go,gc,gd⟩:=id hi;have hlt:i<xs.size:=(Array.getElem?_eq_some_iff.mp hx).1;unfold Mw;refine Af (Tc (Rz (name:=Rq "__next__") hi.typeIs dG
  (RZ dG hi.typeIs mG ?_ (oW _))))
 unfold R6.«reversed.__next__»;refine Af<|Ru (a:=(Value.ref it,([]:List Go))) (by rfl) ?_
 try dsimp only
 refine Af<|KY go gd (x:=.ref l) rfl ?_
 refine Af<|KY go gd (x:=Mi (i:Int)) rfl ?_
 show CR _ _ (if (i:Int)<0 then _ else _) _ _ s;rw [if_neg (by lia)];refine Af<|Ue ht.typeIs T3.lookup ?_
 rw [if_neg (by decide)];refine Af<|wpAny_mkInt ?_
 refine Af<|Tc<|getItem_tuple (s:={ s with toks:=s.toks+1 }) ht (by lia) (by lia) (j:=i) ?_ hx ?_
 ·have e:=seqIndex_of (k:=(i:Int)) (n:=xs.size) (by lia) (by lia);rw [Int.toNat_natCast] at e;exact e
 try dsimp only
 refine Af<|KY go gd (x:=Mi (i:Int)) rfl ?_
 refine Af<|Ut go gd (by simp) ?_
 refine FP ⟨x,rfl,FP<|q _ ?_<|SJ ..⟩;exact ⟨_,Sy _ go<|V8<|TV gd _,(Obj.cls_mapFields ..).trans gc,by rw [TV gd];simp⟩
theorem zx {it l:Addr}{Q:Option Go->AP->Prop}(hh:A.handled=FX)(hi:Ko s.heap it l (-1))
  (q:∀ h',Ti it s.heap h'->Q FX { s with heap:=h' }):CR (FJ P w) A (Mw (.ref it)) Q E s:=by
 obtain ⟨o,go,gc,gd⟩:=id hi;unfold Mw;refine Af (Tc (Rz (name:=Rq "__next__") hi.typeIs dG
  (RZ dG hi.typeIs mG ?_ (oW _))))
 unfold R6.«reversed.__next__»;refine Af<|Ru (a:=(Value.ref it,([]:List Go))) (by rfl) ?_
 try dsimp only
 refine Af<|KY go gd (x:=.ref l) rfl ?_
 refine Af<|KY go gd (x:=Mi (-1)) rfl ?_
 show CR _ _ (if (-1:Int)<0 then _ else _) _ _ s;rw [if_pos (by decide)];refine Af<|T8 ?_
 refine Af ?_;refine Af<|Ut go gd (by simp) ?_
 have g1:=Sy (fun o=>o.mapFields fun x=>x.setIfInBounds 1 (Mi (-1))) go (V8 (TV gd _));refine Ut g1 (TV gd _) (by simp) ?_;refine Af ?_;show CR _ _ (newExc (.type "StopIteration") [] >>= fun e0=>raiseNew e0) _ _ _;refine Af ?_;simp only [newExc,newTuple,raiseNew];refine Af (Q5 (by
  refine Af (m:=Us _ _)<|Ru (a:=Value.none) (by rfl)<|Q5 ?_<|by size_fits
  refine Af (wpAny_handled (by
   first
    | rw [show A.in1.handled=FX from hh]
    | rw [hh]
   refine Af<|FP<|wpAny_throw ?_
   refine Af<|wpAny_isInstance (T := "StopIteration") (b:=true) ⟨_,Jp _ rfl,rfl⟩ isSubtype_stop<|FP<|q _ ?_
   intro b ob hb eb;exact Gj _ (Gj _ ((SJ ..).extBut b ob hb ((SJ ..).extBut b ob hb eb))))) ) (by size_fits))
theorem Dq {it l:Addr}{i:Int}{Q:Go->AP->Prop}(hi:Ko s.heap it l i)(q:Q (.ref it) s):CR (FJ P w) A (pyIter (.ref it)) Q E s:=by
 refine wpAny_pyIter_slot hi.typeIs oZ<|RZ oZ hi.typeIs wD ?_<|yp _
 show CR _ _ (ret (.ref it)) _ _ s;exact FP ⟨_,rfl, "reversed",_,hi.typeIs,dG.lookup,q⟩
end
def Itv (K:Ai)(n:Nat)(l:Addr):It:=
  ⟨fun i H=>i<n/\∃ xs x,Hs K H l xs/\xs.length=n/\xs[n - 1 - i]?=Dn x,
   fun i H v H'=>H'=H/\∀ xs,Hs K H l xs->xs[n - 1 - i]?=Dn v,
   fun i _=>n<=i,true⟩
def adz (n:Nat)(it l:Addr)(i:Nat)(h:Heap):Prop:=i<=n/\Ko h it l ((n:Int) - 1 - (i:Int))
theorem agi {P:Fb}{w:FZ}{K:Ai}{tg:Expr}{n:Nat}{it l:Addr}(hne:l≠it):Turn P w K tg (Itv K n l) [it] it (adz n it l) where
 mem:=by simp
 obj:=fun i h st b hb=>by
  obtain ⟨_,o,g,_,d⟩:=st;rw [Nb] at hb;subst hb;exact ⟨o,g,fun v y=>by rw [d] at y;cases y⟩
 keep:=fun i h h' st k=>⟨st.1,st.2.at fun o e=>k it (by simp) o e⟩
 item:=by
  intro X hP hw hK hc i pins s σ H E I hf st hg;subst hP hw hK;obtain ⟨hin,xs,x,hx,hlen,ex⟩:=hg;obtain ⟨its,r,pl,hz⟩:=I.tuple hx;obtain ⟨u,hu,ru⟩:=r.get ex;have hl:=r.length;have e1:(n:Int) - 1 - (i:Int)=((n - 1 - i:Nat):Int):=by lia
  have hi:=st.2;rw [e1] at hi;have hn:=oV;refine zbe hi pl (by simp only [Gz];lia) (x:=u) (by simpa using hu) fun h1 g1 sb=>⟨u,rfl,?_⟩;have e2:((n - 1 - i:Nat):Int) - 1=(n:Int) - 1 - ((i+1:Nat):Int):=by lia
  rw [e2] at g1;obtain ⟨o,go,gc,gd⟩:=id g1;refine Kf (s:={ s with heap:=h1,toks:=s.toks+1 }) go gc gd (by decide) ⟨x,H,I.turnedL (t':=s.toks+1) (ch:=[it]) (fun b o hb e=>sb.extBut b o (fun q=>hb<|by simp [q]) e) hf,ru,⟨rfl,fun ys hy=>?_⟩,⟨hin,g1⟩,fun b hb=>(hf b hb).1⟩;rw [I.tuple_inj hy hx];exact ex
 done:=by
  intro X hP hw hK hc i pins s σ H E I hf st hg;subst hP hw hK;have hi:=st.2;have e1:(n:Int) - 1 - (i:Int) = -1:=by
   have:=st.1
   have:n<=i:=hg
   lia
  rw [e1] at hi;exact zx (I.ok.hd<|hc rfl) hi fun h1 eb=>⟨rfl,I.turnedL (t':=s.toks) (ch:=[it]) (fun b o hb e=>eb b o (fun q=>hb<|by simp [q]) e) hf⟩
 self:=fun _ _ _ _ _ st h=>Dq st.2 h
section
variable {X:Cx}{K:Ai}
end
section
variable {X:Cx}
def abA (i j k:Nat)(ta:MA):MS:=fun D σ h=>ta σ h fun ws h1=>match ws with
 | [a,b,c]=>D.nx (((σ.set i (Dn a)).set j (Dn b)).set k (Dn c)) h1
 | _=>False
end
def Itw (K:Ai)(n:Nat)(l:Addr):It:=
  ⟨fun i H=>i<n/\∃ xs x,Hg K H l xs/\xs.length=n/\xs[n - 1 - i]?=Dn x,
   fun i H v H'=>H'=H/\∀ xs,Hg K H l xs->xs[n - 1 - i]?=Dn v,
   fun i _=>n<=i,true⟩
def adD (n:Nat)(it l:Addr)(i:Nat)(h:Heap):Prop:=i<=n/\h.IsRevIter it l ((n:Int) - 1 - (i:Int))
theorem zaZ {P:Fb}{w:FZ}{K:Ai}{tg:Expr}{n:Nat}{it l:Addr}(hne:l≠it):Turn P w K tg (Itw K n l) [it] it (adD n it l) where
 mem:=by simp
 obj:=fun i h st b hb=>by
  obtain ⟨_,o,g,_,d⟩:=st;rw [Nb] at hb;subst hb;exact ⟨o,g,fun v y=>by rw [d] at y;cases y⟩
 keep:=fun i h h' st k=>⟨st.1,st.2.at fun o e=>k it (by simp) o e⟩
 item:=by
  intro X hP hw hK hc i pins s σ H E I hf st hg;subst hP hw hK;obtain ⟨hin,xs,x,hx,hlen,ex⟩:=hg;obtain ⟨its,r,pl,hz⟩:=I.list hx;obtain ⟨u,hu,ru⟩:=r.get ex;have hl:=r.length;have e1:(n:Int) - 1 - (i:Int)=((n - 1 - i:Nat):Int):=by lia
  have hi:=st.2;rw [e1] at hi;refine wpAny_pyNext_rev_item hi pl.isList (x:=u) (by simpa using hu) fun h1 g1 sb=>⟨u,rfl,?_⟩;have e2:((n - 1 - i:Nat):Int) - 1=(n:Int) - 1 - ((i+1:Nat):Int):=by lia
  rw [e2] at g1;obtain ⟨o,go,gc,gd⟩:=id g1;refine Kf (s:={ s with heap:=h1 }) go gc gd (by decide) ⟨x,H,I.turnedL (t':=s.toks) (ch:=[it]) (fun b o hb e=>sb.extBut b o (fun q=>hb<|by simp [q]) e) hf,ru,⟨rfl,fun ys hy=>?_⟩,⟨hin,g1⟩,fun b hb=>(hf b hb).1⟩;rw [I.list_inj hy hx];exact ex
 done:=by
  intro X hP hw hK hc i pins s σ H E I hf st hg;subst hP hw hK;have hi:=st.2;have e1:(n:Int) - 1 - (i:Int) = -1:=by
   have:=st.1
   have:n<=i:=hg
   lia
  rw [e1] at hi;exact wpAny_pyNext_rev_end (I.ok.hd<|hc rfl) hi fun h1 eb=>⟨rfl,I.turnedL (t':=s.toks) (ch:=[it]) (fun b o hb e=>eb b o (fun q=>hb<|by simp [q]) e) hf⟩
 self:=fun _ _ _ _ _ st h=>wpAny_pyIter_revIter st.2 h
section
variable {X:Cx}{K:Ai}
def aaT (K:Ai)(ta:TA):TI:=fun σ H R=>ta σ H fun vs H1=>∃ a xs,vs=[.ref a]/\((Hs K H1 a xs/\R (Itv K xs.length a) H1)\/(Hg K H1 a xs/\R (Itw K xs.length a) H1))
theorem agd {tg e1:Expr}{ta:TA}{p pos:Pos}(hg:Gl X "reversed")(hm:X.mg "reversed" = FX)(ha:PA X [e1] ta)
  (hs:Fv [e1] X.env=(false,eval e1 X.env)::Fv [] X.env:=by rfl) (hpl:(KR pos (Fv [] X.env)).any (·.1)=false:=by rfl) :
  PI X tg (.Call (.Name "reversed" p) [e1] [] pos) (aaT X.K ta):=by
 intro pins s σ H R I h;refine UJ<|qT I hg hm boot_reversed ?_ (by decide)<|by decide
 refine V7 (GQ (ha pos pins s σ H _ I h) fun us s1 ⟨vs,H1,I1,r1,q1⟩=>?_) hs hpl;obtain ⟨a,xs,ev,hx⟩:=q1;subst ev;obtain ⟨u1,eu,ru1⟩:=vals1 r1;subst eu;cases ru1;rcases hx with ⟨hx,q⟩ | ⟨hx,q⟩
 ·obtain ⟨its,r,pl,hz⟩:=I1.tuple hx;have hl:=r.length;have hn:=oV;refine afE pl (by simp only [Gz];lia) ?_;have gi:Ko (s1.heap.push (TY a ((its.toArray.size:Int) - 1))) s1.heap.objs.size a ((xs.length:Int) - 1 - ((0:Nat):Int)):=by
   refine ⟨_,Jp _ rfl,rfl,?_⟩;show Data.fields #[.ref a,Mi ((its.toArray.size:Int) - 1)]=_;rw [Gz,<-hl];simp
  have la:a<s1.heap.objs.size:=by obtain ⟨_,e,_⟩:=pl;exact Ga e
  refine Dq gi ?_;refine ⟨_,[s1.heap.objs.size],_,_,H1,rfl,I1.kept (t':=s1.toks+1+1)<|fun b o e=>Gj _ e,agi<|HI la,⟨RN _,gi⟩,fun c hc=>?_,q⟩;rw [Nb] at hc;subst hc;exact I1.fpOk (Ge _)<|I1.hok.fresh<|Ge _
 ·obtain ⟨its,r,pl,hz⟩:=I1.list hx;have hl:=r.length;refine call_reversed_list pl.isList ?_;have gi:(s1.heap.push (revObj a ((its.toArray.size:Int) - 1))).IsRevIter s1.heap.objs.size a ((xs.length:Int) - 1 - ((0:Nat):Int)):=by
   refine ⟨_,Jp _ rfl,rfl,?_⟩;show Data.fields #[.ref a,Mi ((its.toArray.size:Int) - 1)]=_;rw [Gz,<-hl];simp
  have la:a<s1.heap.objs.size:=by obtain ⟨_,e,_⟩:=pl.isList;exact Ga e
  refine wpAny_pyIter_revIter gi ?_;refine ⟨_,[s1.heap.objs.size],_,_,H1,rfl,I1.kept (t':=s1.toks)<|fun b o e=>Gj _ e,zaZ<|HI la,⟨RN _,gi⟩,fun c hc=>?_,q⟩;rw [Nb] at hc;subst hc;exact I1.fpOk (Ge _)<|I1.hok.fresh<|Ge _
def ZL (ma:MA):MI:=fun σ h R=>ma σ h fun ws h1=>match ws with
 | [.tup us]=>R ⟨us.reverse,FX⟩ h1
 | [.lst us]=>R ⟨us.reverse,FX⟩ h1
 | _=>False
theorem ahG {tg e1:Expr}{mr:MA}{p pos:Pos}(hg:Gl X "reversed")(hm:X.mg "reversed" = FX)(ha:KH X [e1] mr)
  (hs:Fv [e1] X.env=(false,eval e1 X.env)::Fv [] X.env:=by rfl) (hpl:(KR pos (Fv [] X.env)).any (·.1)=false:=by rfl) :
  Oi X tg (.Call (.Name "reversed" p) [e1] [] pos) (ZL mr):=PI.of (agd hg hm ha hs hpl) fun σ H Q ⟨μ,h,σw,Rw,R,S,m,k⟩=>by
 refine ⟨μ,h,σw,_,R,S,m,fun vs H1 ⟨μ1,ws,h1,e1,R1,r1,m1⟩=>?_⟩;split at m1
 ·rename_i us;obtain ⟨v,ev,rv⟩:=kE r1;have rv0:=rv;rw [Ab] at rv;obtain ⟨a,xs,ea,hx,rs⟩:=rv;subst ev ea;have hl:=rs.len;refine ⟨a,xs,rfl,.inl ⟨hx,k _ _ ⟨μ1,⟨us.reverse,FX⟩,h1,e1,R1,?_,m1⟩⟩⟩;intro H2 μ2 h2 i e2 R2 _;have r2:=e2.r _ _ rv0;rw [Ab] at r2;obtain ⟨b,ys,eb,hy,ry⟩:=r2;cases eb;have hl2:=ry.len;refine ⟨fun w ew=>?_,fun hle=>?_⟩
  ·have hi:i<us.length:=by
    have:=(Nk.mp ew).1
    simpa using this
   rw [List.getElem?_reverse hi] at ew;obtain ⟨v,hv,rv⟩:=ry.get ew;refine ⟨⟨by lia,ys,v,hy,by lia,by rw [show xs.length - 1 - i=us.length - 1 - i by lia];exact hv⟩,fun x H3 ⟨e3,y⟩=>?_⟩;subst e3;have:=y ys hy
   rw [show xs.length - 1 - i=us.length - 1 - i by lia,hv] at this;cases this;exact ⟨μ2,.refl,R2,rv⟩
  ·have:us.length<=i:=by simpa using hle
   show xs.length<=i;lia
 ·rename_i us;obtain ⟨v,ev,rv⟩:=kE r1;have rv0:=rv;rw [Ab] at rv;obtain ⟨a,xs,ea,hx,rs⟩:=rv;subst ev ea;have hl:=rs.len;refine ⟨a,xs,rfl,.inr ⟨hx.sq,k _ _ ⟨μ1,⟨us.reverse,FX⟩,h1,e1,R1,?_,m1⟩⟩⟩;intro H2 μ2 h2 i e2 R2 _;have r2:=e2.r _ _ rv0;rw [Ab] at r2;obtain ⟨b,ys,eb,hy,ry⟩:=r2;cases eb;have hl2:=ry.len;refine ⟨fun w ew=>?_,fun hle=>?_⟩
  ·have hi:i<us.length:=by
    have:=(Nk.mp ew).1
    simpa using this
   rw [List.getElem?_reverse hi] at ew;obtain ⟨v,hv,rv⟩:=ry.get ew;refine ⟨⟨by lia,ys,v,hy.sq,by lia,by rw [show xs.length - 1 - i=us.length - 1 - i by lia];exact hv⟩,fun x H3 ⟨e3,y⟩=>?_⟩;subst e3;have:=y ys hy.sq
   rw [show xs.length - 1 - i=us.length - 1 - i by lia,hv] at this;cases this;exact ⟨μ2,.refl,R2,rv⟩
  ·have:us.length<=i:=by simpa using hle
   show xs.length<=i;lia
 ·exact m1.elim
end
theorem jU {K:Ai}{H:Hp}{μ : Mu}:aM K H μ [] []:=by rw [aM]
theorem bC {K:Ai}{H:Hp}{μ : Mu}{w:W}{v:V}{ws:List W}{vs:List V}(h:Ab K H μ w v)(t:aM K H μ ws vs):aM K H μ (w::ws) (v::vs):=by rw [aM];exact ⟨v,vs,rfl,h,t⟩
theorem jY {K:Ai}{H:Hp}{μ : Mu}{i:Int}:Ab K H μ (.int i) (.int i):=by rw [Ab]
theorem K6 {K:Ai}{H:Hp}{μ : Mu}{i:Str}:Ab K H μ (.str i) (.str i):=by rw [Ab]
theorem bU {K:Ai}{a:Addr}{sl:Array (Option Go)}{its:Array Go}{n:Nat}{xs:List V}{ws:List W}(h:K.lookup a=Dn ⟨.type "tuple",FX,.seq its n,sl⟩)(hz:its.size<=Gb)(hv:Bp xs its.toList)(hr:∀ H μ,aM K H μ ws xs):∀ H μ,Ab K H μ (.tup ws) (.ref a):=by
 intro H μ;rw [Ab];exact ⟨a,xs,rfl,.inr ⟨_,its,n,h,rfl,rfl,hz,hv,rfl⟩,hr H μ⟩
theorem j4 {i:Int}{t}:RelV (.int i) (.int i t):=⟨t,rfl⟩
theorem K5 {i:Str}{t}:RelV (.str i) (.str i t):=⟨t,rfl⟩
theorem Er {a:Addr}:RelV (.ref a) (.ref a):=rfl
section
variable {prog:Fb}{w:FZ}{A:Fd}{E:Go->AP->Prop}{s:AP}
theorem yr {it t:Addr}{items:Array Go}(hne:t≠it):∀ (n i:Nat) (s:AP) (Q:List Go->AP->Prop),s.heap.IsListIter it t i->s.heap.IsList t items->i+n<=items.size ->
  (∀ h',h'.IsListIter it t (i+n)->NT it s.heap h'->Q ((items.toList.drop i).take n) { s with heap:=h' })->CR (FJ prog w) A (draw (.ref it) n) Q E s
 | 0,i,s,Q,hit,_,_,hQ=>by
  show CR _ _ (pure []) Q E s;exact FP<|by simpa using hQ s.heap hit (Heap.SameBut.refl ..)
 | n+1,i,s,Q,hit,ht,hle,hQ=>by
  have hlt:i<items.size:=by lia
  show CR _ _ (Mw (.ref it) >>= _) Q E s;refine Af<|wpAny_pyNext_list_item hit ht (x:=items[i]) (by simp [hlt]) fun h1 hit1 hs1=>?_
  refine Af<|MH<|yr hne n (i+1) _ _ hit1 (ht.at fun o e=>hs1.extBut _ o hne e) (by lia) fun h2 hit2 hs2=>FP ?_
  have hd:items.toList.drop i=items[i]::items.toList.drop (i+1):=by simp [VR,hlt]
  have:=hQ h2 (by rw [show i+(n+1)=i+1+n by lia];exact hit2) (hs1.trans hs2)
  rw [hd,List.take_succ_cons] at this;exact this
theorem pO {t:Addr}{items:Array Go}{Q:List Go->AP->Prop}(hh:A.handled=FX)(ht:s.heap.IsList t items)
  (hQ:∀ h',Ti s.heap.objs.size s.heap h'->Q items.toList { s with heap:=h' }):CR (FJ prog w) A (unpackItems (.ref t) items.size FX) Q E s:=by
 have hlt:t≠s.heap.objs.size:=by obtain ⟨o,ho,_⟩:=ht;exact HI (Ga ho)
 unfold unpackItems;refine Af ?_
 ·unfold notIterableAtAll;refine Af<|Ue ht.typeIs slot_list_iter.lookup ?_
  refine FP ?_;simp only [Mp,if_false];refine Af<|MH<|TF ht ?_
  refine Af<|MH<|yr hlt items.size 0 _ _ ⟨_,Jp _ rfl,rfl,rfl⟩ (ht.at fun o e=>Gj _ e) (by lia) fun h1 hit1 hs1=>?_
  have hall:List.take items.size (List.drop 0 items.toList)=items.toList:=by
   rw [Ug];exact List.take_of_length_le (by simp)
  rw [hall];rw [if_neg (by simp)];have ht1:h1.IsList t items:=ht.at fun o e=>hs1.extBut _ o hlt (Gj _ e)
  refine Af<|MH<|wpAny_pyNext_list_end hh hit1 ht1 (by simp) fun h2 he2=>?_
  simp only [Option.isSome_none,Mp,if_false];refine FP<|hQ h2 fun b o hb e=>he2 b o hb<|hs1.extBut b o hb<|Gj _ e
theorem nA {env:Env}{elts:List Expr}{x1}{pos:Pos}{t:Addr}{items:Array Go}{Q:Unit->AP->Prop}(hh:A.handled=FX)(ht:s.heap.IsList t items)
  (hn:(Lb elts env).length=items.size) (hstar:(Lb elts env).findIdx? (·.1)=FX)
  (h:∀ h',Ti s.heap.objs.size s.heap h'->CR (FJ prog w) A (assignInOrder ((Lb elts env).map (·.2)) items.toList) Q E { s with heap:=h' }) :
  CR (FJ prog w) A (assign (.Tuple elts x1 pos) env (.ref t)) Q E s:=by
 rw [assign_Tuple];refine Af<|wpAny_standAt ?_
 unfold unpack;rw [hn,hstar];exact Af<|MH<|pO hh ht h
end
section
variable {X:Cx}{pos:Pos}
def abT (K:Ai)(n:Nat)(t:R8):TG:=fun v σ H Q=>∃ a xs,v=.ref a/\(Hs K H a xs\/Hg K H a xs)/\xs.length=n/\t xs σ H Q
theorem Vl {es:List Expr}{k:Nat}{t:R8}{n:Nat}(hc:X.calm=true)(h:Rg X es t)
  (hn:(Lb es X.env).length=n:=by rfl) (hst:(Lb es X.env).findIdx? (·.1)=FX:=by rfl):PG X (.Tuple es k pos) (abT X.K n t):=by
 intro pins s σ H v u Q I r hw;obtain ⟨a,xs,e1,hq,hl,hw⟩:=hw;subst e1;cases r;rcases hq with hq | hq
 ·obtain ⟨its,rv,ht,hz⟩:=I.tuple hq;refine assign_Tuple_tuple (I.ok.hd hc) ht (by simp [hn,<-hl,rv.length]) hst fun h' hx=>?_;have I1:Ag X pins σ H { s with heap:=h' }:=I.kept (t':=s.toks) fun b o e=>hx b o (HI (Ga e)) e
  exact h pins _ σ H xs _ Q I1 (by simpa using rv) hw
 ·obtain ⟨its,rv,ht,hz⟩:=I.list hq;refine nA (I.ok.hd hc) ht.isList (by simp [hn,<-hl,rv.length]) hst fun h' hx=>?_;have I1:Ag X pins σ H { s with heap:=h' }:=I.kept (t':=s.toks) fun b o e=>hx b o (HI (Ga e)) e
  exact h pins _ σ H xs _ Q I1 (by simpa using rv) hw
def lE (n:Nat)(g:Ny):MG:=fun w σ h N=>match w with
 | .tup ws=>Hi (Ls ws.length n) (g ws σ h N) False
 | .lst ws=>Hi (Ls ws.length n) (g ws σ h N) False
 | .loc j=>(match h.c j with
  | some (.lst ws)=>Hi (Ls ws.length n) (g ws σ h N) False
  | _=>False)
 | _=>False
theorem jF {es:List Expr}{k:Nat}{g:Ny}{n:Nat}(hc:X.calm=true)(h:aal X es g)(hn:(Lb es X.env).length=n:=by rfl)(hst:(Lb es X.env).findIdx? (·.1)=FX:=by rfl):DG X (.Tuple es k pos) (lE n g):=
 (Vl (n:=n) hc h hn hst).of fun v σ H N ⟨μ,h,σw,w,Nw,R,S,r,m,k⟩=>by
  cases w with
  | tup ws=>
   rw [Ab] at r;obtain ⟨p,xs,e1,hs,hr⟩:=r;have m:Hi (Ls ws.length n) (g ws σw h Nw) False:=m;cases en:Ls ws.length n with
   | true=>rw [en] at m;exact ⟨p,xs,e1,.inl hs,by rw [<-hr.len];exact V4 en,μ,h,σw,ws,Nw,R,S,hr,m,k⟩
   | false=>rw [en] at m;exact (show False from m).elim
  | lst ws=>
   rw [Ab] at r;obtain ⟨p,xs,e1,hs,hr⟩:=r;have m:Hi (Ls ws.length n) (g ws σw h Nw) False:=m;cases en:Ls ws.length n with
   | true=>rw [en] at m;exact ⟨p,xs,e1,.inr hs.sq,by rw [<-hr.len];exact V4 en,μ,h,σw,ws,Nw,R,S,hr,m,k⟩
   | false=>rw [en] at m;exact (show False from m).elim
  | loc j=>
   have m:(match h.c j with
    | some (.lst ws)=>Hi (Ls ws.length n) (g ws σw h Nw) False
    | _=>False):=m
   split at m
   ·rename_i ws ec;obtain ⟨p,xs,e1,hs,hr⟩:=cA R r (show cG h (.loc j)=Dn ws by simp only [cG,ec]);cases en:Ls ws.length n with
    | true=>rw [en] at m;exact ⟨p,xs,e1,.inr hs,by rw [<-hr.len];exact V4 en,μ,h,σw,ws,Nw,R,S,hr,m,k⟩
    | false=>rw [en] at m;exact (show False from m).elim
   ·exact m.elim
  | _=>exact m.elim
end
section
variable {K:Ai}{H:Hp}{μ : Mu}{h:Gh}{p:Addr}{ws:List W}{xs:List V}
theorem Ex0.own (R:Fi K μ H h)(hp:μ.hid p):Ex0 K H μ H ((μ.unhide p).put h.nx p) where
 t:=fun _ _ z=>z
 l:=fun q ys z=>by
  refine ⟨z.1,fun m e=>?_,fun y=>z.2.2 y.2⟩;by_cases hm:m=h.nx
  ·rw [hm,Mu.put_same] at e;have e':p=q:=HS e;subst e';exact z.2.2 hp
  ·rw [Mu.put_ne hm] at e;exact z.2.1 m e
 k:=fun _ _ z=>z
 m:=fun m q e=>by
  have hm:m≠h.nx:=fun y=>by rw [y,R.dead (Ge _)] at e;cases e
  rw [Mu.put_ne hm];exact e
 x:=fun _ _ _ e=>e
 y:=fun _ _ e=>e
theorem K4.own (R:Fi K μ H h)(hp:μ.hid p):K4 p K H μ H ((μ.unhide p).put h.nx p):=⟨fun _ _ z=>Ab.ex (Ex0.own R hp) z,fun q u ne z e=>⟨⟨ne,z⟩,e⟩⟩
theorem Fi.own (R:Fi K μ H h)(hp:μ.hid p)(e:H p=Dn (.lst xs))(r:aM K H μ ws xs):Fi K ((μ.unhide p).put h.nx p) H (h.new (.lst ws)) where
 inj:=fun m n q em en=>by
  have key:∀ n,n≠h.nx->((μ.unhide p).put h.nx p).f n=Dn q->p=q->False:=fun n hn en e=>by
   rw [Mu.put_ne hn] at en;subst e;exact (R.hd p hp).2 n en
  by_cases hm:m=h.nx
  ·by_cases hn:n=h.nx
   ·rw [hm,hn]
   ·rw [hm,Mu.put_same] at em;exact (key n hn en<|HS em).elim
  ·by_cases hn:n=h.nx
   ·rw [hn,Mu.put_same] at en;exact (key m hm em<|HS en).elim
   ·rw [Mu.put_ne hm] at em;rw [Mu.put_ne hn] at en;exact R.inj m n q em en
 dom:=fun n q en=>by
  by_cases hn:n=h.nx
  ·rw [hn];exact Ul _
  ·rw [Mu.put_ne hn] at en;exact Nat.lt_succ_of_lt<|R.dom n q en
 trk:=fun n q en=>by
  by_cases hn:n=h.nx
  ·rw [hn,Mu.put_same] at en;cases en;rw [e];trivial
  ·rw [Mu.put_ne hn] at en;exact R.trk n q en
 cel:=fun n c en=>by
  by_cases hn:n=h.nx
  ·subst hn;have ec:(h.new (.lst ws)).c h.nx=Dn (.lst ws):=by show (if h.nx=h.nx then Dn _ else _)=_;rw [if_pos rfl]
   rw [ec] at en;cases en;exact ⟨p,Mu.put_same,xs,e,aM.ex (Ex0.own R hp) r⟩
  ·have ec:(h.new (.lst ws)).c n=h.c n:=by show (if n=h.nx then Dn _ else _)=_;rw [if_neg hn]
   rw [ec] at en;obtain ⟨q,e1,x⟩:=R.cel n c en;refine ⟨q,by rw [Mu.put_ne hn];exact e1,?_⟩;have ex:=Ex0.own R hp;cases c with
   | lst ws=>obtain ⟨xs,a,b⟩:=x;exact ⟨xs,a,aM.ex ex b⟩
   | obj C fs=>obtain ⟨dx,fvs,a,b⟩:=x;exact ⟨dx,fvs,a,Paired.mapP b fun _ _ z=>⟨z.1,Ab.ex ex z.2⟩⟩
   | dct kvs=>obtain ⟨kvv,a,b⟩:=x;exact ⟨kvv,a,Paired.mapP b fun _ _ z=>⟨z.1,Ab.ex ex z.2⟩⟩
   | dtt kvs=>obtain ⟨xs,vs,a,b,c,d,f⟩:=x;exact ⟨xs,vs,a,b,c,aM.ex ex d,aM.ex ex f⟩
 hd:=fun q z=>by
  refine ⟨(R.hd q z.2).1,fun n en=>?_⟩;by_cases hn:n=h.nx
  ·rw [hn,Mu.put_same] at en;exact z.1 (HS en).symm
  ·rw [Mu.put_ne hn] at en;exact (R.hd q z.2).2 n en
end
def aah (Q:WK):WK:=fun w h=>match w with
 | .lst ws=>Q (.loc h.nx) (h.new (.lst ws))
 | _=>False
def aaj (own:W->Option (List W))(ix:List Nat)(mi:MI)(tt:MT)(te:ME):ME:=fun σ h Q=>GC own ix mi tt te σ h (aah Q)
section
variable {X:Cx}{tg iter elt:Expr}{ifs:List Expr}{pos:Pos}{scope:Scope}{xs:List Str}{mi:MI}{tt:MT}{te:ME}
theorem Yp {K:Ai}{σ : St}{H:Hp}{Q:VK}{n:Nat}{own:V->Hp->List V->Prop}{ow:W->Option (List W)}{ix:List Nat}{mi:MI}{tt:MT}{te:ME}(oo:Ar K n own ow)(q:tD K (aaj ow ix mi tt te) σ H Q):tLC n own ix (tDI K mi) (tDT K tt) (tD K te) σ H Q:=by
 obtain ⟨μ,h,σw,Qw0,R,S,m,k⟩:=q;generalize hQw:aah Qw0=Qw at *;have m:GC ow ix mi tt te σw h Qw:=by rw [<-hQw];exact m
 refine ⟨μ,h,σw,_,R,S,m,fun J H1 ⟨μ1,src,h1,e1,R1,ok,hz0⟩=>?_⟩;obtain ⟨hz,m1⟩:=hz0.ok;intro D hD;have nD:=R1.nohid hD;have hD1:HB K H1 μ1 (Fy H1 D (.lst [])) (μ1.hide D):=HB.hide hD;refine ⟨fun i n ys H'=>n=src.ws.length - i/\i<=src.ws.length/\ys.length<=i/\H' D=Dn (.lst ys)/\∃ μ' acc h',HB K H1 μ1 H' μ'/\Fi K μ' H' h'/\μ'.hid D/\aM K H' μ' acc ys/\nu src ow ix tt te σw Qw (src.ws.drop i) acc h',
  ⟨src.ws.length,by simp,RN _,Ge _,bQ,μ1.hide D,[],h1,hD1,R1.hide hD,.inl rfl,.nil,by rw [Ug];exact m1⟩,?_⟩
 rintro i n' ys H2 ⟨hn,hle,hys,hH2,μ2,acc,h2,e2,R2,hid2,ra,m2⟩ _;by_cases hlt:i<src.ws.length
 ·rw [VR hlt] at m2;obtain ⟨ck,m2⟩:=Src.go_ok m2;obtain ⟨hgo,hy⟩:=(ok e2 R2 ck).1 src.ws[i] (Kc hlt);refine .inr ⟨hgo,by lia,fun x H3 y=>?_⟩;obtain ⟨μ3,e3,R3,rx⟩:=hy x H3 y;have e13:=e2.trans e3;cases eo:ow src.ws[i] with
  | none=>rw [eo] at m2;exact m2.elim
  | some us=>
   rw [eo] at m2;obtain ⟨vs,hov,hvl,rvs⟩:=oo rx eo;have S3:=(S.ext (e1.trans e13)).blk (ix:=ix) rvs;refine ⟨vs,hov,hvl,μ3,h2,_,_,R3,S3,m2,fun b H4 ⟨μ4,h4,e4,R4,m4⟩=>?_⟩;have e24:=e3.trans e4;obtain ⟨hid4,hH4⟩:=e24.o D _ hid2 hH2;cases b with
   | false=>
    dsimp only;rw [if_neg LI];exact ⟨hH4,src.ws.length - (i+1),by lia,rfl,hlt,by lia,hH4,μ4,acc,h4,e2.trans e24,R4,hid4,e24.s ra,m4⟩
   | true=>
    dsimp only;rw [if_pos rfl];refine ⟨μ4,h4,_,_,R4,S3.ext e4,m4,fun v H5 ⟨μ5,w5,h5,e5,R5,r5,m5⟩=>?_⟩;have e25:=e24.trans e5;obtain ⟨hid5,hH5⟩:=e25.o D _ hid2 hH2;have g:=K4.grow (ys:=ys++[v]) R5 hid5;have rs:aM K (Fy H5 D (.lst (ys++[v]))) μ5 (acc++[w5]) (ys++[v]):=aM.ex (Ex0.grow R5 hid5) (aM.append (e25.s ra) (aM.one r5));exact ⟨hH5,src.ws.length - (i+1),by lia,rfl,hlt,by rw [Nt];simp;lia,bQ,μ5,acc++[w5],h5,(e2.trans e25).x nD g,R5.grow hid5,hid5,rs,m5⟩
 ·have ei:i=src.ws.length:=by lia
  subst ei;rw [List.drop_length] at m2;obtain ⟨ck,m2⟩:=Src.go_ok m2;have m2:Qw0 (.loc h2.nx) (h2.new (.lst acc)):=by rw [<-hQw] at m2;exact m2
  exact .inl ⟨(ok e2 R2 ck).2 (Ge _),k _ _ ⟨(μ2.unhide D).put h2.nx D,.loc h2.nx,h2.new<|.lst acc,e1.trans<|e2.x nD<|K4.own R2 hid2,R2.own hid2 hH2 ra,by rw [Ab];exact ⟨D,rfl,Mu.put_same⟩,m2⟩⟩
theorem Za {own:V->Hp->List V->Prop}{ow:W->Option (List W)}(ix:List Nat){i:Nat}{y:Str}{py spos:Pos}(hN:X.N.Nodup)(hi':X.N[i]?=Dn y)(hy:Loc X.env.scope y)(hc:X.calm=true)(B:jd X scope xs ix)(oo:Ar X.K xs.length own ow)
  (hg:∀ C s H fp,PG (blk X scope (gJ X xs ix) C s H fp) tg (Py xs.length own)) (hi:Oi X tg iter mi)
  (ht:∀ C s H fp,Vq (blk X scope (gJ X xs ix) C s H fp) ifs tt) (he:∀ C s H fp,DE (blk X scope (gJ X xs ix) C s H fp) elt te)
  (hsw:SQ (.ListComp elt [⟨tg,iter,ifs,0⟩] scope pos) (Dn (.Name y py)) spos.line X.env=pure true:=by rfl)
  (hf:X.fn y=true\/X.env.scope.names.lookup y=Dn .local:=by first | exact .inl rfl | exact .inr rfl | assumption)
  (hs:∀ v,S9 iter X.env v=pure v:=by intro _;rfl):DS X (.Assign [.Name y py] (.ListComp elt [⟨tg,iter,ifs,0⟩] scope pos) spos) (bx (aaj ow ix mi tt te) (Mk i)):=
 (WM ix hN hi' hy hc B hg hi ht he hsw hf hs).of fun _ _ _ q=>Hq (fun _ _ _ z=>Yp oo z) q
end
def G8:Expr->Bool
 | .Starred _ _=>true
 | _=>false
theorem bO {e:Expr}{es:List Expr}{env:Env}(h:G8 e=false):Fv (e::es) env=(false,eval e env)::Fv es env:=by
 cases e <;> first | rfl | cases h
theorem Qf {e:Expr}{env:Env}(h:G8 e=false):Fv [e] env=[(false,eval e env)]:=(bO h).trans rfl
def noStar:List Expr->Bool
 | []=>true
 | e::r=>!G8 e&&noStar r
theorem dz {pos:Pos}{env:Env}:∀ {es:List Expr},noStar es=true->(KR pos (Fv es env)).any (·.1)=false
 | [],_=>rfl
 | e::r,h=>by
  rw [noStar,Nh,Bool.not_eq_true'] at h;rw [bO h.1];show (false||(KR pos (Fv r env)).any (·.1))=false;rw [dz h.2];rfl
theorem uy {cpos:Pos}{e:Expr}{env:Env}(h:G8 e=false):((KR cpos (Fv [e] env)).all (fun x=>!x.1)&&(backToKw cpos (Tw [] env)).all (fun x=>x.1.isSome)
   && decide (([e]:List Expr).length+([]:List Od).length+(if ([]:List Od).isEmpty then 0 else 1)<30))=true:=by
 rw [Qf h];rfl
section
variable {prog:Fb}{w:FZ}{A:Fd}{E:Go->AP->Prop}{s:AP}
open HT in
theorem kY {t sl:Addr}{items:Array Go}{vl vu:Go}{lo hi:Option Int}{Q:Go->AP->Prop}(ht:IsTup s.heap t items)(hs:s.heap.IsSliceOf sl vl vu .none)(pl:IsPart vl lo)(pu:IsPart vu hi)
  (h0:sIx items.size 0 lo=0) (h1:sIx items.size items.size hi=items.size) (h:Q (.ref t) s):CR (FJ prog w) A (getItem (.ref t) (.ref sl)) Q E s:=by
 obtain ⟨os,hos,hcs,hds⟩:=id hs;have hTs:s.TypeIs (.ref sl) "slice":=⟨os,hos,hcs⟩
 unfold getItem;try with_reducible refine MH ?_
 first | refine Af (FP ?_) | skip
 refine Af<|wpAny_sequenceKey ht.typeIs (by decide) ?_
 refine Af (Rz (name:=Rq "__getitem__") ht.typeIs T3
  (RZ T3 ht.typeIs entry_tuple_getitem ?_ (args_tuple_getitem _ _)))
 show CR _ _ (Builtin.Tuple.tupleItemsOf (.ref t) >>= _) _ _ s;refine Af<|tupleItemsOf_ ht ?_
 refine Af<|wpAny_typeOf hTs ?_
 rw [if_pos (by decide)];refine Af<|jc hs pl pu ?_
 have hyes:((((sIx items.size 0 lo:Nat):Int)==0&&(1:Int)==1&&(sIx items.size items.size hi - sIx items.size 0 lo)==items.size)=true):=by
  rw [h0,h1];simp
 show CR _ _ (if (((sIx items.size 0 lo:Nat):Int)==0&&(1:Int)==1&&(sIx items.size items.size hi - sIx items.size 0 lo)==items.size)=true then _ else _) _ _ s;rw [if_pos hyes];unfold Builtin.Tuple.tupleIsExact;refine Af<|Af<|wpAny_typeOf ht.typeIs<|FP ?_
 rw [if_pos (by decide)];refine Af<|T8 ?_
 first
  | exact FP ⟨_,rfl,FP h⟩
  | exact Af (FP (FP ⟨_,rfl,FP h⟩))
end
section
variable {X:Cx}
def ac8 (K:Ai):V->Option Int->Option Int->Hp->VK->Prop:=fun x lo hi H Q=>∃ a xs,x=.ref a/\Hs K H a xs /\
 HT.sIx xs.length 0 lo=0/\HT.sIx xs.length xs.length hi=xs.length/\Q x H
theorem ahx:R9 X (ac8 X.K):=by
 intro pins s σ H x v vl vu lo hi sl Q I rx hs pl pu h;obtain ⟨a,xs,rfl,hx,h0,h1,q⟩:=h;cases rx;obtain ⟨its,r,ht,hz⟩:=I.tuple hx;have hlen:its.toArray.size=xs.length:=by rw [Gz];exact r.length.symm
 refine ⟨"tuple",_,T3.lookup,ht.typeIs,?_⟩;refine kY ht hs pl pu (by rw [hlen];exact h0) (by rw [hlen];exact h1) ?_;exact ⟨.ref a,H,I,rfl,q⟩
def qu (x:W)(lo hi:Option Int)(h:Gh)(Q:WK):Prop:=match x with
 | .tup ws=>Q (.tup (Bc ws lo hi)) h
 | x=>(match cG h x with
  | some ws=>Q (.lst (Bc ws lo hi)) h
  | none=>False)
theorem jy {e:Expr}{lo hi:Option Expr}{ma:ME}{ml mh:MO}{p2 pos:Pos}(he:DE X e ma)(hl:DO X lo ml)(hu:DO X hi mh):DE X (.Subscript e (.Slice lo hi FX p2) pos) (LK qu ma ml mh):=
 (zbw (R9.or (R9.or afx ZP) ahx) he hl hu).of fun σ H Q ⟨μ,h,σw,Qw,R,S,m,k⟩=>by
  refine ⟨μ,h,σw,_,R,S,m,fun x H1 ⟨μ1,wx,h1,e1,R1,r1,m1⟩=>?_⟩;refine ⟨μ1,h1,σw,_,R1,S.ext e1,m1,fun lo H2 ⟨μ2,h2,e2,R2,m2⟩=>?_⟩;refine ⟨μ2,h2,σw,_,R2,(S.ext e1).ext e2,m2,fun hi H3 ⟨μ3,h3,e3,R3,m3⟩=>?_⟩;have e13:=(e1.trans e2).trans e3;have r3:=e3.r _ _ (e2.r _ _ r1);have oth:∀ wy,Ab X.K H3 μ3 wy x->(match cG h3 wy with
    | some ws=>Qw (.lst (Bc ws lo hi)) h3
    | none=>False)->∃ p xs,x=.ref p/\Hg X.K H3 p xs/\∀ l,H3 l=FX->Q (.ref l) (Fy H3 l (.lst (LQ xs lo hi))):=by
   intro wy ry my;split at my
   ·rename_i ws ev;obtain ⟨p,xs,ex,hs,rs⟩:=cA R3 ry ev;exact ⟨p,xs,ex,hs,fun l hl=>k _ _ ⟨μ3,_,h3,e13.trans (Ex.laid hl).ext,R3.laid hl,.lstNew R3 hl<|rs.cutv lo hi,my⟩⟩
   ·exact my.elim
  cases wx with
  | tup ws=>
   have m3:Qw (.tup (Bc ws lo hi)) h3:=m3;have r30:=r3;rw [Ab] at r3;obtain ⟨p,xs,ex,hx,rs⟩:=r3;have hl:=rs.len;by_cases hw:HT.sIx xs.length 0 lo=0/\HT.sIx xs.length xs.length hi=xs.length
   ·have ec:Bc ws lo hi=ws:=by
     unfold Bc;rw [hl,hw.1,hw.2,Ug,Nat.sub_zero,<-hl,NQ]
    rw [ec] at m3;exact .inr ⟨p,xs,ex,hx,hw.1,hw.2,k _ _ ⟨μ3,.tup ws,h3,e13,R3,r30,m3⟩⟩
   ·exact .inl<|.inr ⟨p,xs,ex,hx,hw,fun q hq=>k _ _ ⟨μ3,.tup<|Bc ws lo hi,h3,e13.trans (Ex.laid hq).ext,R3.laid hq,.tupNew hq<|rs.cutv lo hi,m3⟩⟩
  | _=>exact .inl (.inl (oth _ r3 m3))
def ac9:MC:=fun ws h Q=>match ws with
 | [.int i]=>Q (.int i) h
 | [.bl b]=>Q (.int (if b then 1 else 0)) h
 | _=>False
def ac3:MM:=fun x ws h Q=>match ws with
 | [.int k]=>(match cG h x with
  | some us=>∃ (ns:List Int) (j:Nat),us=ns.map W.int/\ns[j]?=Dn k/\(∀ m,m<j->ns[m]?≠Dn k)/\Q (.int j) h
  | none=>False)
 | _=>False
theorem uT {K:Ai}{H:Hp}{μ : Mu}:∀ {ns:List Int} {xs:List V},aM K H μ (ns.map W.int) xs->xs=ns.map V.int
 | [],xs,r=>by rw [List.map_nil,aM] at r;exact r
 | n::ns,xs,r=>by
  rw [Lj,aM] at r;obtain ⟨v,vs,e,rv,r⟩:=r;rw [Ab] at rv;rw [e,rv,uT r];rfl
def uN (h:Gh)(w:W)(P:Prop):Prop:=match cG h w with
 | some _=>P
 | none=>False
theorem yx {K:Ai}{H:Hp}{μ : Mu}{h:Gh}{w:W}{v:V}{P:Prop}(R:Fi K μ H h)(r:Ab K H μ w v)(e:uN h w P):tyV K "list" v H/\P:=by
 unfold uN at e;split at e
 ·rename_i us ev;obtain ⟨p,xs,ex,hs,_⟩:=cA R r ev;subst ex;exact ⟨.inl ⟨rfl,xs,hs⟩,e⟩
 ·exact e.elim
def abO (r:MM)(mo:ME)(ma:MA):ME:=fun σ h Q=>mo σ h fun x h1=>uN h1 x (ma σ h1 fun xs h2=>r x xs h2 Q)
def abB:V->List V->Hp->VK->Prop:=fun x vs H Q=>∃ i:Int,x=.int i/\vs=[]/\Q (.int (Tf i:Nat)) H
theorem Vj:MtR X "int.bit_length" abB:=by
 intro pins s σ H x vs v us Q I rx rv h;obtain ⟨i,rfl,rfl,q⟩:=h;obtain ⟨t,rfl⟩:=rx;have hus:=rv.zero;subst hus;exact call_int_bit_length ⟨.int (Tf i:Nat),H,I.tok _,⟨_,rfl⟩,q⟩
def Wx (mo:ME):ME:=fun σ h Q=>mo σ h fun x h1=>match x with
 | .int i=>Q (.int (Tf i:Nat)) h1
 | _=>False
theorem WT {o:Expr}{mo:ME}{apos cpos:Pos}(ho:DE X o mo)(hbase:TX o "bit_length" X.env (eval o X.env)=eval o X.env:=by rfl)(hline:(apos.endLine==cpos.line)=true:=by rfl) :
  DE X (.Call (.Attribute o "bit_length" apos) [] [] cpos) (Wx mo):=(X5 PySem.F.plainAttrs_int slot_int_bit_length type_int_bit_length Vj ho hbase hline).of fun σ H Q ⟨μ,h,σw,Qw,R,S,m,k⟩=>by
 refine ⟨μ,h,σw,_,R,S,m,fun v H1 ⟨μ1,w,h1,e1,R1,r1,m1⟩=>?_⟩;cases w with
 | int i=>
  rw [Ab] at r1;subst r1;have z:DQ X.K H1 μ1 Qw (.int (Tf i:Nat)) H1:=.int R1 m1;exact ⟨rfl,i,rfl,rfl,k _ _<|z.trans e1⟩
 | _=>exact (show False from m1).elim
theorem aeH (hc:X.calm=true):gj X (.builtin "max") (fun xs H Q=>∃ (p:Addr) (ns:List Int),xs=[.ref p]/\Hg X.K H p (ns.map V.int)/\0<ns.length/\∀ M,M∈ns->(∀ a,a∈ns->a<=M)->Q (.int M) H):=by
 intro pins s σ H xs us Q I r ⟨p,ns,e,hS,hne,q⟩;subst e;obtain ⟨u,rfl,ru⟩:=vals1 r;cases ru;obtain ⟨its,rv,pl,hz⟩:=I.list hS;have hlen:its.length=ns.length:=by rw [<-rv.length,GJ]
 have all:AllInts its.toArray:=fun v hv=>by
  obtain ⟨i,hi,e⟩:=Array.mem_iff_getElem.mp hv;obtain ⟨t,e2⟩:=vQ (i:=i) (v:=v) rv (by rw [<-e];simp at hi |-);exact ⟨_,t,e2⟩
 obtain ⟨ys,ey⟩:=all.items;have hl:=pl.isList;rw [ey] at hl;have hys:ys.size=ns.length:=by
  have:=congrArg Array.size ey
  simp [intItems] at this;lia
 have num:∀ i,i<ns.length->numAt ys i=ns.getD i 0:=fun i hi=>by
  obtain ⟨t,e2⟩:=vQ (i:=i) (v:=its[i]'(by lia)) rv (Kc (by lia));have e3:(intItems ys)[i]?=Dn (its[i]'(by lia)):=by rw [<-ey];simp
  obtain ⟨t',e4⟩:=intItems_at e3;rw [e2] at e4;injection e4 with e5 _
  exact e5.symm
 refine max_intList (I.ok.hd hc) hl (by lia) fun v h' tk hv hk=>?_;obtain ⟨t,rfl⟩:=intItems_at hv;obtain ⟨h1,h2⟩:=argBest_gt (numAt ys) (ys.size - 1);refine ⟨.int _,H,I.kept (h':=h') (t':=tk) hk,⟨t,rfl⟩,q _ ?_ fun a ha=>?_⟩
 ·rw [num _ (by lia),Rb,Kc (by lia)];exact UG _
 ·obtain ⟨j,hj,e⟩:=List.mem_iff_getElem.mp ha;have:=h2 j (by lia)
  rw [num j hj,Rb,Kc hj] at this;rw [<-e];exact this
def uo:MC:=fun ws h Q=>match ws with
 | [.int i,.int j]=>Q (.int (if j>i then j else i)) h
 | [w]=>(match cG h w with
  | some us=>∃ ns:List Int,us=ns.map W.int/\0<ns.length/\∀ M,M∈ns->(∀ a,a∈ns->a<=M)->Q (.int M) h
  | none=>False)
 | _=>False
theorem DP (hc:X.calm=true):m7 X (.builtin "max") uo:=⟨_,gj.or (ael hc) (aeH hc),by
 intro H μ h vs ws Qw Q R r m k;unfold uo at m;split at m
 ·rename_i i j;rw [aM] at r;obtain ⟨v,vs',e,rv,r⟩:=r;rw [aM] at r;obtain ⟨v2,vs2,e2,rv2,r⟩:=r;rw [aM] at r;rw [Ab] at rv rv2;subst e e2 rv rv2 r;exact .inl ⟨i,j,rfl,k _ _<|.int R m⟩
 ·split at m
  ·rename_i w us ev;obtain ⟨v,e,rv⟩:=kE r;obtain ⟨p,ys,ex,hs,rs⟩:=cA R rv ev;obtain ⟨ns,eu,hne,m⟩:=m;subst e ex;rw [eu] at rs;have:=uT rs
   subst this;exact .inr ⟨p,ns,rfl,hs,hne,fun M hM ha=>k _ _<|.int R<|m M hM ha⟩
  ·exact m.elim
 ·exact m.elim⟩
end
def Cz (Z:Go->Prop)(vs:Array Go):Prop:=∃ z,vs[2]?=Dn z/\Z z
theorem Cz.size {Z:Go->Prop}{vs:Array Go}(c:Cz Z vs):2<vs.size:=let ⟨_,e,_⟩:=c;(Array.getElem?_eq_some_iff.mp e).1
def XO (h:Heap)(P:Addr->Prop)(Z:Go->Prop)(e C:Addr)(od:Option Addr):Prop:=P e/\∃ (oe:Obj) (vs:Array Go),h.get? e=Dn oe/\oe.cls=.ref C/\oe.dict=od/\oe.data=.fields vs/\vs.size<=1000/\Cz Z vs /\
 (vs[1]?=Dn .none\/∃ (T:Addr) (oT:Obj) (ts:Array Go),vs[1]?=Dn (.ref T)/\T≠e/\P T/\h.get? T=Dn oT/\oT.data=.fields ts/\3<ts.size)
def XN (h:Heap)(P:Addr->Prop)(Z:Go->Prop)(e C:Addr)(od:Option Addr):Prop:=P e/\∃ (oe:Obj) (vs:Array Go),h.get? e=Dn oe/\oe.cls=.ref C/\oe.dict=od/\oe.data=.fields vs/\vs.size<=1000/\Cz Z vs /\
 ∃ (T:Addr) (oT:Obj) (ts:Array Go),vs[1]?=Dn (.ref T)/\T≠e/\P T/\h.get? T=Dn oT/\oT.data=.fields ts/\3<ts.size
structure Stp (P:Addr->Prop) (fs:List Addr) (h h':Heap):Prop where
 keep:∀ b o,¬ P b->b∉fs->h.get? b=Dn o->h'.get? b=Dn o
 slot:∀ b o,¬ P b->h.get? b=Dn o->∃ sl,h'.get? b=Dn { o with slots:=sl }
 there:∀ b o,h.get? b=Dn o->∃ o',h'.get? b=Dn o'
section
variable {M:Model}{A:Fd}{E:Go->AP->Prop}{s:AP}{P:Addr->Prop}{Z:Go->Prop}{e C:Addr}{od:Option Addr}
end
section
variable {X:Cx}{pins:List (Addr×Obj)}{σ : St}{H H':Hp}{s s':AP}{b e C:Addr}{od:Option Addr}
structure New (X:Cx) (pins:List (Addr×Obj)) (H:Hp) (b:Addr):Prop where
 h:H b=FX
 s:b∈X.ex\/X.s₀.heap.get? b=FX
 l:b≠X.env.locals
 c:∀ x c,X.env.cells.lookup x=Dn c->c≠b
 p:∀ p∈X.pn++pins,p.1≠b
 f:b∉X.fs
inductive ChX (N:Addr->Prop) (H:Hp):Go->Prop
 | nil:ChX N H .none
 | cons {c:Addr} {o:Obj} {u:HO} {vs:Array Go} {z:Go} (n:N c) (h1:H c=Dn (.frz o u)) (h2:o.data=.fields vs) (h3:vs[2]?=Dn z) (t:ChX N H z):ChX N H (.ref c)
def NwX (X:Cx)(c:Addr):Prop:=c∈X.ex\/X.s₀.heap.get? c=FX
structure zac (X:Cx) (pins:List (Addr×Obj)) (σ : St) (H:Hp) (s:AP) (e C:Addr) (od:Option Addr):Prop where
 inv:Ag X pins σ H s
 xo:XO s.heap (New X pins H) (ChX (NwX X) H) e C od
structure zab (X:Cx) (pins:List (Addr×Obj)) (σ : St) (H:Hp) (s:AP) (e C:Addr) (od:Option Addr):Prop where
 inv:Ag X pins σ H s
 xn:XN s.heap (New X pins H) (ChX (NwX X) H) e C od
end
section
variable {X:Cx}{pins:List (Addr×Obj)}{σ : St}{H:Hp}{s:AP}{C:Addr}{x:Str}{np cpos pos:Pos}{e:Expr}{es:List Expr}{t:TA}
end
section
variable {X:Cx}{Γ : St->Prop}{e c:Expr}{es:List Expr}{mr:MA}{pos:Pos}{st:Stmt}{rest:List Stmt}
end
section
variable {X:Cx}{pins pins':List (Addr×Obj)}{σ : St}{H:Hp}{s:AP}{xe:Go->AP->Prop}{a C:Addr}{o:Obj}{u:HO}
structure adG (X:Cx) (H0:Hp):Prop where
 s0:∀ b ob,X.s₀.heap.get? b=Dn ob->H0 b=X.H₀ b
 tups:∀ b xs,X.H₀ b=Dn (.tup xs)->H0 b=Dn (.tup xs)
 frzs:∀ b ob v,X.H₀ b=Dn (.frz ob v)->H0 b=Dn (.frz ob v)
 tbls:∀ b ps,X.H₀ b=Dn (.tbl ps)->H0 b=Dn (.tbl ps)
end
section
variable {prog:Fb}{w:FZ}{A:Fd}{E:Go->AP->Prop}{s:AP}{K:Ai}{x D:Addr}{ox:Obj}
end
def QJ (n d:Str):Bool:=n==d||d == "EaselError"
section
variable {K:Ai}{C D:Addr}{n d:Str}
def adW (K:Ai)(v:V)(f:Str->Bool):Prop:=∀ (u:Go),RelV v u->∀ (C:Addr) (n:Str),aaV K C n=true->PySem.W.kitOne K (.ref C) u=Dn (f n)
end
def bR.lost (D:bR):bR:={ D with nx:=fun σ h=>D.nx (σ.map fun _=>FX) h,bk:=fun σ h=>D.bk (σ.map fun _=>FX) h,ct:=fun σ h=>D.ct (σ.map fun _=>FX) h }
def aak (x:Xw):W:=match x.fs with
 | []=>.exc x.cls
 | f::fs=>.exa x.cls ((f::fs).map (·.2))
def adU (i:Nat)(d:Str)(mb:EY->MS)(mh:MS):MS:=fun D σ h=>mb (fun x h'=>Hi (QJ x.cls d) (mh D.lost (σ.set i (Dn (aak x))) h') False) D σ h
section
variable {X:Cx}{body:List Stmt}{b₀ : Stmt}{suite:List Stmt}{y d:Str}{np hpos pos:Pos}{i:Nat}{D:Addr}{mb:EY->MS}{mh:MS}
end
section
variable {X:Cx}{a:Expr}{ma:ME}{pos p:Pos}
def adf (f:Str->Bool)(m:ME):ME:=fun σ h Q=>m σ h fun w h1=>match w with
 | .exc n=>Q (.bl (f n)) h1
 | .exa n _=>Q (.bl (f n)) h1
 | _=>False
inductive PCs (X:Cx):List Expr->List V->(Str->Bool)->Prop
 | nil:PCs X [] [] (fun _=>false)
 | cons {e:Expr} {es:List Expr} {v:V} {vs:List V} {f g:Str->Bool}:PE X e (tC v)->adW X.K v f->PCs X es vs g->Fv (e::es) X.env=(false,eval e X.env)::Fv es X.env->PCs X (e::es) (v::vs) (fun n=>f n||g n)
end
section
variable {X:Cx}{tg elt:Expr}{ifs:List Expr}{scope:Scope}{xs:List Str}{tt:MT}{te:ME}{pos p ppos:Pos}
end
section
variable {prog:Fb}{w:FZ}{A:Fd}{E:Go->AP->Prop}{s:AP}
end
section
variable {X:Cx}
end
section
variable {X:Cx}{K:Ai}{o e:Expr}{mo:ME}{ma:MA}{apos cpos:Pos}
def acg:MM:=fun x ws h Q=>match x,ws with
 | .loc n,[]=>(match h.c n with
  | some (.lst _)=>Q .non (h.set n (.lst []))
  | _=>False)
 | _,_=>False
variable {H:Hp}{pins:List (Addr×Obj)}{s:AP}{σ : St}
mutual
theorem HD (I:Ag X pins σ H s):∀ {w u:W} {v:V},Dt X.K H w v->Dt X.K H u v->w=u
 | .non,u,v,h,g=>by rw [Dt] at h;subst h;cases u <;> rw [Dt] at g <;> first | rfl | exact g.elim | (obtain ⟨_,_,g,_⟩:=g;cases g;done) | (cases g;done)
 | .bl b,u,v,h,g=>by rw [Dt] at h;subst h;cases u <;> rw [Dt] at g <;> first | (injection g with g;rw [g];done) | exact g.elim | (obtain ⟨_,_,g,_⟩:=g;cases g;done) | (cases g;done)
 | .int b,u,v,h,g=>by rw [Dt] at h;subst h;cases u <;> rw [Dt] at g <;> first | (injection g with g;rw [g];done) | exact g.elim | (obtain ⟨_,_,g,_⟩:=g;cases g;done) | (cases g;done)
 | .str b,u,v,h,g=>by rw [Dt] at h;subst h;cases u <;> rw [Dt] at g <;> first | (injection g with g;rw [g];done) | exact g.elim | (obtain ⟨_,_,g,_⟩:=g;cases g;done) | (cases g;done)
 | .tup ws,u,v,h,g=>by
  rw [Dt] at h;obtain ⟨p,xs,e,hs,ds⟩:=h;subst e;cases u with
  | tup us=>
   rw [Dt] at g;obtain ⟨p',xs',e',hs',ds'⟩:=g;cases e'
   have:=I.tuple_inj hs hs'
   subst this;rw [vX I ds ds']
  | lst us=>
   rw [Dt] at g;obtain ⟨p',xs',e',hs',ds'⟩:=g;cases e'
   obtain ⟨_,_,t,_⟩:=I.tuple hs;obtain ⟨_,_,l,_⟩:=I.list hs';exact absurd rfl<|VJ l.isList<|show s.heap.IsTuple _ _ from t
  | ty _=>rw [Dt] at g;exact g.elim
  | loc _=>rw [Dt] at g;exact g.elim
  | kls _=>rw [Dt] at g;exact g.elim
  | exc _=>rw [Dt] at g;exact g.elim
  | exa _ _=>rw [Dt] at g;exact g.elim
  | _=>rw [Dt] at g;cases g
 | .lst ws,u,v,h,g=>by
  rw [Dt] at h;obtain ⟨p,xs,e,hs,ds⟩:=h;subst e;cases u with
  | lst us=>
   rw [Dt] at g;obtain ⟨p',xs',e',hs',ds'⟩:=g;cases e'
   have:=I.list_inj hs hs'
   subst this;rw [vX I ds ds']
  | tup us=>
   rw [Dt] at g;obtain ⟨p',xs',e',hs',ds'⟩:=g;cases e'
   obtain ⟨_,_,t,_⟩:=I.tuple hs';obtain ⟨_,_,l,_⟩:=I.list hs;exact absurd rfl<|VJ l.isList<|show s.heap.IsTuple _ _ from t
  | ty _=>rw [Dt] at g;exact g.elim
  | loc _=>rw [Dt] at g;exact g.elim
  | kls _=>rw [Dt] at g;exact g.elim
  | exc _=>rw [Dt] at g;exact g.elim
  | exa _ _=>rw [Dt] at g;exact g.elim
  | _=>rw [Dt] at g;cases g
 | .ty _,_,_,h,_=>by rw [Dt] at h;exact h.elim
 | .kls _,_,_,h,_=>by rw [Dt] at h;exact h.elim
 | .loc _,_,_,h,_=>by rw [Dt] at h;exact h.elim
 | .exc _,_,_,h,_=>by rw [Dt] at h;exact h.elim
 | .exa _ _,_,_,h,_=>by rw [Dt] at h;exact h.elim
theorem vX (I:Ag X pins σ H s):∀ {ws us:List W} {vs:List V},Iw X.K H ws vs->Iw X.K H us vs->ws=us
 | [],us,vs,h,g=>by
  have e:vs=[]:=by rw [Iw] at h;exact h
  subst e;cases us with
  | nil=>rfl
  | cons u us=>rw [Iw] at g;obtain ⟨_,_,e,_⟩:=g;cases e
 | w::ws,us,vs,h,g=>by
  rw [Iw] at h;obtain ⟨v,vs',e,d,ds⟩:=h;subst e;cases us with
  | nil=>
   have e:v::vs'=[]:=by rw [Iw] at g;exact g
   cases e
  | cons u us=>
   rw [Iw] at g;obtain ⟨v2,vs2,e2,d2,ds2⟩:=g;cases e2;rw [HD I d d2,vX I ds ds2]
end
theorem uG {α β : Type}{p:α->Bool}{q:β->Bool}:∀ {xs:List α} {ys:List β},xs.length=ys.length->(∀ a b,(a,b)∈xs.zip ys->p a=q b)->xs.countP p=ys.countP q
 | [],[],_,_=>rfl
 | [],_::_,h,_=>by cases h
 | _::_,[],h,_=>by cases h
 | a::xs,b::ys,h,e=>by
  rw [List.countP_cons,List.countP_cons,uG (Nat.succ.inj h) fun a' b' m=>e a' b' (by rw [List.zip_cons_cons];exact MK _ m),e a b (by rw [List.zip_cons_cons];exact MJ)]
theorem Ef:∀ {us:List W} {xs:List V} {its:List Go},Iw X.K H us xs->Bp xs its->∀ a u,(a,u)∈its.zip us->∃ v,RelV v a/\Dt X.K H u v/\u∈us
 | [],_,its,_,_,a,u,m=>by rw [List.zip_nil_right] at m;exact absurd m (by simp)
 | w::us,xs,its,d,r,a,u,m=>by
  rw [Iw] at d;obtain ⟨v,vs,e,d1,ds⟩:=d;subst e;cases r with
  | cons r1 rs=>
   rw [List.zip_cons_cons] at m;rcases Fe.mp m with m | m
   ·cases m;exact ⟨v,r1,d1,MJ⟩
   ·obtain ⟨v',q1,q2,q3⟩:=Ef ds rs a u m;exact ⟨v',q1,q2,MK _ q3⟩
theorem uW {α β : Type}:∀ {xs:List α} {ys:List β},xs.length=ys.length->∀ a∈xs,∃ b,(a,b)∈xs.zip ys
 | [],_,_,a,m=>absurd m (by simp)
 | _::_,[],h,_,_=>by cases h
 | x::xs,y::ys,h,a,m=>by
  rw [List.zip_cons_cons];rcases Fe.mp m with rfl | m
  ·exact ⟨y,MJ⟩
  ·obtain ⟨b,q⟩:=uW (Nat.succ.inj h) a m;exact ⟨b,MK _ q⟩
def Qi (K:Ai):V->List V->Hp->VK->Prop:=fun x vs H Q=>∃ (l:Addr) (y:V) (xs:List V) (us:List W) (w:W),x=.ref l/\vs=[y]/\Hg K H l xs/\Iw K H us xs/\Dt K H w y/\us.all (GR 20)=true/\GR 20 w=true/\Q (.int (us.countP fun u=>Fo u w)) H
theorem afs (hu:X.A.units+30<Jd):MtR X "list.count" (Qi X.K):=by
 intro pins s σ H x vs v us' Q I rx rv h;obtain ⟨l,y,xs,us,w,rfl,rfl,hx,hd,hw,pl1,pl2,q⟩:=h;cases rx;obtain ⟨b,rfl,rb⟩:=rv.one;obtain ⟨its,r,pl,hz⟩:=I.list hx;obtain ⟨⟨cl,dd,da,sl⟩,n,e,c1,c2,c3⟩:=pl;simp only at c1 c2 c3;subst c1 c2 c3;have hl:its.length=us.length:=by rw [<-r.length,hd.len]
 let ev:Go->Bool:=fun a=>@decide (∃ u,(a,u)∈its.zip us/\Fo u w=true) (Classical.propDecidable _)
 have hev:∀ a u,(a,u)∈its.zip us->ev a=Fo u w:=by
  intro a u m;cases c:Fo u w with
  | true=>exact (@decide_eq_true_iff _ (Classical.propDecidable _)).mpr ⟨u,m,c⟩
  | false=>
   refine (@decide_eq_false_iff_not _ (Classical.propDecidable _)).mpr fun ⟨u2,m2,c2⟩=>?_;obtain ⟨v1,r1,d1,_⟩:=Ef hd r a u m;obtain ⟨v2,r2,d2,_⟩:=Ef hd r a u2 m2;have ev:v1=v2:=r1.inj r2;subst ev;rw [HD I d1 d2,c2] at c;cases c
 refine call_meets F.slot_list_count ⟨_,e,rfl⟩ F.entry_list_count (F.args_list_count_2 _ _) (SeqAt.list_countAt l its.toArray n FX sl b ev) ⟨e,?_,?_⟩
 ·intro a ha;have ha':a∈its:=by simpa using ha
  obtain ⟨u,m⟩:=uW hl a ha';obtain ⟨v,r1,d1,mu⟩:=Ef hd r a u m;rw [hev a u m];exact Xj I 20 (by show X.A.in1.units+20<Jd;show X.A.units+1+20<Jd;lia) d1 hw (Q0.mp pl1 u mu) pl2 r1 rb
 ·rw [show its.toArray.toList=its from rfl,uG hl hev];exact ⟨.int _,H,I.tok _,⟨_,rfl⟩,q⟩
def yH:MM:=fun x ws h Q=>match ws with
 | [w]=>(match cG h x with
  | some us=>Hi (GR 20 w&&us.all (GR 20)) (Q (.int (us.countP fun u=>Fo u w)) h) False
  | none=>False)
 | _=>False
theorem Vn:aae K (Qi K) yH:=by
 intro H μ h x vs wx ws Qw Q R rx rs m k;unfold yH at m;split at m
 ·rename_i w;obtain ⟨v,ev,rv⟩:=kE rs;split at m
  ·rename_i us eu;obtain ⟨p,xs,ex,hs,rr⟩:=cA R rx eu;cases c:(GR 20 w&&us.all (GR 20)) with
   | true=>
    rw [c] at m;rw [Nh] at c;exact ⟨p,v,xs,us,w,ex,ev,hs,zu (N8 20) rr c.2,N8 20 rv c.1,c.2,c.1,k _ _<|.int R m⟩
   | false=>rw [c] at m;exact (show False from m).elim
  ·exact m.elim
 ·exact m.elim
theorem ahH (hu:X.A.units+30<Jd)(ho:DE X o mo)(ha:KH X [e] ma)
  (hbase:TX o "count" X.env (eval o X.env)=eval o X.env:=by rfl)
  (hfew:((KR cpos (Fv [e] X.env)).all (fun x=>!x.1)&&(backToKw cpos (Tw [] X.env)).all (fun x=>x.1.isSome)
   && decide (([e]:List Expr).length+([]:List Od).length+(if ([]:List Od).isEmpty then 0 else 1)<30))=true:=by rfl)
  (hline:(apos.endLine==cpos.line)=true:=by rfl) (hst:Fv [e] X.env=(false,eval e X.env)::Fv [] X.env:=by rfl) (hplain:(KR cpos (Fv [] X.env)).any (·.1)=false:=by rfl) :
  DE X (.Call (.Attribute o "count" apos) [e] [] cpos) (abO yH mo ma):=(Wr PySem.F.plainAttrs_list PySem.F.slot_list_count PySem.F.type_list_count (afs hu) ho ha hbase hfew hline hst hplain).of fun σ H Q ⟨μ,h,σw,Qw,R,S,m,k⟩=>by
 refine ⟨μ,h,σw,_,R,S,m,fun v H1 ⟨μ1,w,h1,e1,R1,r1,il⟩=>⟨(yx R1 r1 il).1,?_⟩⟩;have m1:=(yx R1 r1 il).2;exact ⟨μ1,h1,σw,_,R1,S.ext e1,m1,fun vs H2 ⟨μ2,ws,h2,e2,R2,r2,m2⟩=>Vn R2 (e2.r _ _ r1) r2 m2 fun v H' z=>k _ _<|(z.trans e2).trans e1⟩
end
section
variable {X:Cx}{elt iter tg:Expr}{ifs:List Expr}{scope:Scope}{pos:Pos}{xs:List Str}{mi:MI}{tt:MT}{te:ME}
end
section
variable {X:Cx}{Γ : St->Prop}{e:Expr}{es:List Expr}{pos:Pos}
variable {mr:EY->MA}
end
section
variable {X:Cx}{K:Ai}{H:Hp}{pins:List (Addr×Obj)}{s:AP}{σ : St}
end
section
variable {X:Cx}{K:Ai}{H:Hp}{μ : Mu}{h:Gh}
end
section
variable {X:Cx}{K:Ai}{o e e':Expr}{mo:ME}{ma:MA}{apos cpos:Pos}
end
def G4 (m:Nat):List Nat:=(Lh 8).filter fun j=>m.testBit j
def rk (m j:Nat):Nat:=((Lh j).filter fun i=>m.testBit i).length
theorem qm:∀ m:Fin 256,∀ j:Fin 8,SetTable.below (G4 m).toArray j=rk m j/\(G4 m)[rk m j]?=(if m.val.testBit j then Dn j.val else (G4 m)[rk m j]?)/\(m.val.testBit j=false->(G4 m)[rk m j]?≠Dn j.val):=by decide +kernel
theorem vN:∀ m:Fin 256,∀ j:Fin 8,m.val.testBit j=false->(G4 m).take (rk m j)++j.val::(G4 m).drop (rk m j)=G4 (m.val ||| 2^j.val)/\m.val ||| 2^j.val<256:=by decide +kernel
theorem gH {m j:Nat}:j∈G4 m↔j<8/\m.testBit j=true:=by unfold G4;simp
theorem Bl {t:Nu}{m j:Nat}(hp:t.place=(G4 m).toArray)(hd:t.dummies = #[])(hm:m<256)(hj:j<8):t.slot j=if m.testBit j then .live (rk m j) else .empty:=by
 obtain ⟨a,b,c⟩:=qm ⟨m,hm⟩ ⟨j,hj⟩;dsimp only at a b c;unfold SetTable.slot;dsimp only;rw [hp,hd,a];cases e:m.testBit j with
 | true=>
  rw [e] at b;rw [if_pos rfl] at b;rw [if_pos rfl,if_pos (by simp [b])]
 | false=>
  rw [if_neg LI,if_neg (by simpa using c e),if_neg (by simp [SetTable.has])]
theorem abF {m j:Nat}(hm:m<256)(h:j∈G4 m):(G4 m)[rk m j]?=Dn j:=by
 obtain ⟨hj,e⟩:=gH.mp h;have b:=(qm ⟨m,hm⟩ ⟨j,hj⟩).2.1;dsimp only at b;rw [e,if_pos rfl] at b;exact b
def pq (h:Int):Nat->Nat×Nat
 | 0=>(N5 h % 8,N5 h)
 | n+1=>SetTable.leap 7 (pq h n).1 (pq h n).2
def pb (h:Int)(n:Nat):SetTable.Probe:=⟨(pq h n).1,0,(pq h n).1,(pq h n).2,FX⟩
theorem vI (h:Int):∀ n,(pq h n).1<8
 | 0=>Nat.mod_lt _ (by decide)
 | n+1=>Nat.mod_lt _ (by decide)
theorem IK (i:Nat):U6 7 i - i=0:=by
 unfold U6;rw [if_neg (by lia)];lia
theorem Eb {t:Nu}(hm:t.mask=7)(h:Int):t.probeStart h=pb h 0:=by
 unfold SetTable.probeStart pb pq;rw [hm];simp only [IK]
theorem GK {t:Nu}(hm:t.mask=7)(h:Int)(n:Nat):t.advance (pb h n)=pb h (n+1):=by
 unfold SetTable.advance pb;rw [hm];simp only [IK,Mj,if_false,gt_iff_lt];rfl
theorem J9 (h:Int):∀ n,(pq h n).2=N5 h / 32^n
 | 0=>by simp [pq]
 | n+1=>by
  show (pq h n).2 / 32=_;rw [J9 h n,Nat.div_div_eq_div_mul,Nat.pow_succ]
theorem agW (h:Int)(n:Nat)(hn:13<=n):(pq h n).2=0:=by
 rw [J9];apply Nat.div_eq_of_lt;have h1:N5 h<2^64:=by
  unfold N5;have a:=Int.emod_lt_of_pos h (show (0:Int)<2^64 by decide);have b:=Int.emod_nonneg h (show (2^64:Int)≠0 by decide);lia
 have h2:32^13<=32^n:=Nat.pow_le_pow_right (by decide) hn;have h3:(2:Nat)^64<32^13:=by decide
 lia
def lcg:Nat->Nat->Nat
 | i,0=>i
 | i,k+1=>(lcg i k*5+1) % 8
theorem O9 (h:Int):∀ k,(pq h (13+k)).1=lcg (pq h 13).1 k
 | 0=>rfl
 | k+1=>by
  show ((pq h (13+k)).1*5+1+(pq h (13+k)).2 / 32) % (7+1)=_;rw [agW h _ (by lia),O9 h k];rfl
theorem agw:∀ i:Fin 8,∀ j:Fin 8,∃ k:Fin 8,lcg i k=j.val:=by decide +kernel
theorem ZM (h:Int){j:Nat}(hj:j<8):∃ n,n<21/\(pq h n).1=j:=by
 obtain ⟨k,e⟩:=agw ⟨(pq h 13).1,vI h 13⟩ ⟨j,hj⟩;exact ⟨13+k.val,by lia,by rw [O9];exact e⟩
theorem least {P:Nat->Bool}:∀ (B:Nat),(∃ n,n<B/\P n=true)->∃ N,N<B/\P N=true/\∀ n,n<N->P n=false
 | 0,⟨n,h,_⟩=>absurd h (S5 _)
 | B+1,⟨n,h,e⟩=>by
  by_cases q:∃ n,n<B/\P n=true
  ·obtain ⟨N,a,b,c⟩:=least B q;exact ⟨N,by lia,b,c⟩
  ·refine ⟨n,h,e,fun i hi=>?_⟩;cases r:P i with
   | false=>rfl
   | true=>exact absurd ⟨i,by lia,r⟩ q
theorem road {m:Nat}(h:Int)(hf:∃ j,j<8/\m.testBit j=false):∃ N,N<21/\m.testBit (pq h N).1=false/\∀ n,n<N->m.testBit (pq h n).1=true:=by
 obtain ⟨j,hj,e⟩:=hf;obtain ⟨n,hn,en⟩:=ZM h hj;obtain ⟨N,a,b,c⟩:=least (P:=fun n=>!m.testBit (pq h n).1) 21 ⟨n,hn,by simp [en,e]⟩;exact ⟨N,a,by simpa using b,fun n hn=>by simpa using c n hn⟩
theorem DY:∀ m:Fin 256,(G4 m).length<8->∃ j:Fin 8,m.val.testBit j=false:=by decide +kernel
theorem vH:∀ m:Fin 256,∀ j:Fin 8,m.val.testBit j=false->(G4 (m.val ||| 2^j.val)).length=(G4 m).length+1:=by decide +kernel
theorem Cq:∀ m:Fin 256,∀ j i:Fin 8,(m.val ||| 2^j.val).testBit i=(m.val.testBit i||decide (i.val=j.val)):=by decide +kernel
theorem DR {t:Nu}{m:Nat}(hm:t.mask=7)(hp:t.place=(G4 m).toArray)(hd:t.dummies = #[])(h8:m<256)(hashAt:Nat->Int)(h:Int):∀ (d n fuel:Nat),d<fuel->m.testBit (pq h (n+d)).1=false->(∀ i,i<d->m.testBit (pq h (n+i)).1=true) ->
  ((∀ i,i<d->hashAt (rk m (pq h (n+i)).1)≠h)/\U5.go t hashAt h fuel (pb h n)=Dn (.empty (pq h (n+d)).1 FX)) \/
  ∃ i,i<d/\hashAt (rk m (pq h (n+i)).1)=h/\(∀ j,j<i->hashAt (rk m (pq h (n+j)).1)≠h)/\U5.go t hashAt h fuel (pb h n)=Dn (.candidate (pq h (n+i)).1 (rk m (pq h (n+i)).1) (pb h (n+i+1)))
 | _,_,0,hf,_,_=>absurd hf (S5 _)
 | 0,n,fuel+1,_,e,_=>by
  refine .inl ⟨fun i hi=>absurd hi<|S5 _,?_⟩;unfold U5.go;have:t.slot (pb h n).j=.empty:=by
   show t.slot (pq h n).1=_;rw [Bl hp hd h8 (vI h n),show m.testBit (pq h n).1=false from e];rfl
  rw [this];rfl
 | d+1,n,fuel+1,hf,e,l=>by
  have e0:m.testBit (pq h n).1=true:=l 0 (by lia);have hs:t.slot (pb h n).j=.live (rk m (pq h n).1):=by
   show t.slot (pq h n).1=_;rw [Bl hp hd h8 (vI h n),e0];rfl
  unfold U5.go;rw [hs];dsimp only;by_cases q:hashAt (rk m (pq h n).1)=h
  ·refine .inr ⟨0,by lia,q,fun j hj=>absurd hj<|S5 _,?_⟩;rw [if_pos (by simp [q]),GK hm];rfl
  ·rw [if_neg (by simp [q]),GK hm];have hsh:∀ i,n+1+i=n+(i+1):=fun i=>by lia
   rcases DR hm hp hd h8 hashAt h d (n+1) fuel (by lia) (by rw [hsh];exact e) (fun i hi=>by rw [hsh];exact l (i+1) (by lia)) with ⟨a,b⟩ | ⟨i,hi,a,b,c⟩
   ·refine .inl ⟨fun i hi=>?_,by rw [b,hsh]⟩;cases i with
    | zero=>exact q
    | succ i=>have:=a i (by lia);rw [hsh] at this;exact this
   ·refine .inr ⟨i+1,by lia,by rw [<-hsh];exact a,fun j hj=>?_,by rw [c,hsh]⟩;cases j with
    | zero=>exact q
    | succ j=>have:=b j (by lia);rw [hsh] at this;exact this
section
variable {prog:Fb}{w:FZ}{A:Fd}{E:Go->AP->Prop}{s:AP}{m:Nat}{ka:Nat->List Int}{ad:Nat->Addr}{t:Nu}{a b:Addr}{k:List Int}
abbrev TK (prog:Fb)(w:FZ)(h:Heap)(k:List Int)(a:Addr):Prop:=IsTupleKey (La prog w) h k a
def hT (prog:Fb)(w:FZ)(k:List Int):Int:=M8 (La prog w) k
def elL (prog:Fb)(w:FZ)(m:Nat)(ka:Nat->List Int)(ad:Nat->Addr):List (Int×Go):=(G4 m).map fun j=>(hT prog w (ka j),Value.ref (ad j))
structure Qa (prog:Fb) (w:FZ) (h:Heap) (m:Nat) (ka:Nat->List Int) (ad:Nat->Addr) (t:Nu):Prop where
 mask:t.mask=7
 place:t.place=(G4 m).toArray
 dum:t.dummies = #[]
 m8:m<256
 few:(G4 m).length<=4
 key:∀ j,j∈G4 m->TK prog w h (ka j) (ad j)
 way:∀ j,j∈G4 m->∃ n,(pq (hT prog w (ka j)) n).1=j/\∀ i,i<n->m.testBit (pq (hT prog w (ka j)) i).1=true
theorem Qa.fits {h:Heap}(T:Qa prog w h m ka ad t):t.fits (elL prog w m ka ad).toArray.size=true:=by
 unfold SetTable.fits SetTable.fill elL;rw [T.place,T.dum,T.mask];have:=T.few
 simp;lia
theorem Qa.at {h:Heap}(T:Qa prog w h m ka ad t){j:Nat}(hj:j∈G4 m):(elL prog w m ka ad).toArray[rk m j]?=Dn (hT prog w (ka j),Value.ref (ad j)):=by
 have:=abF T.m8 hj
 simp [elL,this]
theorem xP {d:Nat}{Q:Bool->AP->Prop}(hk:TK prog w s.heap k b)(h:Q false s):CR (FJ prog w) A (ofAClassStatement (d+1) (.ref b)) Q E s:=by
 have hTy:=hk.typeIs;obtain ⟨o,items,n,ho,_,hd,hi⟩:=hk;unfold ofAClassStatement;refine Af<|wpAny_typeOf hTy ?_
 dsimp only;refine Af ?_;refine FP ?_;simp only [Bool.not_true,Mp,if_false];refine Af<|RX ho hd ?_
 dsimp only;refine Af ?_;rw [<-Array.forIn_toList];refine wpAny_forIn_list _ (fun rest r s'=>r.1=FX/\s'=s/\∀ v∈rest,carriedByValue v=true) _ ?_ ?_ _ _ ⟨rfl,rfl,hi.byValue⟩
 ·rintro v rest r s' ⟨hr,rfl,hall⟩;have hv:=hall v MJ;have e:ofAClassStatement d v=pure false:=by
   cases v with
   | ref a=>simp [carriedByValue] at hv
   | _=>unfold ofAClassStatement;rfl
  rw [e];refine Af<|FP ?_
  simp only [Mp,if_false];exact FP ⟨rfl,rfl,fun u hu'=>hall u<|MK _ hu'⟩
 ·rintro ⟨r1,r2⟩ s' ⟨hr,rfl,_⟩;simp only at hr;subst hr;exact FP h
theorem yC {d:Nat}{Q:Bool->AP->Prop}(hk:TK prog w s.heap k b)(h:Q true s):CR (FJ prog w) A (hashByValue (d+1) (.ref b)) Q E s:=by
 have hTy:=hk.typeIs;obtain ⟨o,items,n,ho,_,hd,hi⟩:=hk;unfold hashByValue;refine Af<|Ue hTy F.slot_tuple_hash.lookup ?_
 dsimp only;refine Af<|RX ho hd ?_
 refine Af ?_;show CR _ _ (forIn items _ _) _ _ s;rw [<-Array.forIn_toList];refine wpAny_forIn_list _ (fun rest r s'=>r.1=FX/\s'=s/\∃ ks,ItemsAre (La prog w) ks rest) _ ?_ ?_ _ _ ⟨rfl,rfl,k,hi⟩
 ·rintro v rest r s' ⟨hr,rfl,ks,hall⟩;cases hall with
  | @cons k0 _ ks' _ h1 h2=>
   have e:hashByValue d v=pure true:=by
    obtain ⟨tk,rfl⟩:=Value.isInt_shape h1;cases d <;> rfl
   rw [e];refine Af<|FP ?_
   simp only [Bool.not_true,Mp,if_false];exact FP ⟨rfl,rfl,ks',h2⟩
 ·rintro ⟨r1,r2⟩ s' ⟨hr,rfl,_⟩;simp only at hr;subst hr;exact FP h
theorem zar {l:List Go}{Q:Bool->AP->Prop}(hk:TK prog w s.heap k b)(hl:∀ y∈l,∃ c k',y=.ref c/\TK prog w s.heap k' c)(h:Q false s):CR (FJ prog w) A (searchCouldBeSeen (.ref b) l) Q E s:=by
 unfold searchCouldBeSeen;refine Af ?_;refine wpAny_forIn_list _ (fun rest r s'=>r.1=FX/\s'=s/\∀ y∈rest,∃ c k',y=.ref c/\TK prog w s.heap k' c) _ ?_ ?_ _ _ ⟨rfl,rfl,hl⟩
 ·rintro v rest r s' ⟨hr,rfl,hall⟩;obtain ⟨c,k',rfl,hc⟩:=hall v MJ;have tl:∀ y∈rest,∃ c k',y=.ref c/\TK prog w s'.heap k' c:=fun u hu'=>hall u (MK _ hu')
  dsimp only;split
  ·exact FP ⟨rfl,rfl,tl⟩
  ·refine Af<|wpAny_eqIsQuiet_tuple hk ?_
   simp only [Bool.not_true,Mp,if_false];refine Af<|wpAny_eqIsQuiet_tuple hc ?_
   simp only [Bool.not_true,Mp,if_false];refine Af<|xP hk ?_
   simp only [Mp,if_false];refine Af<|xP hc ?_
   simp only [Mp,if_false];exact FP ⟨rfl,rfl,tl⟩
 ·rintro ⟨r1,r2⟩ s' ⟨hr,rfl,_⟩;simp only at hr;subst hr;exact FP h
theorem jE {o:Obj}{ep:Nat}{h:Int}{Q:SetFound->AP->Prop}(hh:h=hT prog w k)(hu:A.units<Jd)(ho:s.heap.get? a=Dn o)(hd:o.data=.set (elL prog w m ka ad).toArray ep t)(T:Qa prog w s.heap m ka ad t)(hk:TK prog w s.heap k b){N:Nat}(hN:m.testBit (pq h N).1=false)(hl:∀ n,n<N->m.testBit (pq h n).1=true)
  (yes:(∃ j,j∈G4 m/\ka j=k)->Q (.there FX) s) (no:(∀ n,n<N->ka (pq h n).1≠k)->Q (.free (pq h N).1 false) s) :
  ∀ (fuel n:Nat) (st:Option SetTable.Probe),st.getD (t.probeStart h)=pb h n->n<=N->N - n<fuel->N<200->(∀ i,i<n->ka (pq h i).1≠k)->CR (FJ prog w) A (setSearchFrom a (.ref b) h true fuel st) Q E s
 | 0,_,_,_,_,hf,_,_=>absurd hf (S5 _)
 | fuel+1,n,st,es,hn,hf,h2,hb=>by
  unfold setSearchFrom;refine Af<|TJ ho hd T.fits ?_
  dsimp only;have hg:t.gaveWay=false:=by unfold SetTable.gaveWay;rw [T.mask];rfl
  rw [hg];simp only [Mp,if_false];rw [es];have hm:∀ i,i<N->(pq h i).1∈G4 m:=fun i hi=>gH.mpr ⟨vI h i,hl i hi⟩
  have hx:∀ i,i<N->((((elL prog w m ka ad).toArray[rk m (pq h i).1]?).map (·.1)).getD 0)=hT prog w (ka (pq h i).1):=fun i hi=>by rw [T.at (hm i hi)];rfl
  have e200:10*SetTable.turns t.mask=220:=by rw [T.mask];rfl
  have go:=DR T.mask T.place T.dum T.m8 (fun i=>(((elL prog w m ka ad).toArray[i]?).map (·.1)).getD 0) h (N - n) n 220 (by lia) (by rw [show n+(N - n)=N by lia];exact hN) (fun i hi=>hl _ (by lia));generalize hP:t.probe _ h (pb h n)=P;rcases go with ⟨hno,e⟩ | ⟨i,hi,hc,hbef,e⟩
  ·have e':t.probe (fun i=>(((elL prog w m ka ad).toArray[i]?).map (·.1)).getD 0) h (pb h n)=Dn (.empty (pq h N).1 FX):=by
    unfold U5;rw [e200,e,show n+(N - n)=N by lia]
   have eP:P=Dn (.empty (pq h N).1 FX):=hP.symm.trans e';subst eP;dsimp only;refine FP<|no fun i hi z=>?_
   by_cases q:i<n
   ·exact hb i q z
   ·refine hno (i - n) (by lia) ?_;rw [show n+(i - n)=i by lia,hx i hi,z,hh]
  ·have e':t.probe (fun i=>(((elL prog w m ka ad).toArray[i]?).map (·.1)).getD 0) h (pb h n)=Dn (.candidate (pq h (n+i)).1 (rk m (pq h (n+i)).1) (pb h (n+i+1))):=by
    unfold U5;rw [e200,e]
   have eP:P=_:=hP.symm.trans e';subst eP;have hj:=hm (n+i) (by lia);have hkj:=T.key _ hj;dsimp only;rw [T.at hj];dsimp only;have hsl:t.slot (pq h (n+i)).1=.live (rk m (pq h (n+i)).1):=by rw [Bl T.place T.dum T.m8 (vI h _),(gH.mp hj).2,if_pos rfl]
   have hsame:t.sameMemory t.moves t.mask=Dn true:=by unfold SetTable.sameMemory;rw [if_pos (by simp)]
   have hel:∀ y∈List.map (fun x=>x.snd) (Array.filter (fun x=>x.fst==h) (elL prog w m ka ad).toArray).toList,∃ c k',y=.ref c/\TK prog w s.heap k' c:=by
    intro y hy;obtain ⟨p,hp,rfl⟩:=MF.mp hy;have hp':p∈elL prog w m ka ad:=by
     have:=(Array.mem_filter.mp (Array.mem_toList_iff.mp hp)).1
     simpa using this
    obtain ⟨j,hj',rfl⟩:=MF.mp hp';exact ⟨_,_,rfl,T.key j hj'⟩
   split
   all_goals try (refine Af (zar hk hel ?_);simp only [Mp,if_false])
   all_goals
    refine Af<|MH<|wpAny_eqBool_tuple hu hkj hk ?_
    refine Af<|TJ ho hd T.fits ?_
    dsimp only;rw [Bool.true_and];by_cases q:ka (pq h (n+i)).1=k
    ·rw [if_pos (decide_eq_true q)];exact FP<|yes ⟨_,hj,q⟩
    ·rw [if_neg (by rw [decide_eq_false q];exact LI),hsame];dsimp only;rw [if_pos rfl,hsl];dsimp only;rw [T.at hj];dsimp only;refine Af<|wpAny_isSame_ref_self ?_
     rw [if_pos rfl];refine Af<|FP ?_
     dsimp only;rw [if_neg (by rw [decide_eq_false q];exact LI)];refine jE hh hu ho hd T hk hN hl yes no fuel (n+i+1) _ rfl (by lia) (by lia) h2 fun j hj' z=>?_;by_cases r:j<n
     ·exact hb j r z
     ·by_cases r2:j=n+i
      ·rw [r2] at z;exact q z
      ·refine hbef (j - n) (by lia) ?_;rw [show n+(j - n)=j by lia,hx j (by lia),z,hh]
def K7 (es:Array (Int×Go))(ep:Nat)(t:Nu):Obj:={ cls:=.type "set",dict:=FX,data:=.set es ep t }
def tX (prog:Fb)(w:FZ)(h:Heap)(a:Addr)(m:Nat)(ka:Nat->List Int)(ad:Nat->Addr):Prop:=∃ ep t,h.get? a=Dn (K7 (elL prog w m ka ad).toArray ep t)/\Qa prog w h m ka ad t
theorem TK.ne {h:Heap}{es:Array (Int×Go)}{ep:Nat}(hk:TK prog w h k b)(ho:h.get? a=Dn (K7 es ep t)):b≠a:=by
 rintro rfl;obtain ⟨o,_,_,e,hc,_⟩:=hk;rw [ho] at e;cases e;exact absurd (show Value.type "set" = Value.type "tuple" from hc)<|by decide
theorem TK.same {h h':Heap}{es:Array (Int×Go)}{ep:Nat}(hk:TK prog w h k b)(ho:h.get? a=Dn (K7 es ep t))(hs:NT a h h'):TK prog w h' k b:=by
 have ne:=TK.ne hk ho;obtain ⟨o,i,n,e,r⟩:=hk;exact ⟨o,i,n,(hs.2 b ne).trans e,r⟩
theorem Oz {j:Nat}(m8:m<256)(hj:j<8)(hb:m.testBit j=false):Ra (elL prog w m ka ad).toArray (rk m j) (hT prog w k,Value.ref b)=(elL prog w (m ||| 2^j) (fun i=>if i=j then k else ka i) (fun i=>if i=j then b else ad i)).toArray:=by
 have e:=(vN ⟨m,m8⟩ ⟨j,hj⟩ hb).1;dsimp only at e;apply Array.ext';rw [SetTable.toList_insertAt];unfold elL;rw [<-e];simp only [Sd,Lj,if_pos,List.map_take,List.map_drop];have hne:∀ i∈G4 m,i≠j:=fun i hi z=>by rw [z] at hi;rw [(gH.mp hi).2] at hb;cases hb
 have em:(G4 m).map (fun i=>(hT prog w (if i=j then k else ka i),Value.ref (if i=j then b else ad i)))=(G4 m).map fun i=>(hT prog w (ka i),Value.ref (ad i)):=List.map_congr_left fun i hi=>by rw [if_neg (hne i hi),if_neg (hne i hi)]
 rw [em]
theorem zaq {Q:Bool->AP->Prop}(hu:A.units<Jd)(S:tX prog w s.heap a m ka ad)(hk:TK prog w s.heap k b)(h3:(G4 m).length<=3)
  (yes:(∃ j,j∈G4 m/\ka j=k)->∀ tk,Q false { s with toks:=tk })
  (no:(∀ j,j∈G4 m->ka j≠k)->∀ h' j tk,NT a s.heap h'->j<8->m.testBit j=false->tX prog w h' a (m ||| 2^j) (fun i=>if i=j then k else ka i) (fun i=>if i=j then b else ad i)->Q true { s with heap:=h',toks:=tk }) :
  CR (FJ prog w) A (setAdd a (.ref b)) Q E s:=by
 obtain ⟨ep,t,ho,T⟩:=S;unfold setAdd;refine MH<|Af<|wpAny_pyHash_tuple hu hk ?_
 unfold setAddHashed;refine MH ?_;generalize hs1:({ s with toks:=s.toks+(k.length+1) }:AP)=s1;have eh:s1.heap=s.heap:=by rw [<-hs1]
 have ho1:s1.heap.get? a=Dn (K7 (elL prog w m ka ad).toArray ep t):=by rw [eh];exact ho
 have T1:Qa prog w s1.heap m ka ad t:=by rw [eh];exact T
 have hk1:TK prog w s1.heap k b:=by rw [eh];exact hk
 unfold setAddHashedIn;refine Af<|TJ ho1 rfl T1.fits ?_
 dsimp only;have hby:byScan (.ref b) (elL prog w m ka ad).toArray=false:=rfl;rw [hby];simp only [Mp,if_false];obtain ⟨j0,hj0⟩:=DY ⟨m,T.m8⟩ (by show (G4 m).length<8;lia);obtain ⟨N,hN,hN0,hN1⟩:=road (m:=m) (M8 (La prog w) k) ⟨j0.val,j0.isLt,hj0⟩;unfold setSearch;refine Af<|jE (h:=M8 (La prog w) k) rfl hu ho1 rfl T1 hk1 hN0 hN1 (fun y=>?_) (fun n=>?_) 100000 0 FX (by rw [Option.getD_none];exact Eb T.mask _) (by lia) (by lia) (by lia) fun i hi=>absurd hi<|S5 _
 ·dsimp only;rw [<-hs1];exact FP<|yes y _
 ·dsimp only;have hnew:∀ j,j∈G4 m->ka j≠k:=fun j hj z=>by
   obtain ⟨i,e,l⟩:=T.way j hj;have eh:hT prog w (ka j)=M8 (La prog w) k:=by rw [z];rfl
   rw [eh] at e l;rcases Nat.lt_trichotomy i N with q | q | q
   ·exact n i q (by rw [e];exact z)
   ·rw [q] at e;rw [e,(gH.mp hj).2] at hN0;cases hN0
   ·rw [l N q] at hN0;cases hN0
  refine Af<|TJ ho1 rfl T1.fits ?_
  have hj8:=vI (M8 (La prog w) k) N;generalize hjj:(pq (M8 (La prog w) k) N).fst=j at hN0 hj8 |-
  have hput:t.put j=({ t with place:=(G4 (m ||| 2^j)).toArray },rk m j):=by
   unfold SetTable.put;have e1:=(qm ⟨m,T.m8⟩ ⟨j,hj8⟩).1;have e2:=(vN ⟨m,T.m8⟩ ⟨j,hj8⟩ hN0).1;dsimp only at e1 e2;have e3:Ra (G4 m).toArray (rk m j) j=(G4 (m ||| 2^j)).toArray:=by
    apply Array.ext';rw [SetTable.toList_insertAt,e2]
   rw [T.place,T.dum,e1];dsimp only;rw [e3,if_neg (by simp [SetTable.has])]
  have hfull:({ t with place:=(G4 (m ||| 2^j)).toArray }:Nu).tooFull=false:=by
   have e:=vH ⟨m,T.m8⟩ ⟨j,hj8⟩ hN0;dsimp only at e;unfold SetTable.tooFull SetTable.fill;rw [T.mask,T.dum];simp only [Gz,e];simp;lia
  rw [hput];dsimp only;have key:∀ {R:Unit->AP->Prop},(∀ h',NT a s.heap h'->tX prog w h' a (m ||| 2^j) (fun i=>if i=j then k else ka i) (fun i=>if i=j then b else ad i)->R () { s1 with heap:=h' })->CR (FJ prog w) A (storeSet a (Ra (elL prog w m ka ad).toArray (rk m j) (M8 (La prog w) k,Value.ref b)) { t with place:=(G4 (m ||| 2^j)).toArray }) R E s1:=by
   intro R hR;have e:=vH ⟨m,T.m8⟩ ⟨j,hj8⟩ hN0;dsimp only at e;have ee:=Oz (prog:=prog) (w:=w) (ka:=ka) (ad:=ad) (k:=k) (b:=b) T.m8 hj8 hN0;unfold hT at ee;rw [ee];refine wpAny_storeSet_of ho1 rfl (hR _ ?_ ?_) ?_
   ·rw [eh];exact SJ ..
   ·have hsb:NT a s1.heap (s1.heap.update a (Obj.putSet (elL prog w (m ||| 2^j) (fun i=>if i=j then k else ka i) (fun i=>if i=j then b else ad i)).toArray { t with place:=(G4 (m ||| 2^j)).toArray })):=SJ ..;refine ⟨ep+1,{ t with place:=(G4 (m ||| 2^j)).toArray },?_,⟨T.mask,rfl,T.dum,(vN ⟨m,T.m8⟩ ⟨j,hj8⟩ hN0).2,by rw [e];lia,fun i hi=>?_,fun i hi=>?_⟩⟩
    ·have:=Sy (Obj.putSet (elL prog w (m ||| 2^j) (fun i=>if i=j then k else ka i) (fun i=>if i=j then b else ad i)).toArray { t with place:=(G4 (m ||| 2^j)).toArray }) ho1 (by rw [putSet_of _ _ rfl];rfl)
     rw [putSet_of _ _ rfl] at this;exact this
    ·obtain ⟨hi8,hib⟩:=gH.mp hi;have o:=Cq ⟨m,T.m8⟩ ⟨j,hj8⟩ ⟨i,hi8⟩;dsimp only at o;by_cases z:i=j
     ·simp only [if_pos z];exact TK.same hk1 ho1 hsb
     ·simp only [if_neg z];refine TK.same (T1.key i<|gH.mpr ⟨hi8,?_⟩) ho1 hsb;rw [hib,decide_eq_false z,Bool.or_false] at o;exact o.symm
    ·obtain ⟨hi8,hib⟩:=gH.mp hi;have up:∀ n,n<8->m.testBit n=true->(m ||| 2^j).testBit n=true:=fun n hn hb=>by
      have:=Cq ⟨m,T.m8⟩ ⟨j,hj8⟩ ⟨n,hn⟩
      dsimp only at this;rw [this,hb];rfl
     have o:=Cq ⟨m,T.m8⟩ ⟨j,hj8⟩ ⟨i,hi8⟩;dsimp only at o;by_cases z:i=j
     ·simp only [if_pos z];exact ⟨N,by rw [z];exact hjj,fun n hn=>up _ (vI _ _)<|hN1 n hn⟩
     ·simp only [if_neg z];rw [hib,decide_eq_false z,Bool.or_false] at o;obtain ⟨n,e1,e2⟩:=T.way i (gH.mpr ⟨hi8,o.symm⟩);exact ⟨n,e1,fun i hi=>up _ (vI _ _)<|e2 i hi⟩
   ·have e9:(elL prog w (m ||| 2^j) (fun i=>if i=j then k else ka i) (fun i=>if i=j then b else ad i)).toArray.size=(G4 m).length+1:=by
     unfold elL;rw [Gz,GJ,e]
    rw [e9,Tz];lia
  have fin:∀ h',NT a s.heap h'->tX prog w h' a (m ||| 2^j) (fun i=>if i=j then k else ka i) (fun i=>if i=j then b else ad i)->Q true { s1 with heap:=h' }:=fun h' hsb hS=>by
   rw [<-hs1];exact no hnew h' j _ hsb hj8 hN0 hS
  split
  ·refine Af<|yC hk1 ?_
   rw [if_pos rfl,hfull];refine Af<|key fun h' hsb hS=>?_
   exact FP<|fin h' hsb hS
  ·refine Af<|FP ?_
   rw [if_pos rfl,hfull];refine Af<|key fun h' hsb hS=>?_
   exact FP<|fin h' hsb hS
end
def Lf (acc:List (List Int))(k:List Int):List (List Int):=if k∈acc then acc else acc++[k]
def Nq (l:List (List Int)):List (List Int):=l.foldl Lf []
theorem jO:∀ (l acc:List (List Int)),(l.foldl Lf acc).length<=acc.length+l.length
 | [],acc=>by simp
 | k::r,acc=>by
  have:=jO r (Lf acc k)
  rw [S6];unfold Lf at this |-
  split at this <;> simp_all <;> lia
section
variable {prog:Fb}{w:FZ}{A:Fd}{E:Go->AP->Prop}{R:Result->AP->Prop}
structure Gf (prog:Fb) (w:FZ) (z:Nat) (h:Heap) (S:Addr) (seen:List (List Int)) (m:Nat) (ka:Nat->List Int) (ad:Nat->Addr):Prop where
 set:tX prog w h S m ka ad
 low:∀ j,j∈G4 m->ad j<z
 mem:∀ k,k∈seen↔∃ j,j∈G4 m/\ka j=k
 len:(G4 m).length=seen.length
theorem Gf.keep {z:Nat}{h h':Heap}{S:Addr}{seen:List (List Int)}{m:Nat}{ka:Nat->List Int}{ad:Nat->Addr}(B:Gf prog w z h S seen m ka ad)(hS:∀ o,h.get? S=Dn o->h'.get? S=Dn o)(hl:∀ b o,b<z->h.get? b=Dn o->h'.get? b=Dn o):Gf prog w z h' S seen m ka ad:=by
 obtain ⟨⟨ep,t,ho,T⟩,low,mem,len⟩:=B;refine ⟨⟨ep,t,hS _ ho,T.mask,T.place,T.dum,T.m8,T.few,fun j hj=>?_,T.way⟩,low,mem,len⟩;obtain ⟨o,i,n,e,r⟩:=T.key j hj;exact ⟨o,i,n,hl _ _ (low j hj) e,r⟩
end
section
variable {prog:Fb}{w:FZ}{A:Fd}{E:Go->AP->Prop}{s:AP}
abbrev Pb (led:Bool):Obj:={ cls:=.type "set",dict:=FX,data:=.set #[] 0 (.fresh 0 0 led) }
theorem afy {h:Heap}{a:Addr}{led:Bool}(ho:h.get? a=Dn (Pb led)):tX prog w h a 0 (fun _=>[]) (fun _=>0):=
 ⟨0,.fresh 0 0 led,ho,rfl,rfl,rfl,by decide,by decide,fun j hj=>absurd hj (by simp [G4]),fun j hj=>absurd hj (by simp [G4])⟩
end
section
variable {X:Cx}{K:Ai}
def VP (K:Ai)(H:Hp):List V->List (List Int)->Prop:=Rv fun v k=>∃ b,v=.ref b/\Hs K H b (k.map V.int)
def aaQ (a:Addr)(n:Nat):HO:=.ext fun h=>∃ es ep t,h.get? a=Dn (K7 es ep t)/\t.fits es.size=true/\es.size=n
theorem Eu {prog:Fb}{w:FZ}:∀ {k:List Int} {us:List Go},Bp (k.map V.int) us->ItemsAre (La prog w) k us
 | [],_,.nil=>.nil
 | i::k,_,.cons r t=>by
  obtain ⟨tk,rfl⟩:=r;exact .cons (intKind_is _ _ _ _)<|Eu t
theorem yF {α β : Type}{F:α->β->Prop}:∀ {l:List α} {k:List β} {j:Nat} {x:α},Rv F l k->l[j]?=Dn x->∃ y,k[j]?=Dn y/\F x y
 | _,_,_,_,.nil,e=>by simp at e
 | _,_,0,_,.cons r _,e=>by simp at e;subst e;exact ⟨_,rfl,r⟩
 | _,_,j+1,x,.cons _ t,e=>by
  obtain ⟨y,a,b⟩:=yF (j:=j) (x:=x) t (by simpa using e);exact ⟨y,by simpa using a,b⟩
theorem aez {xs:List V}{us:List Go}(r:Bp xs us){j:Nat}{u:Go}(e:us[j]?=Dn u):∃ x,xs[j]?=Dn x/\RelV x u:=by
 have hl:=r.length;have hj:=(Nk.mp e).1;have hj':j<xs.length:=by lia
 obtain ⟨y,a,b⟩:=Bp.get r (Kc hj');rw [e] at a;cases a;exact ⟨_,Kc hj',b⟩
theorem afd:gj X (.builtin "len") (fun xs H Q=>∃ (a:Addr) (n:Nat),xs=[.ref a]/\H a=Dn (aaQ a n)/\n<=1000/\Q (.int n) H):=by
 intro pins s σ H xs us Q I r h;obtain ⟨a,n,rfl,hq,hn,q⟩:=h;obtain ⟨u,rfl,rx⟩:=vals1 r;cases rx;obtain ⟨⟨es,ep,t,ho,hf,e⟩,_⟩:=I.hok a _ hq;exact call_len_set ho ⟨rfl,rfl,rfl⟩ rfl hf (by lia) ⟨.int n,H,I.tok _,⟨_,by rw [e]⟩,q⟩
def FW:List W->Option (List Int)
 | []=>Dn []
 | .int i::r=>(FW r).map (i::·)
 | _=>FX
def yO:List W->Option (List (List Int))
 | []=>Dn []
 | .tup ws::r=>(match FW ws,yO r with
  | some k,Dn l=>Dn (k::l)
  | _,_=>FX)
 | _=>FX
theorem Di {H:Hp}{μ : Mu}:∀ {ws:List W} {xs:List V} {k:List Int},aM K H μ ws xs->FW ws=Dn k->xs=k.map V.int
 | [],xs,k,r,e=>by
  rw [aM] at r;cases (show Dn []=Dn k from e)
  exact r
 | w::ws,xs,k,r,e=>by
  rw [aM] at r;obtain ⟨v,vr,ev,ra,r⟩:=r;cases w with
  | int b=>
   rw [Ab] at ra;rw [FW] at e;cases q:FW ws with
   | none=>rw [q] at e;cases e
   | some cs=>
    rw [q] at e;cases (show Dn (b::cs)=Dn k from e)
    rw [ev,ra,Di r q];rfl
  | _=>cases e
theorem Cr {H:Hp}{μ : Mu}:∀ {ws:List W} {xs:List V} {kss:List (List Int)},aM K H μ ws xs->yO ws=Dn kss->VP K H xs kss
 | [],xs,k,r,e=>by
  rw [aM] at r;cases (show Dn []=Dn k from e)
  rw [r];exact .nil
 | w::ws,xs,kss,r,e=>by
  rw [aM] at r;obtain ⟨v,vr,ev,ra,r⟩:=r;cases w with
  | tup us=>
   rw [Ab] at ra;obtain ⟨p,ys,e1,hs,rs⟩:=ra;rw [yO] at e;cases q:FW us with
   | none=>rw [q] at e;cases e
   | some k=>
    cases q2:yO ws with
    | none=>rw [q,q2] at e;cases e
    | some l=>
     rw [q,q2] at e;cases (show Dn (k::l)=Dn kss from e)
     rw [ev];exact .cons ⟨p,e1,by rw [<-Di rs q];exact hs⟩<|Cr r q2
  | _=>cases e
def Mg:M2:=fun x y h Q=>match T6 h x,T6 h y with
 | some a,Dn b=>jf (a.length+b.length) (Q (.loc h.nx) (h.new (.lst (a++b))))
 | _,_=>False
theorem Zc:M6 X (Ly .Add) Mg:=⟨_,PN,by
 intro H μ h x y wx wy Qw Q R rx ry m k;unfold Mg at m;split at m
 ·rename_i a b ea eb;obtain ⟨p,xs,ex,hx,r1⟩:=tQ R rx ea;obtain ⟨q,ys,ey,hy,r2⟩:=tQ R ry eb;have sz:=m.ok.1;exact ⟨p,q,xs,ys,ex,ey,hx,hy,by rw [<-r1.len,<-r2.len];exact sz,fun l hl=>k _ _ ⟨μ.put h.nx l,.loc h.nx,h.new<|.lst<|a++b,(Ex.newCell R hl).ext,Px R hl<|r1.append r2,by rw [Ab];exact ⟨l,rfl,Mu.put_same⟩,m.ok.2⟩⟩
 ·exact m.elim⟩
end
section
variable {κ : Type} [DecidableEq κ]
end
section
variable {P:Fb}{w:FZ}{H:Hp}{h:Heap}{a:Addr}
end
section
variable {X:Cx}{pins:List (Addr×Obj)}{σ : St}{H:Hp}{s:AP}{a:Addr}{y v:V}{u r:Go}{o:Option V}{A:Fd}{E:Go->AP->Prop}
end
section
variable {X:Cx}{pins:List (Addr×Obj)}{σ : St}{H:Hp}{s:AP}{a:Addr}{kvs:List (Key×V)}{k:Key}{u:Go}{A:Fd}{E:Go->AP->Prop}
end
section
variable {X:Cx}{o i e value:Expr}{pos pos' tpos:Pos}{td ty tv:TE}
end
section
variable {X:Cx}{pos:Pos}
end
section
variable {K:Ai}{H:Hp}{μ : Mu}{kvs:List (Key×W)}{kvv:List (Key×V)}{k:Key}{w:W}{v:V}
end
section
variable {X:Cx}{a b:Expr}{ma mb:ME}{pos:Pos}
inductive DDs (X:Cx):List (Option Expr)->List Expr->List (Key×ME)->Prop
 | nil:DDs X [] [] []
 | cons {x:Str} {j pos} {v:Expr} {m:ME} {ks:List (Option Expr)} {vs:List Expr} {r:List (Key×ME)} (h:DE X v m) (t:DDs X ks vs r):DDs X (Dn (.Constant (.str x) j pos)::ks) (v::vs) ((.inr x,m)::r)
end
inductive abK (w:FZ) (K:Ai):List DictEntry->List (Key×W)->Prop
 | nil:abK w K [] []
 | cons {x:Str} {t} {v:V} {u:Go} {d:W} {es:List DictEntry} {tbl:List (Key×W)} (r:RelV v u) (q:∀ H μ,Ab K H μ d v) (h:abK w K es tbl):abK w K (⟨PyData.keyHash w.params x,.str x t,u⟩::es) ((.inr x,d)::tbl)
section
variable {X:Cx}{b:Expr}{mb:ME}{pos p:Pos}{x:Str}{a:Addr}{tbl:List (Key×W)}
end
section
variable {X:Cx}{pos p p':Pos}{x:Str}{a:Addr}{tbl:List (Key×W)}
end
section
variable {X:Cx}
end
section
variable {X:Cx}{K:Ai}{H:Hp}{μ : Mu}{h:Gh}
end
section
variable {X:Cx}{a b c:Expr}{ma mb mc:ME}{pos:Pos}
end
section
variable {K:Ai}{H:Hp}{μ : Mu}{fs:List (Str×W)}{fvs:List (Str×V)}{f:Str}{w:W}{v:V}
end
section
variable {X:Cx}{e o value:Expr}{es:List Expr}{ma mo mv:ME}{mr:MA}{f:Str}{C:Addr}{pos pos' apos:Pos}
end
section
variable {prog:Fb}{w:FZ}{A:Fd}{E:Go->AP->Prop}{s:AP}
end
section
variable {X:Cx}
end
section
variable {X:Cx}{e:Expr}{me:ME}{x:Str}{a:Addr}{tbl:List (Key×W)}{p pos:Pos}
end
section
variable {X:Cx}{Γ : St->Prop}{C:Addr}{o e:Expr}{es:List Expr}{mo:ME}{mr:MA}{pos apos:Pos}
end
section
variable {X:Cx}{pins:List (Addr×Obj)}{σ : St}{H:Hp}{s:AP}{K:Ai}{μ : Mu}
end
section
variable {X:Cx}{a b o i:Expr}{ma mb:ME}{td ty:TE}{pos:Pos}
end
section
variable {prog:Fb}{w:FZ}{A:Fd}{E:Go->AP->Prop}{s:AP}
end
section
variable {X:Cx}
end
def reo (es:Array (Int×Go))(laid:Option (Nu×Array Nat)):Sem (Array (Int×Go)×Nu):=do
 let Dn (t,order):=laid | unsupported "internal:set-table-without-room"
 let es':=order.filterMap (es[·]?)
 if es'.size != es.size then unsupported "internal:set-table-lost-an-element"
 pure (es',t)
theorem afi (a:Addr)(wanted:Nat):setRelay a wanted=(do
 let (es,_,t) <-setState a
 if SetTable.sizeAbove wanted>Gb then unsupported "set:memory"
 let (es,t) <-reo es (t.relaid (es.map (·.1)) wanted)
 storeSet a es t):=rfl
def ps (h:Int):Nat->Nat×Nat
 | 0=>(N5 h % 32,N5 h)
 | n+1=>SetTable.leap 31 (ps h n).1 (ps h n).2
theorem Xx (h:Int):∀ n,(ps h n).1<32
 | 0=>Nat.mod_lt _ (by decide)
 | n+1=>Nat.mod_lt _ (by decide)
theorem Ii (h:Int):∀ n,(ps h n).2=N5 h / 32^n
 | 0=>by simp [ps]
 | n+1=>by
  show (ps h n).2 / 32=_;rw [Ii h n,Nat.div_div_eq_div_mul,Nat.pow_succ]
theorem afU (h:Int)(n:Nat)(hn:13<=n):(ps h n).2=0:=by
 rw [Ii];apply Nat.div_eq_of_lt;have h1:N5 h<2^64:=by
  unfold N5;have a:=Int.emod_lt_of_pos h (show (0:Int)<2^64 by decide);have b:=Int.emod_nonneg h (show (2^64:Int)≠0 by decide);lia
 have h2:32^13<=32^n:=Nat.pow_le_pow_right (by decide) hn;have h3:(2:Nat)^64<32^13:=by decide
 lia
def lcs:Nat->Nat->Nat
 | i,0=>i
 | i,k+1=>(lcs i k*5+1) % 32
theorem OD (h:Int):∀ k,(ps h (13+k)).1=lcs (ps h 13).1 k
 | 0=>rfl
 | k+1=>by
  show ((ps h (13+k)).1*5+1+(ps h (13+k)).2 / 32) % (31+1)=_;rw [afU h _ (by lia),OD h k];rfl
theorem afn:∀ i:Fin 32,∀ j:Fin 32,∃ k:Fin 32,lcs i k=j.val:=by decide +kernel
theorem W2 (h:Int){j:Nat}(hj:j<32):∃ n,n<45/\(ps h n).1=j:=by
 obtain ⟨k,e⟩:=afn ⟨(ps h 13).1,Xx h 13⟩ ⟨j,hj⟩;exact ⟨13+k.val,by lia,by rw [OD];exact e⟩
theorem Zm {i:Nat}(h:i<32):i<=U6 31 i/\U6 31 i<32:=by
 unfold U6;split <;> lia
theorem Ir (owner:Array (Option Nat))(h:Int):∀ (d n fuel:Nat),d<fuel->owner.getD (ps h (n+d)).1 (Dn 0)=FX->∃ j,j<32/\owner.getD j (Dn 0)=FX/\Uw 31 owner fuel (ps h n).1 (ps h n).2=Dn j
 | _,_,0,hf,_=>absurd hf (S5 _)
 | d,n,fuel+1,hf,e=>by
  unfold Uw;have hl:=Zm (Xx h n);cases q:(Lh (U6 31 (ps h n).1+1 - (ps h n).1)).find? fun k=>(owner.getD ((ps h n).1+k) (Dn 0)).isNone with
  | some k=>
   have h1:=List.find?_some q;have h2:=QX.mp (List.mem_of_find?_eq_some q);exact ⟨(ps h n).1+k,by lia,by simpa using h1,rfl⟩
  | none=>
   cases d with
   | zero=>
    rw [List.find?_eq_none] at q;refine absurd ?_<|q 0<|QX.mpr<|by lia
    rw [Nat.add_zero] at e |-
    rw [e];rfl
   | succ d=>
    dsimp only;exact Ir owner h d (n+1) fuel (by lia) (by rw [show n+1+d=n+(d+1) by lia];exact e)
theorem agr {owner:Array (Option Nat)}(h:Int){j:Nat}(hj:j<32)(e:owner.getD j (Dn 0)=FX):∃ j,j<32/\owner.getD j (Dn 0)=FX/\Uw 31 owner (SetTable.turns 31) (N5 h % (31+1)) (N5 h)=Dn j:=by
 obtain ⟨n,hn,en⟩:=W2 h hj;have:=Ir owner h n 0 46 (by lia) (by rw [T7,en];exact e)
 exact this
def liv (o:Array (Option Nat)):List (Nat×Nat):=(Lh 32).filterMap fun j=>(o.getD j FX).map (j,·)
theorem QC {f g:Nat->Option (Nat×Nat)}{j:Nat}(hf:f j=FX)(hg:(g j).isSome=true)(he:∀ i,i≠j->g i=f i):∀ l:List Nat,l.Nodup->(l.filterMap g).length=(l.filterMap f).length+(if j∈l then 1 else 0)
 | [],_=>by simp
 | a::l,hn=>by
  rw [N7] at hn;have ih:=QC hf hg he l hn.2;by_cases z:a=j
  ·subst z;rw [if_neg hn.1] at ih;rw [if_pos (MJ ..)];obtain ⟨y,ey⟩:=Option.isSome_iff_exists.mp hg;rw [Uv ey,List.filterMap_cons_none hf,Lk,ih]
  ·have e1:(if j∈a::l then 1 else 0)=(if j∈l then 1 else 0):=by
    simp only [Fe,show ¬ j=a from fun q=>z q.symm,false_or]
   rw [e1];cases q:f a with
   | none=>rw [List.filterMap_cons_none (by rw [he a z,q]),List.filterMap_cons_none q];exact ih
   | some y=>rw [Uv (by rw [he a z,q]),Uv q,Lk,Lk,ih];lia
theorem Pn {f:Nat->Option (Nat×Nat)}{g:Nat->Nat×Nat}:∀ l:List Nat,(∀ j∈l,f j=Dn (g j))->l.filterMap f=l.map g
 | [],_=>rfl
 | a::l,h=>by rw [Uv (h a (MJ ..)),Lj,Pn l fun j hj=>h j (MK _ hj)]
structure Lay (o:Array (Option Nat)) (k:Nat):Prop where
 sz:o.size=32
 len:(liv o).length=k
 low:∀ p,p∈liv o->p.2<k
theorem Lay.room {o:Array (Option Nat)}{k:Nat}(L:Lay o k)(hk:k<32):∃ j,j<32/\o.getD j (Dn 0)=FX:=by
 apply Nm;intro hn;have all:∀ j,j<32->∃ v,o.getD j FX=Dn v:=fun j hj=>by
  cases q:o.getD j FX with
  | some v=>exact ⟨v,rfl⟩
  | none=>
   refine absurd ⟨j,hj,?_⟩ hn;have hs:j<o.size:=by rw [L.sz];exact hj
   simp only [Array.getD,hs,dite_true] at q |-
   exact q
 have e:liv o=(Lh 32).map fun j=>(j,(o.getD j FX).getD 0):=by
  unfold liv;refine Pn _ fun j hj=>?_;obtain ⟨v,ev⟩:=all j (QX.mp hj);rw [ev];rfl
 have:=L.len
 rw [e,GJ,List.length_range] at this;lia
theorem Lay.put {o:Array (Option Nat)}{k j:Nat}(L:Lay o k)(hj:j<32)(e:o.getD j (Dn 0)=FX):Lay (o.setIfInBounds j (Dn k)) (k+1):=by
 have hs:j<o.size:=by rw [L.sz];exact hj
 have e0:o.getD j FX=FX:=by
  simp only [Array.getD,hs,dite_true] at e |-
  exact e
 have e1:(o.setIfInBounds j (Dn k)).getD j FX=Dn k:=by
  simp [Array.getD,hs]
 have e2:∀ i,i≠j->(o.setIfInBounds j (Dn k)).getD i FX=o.getD i FX:=fun i hi=>by
  rw [Array.getD_eq_getD_getElem?,Array.getD_eq_getD_getElem?,Array.getElem?_setIfInBounds_ne (Jj hi)]
 refine ⟨by rw [Array.size_setIfInBounds];exact L.sz,?_,?_⟩
 ·have:=QC (f:=fun i=>(o.getD i FX).map (i,·)) (g:=fun i=>((o.setIfInBounds j (Dn k)).getD i FX).map (i,·)) (j:=j) (by rw [e0];rfl) (by rw [e1];rfl) (fun i hi=>by rw [e2 i hi]) (Lh 32) List.nodup_range
  rw [if_pos (QX.mpr hj)] at this;have l:=L.len;unfold liv at l |-
  lia
 ·intro p hp;obtain ⟨i,hi,ep⟩:=List.mem_filterMap.mp hp;by_cases z:i=j
  ·rw [z,e1] at ep;cases ep;exact Ul _
  ·rw [e2 i z] at ep;have:=L.low p (List.mem_filterMap.mpr ⟨i,hi,ep⟩)
   lia
theorem Dj:∀ (hs:List Int) (o:Array (Option Nat)) (k:Nat),Lay o k->k+hs.length<32->∃ o',Lay o' (k+hs.length)/\hs.foldl (fun (acc:Option (Array (Option Nat)×Nat)) h=>do
  let (owner,k) <-acc
  let j <-Uw 31 owner (SetTable.turns 31) (N5 h % (31+1)) (N5 h)
  pure (owner.setIfInBounds j (Dn k),k+1)) (Dn (o,k))=Dn (o',k+hs.length)
 | [],o,k,L,_=>⟨o,L,rfl⟩
 | h::hs,o,k,L,hl=>by
  rw [Lk] at hl;obtain ⟨j0,hj0,e0⟩:=L.room (by lia);obtain ⟨j,hj,e,ef⟩:=agr h hj0 e0;obtain ⟨o',L',e'⟩:=Dj hs _ _ (L.put hj e) (by lia);refine ⟨o',by rw [Lk,show k+(hs.length+1)=k+1+hs.length by lia];exact L',?_⟩;rw [S6,Lk,show k+(hs.length+1)=k+1+hs.length by lia,<-e'];congr 1
  show ((Uw 31 o (SetTable.turns 31) (N5 h % (31+1)) (N5 h)).bind fun j=>Dn (o.setIfInBounds j (Dn k),k+1))=_;rw [ef];rfl
theorem lay0:Lay (Array.replicate 32 FX) 0:=⟨by simp,by decide +kernel,fun p hp=>by
 have:liv (Array.replicate 32 FX)=[]:=by decide +kernel
 rw [this] at hp;cases hp⟩
theorem Vi (f mv:Nat)(led pl:Bool)(hs:Array Int)(h:hs.size<32):∃ t idx,SetTable.laid 31 f mv led pl hs=Dn (t,idx)/\t.place.size=hs.size/\t.dummies = #[]/\t.mask=31/\idx.size=hs.size/\∀ i,i∈idx->i<hs.size:=by
 obtain ⟨o,L,e⟩:=Dj hs.toList (Array.replicate (31+1) FX) 0 lay0 (by simpa using h);have ec:agh 31 hs=Dn o:=by
  unfold agh;rw [<-Array.foldl_toList,e];rfl
 have hlen:(0+hs.toList.length)=hs.size:=by simp
 rw [hlen] at L;refine ⟨_,_,by unfold SetTable.laid;rw [ec];rfl,?_,rfl,rfl,?_,?_⟩
 ·show (((Lh (31+1)).filterMap fun j=>(o.getD j FX).map (j,·)).map (·.1)).toArray.size=_;rw [Gz,GJ];exact L.len
 ·show (((Lh (31+1)).filterMap fun j=>(o.getD j FX).map (j,·)).map (·.2)).toArray.size=_;rw [Gz,GJ];exact L.len
 ·intro i hi;have hi:i∈((liv o).map (·.2)).toArray:=hi;rw [List.mem_toArray] at hi;obtain ⟨p,hp,rfl⟩:=MF.mp hi;exact L.low p hp
def Fl (h:Heap)(a:Addr)(n:Nat):Prop:=∃ es ep t,h.get? a=Dn (K7 es ep t)/\t.fits es.size=true/\es.size=n
theorem afW {α : Type}(es:Array α)(idx:Array Nat)(h:∀ i,i∈idx->i<es.size):(idx.filterMap (es[·]?)).size=idx.size:=by
 have:(idx.filterMap (es[·]?)).toList.length=idx.toList.length:=by
  rw [Array.toList_filterMap];have:∀ l:List Nat,(∀ i∈l,i<es.size)->(l.filterMap (es[·]?)).length=l.length:=by
   intro l;induction l with
   | nil=>intro _;rfl
   | cons a l ih=>
    intro hl;have ha:=hl a (MJ ..);rw [Uv (Array.getElem?_eq_getElem ha),Lk,Lk,ih fun i hi=>hl i (MK _ hi)]
  exact this _ fun i hi=>h i<|by simpa using hi
 rw [V0,V0] at this;exact this
section
variable {prog:Fb}{w:FZ}{A:Fd}{E:Go->AP->Prop}{s:AP}{a:Addr}
theorem zaj {es:Array (Int×Go)}{ep:Nat}{t:Nu}{Q:Unit->AP->Prop}(ho:s.heap.get? a=Dn (K7 es ep t))(hf:t.fits es.size=true)(h5:es.size<32)
  (h:∀ h',NT a s.heap h'->Fl h' a es.size->Q () { s with heap:=h' }):CR (FJ prog w) A (setRelay a 20) Q E s:=by
 rw [afi];refine Af<|TJ ho rfl hf ?_
 dsimp only;have e32:SetTable.sizeAbove 20=32:=by decide +kernel
 rw [e32,if_neg (by rw [Tz];decide)];obtain ⟨t',idx,el,h1,h2,h3,h4,h6⟩:=Vi t.finger (t.movedTo 31) t.led t.plain (es.map (·.1)) (by simpa using h5);have er:t.relaid (es.map (·.1)) 20=Dn (t',idx):=by
  unfold SetTable.relaid;rw [e32];exact el
 rw [er];have hs:(idx.filterMap (es[·]?)).size=es.size:=by
  rw [afW es idx (fun i hi=>by have:=h6 i hi;simpa using this),h4];simp
 have ereo:reo es (Dn (t',idx))=pure (idx.filterMap (es[·]?),t'):=by
  unfold reo;dsimp only;rw [hs];simp
 rw [ereo];refine Af<|FP ?_
 dsimp only;refine wpAny_storeSet_of ho rfl (h _ (SJ ..) ?_) (by rw [hs,Tz];lia);refine ⟨idx.filterMap (es[·]?),ep+1,t',?_,?_,hs⟩
 ·have:=Sy (Obj.putSet (idx.filterMap (es[·]?)) t') ho (by rw [putSet_of _ _ rfl];rfl)
  rw [putSet_of _ _ rfl] at this;exact this
 ·unfold SetTable.fits SetTable.fill;rw [h1,h2,h3,hs];simp;lia
end
section
variable {prog:Fb}{w:FZ}{A:Fd}{E:Go->AP->Prop}{s:AP}{m:Nat}{ka:Nat->List Int}{ad:Nat->Addr}{t:Nu}{a b:Addr}{k:List Int}
theorem aea {Q:Bool->AP->Prop}(hu:A.units<Jd)(S:tX prog w s.heap a m ka ad)(hk:TK prog w s.heap k b)(h3:(G4 m).length=4)
  (yes:(∃ j,j∈G4 m/\ka j=k)->∀ tk,Q false { s with toks:=tk })
  (no:(∀ j,j∈G4 m->ka j≠k)->∀ h' tk,NT a s.heap h'->Fl h' a 5->Q true { s with heap:=h',toks:=tk }) :
  CR (FJ prog w) A (setAdd a (.ref b)) Q E s:=by
 obtain ⟨ep,t,ho,T⟩:=S;unfold setAdd;refine MH<|Af<|wpAny_pyHash_tuple hu hk ?_
 unfold setAddHashed;refine MH ?_;generalize hs1:({ s with toks:=s.toks+(k.length+1) }:AP)=s1;have eh:s1.heap=s.heap:=by rw [<-hs1]
 have ho1:s1.heap.get? a=Dn (K7 (elL prog w m ka ad).toArray ep t):=by rw [eh];exact ho
 have T1:Qa prog w s1.heap m ka ad t:=by rw [eh];exact T
 have hk1:TK prog w s1.heap k b:=by rw [eh];exact hk
 unfold setAddHashedIn;refine Af<|TJ ho1 rfl T1.fits ?_
 dsimp only;have hby:byScan (.ref b) (elL prog w m ka ad).toArray=false:=rfl;rw [hby];simp only [Mp,if_false];obtain ⟨j0,hj0⟩:=DY ⟨m,T.m8⟩ (by show (G4 m).length<8;lia);obtain ⟨N,hN,hN0,hN1⟩:=road (m:=m) (M8 (La prog w) k) ⟨j0.val,j0.isLt,hj0⟩;unfold setSearch;refine Af<|jE (h:=M8 (La prog w) k) rfl hu ho1 rfl T1 hk1 hN0 hN1 (fun y=>?_) (fun n=>?_) 100000 0 FX (by rw [Option.getD_none];exact Eb T.mask _) (by lia) (by lia) (by lia) fun i hi=>absurd hi<|S5 _
 ·dsimp only;rw [<-hs1];exact FP<|yes y _
 ·dsimp only;have hnew:∀ j,j∈G4 m->ka j≠k:=fun j hj z=>by
   obtain ⟨i,e,l⟩:=T.way j hj;have eh:hT prog w (ka j)=M8 (La prog w) k:=by rw [z];rfl
   rw [eh] at e l;rcases Nat.lt_trichotomy i N with q | q | q
   ·exact n i q (by rw [e];exact z)
   ·rw [q] at e;rw [e,(gH.mp hj).2] at hN0;cases hN0
   ·rw [l N q] at hN0;cases hN0
  refine Af<|TJ ho1 rfl T1.fits ?_
  have hj8:=vI (M8 (La prog w) k) N;generalize hjj:(pq (M8 (La prog w) k) N).fst=j at hN0 hj8 |-
  have hput:t.put j=({ t with place:=(G4 (m ||| 2^j)).toArray },rk m j):=by
   unfold SetTable.put;have e1:=(qm ⟨m,T.m8⟩ ⟨j,hj8⟩).1;have e2:=(vN ⟨m,T.m8⟩ ⟨j,hj8⟩ hN0).1;dsimp only at e1 e2;have e3:Ra (G4 m).toArray (rk m j) j=(G4 (m ||| 2^j)).toArray:=by
    apply Array.ext';rw [SetTable.toList_insertAt,e2]
   rw [T.place,T.dum,e1];dsimp only;rw [e3,if_neg (by simp [SetTable.has])]
  have e:=vH ⟨m,T.m8⟩ ⟨j,hj8⟩ hN0;dsimp only at e;have hfull:({ t with place:=(G4 (m ||| 2^j)).toArray }:Nu).tooFull=true:=by
   unfold SetTable.tooFull SetTable.fill;rw [T.mask,T.dum];simp only [Gz,e,h3];decide
  rw [hput];dsimp only;have es5:(elL prog w m ka ad).toArray.size+1=5:=by
   unfold elL;rw [Gz,GJ,h3]
  have e5:(Ra (elL prog w m ka ad).toArray (rk m j) (M8 (La prog w) k,Value.ref b)).size=5:=by
   have ee:=Oz (prog:=prog) (w:=w) (ka:=ka) (ad:=ad) (k:=k) (b:=b) T.m8 hj8 hN0;unfold hT at ee;rw [ee];unfold elL;rw [Gz,GJ,e,h3]
  have hg:SetTable.grown 5=20:=by decide
  have key:∀ {R:Unit->AP->Prop},(∀ h',NT a s.heap h'->h'.get? a=Dn (K7 (Ra (elL prog w m ka ad).toArray (rk m j) (M8 (La prog w) k,Value.ref b)) (ep+1) { t with place:=(G4 (m ||| 2^j)).toArray })->R () { s1 with heap:=h' })->CR (FJ prog w) A (storeSet a (Ra (elL prog w m ka ad).toArray (rk m j) (M8 (La prog w) k,Value.ref b)) { t with place:=(G4 (m ||| 2^j)).toArray }) R E s1:=by
   intro R hR;refine wpAny_storeSet_of ho1 rfl (hR _ (by rw [eh];exact SJ ..) ?_) (by rw [e5,Tz];decide);have:=Sy (Obj.putSet (Ra (elL prog w m ka ad).toArray (rk m j) (M8 (La prog w) k,Value.ref b)) { t with place:=(G4 (m ||| 2^j)).toArray }) ho1 (by rw [putSet_of _ _ rfl];rfl)
   rw [putSet_of _ _ rfl] at this;exact this
  have fits5:({ t with place:=(G4 (m ||| 2^j)).toArray }:Nu).fits (Ra (elL prog w m ka ad).toArray (rk m j) (M8 (La prog w) k,Value.ref b)).size=true:=by
   rw [e5];unfold SetTable.fits SetTable.fill;rw [T.mask,T.dum];simp only [Gz,e,h3];decide
  have fin:∀ h1,NT a s.heap h1->h1.get? a=Dn (K7 (Ra (elL prog w m ka ad).toArray (rk m j) (M8 (La prog w) k,Value.ref b)) (ep+1) { t with place:=(G4 (m ||| 2^j)).toArray })->CR (FJ prog w) A (setRelay a 20) (fun _ s'=>Q true s') E { s1 with heap:=h1 }:=fun h1 hsb hS=>by
   refine zaj (s:={ s1 with heap:=h1 }) hS fits5 (by rw [e5];decide) fun h' hsb' hn=>?_;rw [e5] at hn;rw [<-hs1];exact no hnew h' _ (hsb.trans hsb') hn
  split
  ·refine Af<|yC hk1 ?_
   rw [if_pos rfl,hfull];refine Af<|key fun h' hsb hS=>?_
   rw [es5,hg];refine Af<|Ml (fin h' hsb hS) (fun _ s' z=>FP z) fun _ _ z=>z
  ·refine Af<|FP ?_
   rw [if_pos rfl,hfull];refine Af<|key fun h' hsb hS=>?_
   rw [es5,hg];refine Af<|Ml (fin h' hsb hS) (fun _ s' z=>FP z) fun _ _ z=>z
end
section
variable {prog:Fb}{w:FZ}{A:Fd}{E:Go->AP->Prop}{R:Result->AP->Prop}
theorem Fl.of {z:Nat}{h:Heap}{S:Addr}{seen:List (List Int)}{m:Nat}{ka:Nat->List Int}{ad:Nat->Addr}(B:Gf prog w z h S seen m ka ad):Fl h S seen.length:=by
 obtain ⟨⟨ep,t,ho,T⟩,_,_,len⟩:=B;exact ⟨_,ep,t,ho,T.fits,by unfold elL;rw [Gz,GJ,len]⟩
theorem wN {l I S:Addr}{items:Array Go}{i n:Nat}{s:AP}(hh:A.in1.handled=FX)(hne:l≠I)(hIS:I≠S)(ei:i=items.size)(st:s.heap.IsListIter I l i/\s.heap.IsList l items)(B:Fl s.heap S n)
  (hR:∀ h' tk,Fl h' S n->(∀ b o,b≠S->b≠I->s.heap.get? b=Dn o->h'.get? b=Dn o)->R (.ok (.ret .none)) { s with heap:=h',toks:=tk }) :
  QM (FJ prog w) A (.builtin "set.update.loop" ⟨[.ref S,.ref I],[]⟩) R s:=by
 have W:=(Walks.list (prog:=prog) (w:=w) hh I l hne items).toS;subst ei;refine codeAny_builtin F.entry_set_update_loop ?_;rw [Around.under_plainId Ua _];show CR _ A.in1 (Mw (.ref I) >>= _) _ _ s;refine Af<|W.done s _ _ st fun s' hm=>?_
 obtain ⟨h',g',d',tk',os'⟩:=s';obtain ⟨eh,eg,ed,eo,_⟩:=hm;simp only at eg ed eo;subst eg;subst ed;subst eo;have hk:∀ b o,b≠I->s.heap.get? b=Dn o->h'.get? b=Dn o:=fun b o hb e=>eh b o (by simpa using hb) e
 obtain ⟨es,ep,t,ho,q⟩:=B;exact FP<|hR h' tk' ⟨es,ep,t,hk S _ (Jj hIS) ho,q⟩ fun b o _ hb e=>hk b o hb e
theorem rK {l I S:Addr}{z:Nat}{items:Array Go}{kss:List (List Int)}(hh:A.in1.handled=FX)(hu:A.in1.units<Jd)(hne:l≠I)(hlS:l≠S)(hIS:I≠S)(hzS:z<=S)(hzI:z<=I)(h4:kss.length<=5)(hn:items.size=kss.length) :
  ∀ (rest:List (List Int)) (i:Nat) (s:AP) (seen:List (List Int)) (m:Nat) (ka:Nat->List Int) (ad:Nat->Addr),i+rest.length=kss.length->seen.length<=i ->
   (∀ j v,items[i+j]?=Dn v->∃ b k,v=.ref b/\rest[j]?=Dn k/\b<z/\TK prog w s.heap k b)->(s.heap.IsListIter I l i/\s.heap.IsList l items)->Gf prog w z s.heap S seen m ka ad ->
   (∀ h' tk,Fl h' S (rest.foldl Lf seen).length->(∀ b o,b≠S->b≠I->s.heap.get? b=Dn o->h'.get? b=Dn o)->R (.ok (.ret .none)) { s with heap:=h',toks:=tk }) ->
   QM (FJ prog w) A (.builtin "set.update.loop" ⟨[.ref S,.ref I],[]⟩) R s
 | [],i,s,seen,m,ka,ad,hi,_,_,st,B,hR=>by
  refine wN hh hne hIS (by rw [hn];simpa using hi) st (Fl.of B) fun h' tk hN kp=>hR h' tk hN kp
 | k0::rest,i,s,seen,m,ka,ad,hi,hsl,hit,st,B,hR=>by
  have W:=(Walks.list (prog:=prog) (w:=w) hh I l hne items).toS;rw [Lk] at hi;refine codeAny_builtin F.entry_set_update_loop ?_;rw [Around.under_plainId Ua _];show CR _ A.in1 (Mw (.ref I) >>= _) _ _ s;refine Af<|W.item i s _ _ (by lia) st fun v s' hv st' hm=>?_
  obtain ⟨b,k,rfl,ek,hb,hk⟩:=hit 0 v hv;simp only [List.getElem?_cons_zero,Option.some.injEq] at ek;subst ek;obtain ⟨h1,g',d',tk',os'⟩:=s';obtain ⟨eh,eg,ed,eo,_⟩:=hm;simp only at eg ed eo;subst eg;subst ed;subst eo;have hk1:∀ b o,b≠I->s.heap.get? b=Dn o->h1.get? b=Dn o:=fun b o hb e=>eh b o (by simpa using hb) e
  have up:∀ {k b},b<z->TK prog w s.heap k b->TK prog w h1 k b:=fun {k b} hb ⟨o,i,n,e,r⟩=>⟨o,i,n,hk1 b o (HI (JB hb hzI)) e,r⟩
  have B1:=B.keep (h':=h1) (fun o e=>hk1 S o (Jj hIS) e) fun b o hb e=>hk1 b o (HI (JB hb hzI)) e
  by_cases hlen:(G4 m).length<=3
  rotate_left
  ·have h4':(G4 m).length=4:=by rw [B.len] at hlen |-;lia
   have hr:rest=[]:=VD (by rw [B.len] at hlen;lia);subst hr;show CR _ A.in1 (RL [Value.ref b] (setAdd S (.ref b)) >>= _) _ _ _;refine Af<|MH<|aea (s:={ s with heap:=h1,toks:=tk' }) hu B1.set (up hb hk) h4' (fun y tk=>?_) fun n h2 tk hs hN=>?_
   ·refine FP ⟨plainId_quiet Ua _,?_⟩;have e:Lf seen k0=seen:=by unfold Lf;rw [if_pos ((B.mem k0).mpr y)]
    refine wN (i:=i+1) (s:={ s with heap:=h1,toks:=tk }) hh hne hIS (by rw [hn,<-hi];rfl) st' (Fl.of B1) fun h' tk' hN kp=>?_;refine hR h' tk' (by rw [S6,e];exact hN) fun b o q1 q2 e=>kp b o q1 q2<|hk1 b o q2 e
   ·refine FP ⟨plainId_quiet Ua _,?_⟩;have nm:¬ k0∈seen:=fun hm=>by
     obtain ⟨j,hj,e⟩:=(B.mem k0).mp hm;exact n j hj e
    have e:Lf seen k0=seen++[k0]:=by unfold Lf;rw [if_neg nm]
    have k2:∀ b o,b≠S->h1.get? b=Dn o->h2.get? b=Dn o:=fun b o hb e=>(hs.2 b hb).trans e
    have l5:(seen++[k0]).length=5:=by rw [Nt,<-B.len,h4'];rfl
    refine wN (i:=i+1) (s:={ s with heap:=h2,toks:=tk }) hh hne hIS (by rw [hn,<-hi];rfl) ?_ hN fun h' tk' hN' kp=>?_
    ·exact (W.frame _ { s with heap:=h1,toks:=tk' } h2 tk' st' (Ge _) fun b hb o e=>k2 b o (by
      simp only [Fe,Fx,or_false] at hb;rcases hb with rfl | rfl
      ·exact hIS
      ·exact hlS) e)
    ·refine hR h' tk' (by rw [S6,e];show Fl h' S (seen++[k0]).length;rw [l5];exact hN') fun b o q1 q2 e=>kp b o q1 q2<|k2 b o q1<|hk1 b o q2 e
  show CR _ A.in1 (RL [Value.ref b] (setAdd S (.ref b)) >>= _) _ _ _;refine Af<|MH<|zaq (s:={ s with heap:=h1,toks:=tk' }) hu B1.set (up hb hk) hlen (fun y tk=>?_) fun n h2 j tk hs hj8 hjb hS=>?_
  ·refine FP ⟨plainId_quiet Ua _,?_⟩;have e:Lf seen k0=seen:=by unfold Lf;rw [if_pos ((B.mem k0).mpr y)]
   refine rK hh hu hne hlS hIS hzS hzI h4 hn rest (i+1) { s with heap:=h1,toks:=tk } seen m ka ad (by lia) (by lia) (fun j v hv=>?_) st' B1 fun h' tk' B' kp=>?_
   ·obtain ⟨b',k',e1,e2,e3,e4⟩:=hit (j+1) v (by rw [<-hv];congr 1;lia);exact ⟨b',k',e1,by simpa using e2,e3,up e3 e4⟩
   ·refine hR h' tk' (by rw [S6,e];exact B') fun b o h1 h2 e=>kp b o h1 h2<|hk1 b o h2 e
  ·refine FP ⟨plainId_quiet Ua _,?_⟩;have nm:¬ k0∈seen:=fun hm=>by
    obtain ⟨j,hj,e⟩:=(B.mem k0).mp hm;exact n j hj e
   have e:Lf seen k0=seen++[k0]:=by unfold Lf;rw [if_neg nm]
   obtain ⟨ep,t,ho,T⟩:=id B1.set;have m8:=T.m8;have hor:∀ i,i<8->(m ||| 2^j).testBit i=(m.testBit i||decide (i=j)):=fun i hi=>Cq ⟨m,m8⟩ ⟨j,hj8⟩ ⟨i,hi⟩
   have hmem:∀ i,i∈G4 (m ||| 2^j)↔i∈G4 m\/i=j:=fun i=>by
    rw [gH,gH];constructor
    ·rintro ⟨h8,hb⟩;rw [hor i h8,Bool.or_eq_true,decide_eq_true_eq] at hb;exact hb.elim (fun q=>.inl ⟨h8,q⟩) .inr
    ·rintro (⟨h8,hb⟩ | rfl)
     ·exact ⟨h8,by rw [hor i h8,hb];rfl⟩
     ·exact ⟨hj8,by rw [hor i hj8,decide_eq_true rfl,Bool.or_true]⟩
   have nj:∀ i,i∈G4 m->i≠j:=fun i hi z=>by rw [z] at hi;rw [(gH.mp hi).2] at hjb;cases hjb
   have B2:Gf prog w z h2 S (seen++[k0]) (m ||| 2^j) (fun i=>if i=j then k0 else ka i) (fun i=>if i=j then b else ad i):=by
    refine ⟨hS,fun i hi=>?_,fun k=>?_,?_⟩
    ·rcases (hmem i).mp hi with q | q
     ·simp only [if_neg (nj i q)];exact B.low i q
     ·simp only [if_pos q];exact hb
    ·rw [S8,Nb,B.mem k];constructor
     ·rintro (⟨i,hi,e⟩ | rfl)
      ·exact ⟨i,(hmem i).mpr (.inl hi),by simp only [if_neg<|nj i hi];exact e⟩
      ·exact ⟨j,(hmem j).mpr (.inr rfl),by simp⟩
     ·rintro ⟨i,hi,e⟩;rcases (hmem i).mp hi with q | q
      ·simp only [if_neg (nj i q)] at e;exact .inl ⟨i,q,e⟩
      ·simp only [if_pos q] at e;exact .inr e.symm
    ·have:=vH ⟨m,m8⟩ ⟨j,hj8⟩ hjb
     dsimp only at this;rw [this,B.len,Nt];rfl
   have k2:∀ b o,b≠S->h1.get? b=Dn o->h2.get? b=Dn o:=fun b o hb e=>(hs.2 b hb).trans e
   refine rK hh hu hne hlS hIS hzS hzI h4 hn rest (i+1) { s with heap:=h2,toks:=tk } (seen++[k0]) _ _ _ (by lia) (by rw [Nt,List.length_singleton];lia) (fun j v hv=>?_) ?_ B2 fun h' tk' B' kp=>?_
   ·obtain ⟨b',k',e1,e2,e3,e4⟩:=hit (j+1) v (by rw [<-hv];congr 1;lia);obtain ⟨o,i,n,e,r⟩:=up e3 e4;exact ⟨b',k',e1,by simpa using e2,e3,o,i,n,k2 b' o (HI<|JB e3 hzS) e,r⟩
   ·exact (W.frame _ { s with heap:=h1,toks:=tk' } h2 tk' st' (Ge _) fun b hb o e=>k2 b o (by
     simp only [Fe,Fx,or_false] at hb;rcases hb with rfl | rfl
     ·exact hIS
     ·exact hlS) e)
   ·refine hR h' tk' (by rw [S6,e];exact B') fun b o q1 q2 e=>kp b o q1 q2<|k2 b o q1<|hk1 b o q2 e
end
section
variable {prog:Fb}{w:FZ}{A:Fd}{E:Go->AP->Prop}{s:AP}
theorem afg {l S:Addr}{z:Nat}{items:Array Go}{kss:List (List Int)}{led:Bool}{Q:Go->AP->Prop}(hh:A.handled=FX)(hu:A.units+5<Jd)(h4:kss.length<=5)(hn:items.size=kss.length)(hz:z<=S)(hS:s.heap.get? S=Dn (Pb led))(hl:s.heap.IsList l items)(hlz:l<z)
  (hit:∀ (j:Nat) (v:Go),items[j]?=Dn v->∃ b k,v=.ref b/\kss[j]?=Dn k/\b<z/\TK prog w s.heap k b)
  (h:∀ (h':Heap) (tk:Nat),Fl h' S (Nq kss).length->(∀ b o,b≠S->s.heap.get? b=Dn o->h'.get? b=Dn o)->Q Value.none { s with heap:=h',toks:=tk }) :
  QM (FJ prog w) A (.call (.builtin "set.__init__") ⟨[.ref S,.ref l],[]⟩) (wants Q E) s:=by
 have ht:s.TypeIs (.ref S) "set":=⟨_,hS,rfl⟩
 refine codeAny_call_builtin Sg.init.plain F.entry_set_init<|check_set_init_1 ht ?_
 obtain ⟨ol,hol,hcl,nl,hdl⟩:=id hl;obtain ⟨ocls,odict,odata,oslots⟩:=ol;simp only at hcl hdl;subst hcl;subst hdl;have q1:=F.sub_list_set;have q2:=F.sub_list_frozenset;have q3:(Value.type "list"==Value.type "dict")=false:=by decide
 unfold R6.«set.__init__» noKeywords Builtin.Frozenset.updateFrom;generalize hPI:pyIter=PI
 wp_walk
 subst hPI;refine TF hl ?_;refine Af<|wpAny_runValue ?_
 have hlt:l≠s.heap.objs.size:=HI (Ga hol);have hSI:s.heap.objs.size≠S:=Jj (HI (Ga hS));have hS':=Gj { cls:=.type "list_iterator",data:=.fields #[.ref l,.int 0 0] } hS;have hkeep:∀ b o,s.heap.get? b=Dn o->(s.heap.push { cls:=.type "list_iterator",data:=.fields #[.ref l,.int 0 0] }).get? b=Dn o:=fun b o e=>Gj _ e
 have hSz:=Ga hS;refine rK (l:=l) (I:=s.heap.objs.size) (z:=z) (kss:=kss) (by simp [hh]) (by simp;lia) hlt (fun e=>?_) hSI hz (Hj hz<|Tq hSz) h4 hn kss 0 _ [] 0 _ _ (by simp) (by simp) (fun j v hv=>?_) ⟨⟨_,Jp _ rfl,rfl,rfl⟩,hl.push _⟩ ⟨afy hS',fun j hj=>absurd hj<|by simp [G4],fun k=>by simp [G4],by simp [G4]⟩ fun h' tk B kp=>?_
 ·rw [e] at hlz;exact absurd (JB hlz hz) (Mj _)
 ·obtain ⟨b,k,e1,e2,e3,o,i,n,e4,r⟩:=hit j v (by rw [<-hv];congr 1;lia);exact ⟨b,k,e1,e2,e3,o,i,n,hkeep b o e4,r⟩
 ·refine FP<|FP ?_
  exact h h' tk B fun b o hb e=>kp b o hb (HI<|Ga e)<|hkeep b o e
theorem zap {l:Addr}{items:Array Go}{kss:List (List Int)}{Q:Go->AP->Prop}(hh:A.handled=FX)(hu:A.units+10<Jd)(h4:kss.length<=5)(hn:items.size=kss.length)(hl:s.heap.IsList l items)
  (hit:∀ (j:Nat) (v:Go),items[j]?=Dn v->∃ b k,v=.ref b/\kss[j]?=Dn k/\TK prog w s.heap k b)
  (h:∀ (h':Heap) (tk:Nat),Fl h' s.heap.objs.size (Nq kss).length->(∀ b o,s.heap.get? b=Dn o->h'.get? b=Dn o)->Q (.ref s.heap.objs.size) { s with heap:=h',toks:=tk }) :
  CR (FJ prog w) A (call (.type "set") [.ref l]) Q E s:=by
 obtain ⟨c,tl,hmro⟩:=Sg.mro;have hmade:=Sg.made;have hsub:=Sg.sub;have g1:=Sg.notType;have g2:=Sg.canCreate;have g3:=F.typeCall_set_1 (.ref l);refine wpAny_call<|codeAny_of_tree ?_
 show CR _ _ (callAny (.type "set") _) _ _ _;refine FP ⟨Code.quiet_builtin _<|by decide +kernel,codeAny_builtin F.entry_type_call ?_⟩;rw [Around.under_plain (weight_type_call_type "set" [.ref l] []) rfl];repeat (any_goals (first | assumption | wp_step))
 refine codeAny_mono (code_set_new_1 (.ref l) (E:=E) (Q₁:=fun u s1=>∃ led:Bool,u=.ref s.heap.objs.size/\s1 = { s with heap:=s.heap.push (Pb led) }) fun led=>⟨led,rfl,rfl⟩) fun r s1 hr=>?_;cases r with
 | error e=>exact hr
 | ok fl=>
  cases fl with
  | ret u=>
   obtain ⟨led,rfl,rfl⟩:=hr;have hS:(s.heap.push (Pb led)).get? s.heap.objs.size=Dn (Pb led):=Jp _ rfl;have ht:Shared.TypeIs { s with heap:=s.heap.push (Pb led) } (.ref s.heap.objs.size) "set":=⟨_,hS,rfl⟩
   have b1:=Sg.init.lookup;have b2:=Sg.init.bind (.ref s.heap.objs.size);repeat (any_goals (first | assumption | wp_step))
   have hk:∀ b o,s.heap.get? b=Dn o->(s.heap.push (Pb led)).get? b=Dn o:=fun b o e=>Gj _ e
   obtain ⟨ol,hol,r1⟩:=id hl;refine codeAny_mono (afg (E:=E) (s:={ s with heap:=s.heap.push (Pb led) }) (z:=s.heap.objs.size) (kss:=kss) (Q:=fun r s2=>r=.none/\∃ h' tk,s2 = { s with heap:=h',toks:=tk }/\Fl h' s.heap.objs.size (Nq kss).length/\∀ b o,s.heap.get? b=Dn o->h'.get? b=Dn o) (by simp [hh]) (by simp;lia) h4 hn (Ge _) hS ⟨ol,hk l ol hol,r1⟩ (Ga hol) (fun j v hv=>?_) fun h' tk B kp=>⟨rfl,h',tk,rfl,B,fun b o e=>kp b o (HI<|Ga e)<|hk b o e⟩) fun r2 s2 hr2=>?_
   ·obtain ⟨b,k,e1,e2,o,i,n,e3,r⟩:=hit j v hv;exact ⟨b,k,e1,e2,Ga e3,o,i,n,hk b o e3,r⟩
   ·cases r2 with
    | error e=>exact hr2
    | ok f2=>
     cases f2 with
     | ret r=>
      obtain ⟨rfl,h',tk,rfl,B,kp⟩:=hr2;repeat (any_goals (first | assumption | wp_step))
      exact h h' tk B kp
     | _=>exact hr2.elim
  | _=>exact hr.elim
end
section
variable {X:Cx}{K:Ai}
theorem aex (hc:X.calm=true)(hu:X.A.units+30<Jd):gj X (.type "set") (fun xs H Q=>∃ p ys kss,xs=[.ref p]/\Hg X.K H p ys/\VP X.K H ys kss/\kss.length<=5/\∀ l,H l=FX->Q (.ref l) (Fy H l (aaQ l (Nq kss).length))):=by
 intro pins s σ H xs us Q I r h;obtain ⟨p,ys,kss,rfl,hq,ht,h4,q⟩:=h;obtain ⟨u,rfl,rx⟩:=vals1 r;cases rx;obtain ⟨its,r',pl,hz⟩:=I.list hq;have e1:ys.length=its.length:=r'.length;have e2:ys.length=kss.length:=Paired.length ht;refine zap (kss:=kss) (I.ok.hd hc) (by lia) h4 (by rw [Gz];lia) pl.isList (fun j v hv=>?_) fun h' tk B kp=>?_
 ·rw [List.getElem?_toArray] at hv;obtain ⟨x,ex,rx⟩:=aez r' hv;obtain ⟨k,ek,b,rfl,hb⟩:=yF ht ex;cases rx;obtain ⟨its2,r2,⟨o,ho,hcl,n,hd⟩,_⟩:=I.tuple hb;exact ⟨b,k,rfl,ek,o,_,_,ho,hcl,hd,Eu r2⟩
 ·obtain ⟨es,ep,t,ho,hf,hn⟩:=B;exact ⟨.ref s.heap.objs.size,_,I.laid (t':=tk) kp (Ge _)<|show lN X.prog X.w _ h' _ (aaQ s.heap.objs.size (Nq kss).length) from ⟨⟨es,ep,t,ho,hf,hn⟩,⟨_,ho⟩,fun h1 h2 ⟨es,ep,t,a,b,c⟩ k=>⟨es,ep,t,k _ a,b,c⟩⟩,rfl,q _<|I.hok.fresh<|Ge _⟩
def mF:MC:=fun ws h Q=>match ws with
 | [w]=>(match cG h w with
  | some us=>(match yO us with
   | some kss=>kss.length<=5/\Q (.int (Nq kss).length) h
   | none=>False)
  | none=>False)
 | _=>False
theorem zaU {e:Expr}{ma:ME}{p1 p2 q1 q2:Pos}(hc:X.calm=true)(hu:X.A.units+30<Jd)(hgl:Gl X "len")(hml:X.mg "len" = FX)(hgs:Gl X "set")(hms:X.mg "set" = FX)(ha:DE X e ma)
  (s1:Fv [e] X.env=(false,eval e X.env)::Fv [] X.env) (s2:Fv [Expr.Call (.Name "set" p2) [e] [] q2] X.env=(false,eval (Expr.Call (.Name "set" p2) [e] [] q2) X.env)::Fv [] X.env) :
  DE X (.Call (.Name "len" p1) [.Call (.Name "set" p2) [e] [] q2] [] q1) (HN mF (aj ma aH)):=
 (BZ afd hgl hml Uh (BJ (zp (aex hc hu) hgs hms (by rfl) (BJ ha Jx s1) (by decide) (by decide) s1) Jx s2) (by decide) (by decide) s2).of fun σ H Q ⟨μ,g,σw,Qw,R,S,m,q⟩=>by
  refine ⟨μ,g,σw,_,R,S,m,fun v H1 ⟨μ1,w,h1,e1,R1,r1,m1⟩=>?_⟩;have m1:mF [w] h1 Qw:=m1;unfold mF at m1;dsimp only at m1;split at m1
  ·rename_i us ev;split at m1
   ·rename_i kss ek;obtain ⟨p,ys,ex,hs,rs⟩:=cA R1 r1 ev;subst ex;refine ⟨p,ys,kss,rfl,hs,Cr rs ek,m1.1,fun l hl=>?_⟩;have hle:=jO kss [];refine ⟨l,(Nq kss).length,rfl,bQ,?_,q _ _ ⟨μ1,.int (Nq kss).length,h1,e1.trans (Ex.laid hl).ext,R1.laid hl,by rw [Ab],m1.2⟩⟩;have:=m1.1
    unfold Nq;simp only [List.length_nil] at hle;lia
   ·exact m1.elim
  ·exact m1.elim
end
section
variable {X:Cx}{K:Ai}{o e:Expr}{mo:ME}{apos cpos:Pos}
end
section
variable {prog:Fb}{w:FZ}{A:Fd}{s:AP}{K:Ai}{x C:Addr}{R:Result->AP->Prop}
end
section
variable {prog:Fb}{w:FZ}{A:Fd}{E:Go->AP->Prop}{s:AP}{K:Ai}{x dx C f:Addr}{mA:Str->Option Go}{name:Str}{v:Go}
end
section
variable {prog:Fb}{w:FZ}{A:Fd}{E:Go->AP->Prop}{s:AP}{K:Ai}{x D:Addr}{ox:Obj}
end
section
variable {prog:Fb}{w:FZ}{A:Fd}{E:Go->AP->Prop}{h:Heap}{g:Array GenState}{d:Drawn}{t:Nat}{os:OsState}
variable {nm q:Str}{C N:Addr}{bs bm bmB:List Go}{hdct:Bool}{sn:List Str}{sub:List Go}{ab:Bool}{col:Option Bool}{dd:Option Addr}{k0 k1 k2 k3 k5:Option Go}{B newId initId:String}{K:Ai}{f:Addr}
end
section
variable {prog:Fb}{w:FZ}{M:Model}{A:Fd}{E:Go->AP->Prop}{s:AP}{env:Env}{K:Ai}{f:Addr}
variable {nm q:Str}{C N:Addr}{bs bm bmB:List Go}{hdct:Bool}{sn:List Str}{sub:List Go}{ab:Bool}{col:Option Bool}{dd:Option Addr}{k0 k1 k2 k3 k5:Option Go}{B newId initId:String}
end
section
variable {X:Cx}{o value:Expr}{f:Str}{C:Addr}{pos pos':Pos}{ta tv:TE}
end
section
variable {X:Cx}{pins:List (Addr×Obj)}{σ : St}{H:Hp}{s:AP}{e:Addr}
end
section
variable {X:Cx}{pins:List (Addr×Obj)}{σ : St}{H:Hp}{s:AP}{C fi:Addr}{x f:Str}{np cpos pos:Pos}{e:Expr}{t:TA}{k:Nat}{fd:Le}{ps:List Str}
end
section
variable {X:Cx}{Γ : St->Prop}{e:Expr}{pos:Pos}{ma:ME}
end
section
variable {X:Cx}{e:Expr}{f:Str}{pos:Pos}{ma:ME}
end
section
variable {X:Cx}
end
section
variable {X:Cx}{Γ : St->Prop}{tg:Expr}
end
section
variable {X:Cx}{K:Ai}
end
section
variable {X:Cx}{mr:MA}{pos p:Pos}{e:Expr}{es:List Expr}{k:Nat}{fs:List (Addr×kI)}
inductive VFs (X:Cx) (k:Nat):List (Addr×kI)->Prop
 | nil:VFs X k []
 | cons {f:Addr} {fd:Le} {ps:List Str} {ms:kI} {fs:List (Addr×kI)} (F:qO X.prog X.w X.K X.mg X.base Ma k f fd ps (lift X.K ms)) (hk:Q6 X.K (.ref f)=true) (hb:Binds X.K fd ps []) (r:VFs X k fs):VFs X k ((f,ms)::fs)
end
def Cmp (P:Fb)(w:FZ)(A:Fd)(s:AP)(kd:Rt)(rk:Go->Nat)(good:Go->Prop):Prop:=
 ∀ (E:Go->AP->Prop) (Q:Bool->AP->Prop) (x y:Go),good x->good y->Q (decide (rk x<rk y)) s->CR (FJ P w) A (keyLt' kd x y) Q E s
section
variable {P:Fb}{w:FZ}{A:Fd}{E:Go->AP->Prop}{s:AP}{kd:Rt}{rk:Go->Nat}{good:Go->Prop}
def Rk (rk:Go->Nat)(a:Array Kw)(i:Nat):Nat:=match a[i]? with
 | some p=>rk p.1
 | none=>0
def J1 (rk:Go->Nat)(a:Array Kw)(i j:Nat):Prop:=∀ p q,i<=p->p<q->q<j->Rk rk a p<Rk rk a q
structure Keys (rk:Go->Nat) (good:Go->Prop) (a:Array Kw):Prop where
 good:∀ p∈a.toList,good p.1
 nd:(a.toList.map fun p=>rk p.1).Nodup
structure SOk (kd:Rt) (rk:Go->Nat) (good:Go->Prop) (st:Nf):Prop where
 kind:M7 st=kd
 failed:failedOf st=FX
 keys:Keys rk good (arrOf st)
theorem w_lt (C:Cmp P w A s kd rk good){x y:Kw}{st:Nf}{Q:Option Bool->Nf->Prop}(hk:M7 st=kd)(hx:good x.1)(hy:good y.1)(q:Q (Dn (decide (rk x.1<rk y.1))) st):wpS (FJ P w) A E s (lt' x y) Q st:=by
 rw [lt'_eq];refine wpS_bind<|wpS_get ?_
 rw [hk];exact wpS_bind<|wpS_lift<|Tc<|C _ _ _ _ hx hy ⟨rfl,wpS_pure q⟩
structure Within (a b:Array Kw) (lo hi:Nat):Prop where
 perm:b.Perm a
 out:∀ k,k<lo\/hi<=k->b[k]?=a[k]?
end
section
variable {P:Fb}{w:FZ}{A:Fd}{E:Go->AP->Prop}{s:AP}{d it:Addr}{es:Array DictEntry}{ep i:Nat}
end
section
variable {P:Fb}{w:FZ}{A:Fd}{E:Go->AP->Prop}{s:AP}{kd:Rt}{rk:Go->Nat}{good:Go->Prop}
structure ad5 (B:Nat->Bool) (n:Nat) (st:Nf) (x:Nat) (c:Option (Option Nat)×Nat×Nat) (st':Nf):Prop where
 s:st'=st
 e:c.1=FX
 a:c.2.1<=c.2.2
 b:c.2.2<=n
 d:c.2.2 - c.2.1<=n - x
 lo:∀ i,i<c.2.1->B i=true
 hi:∀ i,c.2.2<=i->i<n->B i=false
structure ad7 (B:Nat->Bool) (v:Bool) (mx:Nat) (st:Nf) (x:Nat) (c:Option (Option Nat)×Nat×Nat) (st':Nf):Prop where
 s:st'=st
 e:c.1=FX
 a:c.2.1<c.2.2
 b:x<c.2.2
 d:c.2.1<mx
 h:B c.2.1=v
end
section
variable {rk:Go->Nat}
def SL (rk:Go->Nat)(l:List Kw):Prop:=l.Pairwise fun x y=>rk x.1<rk y.1
def Be (rk:Go->Nat)(xs ys:List Kw):Prop:=∀ x∈xs,∀ y∈ys,rk x.1<rk y.1
def zbh (rk:Go->Nat)(A B out al bl:List Kw):Prop:=∃ a1 b1,A=a1++al/\B=b1++bl/\out.Perm (a1++b1)/\SL rk out/\Be rk out al/\Be rk out bl
def Mrg (rk:Go->Nat)(A B r:List Kw):Prop:=r.Perm (A++B)/\SL rk r
end
section
variable {P:Fb}{w:FZ}{A:Fd}{E:Go->AP->Prop}{s:AP}{kd:Rt}{rk:Go->Nat}{good:Go->Prop}
def RV (st st':Nf):Prop:=arrOf st'=arrOf st/\M7 st'=M7 st/\failedOf st'=failedOf st/\pendingOf st'=pendingOf st
structure Two (rk:Go->Nat) (good:Go->Prop) (a b:Array Kw):Prop where
 sa:SL rk a.toList
 sb:SL rk b.toList
 ga:∀ p∈a.toList,good p.1
 gb:∀ p∈b.toList,good p.1
 ne:∀ x∈a.toList,∀ y∈b.toList,rk x.1≠rk y.1
structure aeA (rk:Go->Nat) (a b out:Array Kw) (ia ib:Nat):Prop where
 ml:zbh rk a.toList b.toList out.toList (a.toList.drop ia) (b.toList.drop ib)
 ia:ia+1<a.size
 ib:ib<b.size
structure aec (rk:Go->Nat) (a b:Array Kw) (st:Nf) (n:Nat) {β : Type} (c:Option (Array Kw)×Array Kw×Nat×Nat×β) (st':Nf):Prop where
 sm:RV st st'
 e:c.1=FX
 li:aeA rk a b c.2.1 c.2.2.1 c.2.2.2.1
 le:n<=c.2.2.1+c.2.2.2.1
structure zaa (rk:Go->Nat) (a b:Array Kw) (st:Nf) {β : Type} (c:Option (Array Kw)×β) (st':Nf):Prop where
 sm:RV st st'
 r:∃ l,c.1=Dn l/\Mrg rk a.toList b.toList l.toList
end
section
variable {rk:Go->Nat}
def afk (rk:Go->Nat)(A B o ah bh:List Kw):Prop:=∃ a2 b2,A=ah++a2/\B=bh++b2/\o.Perm (a2++b2)/\SL rk o/\Be rk ah o/\Be rk bh o
end
section
variable {P:Fb}{w:FZ}{A:Fd}{E:Go->AP->Prop}{s:AP}{kd:Rt}{rk:Go->Nat}{good:Go->Prop}
structure aev (rk:Go->Nat) (a b out:Array Kw) (na nb:Nat):Prop where
 mh:afk rk a.toList b.toList out.toList.reverse (a.toList.take na) (b.toList.take nb)
 pa:0<na
 pb:1<nb
 la:na<=a.size
 lb:nb<=b.size
structure GoH (rk:Go->Nat) (a b:Array Kw) (st:Nf) (n:Nat) {β : Type} (c:Option (Array Kw)×Nat×Nat×Array Kw×β) (st':Nf):Prop where
 sm:RV st st'
 e:c.1=FX
 li:aev rk a b c.2.2.2.1 c.2.1 c.2.2.1
 le:c.2.1+c.2.2.1+n<=a.size+b.size
structure Runs (rk:Go->Nat) (a:Array Kw) (sa k sb n' e:Nat):Prop where
 h1:sa+k<=sb
 h2:sb+n'<=e
 h3:e<=a.size
 r1:J1 rk a sa sb
 r2:J1 rk a sb e
 lo:∀ p,sa<=p->p<sa+k->Rk rk a p<Rk rk a sb
 hi:∀ p,sb+n'<=p->p<e->Rk rk a (sb - 1)<Rk rk a p
def Cont (rk:Go->Nat)(a:Array Kw):List (Nat×Nat×Nat)->Nat->Nat->Prop
 | [],i,j=>i=j
 | (s,n,_)::r,i,j=>s=i/\0<n/\J1 rk a i (i+n)/\Cont rk a r (i+n) j
structure zad (kd:Rt) (rk:Go->Nat) (good:Go->Prop) (a0:Array Kw) (lo:Nat) (st:Nf):Prop where
 ok:SOk kd rk good st
 perm:(arrOf st).Perm a0
 cont:Cont rk (arrOf st) (pendingOf st).toList 0 lo
end
section
variable {P:Fb}{w:FZ}{A:Fd}{E:Go->AP->Prop}{s:AP}
def rankOf (ks:List (List Int))(k:List Int):Nat:=ks.countP fun l=>decide (l<k)
structure KyT (T:Heap->Go->List Int->Prop):Prop where
 fn:∀ {h:Heap} {v:Go} {k l:List Int},T h v k->T h v l->k=l
 of:∀ {h h':Heap} {v:Go} {k:List Int},T h v k->(∀ b o,o.cls=.type "tuple"->h.get? b=Dn o->h'.get? b=Dn o)->T h' v k
abbrev PdT (T:Heap->Go->List Int->Prop)(h:Heap):List (List Int)->List Go->Prop:=Rv fun k v=>T h v k
section
variable {T:Heap->Go->List Int->Prop}(F:KyT T)
include F
open Classical in
noncomputable def keyV (_:KyT T)(h:Heap)(v:Go):List Int:=if e:∃ k,T h v k then e.choose else []
noncomputable def rkV (F:KyT T)(h:Heap)(ks:List (List Int))(v:Go):Nat:=rankOf ks (keyV F h v)
end
structure SkT (P:Fb) (w:FZ) (A:Fd) {T:Heap->Go->List Int->Prop} (F:KyT T) (kd:Rt) (ks:List (List Int)) (vs:List Go):Prop where
 kind:∀ {E:Go->AP->Prop} {s:AP} {Q:Rt->AP->Prop},2<=vs.length->PdT T s.heap ks vs->Q kd s->CR (FJ P w) A (keyKind' vs.toArray) Q E s
 cmp:∀ {s:AP},PdT T s.heap ks vs->Cmp P w A s kd (rkV F s.heap ks) (·∈vs)
end
section
variable {X:Cx}{K:Ai}
end
section
variable {X:Cx}{o e1 e2:Expr}{mo:ME}{ma:MA}{apos cpos:Pos}
end
section
variable {X:Cx}{K:Ai}
variable {o e:Expr}{mo:ME}{ma:MA}{apos cpos:Pos}
end
section
variable {prog:Fb}{w:FZ}{A:Fd}{R:Result->AP->Prop}{E:Go->AP->Prop}{L I:Addr}{ns:List Int}{its:List Go}
end
section
variable {X:Cx}
end
section
open AutoSeq1 (wpAny_loadPart')
end
section
variable {prog:Fb}{w:FZ}{A:Fd}{E:Go->AP->Prop}{s:AP}
end
section
variable {X:Cx}{K:Ai}
end
section
variable {prog:Fb}{w:FZ}{A:Fd}{R:Result->AP->Prop}{L I:Addr}{its:List Go}
end
section
variable {X:Cx}{K:Ai}
def NK (h:Gh)(x y:W):Option Src:=match tE x,y with
 | some as,.loc n=>(match h.c n with
  | some (.lst bs)=>Dn ⟨sS as bs,Dn (n,bs)⟩
  | _=>FX)
 | _,_=>FX
end
section
variable {X:Cx}
end
section
variable {prog:Fb}{w:FZ}{A:Fd}{E:Go->AP->Prop}{s:AP}
end
section
variable {X:Cx}{K:Ai}
end
section
variable {prog:Fb}{w:FZ}{A:Fd}{E:Go->AP->Prop}{s:AP}{r l:Addr}{items:Array Go}
end
section
variable {X:Cx}
end
section
variable {P:Fb}{w:FZ}{A:Fd}{E:Go->AP->Prop}{s:AP}
end
section
variable {X:Cx}{K:Ai}
end
section
variable {X:Cx}{o e1 e2:Expr}{mo:ME}{ma:MA}{apos cpos:Pos}
end
section
variable {prog:Fb}{w:FZ}{A:Fd}{R:Result->AP->Prop}{E:Go->AP->Prop}{L I:Addr}{ns:List Int}{its:List Go}
end
section
variable {X:Cx}
end
section
variable {X:Cx}{a b o i:Expr}{ma mb:ME}{td ty:TE}{pos:Pos}
end
section
variable {P:Fb}{w:FZ}{A:Fd}{E:Go->AP->Prop}{s:AP}
end
section
variable {X:Cx}
end
def Fk (P:Fb)(w:FZ)(K:Ai)(mg:Str->Option Go)(base:Heap)(k:Nat)(x:Str)(ms:kI):Prop:=∃ f fd ps,qO P w K mg base Ma k f fd ps (lift K ms)/\mg x=Dn (.ref f)/\Q6 K (.ref f)=true/\Binds K fd ps []
def At (K:Ai)(mg:Str->Option Go)(x:Str)(st:Stmt)(ps:List Str):Prop:=∃ f fd,SN K x x st f fd/\mg x=Dn (.ref f)/\Binds K fd ps []
section
variable {X:Cx}{e e2 e3 e4:Expr}{es:List Expr}{mr:MA}{ma mb mc md:ME}{pos:Pos}{k:Nat}{zl:List Str}{x:Str}{p:Pos}
theorem vV (i:Nat)(hN:X.N[i]?=Dn x:=by with_unfolding_all rfl)(hv:Vis X.env.scope x:=by with_unfolding_all first | exact Or.inl rfl | exact Or.inr (Or.inl rfl) | exact Or.inr (Or.inr rfl))(hd:(x==("__debug__" : Str))=false:=by decide)(hcd:(x==("__classdict__" : Str))=false:=by decide):DE X (.Name x pos) (aq i):=dv i (pv i hN hv hd hcd)
theorem aC (h1:DE X e ma)(h2:KH X es mr)(s:G8 e=false:=by with_unfolding_all rfl):KH X (e::es) (aj ma mr):=ahE h1 h2 (bO s)
theorem a1 (h1:DE X e ma)(s:G8 e=false:=by with_unfolding_all rfl):KH X [e] (aj ma aH):=aC h1 mL s
theorem a2 (h1:DE X e ma)(h2:DE X e2 mb)(s1:G8 e=false:=by with_unfolding_all rfl)(s2:G8 e2=false:=by with_unfolding_all rfl):KH X [e,e2] (aj ma (aj mb aH)):=aC h1 (a1 h2 s2) s1
theorem a3 (h1:DE X e ma)(h2:DE X e2 mb)(h3:DE X e3 mc)(s1:G8 e=false:=by with_unfolding_all rfl)(s2:G8 e2=false:=by with_unfolding_all rfl)(s3:G8 e3=false:=by with_unfolding_all rfl):KH X [e,e2,e3] (aj ma (aj mb (aj mc aH))):=aC h1 (a2 h2 h3 s2 s3) s1
theorem Bu {j:Nat}{ms:kI}(F:Fk X.prog X.w X.K X.mg X.base j x ms)(ha:KH X (e::es) mr)(hr:mW k X.A:=by with_unfolding_all assumption)(hk:j<=k:=by decide)(hg:Gl X x:=by with_unfolding_all rfl)(hdb:(x==("__debug__" : Str))=false:=by decide)(h1:G8 e=false:=by with_unfolding_all rfl)(h2:noStar es=true:=by with_unfolding_all rfl) :
  DE X (.Call (.Name x p) (e::es) [] pos) (aF ms EF mr):=by
 obtain ⟨f,fd,ps,a,b,c,d⟩:=F;exact Xo (a.mono hk) hr hg b c d ha hdb (bO h1)<|dz h2
theorem Lg {id:String}{mc:MC}(hc:m7 X (.builtin id) mc)(hv:RP x=Dn (.builtin id))(ha:KH X (e::es) mr)(z:∀ n∈zl,X.mg n=FX:=by with_unfolding_all assumption)(hz:x∈zl:=by decide)(hg:Gl X x:=by with_unfolding_all rfl)(hn:x ≠ "__name__":=by decide)(hdb:(x==("__debug__" : Str))=false:=by decide)
  (h1:G8 e=false:=by with_unfolding_all rfl) (h2:noStar es=true:=by with_unfolding_all rfl):DE X (.Call (.Name x p) (e::es) [] pos) (HN mc mr):=agj hc hg (z _ hz) hv ha hn hdb (bO h1) (dz h2)
theorem dct {T:String}{mc:MC}(hc:m7 X (.type T) mc)(hv:RP x=Dn (.type T))(ha:KH X (e::es) mr)(z:∀ n∈zl,X.mg n=FX:=by with_unfolding_all assumption)(hz:x∈zl:=by decide)(hg:Gl X x:=by with_unfolding_all rfl)(hn:x ≠ "__name__":=by decide)(hdb:(x==("__debug__" : Str))=false:=by decide)
  (h1:G8 e=false:=by with_unfolding_all rfl) (h2:noStar es=true:=by with_unfolding_all rfl):DE X (.Call (.Name x p) (e::es) [] pos) (HN mc mr):=zbd hc hg (z _ hz) hv ha hn hdb (bO h1) (dz h2)
theorem Fj (i:Nat){pos':Pos}(he:DE X e ma)(hN:X.N.Nodup:=by with_unfolding_all assumption)(hi:X.N[i]?=Dn x:=by with_unfolding_all rfl)(hx:Loc X.env.scope x:=by with_unfolding_all first | exact Or.inl rfl | exact Or.inr rfl)(hs:SQ e (Dn (.Name x pos')) pos.line X.env=pure false:=by with_unfolding_all rfl)
  (hf:X.fn x=true\/X.env.scope.names.lookup x=Dn .local:=by with_unfolding_all first | exact .inl rfl | exact .inr rfl):DS X (.Assign [.Name x pos'] e pos) (bx ma (Mk i)):=Yh hN hi hx he hs hf
theorem Hx (i:Nat)(hN:X.N.Nodup:=by with_unfolding_all assumption)(hi:X.N[i]?=Dn x:=by with_unfolding_all rfl)(hx:Loc X.env.scope x:=by with_unfolding_all first | exact Or.inl rfl | exact Or.inr rfl)(hf:X.fn x=true\/X.env.scope.names.lookup x=Dn .local:=by with_unfolding_all first | exact .inl rfl | exact .inr rfl):DG X (.Name x pos) (Mk i):=agl (vp hN hi hx hf)
theorem Bs {a b:Expr}(ha:DE X a ma)(hb:DE X b mb)(hs:BK b:=by with_unfolding_all (intro _ _;rfl)):DE X (.Subscript a b pos) (JI Aw ma mb):=adw ha hb hs
theorem HY {a b:Expr}{op:CmpOp}{m2:M2}(ho:M6 X (Lz op) m2)(ha:DE X a ma)(hb:DE X b mb)(hm:Sh op b=false:=by with_unfolding_all first | exact Qj _ | rfl):DT X (.Compare a [op] [b] pos) (bG (JI m2 ma mb)):=Zj ho ha hb hm
theorem Oo {a b:Expr}{op:CmpOp}{m2:M2}(ho:M6 X (Lz op) m2)(ha:DE X a ma)(hb:DE X b mb)(hm:Sh op b=false:=by with_unfolding_all first | exact Qj _ | rfl):DE X (.Compare a [op] [b] pos) (JI m2 ma mb):=aa5 ho ha hb hm
theorem dl1 {scope:Scope}{iter elt:Expr}{ifs:List Expr}{mi:MI}{tt:MT}{te:ME}(ix:List Nat)(hi:Oi X (.Name x p) iter mi)(ht:∀ C s H fp,Vq (blk X scope (gJ X [x] ix) C s H fp) ifs tt)(he:∀ C s H fp,DE (blk X scope (gJ X [x] ix) C s H fp) elt te)(B:jd X scope [x] ix:=by with_unfolding_all exact cM rfl)(hc:X.calm=true:=by with_unfolding_all assumption)
  (hs:∀ v,S9 iter X.env v=pure v:=by with_unfolding_all (intro _;rfl)):DE X (.ListComp elt [⟨.Name x p,iter,ifs,0⟩] scope pos) (GC Gm ix mi tt te):=W7 ix hc B FT (Ey B) hi ht he hs
theorem Lr {scope:Scope}{iter elt:Expr}{mi:MI}{te:ME}(ix:List Nat)(hi:Oi X (.Name x p) iter mi)(he:∀ C s H fp,DE (blk X scope (gJ X [x] ix) C s H fp) elt te)(B:jd X scope [x] ix:=by with_unfolding_all exact cM rfl)(hc:X.calm=true:=by with_unfolding_all assumption)
  (hs:∀ v,S9 iter X.env v=pure v:=by with_unfolding_all (intro _;rfl)):DE X (.ListComp elt [⟨.Name x p,iter,[],0⟩] scope pos) (GC Gm ix mi fU te):=dl1 ix hi (fun _ _ _ _=>iy) he B hc hs
theorem qq (hr:mW k X.A:=by with_unfolding_all assumption):X.A.units+30<Jd:=ad0 hr
theorem hh (hc:X.calm=true:=by with_unfolding_all assumption):X.calm=true:=hc
theorem Om {a:Expr}{tg:Expr}(ha:KH X [a] mr)(z:∀ n∈zl,X.mg n=FX:=by with_unfolding_all assumption)(hz:("range" : Str)∈zl:=by decide)(hg:Gl X "range":=by with_unfolding_all rfl)(hs:G8 a=false:=by with_unfolding_all rfl):Oi X tg (.Call (.Name "range" p) [a] [] pos) (iu mr):=zaQ hg (z _ hz) ha (Qf hs)
end
theorem fk {P:Fb}{w:FZ}{K:Ai}{mg:Str->Option Go}{base:Heap}{x:Str}{st:Stmt}{ps zl:List Str}(N:List Str){k:Nat}{pure:Bool}{body:EY->MS}(T:At K mg x st ps)(z:∀ n∈zl,mg n=FX)
  (hb:∀ (f:Addr) (cdv:Go) (A:Fd) (outer:List Env) (s:AP) (H:Hp) (E:XK),mW k (A.deeper (envOfC x (bT st) s.heap.objs.size f cdv))->N.Nodup->(Nj Ma P w K mg base N x (bT st) f cdv A outer s H E).nox.calm=true->(∀ n∈zl,mg n=FX)->RB (Nj Ma P w K mg base N x (bT st) f cdv A outer s H E).nox (gU st) (body EF))
  (S:m6 N ps (bT st):=by exact ⟨rfl,rfl,rfl,by decide +kernel,rfl,by decide +kernel,by decide +kernel⟩) (hk:9<=k:=by decide):Fk P w K mg base (k+1) x (Fw ps.length N.length pure body):=by
 obtain ⟨f,fd,F,m,b⟩:=T;exact ⟨f,fd,ps,ach F S fun cdv A outer s H E hr=>hb f cdv A outer s H E hr S.nd (hr.calm hk) z,m,F.kp,b⟩
section
variable {X:Cx}{e:Expr}{ma:ME}
end
section
variable {X:Cx}{o e1:Expr}{mo:ME}{ma:MA}{apos cpos:Pos}
end
section
variable {X:Cx}
end
section
variable {prog:Fb}{w:FZ}{A:Fd}{E:Go->AP->Prop}{s:AP}
end
section
variable {X:Cx}{K:Ai}
end
section
variable {X:Cx}{Γ : St->Prop}{c:Expr}{t:MT}
end
section
variable {X:Cx}
variable {o e:Expr}{es:List Expr}{mo:ME}{ma:MA}{name:Str}{apos cpos:Pos}{id:String}{r:V->List V->Hp->VK->Prop}{mr:MM}
end
section
variable {X:Cx}{e:Expr}{es:List Expr}{mr:MA}{pos p:Pos}{k j:Nat}{x y:Str}{ms:kI}{f:Addr}{fs:List (Addr×kI)}
end
theorem dc0 {X:Cx}{pos p:Pos}{k j:Nat}{x:Str}{ms:kI}(F:Fk X.prog X.w X.K X.mg X.base j x ms)(hr:mW k X.A:=by with_unfolding_all assumption)(hk:j<=k:=by decide)(hg:Gl X x:=by with_unfolding_all rfl)(hdb:(x==("__debug__" : Str))=false:=by decide):DE X (.Call (.Name x p) [] [] pos) (aF ms EF aH):=by
 obtain ⟨f,fd,ps,a,b,c,d⟩:=F;exact zbF (a.mono hk) hr hg b c d hdb
section
variable {X:Cx}
end
section
variable {X:Cx}{tg:Expr}{ma:ME}
def signs (x:Str):List W:=x.cps.toList.map fun c=>.str ⟨#[c]⟩
end
section
variable {prog:Fb}{w:FZ}{A:Fd}{E:Go->AP->Prop}{s:AP}
end
section
variable {X:Cx}
end
section
variable {X:Cx}{K:Ai}
end
section
variable {X:Cx}{Γ : St->Prop}{body:List Stmt}{b₀ : Stmt}{suite:List Stmt}{d:Str}{np hpos pos:Pos}{D:Addr}{mb mh:EY->MS}
end
section
variable {X:Cx}{pins:List (Addr×Obj)}{σ : St}{H:Hp}{s:AP}
end
section
variable {X:Cx}{body:List Stmt}{b₀ : Stmt}{suite:List Stmt}{y d:Str}{np hpos pos:Pos}{i:Nat}{D:Addr}{mb:EY->MS}{mh:MS}
end
end L2
namespace My
open PySem L2 PyProof.Rows
def cX:W:=(.tup [(.tup [(.str "join"),(.int 0),(.int 1)]),(.tup [(.str "join"),(.int 3),(.int 4)]),(.tup [(.str "meet"),(.int 6),(.int 7)]),(.tup [(.str "join"),(.int 1),(.int 2)]),(.tup [(.str "meet"),(.int 9),(.int 5)]),(.tup [(.str "join"),(.int 8),(.int 10)]),(.tup [(.str "join"),(.int 2),(.int 3)]),(.tup [(.str "meet"),(.int 11),(.int 12)]),(.tup [(.str "join"),(.int 0),(.int 13)]),(.tup [(.str "meet"),(.int 14),(.int 5)])])
def qQ:W:=(.tup [(.tup [(.int 1),(.int 0),(.int 0)]),(.tup [(.int 0),(.int 1),(.int 0)]),(.tup [(.int 0),(.int 0),(.int 1)]),(.tup [(.int 1),(.int 1),(.int 1)])])
def top (i:Nat):Stmt:=PySem.Challenge.pw_easelroom_k49_whole_sixth_spot.main.body.getD i (.Pass ⟨0,0,0,0⟩)
abbrev RD:Stmt:=top 84
def mq (E:EY):MS:=
  (bZ (aq 0))
def iY:kI:=Fw 2 3 false fun E=>
  (aV (bx (HN Ds (aj (aq 0) aH)) (Mk 0))
  (aV (bx (HN Ds (aj (aq 1) aH)) (Mk 1))
  (aV (Du (bG (JI JG (aq 1) (mC (.int 0)))) (aV (bx (JI je (aq 0) (aq 1)) (Mk 2))
  (aV (bx (aq 1) (Mk 0))
  (bx (aq 2) (Mk 1)))))
  (mq E))))
def iT:kI:=iY
def sV (c_divisor_of_two:kI)(E:EY):MS:=
  (bZ (aq 1))
def xY (c_divisor_of_two:kI):kI:=Fw 1 3 false fun E=>
  (aV (bx (mC (.int 0)) (Mk 1))
  (aV (uf (Gi (aq 0)) (Mk 2) (bx (aF c_divisor_of_two E (aj (aq 2) (aj (aq 1) aH))) (Mk 1)))
  (sV c_divisor_of_two E)))
def xQ:kI:=xY iT
def j8 (E:EY):MS:=
  (bZ (mC (.bl false)))
def pI:kI:=Fw 1 2 false fun E=>
  (aV (uf (ZL (aj (aq 0) aH)) (Mk 1) (fY (bG (JI JG (aq 1) (mC (.int 0)))) (bZ (JI kLt (aq 1) (mC (.int 0)))) bV))
  (j8 E))
def oH:kI:=pI
def wZ (c_divisor c_ends_below:kI)(E:EY):MS:=
  (bZ (HN yS (aj (GC Gm [1] (Gi (aq 0)) fU (JI uV (aq 0) (aq 1))) aH)))
def zaw (c_divisor c_ends_below:kI)(E:EY):MS:=
  (aV (fY (wQ (aF c_ends_below E (aj (aq 0) aH))) (bx (mUn Vv (aq 1)) (Mk 1)) bV)
  (wZ c_divisor c_ends_below E))
def IV (c_divisor c_ends_below:kI):kI:=Fw 1 2 false fun E=>
  (aV (bx (aF c_divisor E (aj (aq 0) aH)) (Mk 1))
  (aV (fY (bG (JI JV (aq 1) (mC (.int 0)))) (fG "Nothing" E) bV)
  (zaw c_divisor c_ends_below E)))
def jk:kI:=IV xQ oH
def JR:kI:=Fw 2 2 false fun E=>
  (bZ (JI bD (JI bD (JI bJ (JI Aw (aq 0) (mC (.int 0))) (JI Aw (aq 1) (mC (.int 0)))) (JI bJ (JI Aw (aq 0) (mC (.int 1))) (JI Aw (aq 1) (mC (.int 1))))) (JI bJ (JI Aw (aq 0) (mC (.int 2))) (JI Aw (aq 1) (mC (.int 2))))))
def zG:kI:=JR
def Aq:kI:=Fw 2 2 false fun E=>
  (bZ (qy (aj (JI pJ (JI bJ (JI Aw (aq 0) (mC (.int 1))) (JI Aw (aq 1) (mC (.int 2)))) (JI bJ (JI Aw (aq 0) (mC (.int 2))) (JI Aw (aq 1) (mC (.int 1))))) (aj (JI pJ (JI bJ (JI Aw (aq 0) (mC (.int 2))) (JI Aw (aq 1) (mC (.int 0)))) (JI bJ (JI Aw (aq 0) (mC (.int 0))) (JI Aw (aq 1) (mC (.int 2))))) (aj (JI pJ (JI bJ (JI Aw (aq 0) (mC (.int 0))) (JI Aw (aq 1) (mC (.int 1)))) (JI bJ (JI Aw (aq 0) (mC (.int 1))) (JI Aw (aq 1) (mC (.int 0))))) aH)))))
def m9:kI:=Aq
def Pr (c_dot c_cross:kI):kI:=Fw 3 3 false fun E=>
  (bZ (aF c_dot E (aj (aF c_cross E (aj (aq 0) (aj (aq 1) aH))) (aj (aq 2) aH))))
def QB:kI:=Pr zG m9
def yj (c_dot:kI):kI:=Fw 2 2 false fun E=>
  (bZ (JI JV (aF c_dot E (aj (aq 0) (aj (aq 1) aH))) (mC (.int 0))))
def qG:kI:=yj zG
def vL (c_dot c_cross:kI)(E:EY):MS:=
  (aV (bx (aF c_cross E (aj (JI Aw (aq 0) (mC (.int 0))) (aj (JI Aw (aq 1) (mC (.int 0))) aH))) (Mk 2))
  (bZ (HN Ye (aj (GC Gm [2] (Gi (aq 1)) fU (JI JV (aF c_dot E (aj (aq 1) (aj (aq 0) aH))) (mC (.int 0)))) aH))))
def tH (c_dot c_cross:kI):kI:=Fw 1 3 false fun E=>
  (aV (bx (GC Gm [0] (Gi (aq 0)) (bG (JI JG (aq 0) (JI Aw (aq 1) (mC (.int 0))))) (aq 0)) (Mk 1))
  (aV (fY (Gp (wQ (aq 1))) (bZ (mC (.bl true))) bV)
  (vL c_dot c_cross E)))
def lG:kI:=tH zG m9
def yq (c_share_one:kI):kI:=Fw 1 1 false fun E=>
  (bZ (aF c_share_one E (aj (aq 0) aH)))
def mj:kI:=yq lG
def jr (c_plain c_cross:kI)(E:EY):MS:=
  (bZ (aF c_plain E (aj (aF c_cross E (aj (aq 0) (aj (aq 1) aH))) aH)))
def dY (c_plain c_cross:kI):kI:=Fw 2 2 false fun E=>
  (aV (fY (bG (JI JV (aq 0) (aq 1))) (fG "Alike" E) bV)
  (jr c_plain c_cross E))
def gP:kI:=dY jk m9
def Jw (c_plain_cross:kI):kI:=Fw 2 2 false fun E=>
  (bZ (aF c_plain_cross E (aj (aq 0) (aj (aq 1) aH))))
def O5:kI:=Jw gP
def CZ (c_plain_cross:kI):kI:=Fw 2 2 false fun E=>
  (bZ (aF c_plain_cross E (aj (aq 0) (aj (aq 1) aH))))
def G7:kI:=CZ gP
def uD (E:EY):MS:=
  (bZ (aq 2))
def v8:kI:=Fw 2 7 true fun E=>
  (aV (bx (Dy (aj (qy aH) aH)) (Mk 2))
  (aV (uf (iu (aj (aq 1) aH)) (Mk 3) (aV (bx (nM aH) (Mk 4))
  (aV (uf (Gi (aq 2)) (Mk 5) (aV (bx (mIf (bG (JI Ob (aq 3) (mC (.int 0)))) (JI bD (JI Aw (aq 5) (JI pJ (aq 3) (mC (.int 1)))) (mC (.int 1))) (mC (.int 0))) (Mk 6))
  (gY (wg iw (aq 4) (aj (GC Gm [5] (Jf (aj (aq 6) (aj (aq 0) aH))) fU (JI bD (aq 1) (qy (aj (aq 0) aH)))) aH)))))
  (bx (aq 4) (Mk 2)))))
  (uD E)))
def BP:kI:=v8
def v7:kI:=Fw 2 2 false fun E=>
  (bZ (GC Gm [0] (Gi (aq 1)) fU (JI Aw (aq 1) (aq 0))))
def Cm:kI:=v7
def lB:kI:=Fw 1 1 false fun E=>
  (bZ (JI kLt (HN mF (aj (aq 0) aH)) (HN LR (aj (aq 0) aH))))
def rE:kI:=lB
def cY (c_on_line c_rising c_picked:kI):kI:=Fw 2 2 false fun E=>
  (bZ (HN Te (aj (GC Gm [0] (Gi (aF c_rising E (aj (HN LR (aj (aq 0) aH)) (aj (aq 1) aH)))) fU (aF c_on_line E (aj (aF c_picked E (aj (aq 1) (aj (aq 0) aH))) aH))) aH)))
def iB:kI:=cY mj BP Cm
def jA (c_has_on_line:kI):kI:=Fw 1 1 false fun E=>
  (fY (wQ (aF c_has_on_line E (aj (aq 0) (aj (mC (.int 3)) aH)))) (fG "ThreeOnLine" E) bV)
def fL:kI:=jA iB
def lU (c_join c_meet c_check_five:kI)(E:EY):MS:=
  (aV (bx (GC Gm [0] (iu (aj (mC (.int 6)) aH)) fU (aF c_join E (aj (JI Aw (aq 1) (aq 0)) (aj (JI Aw (aq 1) (JI je (JI bD (aq 0) (mC (.int 1))) (mC (.int 6)))) aH)))) (Mk 1))
  (bZ (GC Gm [1] (iu (aj (mC (.int 3)) aH)) fU (aF c_meet E (aj (JI Aw (aq 1) (aq 0)) (aj (JI Aw (aq 1) (JI bD (aq 0) (mC (.int 3)))) aH))))))
def lJ (c_join c_meet c_check_five:kI):kI:=Fw 1 2 false fun E=>
  (aV (gY (aF c_check_five E (aj (LK qu (aq 0) gR (cP (mC (.int 5)))) aH)))
  (aV (fY (Ol (bG (JI JV (JI Aw (aq 0) (mC (.int 5))) (JI Aw (aq 0) (mC (.int 0))))) (bG (JI JV (JI Aw (aq 0) (mC (.int 5))) (JI Aw (aq 0) (mC (.int 4)))))) (fG "Alike" E) bV)
  (lU c_join c_meet c_check_five E)))
def sI:kI:=lJ O5 G7 fL
def kJ (c_on_line c_crossings:kI):kI:=Fw 1 1 false fun E=>
  (bZ (aF c_on_line E (aj (aF c_crossings E (aj (aq 0) aH)) aH)))
def kh:kI:=kJ mj sI
def xO:kI:=Fw 1 1 false fun E=>
  (bZ (Dy (aj (LK qu (aq 0) (cP (mC (.int 0))) (cP (mC (.int 3)))) (aj (LK qu (aq 0) (cP (mC (.int 3))) (cP (mC (.int 6)))) (aj (LK qu (aq 0) (cP (mC (.int 6))) (cP (mC (.int 9)))) aH)))))
def jB:kI:=xO
def wU (c_turn c_rows_of:kI):kI:=Fw 1 2 false fun E=>
  (aV (bx (aF c_rows_of E (aj (aq 0) aH)) (Mk 1))
  (bZ (aF c_turn E (aj (JI Aw (aq 1) (mC (.int 0))) (aj (JI Aw (aq 1) (mC (.int 1))) (aj (JI Aw (aq 1) (mC (.int 2))) aH))))))
def zf:kI:=wU QB jB
def gA (c_dot c_rows_of:kI):kI:=Fw 2 2 false fun E=>
  (bZ (GC Gm [1] (Gi (aF c_rows_of E (aj (aq 0) aH))) fU (aF c_dot E (aj (aq 0) (aj (aq 1) aH)))))
def bY:kI:=gA zG jB
def xW:kI:=Fw 1 1 false fun E=>
  (bZ (GC Gm [0] (iu (aj (mC (.int 9)) aH)) fU (JI Aw (aq 1) (JI bD (JI bJ (mC (.int 3)) (JI je (aq 0) (mC (.int 3)))) (JI uV (aq 0) (mC (.int 3)))))))
def mU:kI:=xW
def jC (c_dot c_rows_of c_flipped:kI)(E:EY):MS:=
  (bZ (aq 3))
def d8 (c_dot c_rows_of c_flipped:kI):kI:=Fw 2 5 true fun E=>
  (aV (bx (aF c_rows_of E (aj (aF c_flipped E (aj (aq 1) aH)) aH)) (Mk 2))
  (aV (bx (nM aH) (Mk 3))
  (aV (uf (Gi (aF c_rows_of E (aj (aq 0) aH))) (Mk 4) (gY (wg iw (aq 3) (aj (GC Gm [4] (Gi (aq 2)) fU (aF c_dot E (aj (aq 1) (aj (aq 0) aH)))) aH))))
  (jC c_dot c_rows_of c_flipped E))))
def eV:kI:=d8 zG jB mU
def Dl (c_cross c_rows_of:kI):kI:=Fw 1 2 false fun E=>
  (aV (bx (aF c_rows_of E (aj (aq 0) aH)) (Mk 1))
  (bZ (JI bD (JI bD (aF c_cross E (aj (JI Aw (aq 1) (mC (.int 1))) (aj (JI Aw (aq 1) (mC (.int 2))) aH))) (aF c_cross E (aj (JI Aw (aq 1) (mC (.int 2))) (aj (JI Aw (aq 1) (mC (.int 0))) aH)))) (aF c_cross E (aj (JI Aw (aq 1) (mC (.int 0))) (aj (JI Aw (aq 1) (mC (.int 1))) aH))))))
def ql:kI:=Dl m9 jB
def OJ (c_plain c_flipped c_turned:kI):kI:=Fw 1 1 false fun E=>
  (bZ (aF c_plain E (aj (aF c_flipped E (aj (aF c_turned E (aj (aq 0) aH)) aH)) aH)))
def Qs:kI:=OJ jk mU ql
def Ah:kI:=Fw 0 0 false fun E=>
  (bZ (HN xq (aj (mC qQ) aH)))
def Jm:kI:=Ah
def Bm:kI:=Fw 2 6 false fun E=>
  (aV (bx (JI Aw (aq 1) (mC (.int 0))) (Mk 2))
  (aV (bx (JI Aw (aq 1) (mC (.int 1))) (Mk 3))
  (aV (bx (JI Aw (aq 1) (mC (.int 2))) (Mk 4))
  (aV (bx (JI bD (JI bD (JI bJ (JI bJ (JI Aw (aq 0) (mC (.int 0))) (aq 2)) (aq 2)) (JI bJ (JI bJ (JI Aw (aq 0) (mC (.int 2))) (aq 3)) (aq 3))) (JI bJ (JI bJ (JI Aw (aq 0) (mC (.int 5))) (aq 4)) (aq 4))) (Mk 5))
  (bZ (JI bD (JI bD (JI bD (aq 5) (JI bJ (JI bJ (JI Aw (aq 0) (mC (.int 1))) (aq 2)) (aq 3))) (JI bJ (JI bJ (JI Aw (aq 0) (mC (.int 3))) (aq 2)) (aq 4))) (JI bJ (JI bJ (JI Aw (aq 0) (mC (.int 4))) (aq 3)) (aq 4))))))))
def HJ:kI:=Bm
def iG (c_worth:kI):kI:=Fw 2 2 false fun E=>
  (bZ (JI JV (aF c_worth E (aj (aq 0) (aj (aq 1) aH))) (mC (.int 0))))
def cZ:kI:=iG HJ
def oA:kI:=Fw 2 2 false fun E=>
  (bZ (qy (aj (JI bJ (JI Aw (aq 0) (mC (.int 0))) (JI Aw (aq 1) (mC (.int 0)))) (aj (JI bD (JI bJ (JI Aw (aq 0) (mC (.int 0))) (JI Aw (aq 1) (mC (.int 1)))) (JI bJ (JI Aw (aq 0) (mC (.int 1))) (JI Aw (aq 1) (mC (.int 0))))) (aj (JI bJ (JI Aw (aq 0) (mC (.int 1))) (JI Aw (aq 1) (mC (.int 1)))) (aj (JI bD (JI bJ (JI Aw (aq 0) (mC (.int 0))) (JI Aw (aq 1) (mC (.int 2)))) (JI bJ (JI Aw (aq 0) (mC (.int 2))) (JI Aw (aq 1) (mC (.int 0))))) (aj (JI bD (JI bJ (JI Aw (aq 0) (mC (.int 1))) (JI Aw (aq 1) (mC (.int 2)))) (JI bJ (JI Aw (aq 0) (mC (.int 2))) (JI Aw (aq 1) (mC (.int 1))))) (aj (JI bJ (JI Aw (aq 0) (mC (.int 2))) (JI Aw (aq 1) (mC (.int 2)))) aH))))))))
def uH:kI:=oA
def uY:kI:=Fw 1 1 false fun E=>
  (bZ (qy (aj (JI bJ (mC (.int 2)) (JI Aw (aq 0) (mC (.int 0)))) (aj (JI Aw (aq 0) (mC (.int 1))) (aj (JI Aw (aq 0) (mC (.int 3))) (aj (JI Aw (aq 0) (mC (.int 1))) (aj (JI bJ (mC (.int 2)) (JI Aw (aq 0) (mC (.int 2)))) (aj (JI Aw (aq 0) (mC (.int 4))) (aj (JI Aw (aq 0) (mC (.int 3))) (aj (JI Aw (aq 0) (mC (.int 4))) (aj (JI bJ (mC (.int 2)) (JI Aw (aq 0) (mC (.int 5)))) aH)))))))))))
def d7:kI:=uY
def jJ (c_dot c_table_times_row:kI):kI:=Fw 3 3 false fun E=>
  (bZ (aF c_dot E (aj (aq 1) (aj (aF c_table_times_row E (aj (aq 0) (aj (aq 2) aH))) aH))))
def jg:kI:=jJ zG bY
def mX (c_size_of c_table_of:kI):kI:=Fw 1 1 false fun E=>
  (bZ (JI JG (aF c_size_of E (aj (aF c_table_of E (aj (aq 0) aH)) aH)) (mC (.int 0))))
def jQ:kI:=mX zf d7
def zW (c_dot c_cross c_together:kI):kI:=Fw 1 7 false fun E=>
  (aV (bx (aF c_cross E (aj (JI Aw (aq 0) (mC (.int 0))) (aj (JI Aw (aq 0) (mC (.int 1))) aH))) (Mk 1))
  (aV (bx (aF c_cross E (aj (JI Aw (aq 0) (mC (.int 2))) (aj (JI Aw (aq 0) (mC (.int 3))) aH))) (Mk 2))
  (aV (bx (aF c_cross E (aj (JI Aw (aq 0) (mC (.int 0))) (aj (JI Aw (aq 0) (mC (.int 2))) aH))) (Mk 3))
  (aV (bx (aF c_cross E (aj (JI Aw (aq 0) (mC (.int 1))) (aj (JI Aw (aq 0) (mC (.int 3))) aH))) (Mk 4))
  (aV (bx (JI bJ (aF c_dot E (aj (aq 1) (aj (JI Aw (aq 0) (mC (.int 4))) aH))) (aF c_dot E (aj (aq 2) (aj (JI Aw (aq 0) (mC (.int 4))) aH)))) (Mk 5))
  (aV (bx (JI bJ (aF c_dot E (aj (aq 3) (aj (JI Aw (aq 0) (mC (.int 4))) aH))) (aF c_dot E (aj (aq 4) (aj (JI Aw (aq 0) (mC (.int 4))) aH)))) (Mk 6))
  (bZ (GC (Ro 2) [5,6] (P0 (aj (aF c_together E (aj (aq 3) (aj (aq 4) aH))) (aj (aF c_together E (aj (aq 1) (aj (aq 2) aH))) aH))) fU (JI pJ (JI bJ (aq 2) (aq 0)) (JI bJ (aq 3) (aq 1)))))))))))
def Ji:kI:=zW zG m9 uH
def rT (c_plain c_has_alike c_has_on_line c_mixed:kI)(E:EY):MS:=
  (bZ (aF c_plain E (aj (aF c_mixed E (aj (aq 0) aH)) aH)))
def tW (c_plain c_has_alike c_has_on_line c_mixed:kI)(E:EY):MS:=
  (aV (fY (wQ (aF c_has_on_line E (aj (aq 0) (aj (mC (.int 4)) aH)))) (fG "FourOnLine" E) bV)
  (rT c_plain c_has_alike c_has_on_line c_mixed E))
def rM (c_plain c_has_alike c_has_on_line c_mixed:kI):kI:=Fw 1 1 false fun E=>
  (aV (fY (wQ (aF c_has_alike E (aj (aq 0) aH))) (fG "Alike" E) bV)
  (tW c_plain c_has_alike c_has_on_line c_mixed E))
def rB:kI:=rM jk rE iB Ji
def rC (c_plain c_flipped c_table_times_table c_back c_table_of:kI):kI:=Fw 2 4 false fun E=>
  (aV (bx (aF c_back E (aj (aq 0) aH)) (Mk 2))
  (aV (bx (aF c_table_times_table E (aj (aF c_flipped E (aj (aq 2) aH)) (aj (aF c_table_times_table E (aj (aF c_table_of E (aj (aq 1) aH)) (aj (aq 2) aH))) aH))) (Mk 3))
  (bZ (aF c_plain E (aj (Dy (aj (JI Aw (aq 3) (mC (.int 0))) (aj (JI bJ (mC (.int 2)) (JI Aw (aq 3) (mC (.int 1)))) (aj (JI Aw (aq 3) (mC (.int 4))) (aj (JI bJ (mC (.int 2)) (JI Aw (aq 3) (mC (.int 2)))) (aj (JI bJ (mC (.int 2)) (JI Aw (aq 3) (mC (.int 5)))) (aj (JI Aw (aq 3) (mC (.int 8))) aH))))))) aH)))))
def sG:kI:=rC jk mU eV Qs d7
def jH (c_plain:kI):kI:=Fw 1 1 false fun E=>
  (bZ (mIf (wQ (HN Te (aj (GC Gm [] (Gi (aq 0)) fU (JI JG (aq 0) (mC (.int 0)))) aH))) (aF c_plain E (aj (aq 0) aH)) (mC .non)))
def fu:kI:=jH jk
def uq (c_table_times_row c_table_of c_plain_or_none:kI)(E:EY):MS:=
  (bZ (aq 2))
def o9 (c_table_times_row c_table_of c_plain_or_none:kI):kI:=Fw 2 3 false fun E=>
  (aV (bx (aF c_plain_or_none E (aj (aF c_table_times_row E (aj (aF c_table_of E (aj (aq 0) aH)) (aj (aq 1) aH))) aH)) (Mk 2))
  (aV (fY (bG (JI kIs (aq 2) (mC .non))) (fG "Knot" E) bV)
  (uq c_table_times_row c_table_of c_plain_or_none E)))
def fJ:kI:=o9 bY d7 fu
def jV (c_plain c_table_times_row c_turned c_table_of c_is_round:kI)(E:EY):MS:=
  (bZ (aF c_plain E (aj (aF c_table_times_row E (aj (aF c_turned E (aj (aF c_table_of E (aj (aq 0) aH)) aH)) (aj (aq 1) aH))) aH)))
def jG (c_plain c_table_times_row c_turned c_table_of c_is_round:kI):kI:=Fw 2 2 false fun E=>
  (aV (fY (Gp (wQ (aF c_is_round E (aj (aq 0) aH)))) (fG "NotRound" E) bV)
  (jV c_plain c_table_times_row c_turned c_table_of c_is_round E))
def jj:kI:=jG jk bY ql d7 jQ
def oJ (c_is_on_curve c_line_about:kI)(E:EY):MS:=
  (bZ (aF c_line_about E (aj (aq 0) (aj (aq 1) aH))))
def nU (c_is_on_curve c_line_about:kI):kI:=Fw 2 2 false fun E=>
  (aV (fY (Gp (wQ (aF c_is_on_curve E (aj (aq 0) (aj (aq 1) aH))))) (fG "NotOn" E) bV)
  (oJ c_is_on_curve c_line_about E))
def uZ:kI:=nU cZ fJ
def fW (c_meet c_tiles:kI):kI:=Fw 2 3 false fun E=>
  (aV (bx (GC Gm [0] (Gi (LK qu (aF c_tiles E aH) gR (cP (mC (.int 3))))) (bG (JI JG (aq 0) (aq 1))) (aF c_meet E (aj (aq 1) (aj (aq 0) aH)))) (Mk 2))
  (bZ (JI Aw (GC Gm [1] (Gi (aq 2)) (bG (JI JG (aq 0) (aq 1))) (aq 0)) (mC (.int 0)))))
def jZ:kI:=fW G7 Jm
def lQ (c_lies_on c_is_on_curve c_table_of c_both_sides c_plain_or_none c_another_spot:kI)(E:EY):MS:=
  (bZ (aq 7))
def mH (c_lies_on c_is_on_curve c_table_of c_both_sides c_plain_or_none c_another_spot:kI)(E:EY):MS:=
  (aV (bx (aF c_table_of E (aj (aq 0) aH)) (Mk 3))
  (aV (bx (aF c_another_spot E (aj (aq 2) (aj (aq 1) aH))) (Mk 4))
  (aV (bx (aF c_both_sides E (aj (aq 3) (aj (aq 4) (aj (aq 4) aH)))) (Mk 5))
  (aV (bx (JI bJ (mC (.int 2)) (aF c_both_sides E (aj (aq 3) (aj (aq 1) (aj (aq 4) aH))))) (Mk 6))
  (aV (bx (aF c_plain_or_none E (aj (GC (Ro 2) [5,6] (P0 (aj (aq 1) (aj (aq 4) aH))) fU (JI pJ (JI bJ (aq 2) (aq 0)) (JI bJ (aq 3) (aq 1)))) aH)) (Mk 7))
  (aV (fY (bG (JI kIs (aq 7) (mC .non))) (fG "InCurve" E) bV)
  (lQ c_lies_on c_is_on_curve c_table_of c_both_sides c_plain_or_none c_another_spot E)))))))
def kZ (c_lies_on c_is_on_curve c_table_of c_both_sides c_plain_or_none c_another_spot:kI):kI:=Fw 3 8 false fun E=>
  (aV (fY (Ol (Gp (wQ (aF c_is_on_curve E (aj (aq 0) (aj (aq 1) aH))))) (Gp (wQ (aF c_lies_on E (aj (aq 1) (aj (aq 2) aH)))))) (fG "NotOn" E) bV)
  (mH c_lies_on c_is_on_curve c_table_of c_both_sides c_plain_or_none c_another_spot E))
def lK:kI:=kZ qG cZ d7 jg fu jZ
def gC (c_lies_on c_check_five:kI)(E:EY):MS:=
  (bZ (HN xq (aj (mC cX) aH)))
def eZ (c_lies_on c_check_five:kI):kI:=Fw 2 2 false fun E=>
  (aV (gY (aF c_check_five E (aj (aq 0) aH)))
  (aV (fY (Gp (wQ (aF c_lies_on E (aj (JI Aw (aq 0) (mC (.int 4))) (aj (aq 1) aH))))) (fG "NotOn" E) bV)
  (gC c_lies_on c_check_five E)))
def eY:kI:=eZ qG fL
def aeT (E:EY):MS:=
  (bZ (mC (.int 0)))
def Ed:kI:=Fw 2 2 false fun E=>
  (aV (fY (bG (JI kLt (aq 1) (HN LR (aj (aq 0) aH)))) (bZ (JI Aw (aq 0) (aq 1))) bV)
  (aeT E))
def vh:kI:=Ed
def zai (c_l_cell:kI)(E:EY):MS:=
  (bZ (aq 6))
def xV (c_l_cell:kI):kI:=Fw 3 9 true fun E=>
  (aV (bx (aF c_l_cell E (aj (aq 0) (aj (aq 1) aH))) (Mk 3))
  (aV (bx (JI Ob (Wx (aq 3)) (JI bJ (mC (.int 107)) (aq 2))) (Mk 4))
  (aV (bx (JI je (JI bD (JI bD (aq 3) (JI bJ (mC (.int 7919)) (aq 1))) (mC (.int 11))) (mC (.int 4294967291))) (Mk 5))
  (aV (bx (nM aH) (Mk 6))
  (aV (uf (iu (aj (aq 2) aH)) (Mk 7) (fY (wQ (aq 4)) (aV (gY (wg cI (aq 6) (aj (JI je (aq 3) (JI Gs (mC (.int 10)) (mC (.int 32)))) aH)))
  (bx (JI uV (aq 3) (JI Gs (mC (.int 10)) (mC (.int 32)))) (Mk 3))) (aV (bx (JI je (JI bD (JI bD (JI bJ (aq 5) (mC (.int 69069))) (mC (.int 362437))) (JI bJ (aq 7) (aq 7))) (mC (.int 4294967291))) (Mk 5))
  (aV (bx (JI je (JI bJ (aq 5) (JI bD (JI bD (JI uV (aq 5) (mC (.int 4096))) (aq 7)) (mC (.int 1)))) (mC (.int 999999999989))) (Mk 8))
  (gY (wg cI (aq 6) (aj (JI je (JI bJ (JI bJ (aq 8) (JI bD (aq 8) (mC (.int 7)))) (JI bD (aq 5) (mC (.int 1)))) (JI Gs (mC (.int 10)) (mC (.int 32)))) aH)))))))
  (zai c_l_cell E))))))
def jh:kI:=xV vh
def sJ (E:EY):MS:=
  (bZ (HN yS (aj (GC Gm [1] (Gi (aq 0)) fU (JI uV (aq 0) (aq 1))) aH)))
def sO (E:EY):MS:=
  (aV (fY (bG (JI kLt (JI Aw (GC Gm [] (Gi (aq 0)) (bG (JI JG (aq 0) (mC (.int 0)))) (aq 0)) (mUn Vv (mC (.int 1)))) (mC (.int 0)))) (bx (JI pJ (mC (.int 0)) (aq 1)) (Mk 1)) bV)
  (sJ E))
def xU:kI:=Fw 1 5 false fun E=>
  (aV (bx (mC (.int 0)) (Mk 1))
  (aV (uf (Gi (aq 0)) (Mk 2) (aV (bx (HN Ds (aj (aq 2) aH)) (Mk 3))
  (Du (bG (JI Ob (aq 3) (mC (.int 0)))) (aV (bx (JI je (aq 1) (aq 3)) (Mk 4))
  (aV (bx (aq 3) (Mk 1))
  (bx (aq 4) (Mk 3)))))))
  (sO E)))
def cR:kI:=xU
def rG:kI:=Fw 1 1 false fun E=>
  (bZ (JI Aw (Dy (aj (JI pJ (JI je (JI uV (aq 0) (mC (.int 3))) (mC (.int 5))) (mC (.int 2))) (aj (JI pJ (JI je (JI uV (aq 0) (mC (.int 3))) (mC (.int 41))) (mC (.int 20))) (aj (JI pJ (JI je (JI uV (aq 0) (mC (.int 3))) (JI bJ (mC (.int 2)) (JI Gs (mC (.int 10)) (mC (.int 10))))) (JI Gs (mC (.int 10)) (mC (.int 10)))) aH)))) (JI je (aq 0) (mC (.int 3)))))
def rH:kI:=rG
def nW (c_l_plain c_l_small:kI)(E:EY):MS:=
  (bZ (aF c_l_plain E (aj (aq 1) aH)))
def vU (c_l_plain c_l_small:kI):kI:=Fw 1 2 true fun E=>
  (aV (bx (aaj Gm [] (Gi (aq 0)) fU (aF c_l_small E (aj (aq 0) aH))) (Mk 1))
  (aV (fY (bG (JI JV (HN uo (aj (GC Gm [] (Gi (aq 1)) fU (HN Ds (aj (aq 0) aH))) aH)) (mC (.int 0)))) (bx (mC (.int 1)) (abu (aq 1) (mUn Vv (mC (.int 1))) N6)) bV)
  (nW c_l_plain c_l_small E)))
def qw:kI:=vU cR rH
def gB:kI:=Fw 2 8 false fun E=>
  (aV (bx (aq 0) (lE 3 (cL (Mk 2) (cL (Mk 3) (cL (Mk 4) Gq)))))
  (aV (bx (aq 1) (lE 3 (cL (Mk 5) (cL (Mk 6) (cL (Mk 7) Gq)))))
  (bZ (qy (aj (JI pJ (JI bJ (aq 3) (aq 7)) (JI bJ (aq 4) (aq 6))) (aj (JI pJ (JI bJ (aq 4) (aq 5)) (JI bJ (aq 2) (aq 7))) (aj (JI pJ (JI bJ (aq 2) (aq 6)) (JI bJ (aq 3) (aq 5))) aH)))))))
def ju:kI:=gB
def nQ:kI:=Fw 2 2 false fun E=>
  (bZ (JI bD (JI bD (JI bJ (JI Aw (aq 0) (mC (.int 0))) (JI Aw (aq 1) (mC (.int 0)))) (JI bJ (JI Aw (aq 0) (mC (.int 1))) (JI Aw (aq 1) (mC (.int 1))))) (JI bJ (JI Aw (aq 0) (mC (.int 2))) (JI Aw (aq 1) (mC (.int 2))))))
def nF:kI:=nQ
def qH:kI:=Fw 2 6 false fun E=>
  (aV (bx (aq 1) (lE 3 (cL (Mk 2) (cL (Mk 3) (cL (Mk 4) Gq)))))
  (aV (bx (qy (aj (JI bJ (aq 2) (aq 2)) (aj (JI bJ (aq 2) (aq 3)) (aj (JI bJ (aq 3) (aq 3)) (aj (JI bJ (aq 2) (aq 4)) (aj (JI bJ (aq 3) (aq 4)) (aj (JI bJ (aq 4) (aq 4)) aH))))))) (Mk 5))
  (bZ (HN X8 (aj (GC (Ro 2) [] (P0 (aj (aq 0) (aj (aq 5) aH))) fU (JI bJ (aq 0) (aq 1))) aH)))))
def yI:kI:=qH
def wC:kI:=Fw 2 11 false fun E=>
  (aV (bx (aq 0) (lE 6 (cL (Mk 2) (cL (Mk 3) (cL (Mk 4) (cL (Mk 5) (cL (Mk 6) (cL (Mk 7) Gq))))))))
  (aV (bx (aq 1) (lE 3 (cL (Mk 8) (cL (Mk 9) (cL (Mk 10) Gq)))))
  (bZ (qy (aj (JI bD (JI bD (JI bJ (JI bJ (mC (.int 2)) (aq 2)) (aq 8)) (JI bJ (aq 3) (aq 9))) (JI bJ (aq 5) (aq 10))) (aj (JI bD (JI bD (JI bJ (aq 3) (aq 8)) (JI bJ (JI bJ (mC (.int 2)) (aq 4)) (aq 9))) (JI bJ (aq 6) (aq 10))) (aj (JI bD (JI bD (JI bJ (aq 5) (aq 8)) (JI bJ (aq 6) (aq 9))) (JI bJ (JI bJ (mC (.int 2)) (aq 7)) (aq 10))) aH)))))))
def Cp:kI:=wC
def mO (c_l_cross c_l_dot:kI):kI:=Fw 3 3 false fun E=>
  (bZ (aF c_l_dot E (aj (aF c_l_cross E (aj (aq 0) (aj (aq 1) aH))) (aj (aq 2) aH))))
def qg:kI:=mO ju nF
def oM (c_l_turn:kI)(E:EY):MS:=
  (bZ (aq 1))
def nH (c_l_turn:kI):kI:=Fw 1 5 true fun E=>
  (aV (bx (nM aH) (Mk 1))
  (aV (uf (iu (aj (mC (.int 5)) aH)) (Mk 2) (uf (iu (aj (aq 2) aH)) (Mk 3) (uf (iu (aj (aq 3) aH)) (Mk 4) (fY (bG (JI JV (aF c_l_turn E (aj (JI Aw (aq 0) (aq 4)) (aj (JI Aw (aq 0) (aq 3)) (aj (JI Aw (aq 0) (aq 2)) aH)))) (mC (.int 0)))) (gY (wg cI (aq 1) (aj (qy (aj (aq 4) (aj (aq 3) (aj (aq 2) aH)))) aH))) bV))))
  (oM c_l_turn E)))
def jR:kI:=nH qg
def jK (c_l_draws c_l_plain c_l_made c_l_threes:kI)(E:EY):MS:=
  (bZ (aq 1))
def uI (c_l_draws c_l_plain c_l_made c_l_threes:kI)(E:EY):MS:=
  (aV (bx (aF c_l_threes E (aj (aq 1) aH)) (Mk 6))
  (aV (bx (HN uo (aj (GC Gm [6] (iu (aj (mC (.int 5)) aH)) fU (HN LR (aj (GC Gm [0] (Gi (aq 1)) (bG (JI V2 (aq 1) (aq 0))) (aq 0)) aH))) aH)) (Mk 7))
  (aV (fY (Ol (bG (JI JV (aq 7) (mC (.int 4)))) (bG (JI Ob (HN uo (aj (GC Gm [1] (Gi (aq 1)) fU (abO yH (aq 1) (aj (aq 0) aH))) aH)) (mC (.int 1))))) (aV (bx (JI Aw (aq 1) (mC (.int 0))) (lE 3 (cL (Mk 8) (cL (Mk 9) (cL (Mk 10) Gq)))))
  (aV (bx (JI bD (mC (.int 2)) (JI je (HN Ds (aj (JI bD (aq 8) (aq 9)) aH)) (JI Gs (mC (.int 10)) (mC (.int 10))))) (Mk 11))
  (bx (nM (aj (qy (aj (mC (.int 1)) (aj (mC (.int 0)) (aj (mC (.int 0)) aH)))) (aj (qy (aj (mC (.int 0)) (aj (mC (.int 1)) (aj (mC (.int 0)) aH)))) (aj (qy (aj (mC (.int 0)) (aj (mC (.int 0)) (aj (mC (.int 1)) aH)))) (aj (qy (aj (mC (.int 1)) (aj (mC (.int 1)) (aj (mC (.int 1)) aH)))) (aj (aF c_l_plain E (aj (Dy (aj (aq 11) (aj (JI bD (JI bJ (aq 11) (aq 11)) (JI je (HN Ds (aj (aq 10) aH)) (mC (.int 3)))) (aj (mC (.int 1)) aH)))) aH)) aH)))))) (Mk 1)))) bV)
  (jK c_l_draws c_l_plain c_l_made c_l_threes E))))
def wA (c_l_draws c_l_plain c_l_made c_l_threes:kI):kI:=Fw 1 12 false fun E=>
  (aV (bx (nM aH) (Mk 1))
  (aV (uf (iu (aj (mC (.int 5)) aH)) (Mk 2) (aV (bx (aF c_l_draws E (aj (aq 0) (aj (aq 2) (aj (mC (.int 6)) aH)))) (Mk 3))
  (aV (bx (aF c_l_made E (aj (LK qu (aq 3) (cP (mC (.int 1))) (cP (mC (.int 4)))) aH)) (Mk 4))
  (aV (fY (X6 (bG (JI JV (JI je (JI Aw (aq 3) (mC (.int 0))) (mC (.int 8))) (mC (.int 2)))) (bG (JI Ob (aq 2) (mC (.int 1))))) (aV (bx (GC (Ro 2) [3] (P0 (aj (JI Aw (aq 1) (mC (.int 0))) (aj (JI Aw (aq 1) (JI pJ (aq 2) (mC (.int 1)))) aH))) fU (JI bD (JI bJ (JI je (JI Aw (aq 2) (mC (.int 4))) (mC (.int 5))) (aq 0)) (JI bJ (JI bD (mC (.int 1)) (JI je (JI Aw (aq 2) (mC (.int 5))) (mC (.int 4)))) (aq 1)))) (Mk 5))
  (fY (bG (JI Ob (HN uo (aj (GC Gm [] (Gi (aq 5)) fU (HN Ds (aj (aq 0) aH))) aH)) (mC (.int 0)))) (bx (aF c_l_plain E (aj (aq 5) aH)) (Mk 4)) bV)) bV)
  (gY (wg cI (aq 1) (aj (aq 4) aH)))))))
  (uI c_l_draws c_l_plain c_l_made c_l_threes E)))
def Df:kI:=wA jh cR qw jR
def lC (c_l_cell c_l_draws c_l_plain c_l_made c_l_dot c_l_worth c_l_sums:kI)(E:EY):MS:=
  (bZ (aF c_l_plain E (aj (GC (Ro 2) [6,7] (P0 (aj (aq 5) (aj (aq 3) aH))) fU (JI pJ (JI bJ (aq 2) (aq 1)) (JI bJ (aq 3) (aq 0)))) aH)))
def rA (c_l_cell c_l_draws c_l_plain c_l_made c_l_dot c_l_worth c_l_sums:kI)(E:EY):MS:=
  (aV (bx (JI Aw (aq 1) (JI pJ (aq 4) (mC (.int 1)))) (Mk 5))
  (aV (bx (aF c_l_dot E (aj (aF c_l_sums E (aj (aq 2) (aj (aq 5) aH))) (aj (aq 3) aH))) (Mk 6))
  (aV (bx (aF c_l_worth E (aj (aq 2) (aj (aq 3) aH))) (Mk 7))
  (aV (fY (X6 (bG (JI JV (aq 6) (mC (.int 0)))) (bG (JI JV (aq 7) (mC (.int 0))))) (bZ (aq 3)) bV)
  (lC c_l_cell c_l_draws c_l_plain c_l_made c_l_dot c_l_worth c_l_sums E)))))
def rO (c_l_cell c_l_draws c_l_plain c_l_made c_l_dot c_l_worth c_l_sums:kI):kI:=Fw 3 8 false fun E=>
  (aV (bx (aF c_l_made E (aj (aF c_l_draws E (aj (aq 0) (aj (mC (.int 5)) (aj (mC (.int 3)) aH)))) aH)) (Mk 3))
  (aV (bx (JI je (JI uV (aF c_l_cell E (aj (aq 0) (aj (mC (.int 6)) aH))) (mC (.int 2))) (mC (.int 6))) (Mk 4))
  (aV (fY (Ol (bG (JI kLt (aq 4) (mC (.int 2)))) (bG (JI JV (aq 3) (JI Aw (aq 1) (JI pJ (aq 4) (mC (.int 1))))))) (bZ (aq 3)) bV)
  (rA c_l_cell c_l_draws c_l_plain c_l_made c_l_dot c_l_worth c_l_sums E))))
def zN:kI:=rO vh jh cR qw nF yI Cp
def qI (c_l_cross c_l_dot:kI)(E:EY):MS:=
  (bZ (JI JV (JI bJ (JI Aw (JI Aw (aq 1) (mC (.int 0))) (mC (.int 0))) (JI Aw (JI Aw (aq 1) (mC (.int 1))) (mC (.int 1)))) (JI bJ (JI Aw (JI Aw (aq 1) (mC (.int 1))) (mC (.int 0))) (JI Aw (JI Aw (aq 1) (mC (.int 0))) (mC (.int 1))))))
def qD (c_l_cross c_l_dot:kI):kI:=Fw 1 6 true fun E=>
  (aV (bx (nM aH) (Mk 1))
  (aV (uf (Gi (Dy (aj (qy (aj (mC (.int 1)) (aj (mC (.int 2)) aH))) (aj (qy (aj (mC (.int 2)) (aj (mC (.int 1)) aH))) aH)))) (lE 2 (cL (Mk 2) (cL (Mk 3) Gq))) (aV (bx (aF c_l_cross E (aj (JI Aw (aq 0) (mC (.int 0))) (aj (JI Aw (aq 0) (aq 2)) aH))) (Mk 4))
  (aV (bx (aF c_l_cross E (aj (JI Aw (aq 0) (aq 3)) (aj (JI Aw (aq 0) (mC (.int 3))) aH))) (Mk 5))
  (gY (wg cI (aq 1) (aj (GC Gm [4,5] (Gi (LK qu (aq 0) (cP (mC (.int 4))) gR)) fU (JI bJ (aF c_l_dot E (aj (aq 1) (aj (aq 0) aH))) (aF c_l_dot E (aj (aq 2) (aj (aq 0) aH))))) aH))))))
  (qI c_l_cross c_l_dot E)))
def zJ:kI:=qD ju nF
def tU (c_l_draws c_l_plain c_l_small c_l_turn:kI)(E:EY):MS:=
  (bZ (aF c_l_plain E (aj (aq 1) aH)))
def Az (c_l_draws c_l_plain c_l_small c_l_turn:kI):kI:=Fw 1 2 false fun E=>
  (aV (bx (GC Gm [] (Gi (aF c_l_draws E (aj (aq 0) (aj (mC (.int 7)) (aj (mC (.int 9)) aH))))) fU (aF c_l_small E (aj (aq 0) aH))) (Mk 1))
  (aV (fY (bG (JI JV (aF c_l_turn E (aj (LK qu (aq 1) (cP (mC (.int 0))) (cP (mC (.int 3)))) (aj (LK qu (aq 1) (cP (mC (.int 3))) (cP (mC (.int 6)))) (aj (LK qu (aq 1) (cP (mC (.int 6))) (cP (mC (.int 9)))) aH)))) (mC (.int 0)))) (bx (Dy (aj (mC (.int 1)) (aj (JI Aw (aq 1) (mC (.int 1))) (aj (JI Aw (aq 1) (mC (.int 2))) (aj (mC (.int 0)) (aj (mC (.int 1)) (aj (JI Aw (aq 1) (mC (.int 5))) (aj (mC (.int 0)) (aj (mC (.int 0)) (aj (mC (.int 1)) aH)))))))))) (Mk 1)) bV)
  (tU c_l_draws c_l_plain c_l_small c_l_turn E)))
def Ib:kI:=Az jh cR rH qg
def Bh (c_l_plain c_l_dot:kI):kI:=Fw 2 2 false fun E=>
  (bZ (aF c_l_plain E (aj (GC Gm [0,1] (iu (aj (mC (.int 3)) aH)) fU (aF c_l_dot E (aj (LK qu (aq 1) (cP (JI bJ (mC (.int 3)) (aq 0))) (cP (JI bD (JI bJ (mC (.int 3)) (aq 0)) (mC (.int 3))))) (aj (aq 2) aH)))) aH)))
def vO:kI:=Bh cR nF
def jx (c_l_plain c_l_cross c_l_dot:kI):kI:=Fw 2 6 false fun E=>
  (aV (bx (LK qu (aq 0) (cP (mC (.int 0))) (cP (mC (.int 3)))) (Mk 2))
  (aV (bx (LK qu (aq 0) (cP (mC (.int 3))) (cP (mC (.int 6)))) (Mk 3))
  (aV (bx (LK qu (aq 0) (cP (mC (.int 6))) (cP (mC (.int 9)))) (Mk 4))
  (aV (bx (Dy (aj (aF c_l_cross E (aj (aq 3) (aj (aq 4) aH))) (aj (aF c_l_cross E (aj (aq 4) (aj (aq 2) aH))) (aj (aF c_l_cross E (aj (aq 2) (aj (aq 3) aH))) aH)))) (Mk 5))
  (bZ (aF c_l_plain E (aj (GC Gm [1] (Gi (aq 5)) fU (aF c_l_dot E (aj (aq 0) (aj (aq 1) aH)))) aH)))))))
def jq:kI:=jx cR ju nF
def gq (c_is_closed c_is_on_curve c_l_threes c_l_sides:kI)(E:EY):MS:=
  (bZ (JI JV (aF c_is_closed E (aj (HN xq (aj (aq 0) aH)) aH)) (aq 2)))
def gK (c_is_closed c_is_on_curve c_l_threes c_l_sides:kI)(E:EY):MS:=
  (aV (fY (Ol (bG (JI JG (aF c_l_threes E (aj (aq 0) aH)) (Dy aH))) (Ol (bG (JI JV (JI Aw (aq 0) (mC (.int 5))) (JI Aw (aq 0) (mC (.int 0))))) (bG (JI JV (JI Aw (aq 0) (mC (.int 5))) (JI Aw (aq 0) (mC (.int 4))))))) (bZ (mC (.bl true))) bV)
  (gq c_is_closed c_is_on_curve c_l_threes c_l_sides E))
def eH (c_is_closed c_is_on_curve c_l_threes c_l_sides:kI):kI:=Fw 3 3 false fun E=>
  (aV (fY (Ol (bG (JI JG (aF c_is_on_curve E (aj (aq 1) (aj (JI Aw (aq 0) (mC (.int 5))) aH))) (aq 2))) (bG (JI JG (aF c_l_sides E (aj (aq 0) aH)) (aq 2)))) (bZ (mC (.bl false))) bV)
  (gK c_is_closed c_is_on_curve c_l_threes c_l_sides E))
def fj:kI:=eH kh cZ jR zJ
def gG (c_is_round c_line_about c_spot_about c_touching c_other_end c_other_by_edge c_l_plain c_l_cross c_l_led c_l_led_line:kI)(E:EY):MS:=
  (bZ (JI JV (JI Aw (aq 7) (mUn Vv (mC (.int 1)))) (aq 6)))
def iV (c_is_round c_line_about c_spot_about c_touching c_other_end c_other_by_edge c_l_plain c_l_cross c_l_led c_l_led_line:kI)(E:EY):MS:=
  (aV (bx (JI Mg (HN xq (aj (LK qu (aq 3) gR (cP (mC (.int 5)))) aH)) (Dy (aj (aq 5) aH))) (Mk 7))
  (aV (uf (Gi (aF c_other_by_edge E (aj (LK qu (aq 3) gR (cP (mC (.int 5)))) (aj (aq 5) aH)))) (lE 3 (cL (Mk 8) (cL (Mk 9) (cL (Mk 10) Gq)))) (gY (wg cI (aq 7) (aj (aF c_l_plain E (aj (aF c_l_cross E (aj (JI Aw (aq 7) (aq 9)) (aj (JI Aw (aq 7) (aq 10)) aH))) aH)) aH))))
  (gG c_is_round c_line_about c_spot_about c_touching c_other_end c_other_by_edge c_l_plain c_l_cross c_l_led c_l_led_line E)))
def iJ (c_is_round c_line_about c_spot_about c_touching c_other_end c_other_by_edge c_l_plain c_l_cross c_l_led c_l_led_line:kI)(E:EY):MS:=
  (aV (bx (aF c_l_plain E (aj (aF c_l_cross E (aj (JI Aw (aq 3) (mC (.int 4))) (aj (JI Aw (aq 3) (mC (.int 5))) aH))) aH)) (Mk 5))
  (aV (bx (aF c_other_end E (aj (aq 1) (aj (JI Aw (aq 3) (mC (.int 4))) (aj (aq 5) aH)))) (Mk 6))
  (aV (fY (bG (JI JG (aF c_other_end E (aj (aq 2) (aj (JI Aw (aq 4) (mC (.int 4))) (aj (aF c_l_led_line E (aj (aq 0) (aj (aq 5) aH))) aH)))) (aF c_l_led E (aj (aq 0) (aj (aq 6) aH))))) (bZ (mC (.bl false))) bV)
  (iV c_is_round c_line_about c_spot_about c_touching c_other_end c_other_by_edge c_l_plain c_l_cross c_l_led c_l_led_line E))))
def iR (c_is_round c_line_about c_spot_about c_touching c_other_end c_other_by_edge c_l_plain c_l_cross c_l_led c_l_led_line:kI)(E:EY):MS:=
  (aV (fY (bG (JI JV (JI Aw (aq 3) (mC (.int 5))) (JI Aw (aq 3) (mC (.int 4))))) (bZ (mC (.bl true))) bV)
  (iJ c_is_round c_line_about c_spot_about c_touching c_other_end c_other_by_edge c_l_plain c_l_cross c_l_led c_l_led_line E))
def iH (c_is_round c_line_about c_spot_about c_touching c_other_end c_other_by_edge c_l_plain c_l_cross c_l_led c_l_led_line:kI)(E:EY):MS:=
  (aV (fY (bG (JI JG (aF c_touching E (aj (aq 2) (aj (JI Aw (aq 4) (mC (.int 4))) aH))) (aF c_l_led_line E (aj (aq 0) (aj (aF c_touching E (aj (aq 1) (aj (JI Aw (aq 3) (mC (.int 4))) aH))) aH))))) (bZ (mC (.bl false))) bV)
  (iR c_is_round c_line_about c_spot_about c_touching c_other_end c_other_by_edge c_l_plain c_l_cross c_l_led c_l_led_line E))
def iW (c_is_round c_line_about c_spot_about c_touching c_other_end c_other_by_edge c_l_plain c_l_cross c_l_led c_l_led_line:kI)(E:EY):MS:=
  (aV (fY (bG (JI JG (aF c_spot_about E (aj (aq 2) (aj (aF c_l_led_line E (aj (aq 0) (aj (aq 5) aH))) aH))) (JI Aw (aq 4) (mC (.int 5))))) (bZ (mC (.bl false))) bV)
  (iH c_is_round c_line_about c_spot_about c_touching c_other_end c_other_by_edge c_l_plain c_l_cross c_l_led c_l_led_line E))
def iI (c_is_round c_line_about c_spot_about c_touching c_other_end c_other_by_edge c_l_plain c_l_cross c_l_led c_l_led_line:kI)(E:EY):MS:=
  (aV (bx (aF c_line_about E (aj (aq 1) (aj (JI Aw (aq 3) (mC (.int 5))) aH))) (Mk 5))
  (aV (fY (bG (JI JG (aF c_line_about E (aj (aq 2) (aj (JI Aw (aq 4) (mC (.int 5))) aH))) (aF c_l_led_line E (aj (aq 0) (aj (aq 5) aH))))) (bZ (mC (.bl false))) bV)
  (iW c_is_round c_line_about c_spot_about c_touching c_other_end c_other_by_edge c_l_plain c_l_cross c_l_led c_l_led_line E)))
def fM (c_is_round c_line_about c_spot_about c_touching c_other_end c_other_by_edge c_l_plain c_l_cross c_l_led c_l_led_line:kI):kI:=Fw 5 11 true fun E=>
  (aV (fY (Gp (wQ (aF c_is_round E (aj (aq 1) aH)))) (bZ (Tg (aF c_is_round E (aj (aq 2) aH)))) bV)
  (iI c_is_round c_line_about c_spot_about c_touching c_other_end c_other_by_edge c_l_plain c_l_cross c_l_led c_l_led_line E))
def fQ:kI:=fM jQ fJ jj uZ lK eY cR ju vO jq
def Jz (c_is_on_curve c_through c_carried c_l_five c_l_sixth c_l_map c_l_led c_l_sixth_right c_l_ends_right:kI)(E:EY):MS:=
  (bZ (aF c_l_ends_right E (aj (aq 4) (aj (aq 2) (aj (aq 6) (aj (aq 1) (aj (aq 5) aH)))))))
def Ke (c_is_on_curve c_through c_carried c_l_five c_l_sixth c_l_map c_l_led c_l_sixth_right c_l_ends_right:kI)(E:EY):MS:=
  (aV (bx (aF c_l_map E (aj (aq 0) aH)) (Mk 4))
  (aV (bx (GC Gm [4] (Gi (aq 1)) fU (aF c_l_led E (aj (aq 1) (aj (aq 0) aH)))) (Mk 5))
  (aV (bx (aF c_through E (aj (LK qu (aq 5) gR (cP (mC (.int 5)))) aH)) (Mk 6))
  (aV (fY (Ol (bG (JI JG (aq 6) (aF c_carried E (aj (aq 4) (aj (aq 2) aH))))) (Gp (wQ (aF c_l_sixth_right E (aj (aq 5) (aj (aq 6) (aj (aq 3) aH))))))) (bZ (mC (.bl false))) bV)
  (Jz c_is_on_curve c_through c_carried c_l_five c_l_sixth c_l_map c_l_led c_l_sixth_right c_l_ends_right E)))))
def QL (c_is_on_curve c_through c_carried c_l_five c_l_sixth c_l_map c_l_led c_l_sixth_right c_l_ends_right:kI):kI:=Fw 1 7 false fun E=>
  (aV (bx (aF c_l_five E (aj (aq 0) aH)) (Mk 1))
  (aV (bx (aF c_through E (aj (HN xq (aj (aq 1) aH)) aH)) (Mk 2))
  (aV (gY (wg cI (aq 1) (aj (aF c_l_sixth E (aj (aq 0) (aj (aq 1) (aj (aq 2) aH)))) aH)))
  (aV (bx (aF c_is_on_curve E (aj (aq 2) (aj (JI Aw (aq 1) (mC (.int 5))) aH))) (Mk 3))
  (aV (fY (Ol (Gp (wQ (HN Zw (aj (aq 3) (aj (mC (.ty "bool")) aH))))) (Gp (wQ (aF c_l_sixth_right E (aj (aq 1) (aj (aq 2) (aj (aq 3) aH))))))) (bZ (mC (.bl false))) bV)
  (Ke c_is_on_curve c_through c_carried c_l_five c_l_sixth c_l_map c_l_led c_l_sixth_right c_l_ends_right E))))))
def T5:kI:=QL cZ rB sG Df zN Ib vO fj fQ
def zl:List Str:=["abs", "all", "any", "bool", "isinstance", "len", "list", "max", "range", "reversed", "set", "sum", "tuple", "zip"]
structure Ad where
structure Txt (P:Fb) (w:FZ) (K:Ai) (mg:Str->Option Go) (base:Heap) (t:Ad):Prop where
 f0:At K mg "divisor_of_two" (top 11) ["one", "other"]
 f1:At K mg "divisor" (top 12) ["numbers"]
 f2:At K mg "ends_below" (top 13) ["numbers"]
 f3:At K mg "plain" (top 14) ["numbers"]
 f4:At K mg "dot" (top 16) ["one", "other"]
 f5:At K mg "cross" (top 17) ["one", "other"]
 f6:At K mg "turn" (top 18) ["one", "other", "third"]
 f7:At K mg "lies_on" (top 19) ["spot", "line"]
 f8:At K mg "share_one" (top 20) ["rows"]
 f9:At K mg "on_line" (top 21) ["spots"]
 f10:At K mg "plain_cross" (top 22) ["one", "other"]
 f11:At K mg "join" (top 23) ["one", "other"]
 f12:At K mg "meet" (top 24) ["one", "other"]
 f13:At K mg "rising" (top 26) ["many", "size"]
 f14:At K mg "picked" (top 27) ["things", "places"]
 f15:At K mg "has_alike" (top 28) ["things"]
 f16:At K mg "has_on_line" (top 29) ["spots", "size"]
 f17:At K mg "check_five" (top 31) ["spots"]
 f18:At K mg "crossings" (top 32) ["road"]
 f19:At K mg "is_closed" (top 33) ["road"]
 f20:At K mg "rows_of" (top 36) ["table"]
 f21:At K mg "size_of" (top 37) ["numbers"]
 f22:At K mg "table_times_row" (top 38) ["table", "row"]
 f23:At K mg "flipped" (top 39) ["table"]
 f24:At K mg "table_times_table" (top 40) ["one", "other"]
 f25:At K mg "turned" (top 41) ["table"]
 f26:At K mg "back" (top 42) ["by"]
 f27:At K mg "tiles" (top 43) []
 f28:At K mg "worth" (top 45) ["curve", "spot"]
 f29:At K mg "is_on_curve" (top 46) ["curve", "spot"]
 f30:At K mg "together" (top 47) ["line", "other"]
 f31:At K mg "table_of" (top 48) ["curve"]
 f32:At K mg "both_sides" (top 49) ["table", "one", "other"]
 f33:At K mg "is_round" (top 50) ["curve"]
 f34:At K mg "mixed" (top 51) ["spots"]
 f35:At K mg "through" (top 52) ["spots"]
 f36:At K mg "carried" (top 53) ["by", "curve"]
 f37:At K mg "plain_or_none" (top 55) ["numbers"]
 f38:At K mg "line_about" (top 56) ["curve", "spot"]
 f39:At K mg "spot_about" (top 57) ["curve", "line"]
 f40:At K mg "touching" (top 58) ["curve", "spot"]
 f41:At K mg "another_spot" (top 59) ["line", "spot"]
 f42:At K mg "other_end" (top 60) ["curve", "spot", "line"]
 f43:At K mg "other_by_edge" (top 63) ["spots", "line"]
 f44:At K mg "_law_cell" (top 65) ["_law_script", "_law_k"]
 f45:At K mg "_law_draws" (top 66) ["_law_script", "_law_k", "_law_many"]
 f46:At K mg "_law_plain" (top 67) ["_law_row"]
 f47:At K mg "_law_small" (top 68) ["_law_x"]
 f48:At K mg "_law_made" (top 69) ["_law_numbers"]
 f49:At K mg "_law_cross" (top 70) ["_law_one", "_law_other"]
 f50:At K mg "_law_dot" (top 71) ["_law_one", "_law_other"]
 f51:At K mg "_law_worth" (top 72) ["_law_curve", "_law_spot"]
 f52:At K mg "_law_sums" (top 73) ["_law_curve", "_law_spot"]
 f53:At K mg "_law_turn" (top 74) ["_law_one", "_law_other", "_law_third"]
 f54:At K mg "_law_threes" (top 75) ["_law_spots"]
 f55:At K mg "_law_five" (top 76) ["_law_script"]
 f56:At K mg "_law_sixth" (top 77) ["_law_script", "_law_spots", "_law_curve"]
 f57:At K mg "_law_sides" (top 78) ["_law_spots"]
 f58:At K mg "_law_map" (top 79) ["_law_script"]
 f59:At K mg "_law_led" (top 80) ["_law_by", "_law_spot"]
 f60:At K mg "_law_led_line" (top 81) ["_law_by", "_law_line"]
 f61:At K mg "_law_sixth_right" (top 82) ["_law_spots", "_law_curve", "_law_due"]
 f62:At K mg "_law_ends_right" (top 83) ["_law_by", "_law_curve", "_law_far", "_law_spots", "_law_others"]
 z:∀ n∈zl,mg n=FX
 c_TILES:∃ a,mg "TILES" = Dn (.ref a)/\∀ H μ,Ab K H μ qQ (.ref a)
 c_OTHER_STEPS:∃ a,mg "OTHER_STEPS" = Dn (.ref a)/\∀ H μ,Ab K H μ cX (.ref a)
section
variable {P:Fb}{w:FZ}{K:Ai}{mg:Str->Option Go}{base:Heap}{t:Ad}(T:Txt P w K mg base t)
include T
theorem nP:Fk P w K mg base 10 "divisor_of_two" iT:=by
 refine fk (k:=9) ["one", "other", "rest"] T.f0 T.z ?_;intro _ _ _ _ _ _ _ hr nd hc z;refine au (Fj 0<|Lg zX boot_abs<|a1<|vV 0) ?_;refine au (Fj 1<|Lg zX boot_abs<|a1<|vV 1) ?_;refine au (Ek Ng (HY (zO qq) (vV 1) aA)<|au (Fj 2<|aQ gQ (vV 0)<|vV 1)<|au (Fj 0<|vV 1)<|aB<|Fj 1<|vV 2) ?_;exact aB<|aJ<|vV 0
theorem aee:Fk P w K mg base 11 "divisor" xQ:=by
 refine fk (k:=10) ["numbers", "found", "number"] T.f1 T.z ?_;intro _ _ _ _ _ _ _ hr nd hc z;refine au (Fj 1 aA) ?_;refine au (gw Ng hh (bW<|vV 0) (Hx 2)<|aB<|Fj 1<|Bu (nP T)<|a2 (vV 2)<|vV 1) ?_;exact aB<|aJ<|vV 1
theorem vK:Fk P w K mg base 10 "ends_below" oH:=by
 refine fk (k:=9) ["numbers", "number"] T.f2 T.z ?_;intro _ _ _ _ _ _ _ hr nd hc z;refine au (gw Ng hh (ahG (by rfl) (by exact T.z _ (by decide)) (a1<|vV 0) (bO<|by rfl)<|dz<|by rfl) (Hx 1)<|aB<|cB (HY (zO qq) (vV 1) aA) (aB<|aJ<|Oo Yd (vV 1) aA) aW) ?_;exact aB<|aJ Kl
theorem jM:Fk P w K mg base 12 "plain" jk:=by
 refine fk (k:=11) ["numbers", "factor"] T.f3 T.z ?_;intro _ _ _ _ _ _ _ hr nd hc z;refine au (Fj 1<|Bu (aee T)<|a1<|vV 0) ?_;refine au (cB (HY (ug qq) (vV 1) aA) (aB cT) aW) ?_;refine au (cB (dR<|Bu (vK T)<|a1<|vV 0) (aB<|Fj 1<|Oj<|vV 1) aW) ?_;exact aB<|aJ<|dct Ih boot_tuple<|a1<|Lr [1] (bW<|vV 0)<|fun _ _ _ _=>(aQ wF (vV 0)<|vV 1)
theorem jX:Fk P w K mg base 10 "dot" zG:=by
 refine fk (k:=9) ["one", "other"] T.f4 T.z ?_;intro _ _ _ _ _ _ _ hr nd hc z;exact aB<|aJ<|aQ bf (aQ bf (aQ aP (Bs (vV 0) aA)<|Bs (vV 1) aA)<|aQ aP (Bs (vV 0) aA)<|Bs (vV 1) aA)<|aQ aP (Bs (vV 0) aA)<|Bs (vV 1) aA
theorem dB:Fk P w K mg base 10 "cross" m9:=by
 refine fk (k:=9) ["one", "other"] T.f5 T.z ?_;intro _ _ _ _ _ _ _ hr nd hc z;exact aB<|aJ<|lF<|a3 (aQ jw (aQ aP (Bs (vV 0) aA)<|Bs (vV 1) aA)<|aQ aP (Bs (vV 0) aA)<|Bs (vV 1) aA) (aQ jw (aQ aP (Bs (vV 0) aA)<|Bs (vV 1) aA)<|aQ aP (Bs (vV 0) aA)<|Bs (vV 1) aA)<|aQ jw (aQ aP (Bs (vV 0) aA)<|Bs (vV 1) aA)<|aQ aP (Bs (vV 0) aA)<|Bs (vV 1) aA
theorem agD:Fk P w K mg base 11 "turn" QB:=by
 refine fk (k:=10) ["one", "other", "third"] T.f6 T.z ?_;intro _ _ _ _ _ _ _ hr nd hc z;exact aB<|aJ<|Bu (jX T)<|a2 (Bu (dB T)<|a2 (vV 0)<|vV 1)<|vV 2
theorem uP:Fk P w K mg base 11 "lies_on" qG:=by
 refine fk (k:=10) ["spot", "line"] T.f7 T.z ?_;intro _ _ _ _ _ _ _ hr nd hc z;exact aB<|aJ<|Oo (ug qq) (Bu (jX T)<|a2 (vV 0)<|vV 1) aA
theorem wR:Fk P w K mg base 11 "share_one" lG:=by
 refine fk (k:=10) ["rows", "unlike", "shared"] T.f8 T.z ?_;intro _ _ _ _ _ _ _ hr nd hc z;refine au (Jc [0] (i:=1) (by assumption) (by rfl) (by exact Or.inl rfl) hh (cM<|by rfl) FT (Ey<|cM<|by rfl) (bW<|vV 0) (fun _ _ _ _=>(rN<|HY (zO qq) (vV 0)<|Bs (vV 1) aA))<|fun _ _ _ _=>(vV 0)) ?_;refine au (cB (jW<|dR<|vV 1) (aB<|aJ Kl) aW) ?_;refine au (Fj 2<|Bu (dB T)<|a2 (Bs (vV 0) aA)<|Bs (vV 1) aA) ?_;exact aB<|aJ<|Lg (abM hh) boot_all<|a1<|Lr [2] (bW<|vV 1)<|fun _ _ _ _=>(Oo (ug qq) (Bu (jX T)<|a2 (vV 1)<|vV 0) aA)
theorem u0:Fk P w K mg base 12 "on_line" mj:=by
 refine fk (k:=11) ["spots"] T.f9 T.z ?_;intro _ _ _ _ _ _ _ hr nd hc z;exact aB<|aJ<|Bu (wR T)<|a1<|vV 0
theorem j7:Fk P w K mg base 13 "plain_cross" gP:=by
 refine fk (k:=12) ["one", "other"] T.f10 T.z ?_;intro _ _ _ _ _ _ _ hr nd hc z;refine au (cB (HY (ug qq) (vV 0)<|vV 1) (aB cT) aW) ?_;exact aB<|aJ<|Bu (jM T)<|a1<|Bu (dB T)<|a2 (vV 0)<|vV 1
theorem ahI:Fk P w K mg base 14 "join" O5:=by
 refine fk (k:=13) ["one", "other"] T.f11 T.z ?_;intro _ _ _ _ _ _ _ hr nd hc z;exact aB<|aJ<|Bu (j7 T)<|a2 (vV 0)<|vV 1
theorem JM:Fk P w K mg base 14 "meet" G7:=by
 refine fk (k:=13) ["one", "other"] T.f12 T.z ?_;intro _ _ _ _ _ _ _ hr nd hc z;exact aB<|aJ<|Bu (j7 T)<|a2 (vV 0)<|vV 1
theorem zaX:Fk P w K mg base 10 "rising" BP:=by
 refine fk (k:=9) ["many", "size", "found", "taken", "longer", "places", "first"] T.f13 T.z ?_;intro _ _ _ _ _ _ _ hr nd hc z;refine au ?_ ?_
 ·with_reducible exact Fj 2 (ux (a1 (lF mL)))
 refine au (gw Ng hh (Om<|a1<|vV 1) (Hx 3)<|au (Fj 4<|qK mL)<|au (gw Ng hh (bW<|vV 2) (Hx 5)<|au (Fj 6<|acH (HY Vx (vV 3) aA) (aQ bf (Bs (vV 5)<|aQ jw (vV 3) aA) aA) aA)<|aB<|eE<|Dk (vV 4) (a1<|Lr [5] (zay (by rfl) (by exact T.z _ (by decide))<|a2 (vV 6)<|vV 0)<|fun _ _ _ _=>(aQ bf (vV 1)<|lF<|a1<|vV 0)) (by rfl) (uy<|by rfl) (by rfl) (bO<|by rfl)<|by rfl)<|aB<|Fj 2<|vV 4) ?_;exact aB<|aJ<|vV 2
theorem zaV:Fk P w K mg base 10 "picked" Cm:=by
 refine fk (k:=9) ["things", "places"] T.f14 T.z ?_;intro _ _ _ _ _ _ _ hr nd hc z;exact aB<|aJ<|Lr [0] (bW<|vV 1)<|fun _ _ _ _=>(Bs (vV 1)<|vV 0)
theorem zA:Fk P w K mg base 10 "has_alike" rE:=by
 refine fk (k:=9) ["things"] T.f15 T.z ?_;intro _ _ _ _ _ _ _ hr nd hc z;exact aB<|aJ<|Oo Yd (zaU hh qq (by rfl) (by exact T.z _ (by decide)) (by rfl) (by exact T.z _ (by decide)) (vV 0) (bO<|by rfl)<|bO<|by rfl)<|Lg Oc Uh<|a1<|vV 0
theorem j6:Fk P w K mg base 13 "has_on_line" iB:=by
 refine fk (k:=12) ["spots", "size"] T.f16 T.z ?_;intro _ _ _ _ _ _ _ hr nd hc z;exact aB<|aJ<|Lg (W9 hh) boot_any<|a1<|Lr [0] (bW<|Bu (zaX T)<|a2 (Lg Oc Uh<|a1<|vV 0)<|vV 1)<|fun _ _ _ _=>(Bu (u0 T)<|a1<|Bu (zaV T)<|a2 (vV 1)<|vV 0)
theorem lX:Fk P w K mg base 14 "check_five" fL:=by
 refine fk (k:=13) ["spots"] T.f17 T.z ?_;intro _ _ _ _ _ _ _ hr nd hc z;exact aB<|cB (dR<|Bu (j6 T)<|a2 (vV 0) aA) (aB cT) aW
theorem zB:Fk P w K mg base 15 "crossings" sI:=by
 refine fk (k:=14) ["road", "sides"] T.f18 T.z ?_;intro _ _ _ _ _ _ _ hr nd hc z;refine au (eE<|Bu (lX T)<|a1<|jy (vV 0) oh<|bA aA) ?_;refine au (cB (vZ (HY (ug qq) (Bs (vV 0) aA)<|Bs (vV 0) aA)<|oG<|HY (ug qq) (Bs (vV 0) aA)<|Bs (vV 0) aA).pt (aB cT) aW) ?_;refine au (Fj 1<|Lr [0] (Om<|a1 aA)<|fun _ _ _ _=>(Bu (ahI T)<|a2 (Bs (vV 1)<|vV 0)<|Bs (vV 1)<|aQ gQ (aQ bf (vV 0) aA) aA)) ?_;exact aB<|aJ<|Lr [1] (Om<|a1 aA)<|fun _ _ _ _=>(Bu (JM T)<|a2 (Bs (vV 1)<|vV 0)<|Bs (vV 1)<|aQ bf (vV 0) aA)
theorem yQ:Fk P w K mg base 16 "is_closed" kh:=by
 refine fk (k:=15) ["road"] T.f19 T.z ?_;intro _ _ _ _ _ _ _ hr nd hc z;exact aB<|aJ<|Bu (u0 T)<|a1<|Bu (zB T)<|a1<|vV 0
theorem gk:Fk P w K mg base 10 "rows_of" jB:=by
 refine fk (k:=9) ["table"] T.f20 T.z ?_;intro _ _ _ _ _ _ _ hr nd hc z;exact aB<|aJ<|ux<|a3 (jy (vV 0) (bA aA)<|bA aA) (jy (vV 0) (bA aA)<|bA aA)<|jy (vV 0) (bA aA)<|bA aA
theorem zan:Fk P w K mg base 12 "size_of" zf:=by
 refine fk (k:=11) ["numbers", "rows"] T.f21 T.z ?_;intro _ _ _ _ _ _ _ hr nd hc z;refine au (Fj 1<|Bu (gk T)<|a1<|vV 0) ?_;exact aB<|aJ<|Bu (agD T)<|a3 (Bs (vV 1) aA) (Bs (vV 1) aA)<|Bs (vV 1) aA
theorem c7:Fk P w K mg base 11 "table_times_row" bY:=by
 refine fk (k:=10) ["table", "row"] T.f22 T.z ?_;intro _ _ _ _ _ _ _ hr nd hc z;exact aB<|aJ<|Lr [1] (bW<|Bu (gk T)<|a1<|vV 0)<|fun _ _ _ _=>(Bu (jX T)<|a2 (vV 0)<|vV 1)
theorem nY:Fk P w K mg base 10 "flipped" mU:=by
 refine fk (k:=9) ["table"] T.f23 T.z ?_;intro _ _ _ _ _ _ _ hr nd hc z;exact aB<|aJ<|Lr [0] (Om<|a1 aA)<|fun _ _ _ _=>(Bs (vV 1)<|aQ bf (aQ aP aA<|aQ gQ (vV 0) aA)<|aQ wF (vV 0) aA)
theorem dU:Fk P w K mg base 11 "table_times_table" eV:=by
 refine fk (k:=10) ["one", "other", "columns", "numbers", "row"] T.f24 T.z ?_;intro _ _ _ _ _ _ _ hr nd hc z;refine au (Fj 2<|Bu (gk T)<|a1<|Bu (nY T)<|a1<|vV 1) ?_;refine au (Fj 3<|qK mL) ?_;refine au (gw Ng hh (bW<|Bu (gk T)<|a1<|vV 0) (Hx 4)<|aB<|eE<|Dk (vV 3) (a1<|Lr [4] (bW<|vV 2)<|fun _ _ _ _=>(Bu (jX T)<|a2 (vV 1)<|vV 0)) (by rfl) (uy<|by rfl) (by rfl) (bO<|by rfl)<|by rfl) ?_;exact aB<|aJ<|vV 3
theorem yt:Fk P w K mg base 11 "turned" ql:=by
 refine fk (k:=10) ["table", "rows"] T.f25 T.z ?_;intro _ _ _ _ _ _ _ hr nd hc z;refine au (Fj 1<|Bu (gk T)<|a1<|vV 0) ?_;exact aB<|aJ<|aQ bf (aQ bf (Bu (dB T)<|a2 (Bs (vV 1) aA)<|Bs (vV 1) aA)<|Bu (dB T)<|a2 (Bs (vV 1) aA)<|Bs (vV 1) aA)<|Bu (dB T)<|a2 (Bs (vV 1) aA)<|Bs (vV 1) aA
theorem agt:Fk P w K mg base 13 "back" Qs:=by
 refine fk (k:=12) ["by"] T.f26 T.z ?_;intro _ _ _ _ _ _ _ hr nd hc z;exact aB<|aJ<|Bu (jM T)<|a1<|Bu (nY T)<|a1<|Bu (yt T)<|a1<|vV 0
theorem aeC:Fk P w K mg base 10 "tiles" Jm:=by
 refine fk (k:=9) [] T.f27 T.z ?_;intro _ _ _ _ _ _ _ hr nd hc z;obtain ⟨a_TILES,g_TILES,r_TILES⟩:=T.c_TILES;exact aB<|aJ<|dct yZ boot_list<|a1<|dc (v:=.ref a_TILES) (KC (by rfl) g_TILES<|by rfl) r_TILES
theorem zbs:Fk P w K mg base 10 "worth" HJ:=by
 refine fk (k:=9) ["curve", "spot", "x", "y", "z", "squares"] T.f28 T.z ?_;intro _ _ _ _ _ _ _ hr nd hc z;refine au (Fj 2<|Bs (vV 1) aA) ?_;refine au (Fj 3<|Bs (vV 1) aA) ?_;refine au (Fj 4<|Bs (vV 1) aA) ?_;refine au (Fj 5<|aQ bf (aQ bf (aQ aP (aQ aP (Bs (vV 0) aA)<|vV 2)<|vV 2)<|aQ aP (aQ aP (Bs (vV 0) aA)<|vV 3)<|vV 3)<|aQ aP (aQ aP (Bs (vV 0) aA)<|vV 4)<|vV 4) ?_;exact aB<|aJ<|aQ bf (aQ bf (aQ bf (vV 5)<|aQ aP (aQ aP (Bs (vV 0) aA)<|vV 2)<|vV 3)<|aQ aP (aQ aP (Bs (vV 0) aA)<|vV 2)<|vV 4)<|aQ aP (aQ aP (Bs (vV 0) aA)<|vV 3)<|vV 4
theorem dD:Fk P w K mg base 11 "is_on_curve" cZ:=by
 refine fk (k:=10) ["curve", "spot"] T.f29 T.z ?_;intro _ _ _ _ _ _ _ hr nd hc z;exact aB<|aJ<|Oo (ug qq) (Bu (zbs T)<|a2 (vV 0)<|vV 1) aA
theorem qP:Fk P w K mg base 10 "together" uH:=by
 refine fk (k:=9) ["line", "other"] T.f30 T.z ?_;intro _ _ _ _ _ _ _ hr nd hc z;exact aB<|aJ<|lF<|aC (aQ aP (Bs (vV 0) aA)<|Bs (vV 1) aA)<|aC (aQ bf (aQ aP (Bs (vV 0) aA)<|Bs (vV 1) aA)<|aQ aP (Bs (vV 0) aA)<|Bs (vV 1) aA)<|aC (aQ aP (Bs (vV 0) aA)<|Bs (vV 1) aA)<|a3 (aQ bf (aQ aP (Bs (vV 0) aA)<|Bs (vV 1) aA)<|aQ aP (Bs (vV 0) aA)<|Bs (vV 1) aA) (aQ bf (aQ aP (Bs (vV 0) aA)<|Bs (vV 1) aA)<|aQ aP (Bs (vV 0) aA)<|Bs (vV 1) aA)<|aQ aP (Bs (vV 0) aA)<|Bs (vV 1) aA
theorem eX:Fk P w K mg base 10 "table_of" d7:=by
 refine fk (k:=9) ["curve"] T.f31 T.z ?_;intro _ _ _ _ _ _ _ hr nd hc z;exact aB<|aJ<|lF<|aC (aQ aP aA<|Bs (vV 0) aA)<|aC (Bs (vV 0) aA)<|aC (Bs (vV 0) aA)<|aC (Bs (vV 0) aA)<|aC (aQ aP aA<|Bs (vV 0) aA)<|aC (Bs (vV 0) aA)<|a3 (Bs (vV 0) aA) (Bs (vV 0) aA)<|aQ aP aA<|Bs (vV 0) aA
theorem mD:Fk P w K mg base 12 "both_sides" jg:=by
 refine fk (k:=11) ["table", "one", "other"] T.f32 T.z ?_;intro _ _ _ _ _ _ _ hr nd hc z;exact aB<|aJ<|Bu (jX T)<|a2 (vV 1)<|Bu (c7 T)<|a2 (vV 0)<|vV 2
theorem lg:Fk P w K mg base 13 "is_round" jQ:=by
 refine fk (k:=12) ["curve"] T.f33 T.z ?_;intro _ _ _ _ _ _ _ hr nd hc z;exact aB<|aJ<|Oo (zO qq) (Bu (zan T)<|a1<|Bu (eX T)<|a1<|vV 0) aA
theorem aeP:Fk P w K mg base 11 "mixed" Ji:=by
 refine fk (k:=10) ["spots", "first", "second", "third", "last", "more", "less"] T.f34 T.z ?_;intro _ _ _ _ _ _ _ hr nd hc z;refine au (Fj 1<|Bu (dB T)<|a2 (Bs (vV 0) aA)<|Bs (vV 0) aA) ?_;refine au (Fj 2<|Bu (dB T)<|a2 (Bs (vV 0) aA)<|Bs (vV 0) aA) ?_;refine au (Fj 3<|Bu (dB T)<|a2 (Bs (vV 0) aA)<|Bs (vV 0) aA) ?_;refine au (Fj 4<|Bu (dB T)<|a2 (Bs (vV 0) aA)<|Bs (vV 0) aA) ?_;refine au (Fj 5<|aQ aP (Bu (jX T)<|a2 (vV 1)<|Bs (vV 0) aA)<|Bu (jX T)<|a2 (vV 2)<|Bs (vV 0) aA) ?_;refine au (Fj 6<|aQ aP (Bu (jX T)<|a2 (vV 3)<|Bs (vV 0) aA)<|Bu (jX T)<|a2 (vV 4)<|Bs (vV 0) aA) ?_;exact aB<|aJ<|W7 [5,6] hh (cM<|by rfl) GD (Hv hh<|cM<|by rfl) (xM (by rfl) (by exact T.z _ (by decide)) (a2 (Bu (qP T)<|a2 (vV 3)<|vV 4)<|Bu (qP T)<|a2 (vV 1)<|vV 2) (bO<|by rfl)<|dz<|by rfl) (fun _ _ _ _=>iy)<|fun _ _ _ _=>(aQ jw (aQ aP (vV 2)<|vV 0)<|aQ aP (vV 3)<|vV 1)
theorem uM:Fk P w K mg base 14 "through" rB:=by
 refine fk (k:=13) ["spots"] T.f35 T.z ?_;intro _ _ _ _ _ _ _ hr nd hc z;refine au (cB (dR<|Bu (zA T)<|a1<|vV 0) (aB cT) aW) ?_;refine au (cB (dR<|Bu (j6 T)<|a2 (vV 0) aA) (aB cT) aW) ?_;exact aB<|aJ<|Bu (jM T)<|a1<|Bu (aeP T)<|a1<|vV 0
theorem aem:Fk P w K mg base 14 "carried" sG:=by
 refine fk (k:=13) ["by", "curve", "behind", "table"] T.f36 T.z ?_;intro _ _ _ _ _ _ _ hr nd hc z;refine au (Fj 2<|Bu (agt T)<|a1<|vV 0) ?_;refine au (Fj 3<|Bu (dU T)<|a2 (Bu (nY T)<|a1<|vV 2)<|Bu (dU T)<|a2 (Bu (eX T)<|a1<|vV 1)<|vV 2) ?_;exact aB<|aJ<|Bu (jM T)<|a1<|ux<|aC (Bs (vV 3) aA)<|aC (aQ aP aA<|Bs (vV 3) aA)<|aC (Bs (vV 3) aA)<|a3 (aQ aP aA<|Bs (vV 3) aA) (aQ aP aA<|Bs (vV 3) aA)<|Bs (vV 3) aA
theorem iU:Fk P w K mg base 13 "plain_or_none" fu:=by
 refine fk (k:=12) ["numbers"] T.f37 T.z ?_;intro _ _ _ _ _ _ _ hr nd hc z;exact aB<|aJ<|acH (dR<|Lg (W9 hh) boot_any<|a1<|Lr [] (bW<|vV 0)<|fun _ _ _ _=>(Oo (zO qq) (vV 0) aA)) (Bu (jM T)<|a1<|vV 0) QW
theorem gM:Fk P w K mg base 14 "line_about" fJ:=by
 refine fk (k:=13) ["curve", "spot", "line"] T.f38 T.z ?_;intro _ _ _ _ _ _ _ hr nd hc z;refine au (Fj 2<|Bu (iU T)<|a1<|Bu (c7 T)<|a2 (Bu (eX T)<|a1<|vV 0)<|vV 1) ?_;refine au (cB (HY acA (vV 2) QW) (aB cT) aW) ?_;exact aB<|aJ<|vV 2
theorem vg:Fk P w K mg base 14 "spot_about" jj:=by
 refine fk (k:=13) ["curve", "line"] T.f39 T.z ?_;intro _ _ _ _ _ _ _ hr nd hc z;refine au (cB (jW<|dR<|Bu (lg T)<|a1<|vV 0) (aB cT) aW) ?_;exact aB<|aJ<|Bu (jM T)<|a1<|Bu (c7 T)<|a2 (Bu (yt T)<|a1<|Bu (eX T)<|a1<|vV 0)<|vV 1
theorem tG:Fk P w K mg base 15 "touching" uZ:=by
 refine fk (k:=14) ["curve", "spot"] T.f40 T.z ?_;intro _ _ _ _ _ _ _ hr nd hc z;refine au (cB (jW<|dR<|Bu (dD T)<|a2 (vV 0)<|vV 1) (aB cT) aW) ?_;exact aB<|aJ<|Bu (gM T)<|a2 (vV 0)<|vV 1
theorem tR:Fk P w K mg base 15 "another_spot" jZ:=by
 refine fk (k:=14) ["line", "spot", "met"] T.f41 T.z ?_;intro _ _ _ _ _ _ _ hr nd hc z;refine au (Jc [0] (i:=2) (by assumption) (by rfl) (by exact Or.inl rfl) hh (cM<|by rfl) FT (Ey<|cM<|by rfl) (bW<|jy (dc0<|aeC T) oh<|bA aA) (fun _ _ _ _=>(rN<|HY (zO qq) (vV 0)<|vV 1))<|fun _ _ _ _=>(Bu (JM T)<|a2 (vV 1)<|vV 0)) ?_;exact aB<|aJ<|Bs (dl1 [1] (bW<|vV 2) (fun _ _ _ _=>(rN<|HY (zO qq) (vV 0)<|vV 1))<|fun _ _ _ _=>(vV 0)) aA
theorem oY:Fk P w K mg base 16 "other_end" lK:=by
 refine fk (k:=15) ["curve", "spot", "line", "table", "another", "own", "shared", "end"] T.f42 T.z ?_;intro _ _ _ _ _ _ _ hr nd hc z;refine au (cB (vZ (jW<|dR<|Bu (dD T)<|a2 (vV 0)<|vV 1)<|oG<|jW<|dR<|Bu (uP T)<|a2 (vV 1)<|vV 2).pt (aB cT) aW) ?_;refine au (Fj 3<|Bu (eX T)<|a1<|vV 0) ?_;refine au (Fj 4<|Bu (tR T)<|a2 (vV 2)<|vV 1) ?_;refine au (Fj 5<|Bu (mD T)<|a3 (vV 3) (vV 4)<|vV 4) ?_;refine au (Fj 6<|aQ aP aA<|Bu (mD T)<|a3 (vV 3) (vV 1)<|vV 4) ?_;refine au (Fj 7<|Bu (iU T)<|a1<|W7 [5,6] hh (cM<|by rfl) GD (Hv hh<|cM<|by rfl) (xM (by rfl) (by exact T.z _ (by decide)) (a2 (vV 1)<|vV 4) (bO<|by rfl)<|dz<|by rfl) (fun _ _ _ _=>iy)<|fun _ _ _ _=>(aQ jw (aQ aP (vV 2)<|vV 0)<|aQ aP (vV 3)<|vV 1)) ?_;refine au (cB (HY acA (vV 7) QW) (aB cT) aW) ?_;exact aB<|aJ<|vV 7
theorem pQ:Fk P w K mg base 15 "other_by_edge" eY:=by
 refine fk (k:=14) ["spots", "line"] T.f43 T.z ?_;intro _ _ _ _ _ _ _ hr nd hc z;obtain ⟨a_OTHER_STEPS,g_OTHER_STEPS,r_OTHER_STEPS⟩:=T.c_OTHER_STEPS;refine au (eE<|Bu (lX T)<|a1<|vV 0) ?_;refine au (cB (jW<|dR<|Bu (uP T)<|a2 (Bs (vV 0) aA)<|vV 1) (aB cT) aW) ?_;exact aB<|aJ<|dct yZ boot_list<|a1<|dc (v:=.ref a_OTHER_STEPS) (KC (by rfl) g_OTHER_STEPS<|by rfl) r_OTHER_STEPS
theorem yE:Fk P w K mg base 10 "_law_cell" vh:=by
 refine fk (k:=9) ["_law_script", "_law_k"] T.f44 T.z ?_;intro _ _ _ _ _ _ _ hr nd hc z;refine au (cB (HY Yd (vV 1)<|Lg Oc Uh<|a1<|vV 0) (aB<|aJ<|Bs (vV 0)<|vV 1) aW) ?_;exact aB<|aJ aA
theorem nC:Fk P w K mg base 11 "_law_draws" jh:=by
 refine fk (k:=10) ["_law_script", "_law_k", "_law_many", "_law_left", "_law_free", "_law_seed", "_law_found", "_law_j", "_law_near"] T.f45 T.z ?_;intro _ _ _ _ _ _ _ hr nd hc z;refine au (Fj 3<|Bu (yE T)<|a2 (vV 0)<|vV 1) ?_;refine au (Fj 4<|Oo Vx (WT<|vV 3)<|aQ aP aA<|vV 2) ?_;refine au (Fj 5<|aQ gQ (aQ bf (aQ bf (vV 3)<|aQ aP aA<|vV 1) aA) aA) ?_;refine au (Fj 6<|qK mL) ?_;refine au (gw Ng hh (Om<|a1<|vV 2) (Hx 7)<|aB<|cB (dR<|vV 4) (au (eE<|iz (vV 6) (a1<|aQ gQ (vV 3)<|aQ Ez aA aA) (by rfl) (uy<|by rfl) (by rfl) (bO<|by rfl)<|by rfl)<|aB<|Fj 3<|aQ wF (vV 3)<|aQ Ez aA aA)<|au (Fj 5<|aQ gQ (aQ bf (aQ bf (aQ aP (vV 5) aA) aA)<|aQ aP (vV 7)<|vV 7) aA)<|au (Fj 8<|aQ gQ (aQ aP (vV 5)<|aQ bf (aQ bf (aQ wF (vV 5) aA)<|vV 7) aA) aA)<|aB<|eE<|iz (vV 6) (a1<|aQ gQ (aQ aP (aQ aP (vV 8)<|aQ bf (vV 8) aA)<|aQ bf (vV 5) aA)<|aQ Ez aA aA) (by rfl) (uy<|by rfl) (by rfl) (bO<|by rfl)<|by rfl) ?_;exact aB<|aJ<|vV 6
theorem cJ:Fk P w K mg base 10 "_law_plain" cR:=by
 refine fk (k:=9) ["_law_row", "_law_by", "_law_number", "_law_other", "_law_rest"] T.f46 T.z ?_;intro _ _ _ _ _ _ _ hr nd hc z;refine au (Fj 1 aA) ?_;refine au (gw Ng hh (bW<|vV 0) (Hx 2)<|au (Fj 3<|Lg zX boot_abs<|a1<|vV 2)<|aB<|Ek Ng (HY Vx (vV 3) aA)<|au (Fj 4<|aQ gQ (vV 1)<|vV 3)<|au (Fj 1<|vV 3)<|aB<|Fj 3<|vV 4) ?_;refine au (cB (HY Yd (Bs (dl1 [] (bW<|vV 0) (fun _ _ _ _=>(rN<|HY (zO qq) (vV 0) aA))<|fun _ _ _ _=>(vV 0))<|Oj aA) aA) (aB<|Fj 1<|aQ jw aA<|vV 1) aW) ?_;exact aB<|aJ<|dct Ih boot_tuple<|a1<|Lr [1] (bW<|vV 0)<|fun _ _ _ _=>(aQ wF (vV 0)<|vV 1)
theorem uL:Fk P w K mg base 10 "_law_small" rH:=by
 refine fk (k:=9) ["_law_x"] T.f47 T.z ?_;intro _ _ _ _ _ _ _ hr nd hc z;exact aB<|aJ<|Bs (ux<|a3 (aQ jw (aQ gQ (aQ wF (vV 0) aA) aA) aA) (aQ jw (aQ gQ (aQ wF (vV 0) aA) aA) aA)<|aQ jw (aQ gQ (aQ wF (vV 0) aA)<|aQ aP aA<|aQ Ez aA aA)<|aQ Ez aA aA)<|aQ gQ (vV 0) aA
theorem yD:Fk P w K mg base 11 "_law_made" qw:=by
 refine fk (k:=10) ["_law_numbers", "_law_row"] T.f48 T.z ?_;intro _ _ _ _ _ _ _ hr nd hc z;refine au (Za [] (i:=1) (by assumption) (by rfl) (by exact Or.inl rfl) hh (cM<|by rfl) FT (Ey<|cM<|by rfl) (bW<|vV 0) (fun _ _ _ _=>iy)<|fun _ _ _ _=>(Bu (uL T)<|a1<|vV 0)) ?_;refine au (cB (HY (ug qq) (Lg (DP hh) boot_max<|a1<|Lr [] (bW<|vV 1)<|fun _ _ _ _=>(Lg zX boot_abs<|a1<|vV 0)) aA) (aB<|rQ aA<|ZS (vV 1) (Oj aA) set_list zbj) aW) ?_;exact aB<|aJ<|Bu (cJ T)<|a1<|vV 1
theorem cW:Fk P w K mg base 10 "_law_cross" ju:=by
 refine fk (k:=9) ["_law_one", "_law_other", "_law_a", "_law_b", "_law_c", "_law_d", "_law_e", "_law_f"] T.f49 T.z ?_;intro _ _ _ _ _ _ _ hr nd hc z;refine au (rQ (vV 0)<|jF hh<|aX (Hx 2)<|aX (Hx 3)<|aX (Hx 4) jm) ?_;refine au (rQ (vV 1)<|jF hh<|aX (Hx 5)<|aX (Hx 6)<|aX (Hx 7) jm) ?_;exact aB<|aJ<|lF<|a3 (aQ jw (aQ aP (vV 3)<|vV 7)<|aQ aP (vV 4)<|vV 6) (aQ jw (aQ aP (vV 4)<|vV 5)<|aQ aP (vV 2)<|vV 7)<|aQ jw (aQ aP (vV 2)<|vV 6)<|aQ aP (vV 3)<|vV 5
theorem jP:Fk P w K mg base 10 "_law_dot" nF:=by
 refine fk (k:=9) ["_law_one", "_law_other"] T.f50 T.z ?_;intro _ _ _ _ _ _ _ hr nd hc z;exact aB<|aJ<|aQ bf (aQ bf (aQ aP (Bs (vV 0) aA)<|Bs (vV 1) aA)<|aQ aP (Bs (vV 0) aA)<|Bs (vV 1) aA)<|aQ aP (Bs (vV 0) aA)<|Bs (vV 1) aA
theorem zaA:Fk P w K mg base 10 "_law_worth" yI:=by
 refine fk (k:=9) ["_law_curve", "_law_spot", "_law_x", "_law_y", "_law_z", "_law_squares"] T.f51 T.z ?_;intro _ _ _ _ _ _ _ hr nd hc z;refine au (rQ (vV 1)<|jF hh<|aX (Hx 2)<|aX (Hx 3)<|aX (Hx 4) jm) ?_;refine au (Fj 5<|lF<|aC (aQ aP (vV 2)<|vV 2)<|aC (aQ aP (vV 2)<|vV 3)<|aC (aQ aP (vV 3)<|vV 3)<|a3 (aQ aP (vV 2)<|vV 4) (aQ aP (vV 3)<|vV 4)<|aQ aP (vV 4)<|vV 4) ?_;exact aB<|aJ<|Lg (aaq hh) boot_sum<|a1<|W7 [] hh (cM<|by rfl) GD (Hv hh<|cM<|by rfl) (xM (by rfl) (by exact T.z _ (by decide)) (a2 (vV 0)<|vV 5) (bO<|by rfl)<|dz<|by rfl) (fun _ _ _ _=>iy)<|fun _ _ _ _=>(aQ aP (vV 0)<|vV 1)
theorem agE:Fk P w K mg base 10 "_law_sums" Cp:=by
 refine fk (k:=9) ["_law_curve", "_law_spot", "_law_a", "_law_b", "_law_c", "_law_d", "_law_e", "_law_f", "_law_x", "_law_y", "_law_z"] T.f52 T.z ?_;intro _ _ _ _ _ _ _ hr nd hc z;refine au (rQ (vV 0)<|jF hh<|aX (Hx 2)<|aX (Hx 3)<|aX (Hx 4)<|aX (Hx 5)<|aX (Hx 6)<|aX (Hx 7) jm) ?_;refine au (rQ (vV 1)<|jF hh<|aX (Hx 8)<|aX (Hx 9)<|aX (Hx 10) jm) ?_;exact aB<|aJ<|lF<|a3 (aQ bf (aQ bf (aQ aP (aQ aP aA<|vV 2)<|vV 8)<|aQ aP (vV 3)<|vV 9)<|aQ aP (vV 5)<|vV 10) (aQ bf (aQ bf (aQ aP (vV 3)<|vV 8)<|aQ aP (aQ aP aA<|vV 4)<|vV 9)<|aQ aP (vV 6)<|vV 10)<|aQ bf (aQ bf (aQ aP (vV 5)<|vV 8)<|aQ aP (vV 6)<|vV 9)<|aQ aP (aQ aP aA<|vV 7)<|vV 10
theorem w6:Fk P w K mg base 11 "_law_turn" qg:=by
 refine fk (k:=10) ["_law_one", "_law_other", "_law_third"] T.f53 T.z ?_;intro _ _ _ _ _ _ _ hr nd hc z;exact aB<|aJ<|Bu (jP T)<|a2 (Bu (cW T)<|a2 (vV 0)<|vV 1)<|vV 2
theorem rD:Fk P w K mg base 12 "_law_threes" jR:=by
 refine fk (k:=11) ["_law_spots", "_law_found", "_law_k", "_law_j", "_law_i"] T.f54 T.z ?_;intro _ _ _ _ _ _ _ hr nd hc z;refine au (Fj 1<|qK mL) ?_;refine au (gw Ng hh (Om<|a1 aA) (Hx 2)<|aB<|gw Ng hh (Om<|a1<|vV 2) (Hx 3)<|aB<|gw Ng hh (Om<|a1<|vV 3) (Hx 4)<|aB<|cB (HY (ug qq) (Bu (w6 T)<|a3 (Bs (vV 0)<|vV 4) (Bs (vV 0)<|vV 3)<|Bs (vV 0)<|vV 2) aA) (aB<|eE<|iz (vV 1) (a1<|lF<|a3 (vV 4) (vV 3)<|vV 2) (by rfl) (uy<|by rfl) (by rfl) (bO<|by rfl)<|by rfl) aW) ?_;exact aB<|aJ<|vV 1
theorem aeu:Fk P w K mg base 13 "_law_five" Df:=by
 refine fk (k:=12) ["_law_script", "_law_spots", "_law_k", "_law_x", "_law_spot", "_law_row", "_law_threes_here", "_law_worst", "_law_a", "_law_b", "_law_c", "_law_u"] T.f55 T.z ?_;intro _ _ _ _ _ _ _ hr nd hc z;refine au (Fj 1<|qK mL) ?_;refine au (gw Ng hh (Om<|a1 aA) (Hx 2)<|au (Fj 3<|Bu (nC T)<|a3 (vV 0) (vV 2) aA)<|au (Fj 4<|Bu (yD T)<|a1<|jy (vV 3) (bA aA)<|bA aA)<|au (cB (PL (HY (ug qq) (aQ gQ (Bs (vV 3) aA) aA) aA)<|Je<|HY Vx (vV 2) aA).pt (au (Jc [3] (i:=5) (by assumption) (by rfl) (by exact Or.inl rfl) hh (cM<|by rfl) GD (Hv hh<|cM<|by rfl) (xM (by rfl) (by exact T.z _ (by decide)) (a2 (Bs (vV 1) aA)<|Bs (vV 1)<|aQ jw (vV 2) aA) (bO<|by rfl)<|dz<|by rfl) (fun _ _ _ _=>iy)<|fun _ _ _ _=>(aQ bf (aQ aP (aQ gQ (Bs (vV 2) aA) aA)<|vV 0)<|aQ aP (aQ bf aA<|aQ gQ (Bs (vV 2) aA) aA)<|vV 1))<|aB<|cB (HY Vx (Lg (DP hh) boot_max<|a1<|Lr [] (bW<|vV 5)<|fun _ _ _ _=>(Lg zX boot_abs<|a1<|vV 0)) aA) (aB<|Fj 4<|Bu (cJ T)<|a1<|vV 5) aW) aW)<|aB<|eE<|iz (vV 1) (a1<|vV 4) (by rfl) (uy<|by rfl) (by rfl) (bO<|by rfl)<|by rfl) ?_;refine au (Fj 6<|Bu (rD T)<|a1<|vV 1) ?_;refine au (Fj 7<|Lg (DP hh) boot_max<|a1<|Lr [6] (Om<|a1 aA)<|fun _ _ _ _=>(Lg Oc Uh<|a1<|dl1 [0] (bW<|vV 1) (fun _ _ _ _=>(rN<|HY abI (vV 1)<|vV 0))<|fun _ _ _ _=>(vV 0))) ?_;refine au ?_ ?_
 ·with_reducible exact cB (vZ (HY (ug qq) (vV 7) aA) (oG (HY Vx (Lg (DP hh) boot_max (a1 (Lr [1] (bW (vV 1)) (fun _ _ _ _=>(ahH qq (vV 1) (a1 (vV 0)) (by with_unfolding_all rfl) (uy (by with_unfolding_all rfl)) (by with_unfolding_all rfl) (bO (by with_unfolding_all rfl)) (by with_unfolding_all rfl)))))) aA))).pt (au (rQ (hs:=by with_unfolding_all rfl) (hw:=by with_unfolding_all rfl) (h1:=by with_unfolding_all rfl) (Bs (vV 1) aA) (jF (hn:=by with_unfolding_all rfl) (hst:=by with_unfolding_all rfl) hh (aX (hs:=by with_unfolding_all rfl) (Hx 8) (aX (hs:=by with_unfolding_all rfl) (Hx 9) (aX (hs:=by with_unfolding_all rfl) (Hx 10) jm))))) (au (Fj 11 (aQ bf aA (aQ gQ (Lg zX boot_abs (a1 (aQ bf (vV 8) (vV 9)))) (aQ Ez aA aA)))) (aB (Fj 1 (qK (aC (lF (a3 aA aA aA)) (aC (lF (a3 aA aA aA)) (a3 (lF (a3 aA aA aA)) (lF (a3 aA aA aA)) (Bu (by with_unfolding_all exact cJ T) (a1 (ux (a3 (vV 11) (aQ bf (aQ aP (vV 11) (vV 11)) (aQ gQ (Lg zX boot_abs (a1 (vV 10))) aA)) aA)))))))))))) aW
 exact aB<|aJ<|vV 1
theorem aeh:Fk P w K mg base 12 "_law_sixth" zN:=by
 refine fk (k:=11) ["_law_script", "_law_spots", "_law_curve", "_law_other", "_law_way", "_law_one", "_law_amid", "_law_there"] T.f56 T.z ?_;intro _ _ _ _ _ _ _ hr nd hc z;refine au (Fj 3<|Bu (yD T)<|a1<|Bu (nC T)<|a3 (vV 0) aA aA) ?_;refine au (Fj 4<|aQ gQ (aQ wF (Bu (yE T)<|a2 (vV 0) aA) aA) aA) ?_;refine au (cB (vZ (HY Yd (vV 4) aA)<|oG<|HY (ug qq) (vV 3)<|Bs (vV 1)<|aQ jw (vV 4) aA).pt (aB<|aJ<|vV 3) aW) ?_;refine au (Fj 5<|Bs (vV 1)<|aQ jw (vV 4) aA) ?_;refine au (Fj 6<|Bu (jP T)<|a2 (Bu (agE T)<|a2 (vV 2)<|vV 5)<|vV 3) ?_;refine au (Fj 7<|Bu (zaA T)<|a2 (vV 2)<|vV 3) ?_;refine au (cB (PL (HY (ug qq) (vV 6) aA)<|Je<|HY (ug qq) (vV 7) aA).pt (aB<|aJ<|vV 3) aW) ?_;exact aB<|aJ<|Bu (cJ T)<|a1<|W7 [6,7] hh (cM<|by rfl) GD (Hv hh<|cM<|by rfl) (xM (by rfl) (by exact T.z _ (by decide)) (a2 (vV 5)<|vV 3) (bO<|by rfl)<|dz<|by rfl) (fun _ _ _ _=>iy)<|fun _ _ _ _=>(aQ jw (aQ aP (vV 2)<|vV 1)<|aQ aP (vV 3)<|vV 0)
theorem aeF:Fk P w K mg base 11 "_law_sides" zJ:=by
 refine fk (k:=10) ["_law_spots", "_law_found", "_law_one", "_law_other", "_law_near", "_law_far"] T.f57 T.z ?_;intro _ _ _ _ _ _ _ hr nd hc z;refine au (Fj 1<|qK mL) ?_;refine au ?_ ?_
 ·with_reducible exact gw (hs:=by with_unfolding_all (intro _;rfl)) (by with_unfolding_all exact Ng) hh (bW (ux (a2 (lF (a2 aA aA)) (lF (a2 aA aA))))) (jF (hn:=by with_unfolding_all rfl) (hst:=by with_unfolding_all rfl) hh (aX (hs:=by with_unfolding_all rfl) (Hx 2) (aX (hs:=by with_unfolding_all rfl) (Hx 3) jm))) (au (Fj 4 (Bu (by with_unfolding_all exact cW T) (a2 (Bs (vV 0) aA) (Bs (vV 0) (vV 2))))) (au (Fj 5 (Bu (by with_unfolding_all exact cW T) (a2 (Bs (vV 0) (vV 3)) (Bs (vV 0) aA)))) (aB (eE (hs:=by with_unfolding_all rfl) (iz (vV 1) (a1 (Lr [4,5] (bW (jy (vV 0) (bA aA) oh)) (fun _ _ _ _=>(aQ aP (Bu (by with_unfolding_all exact jP T) (a2 (vV 1) (vV 0))) (Bu (by with_unfolding_all exact jP T) (a2 (vV 2) (vV 0))))))) (by with_unfolding_all rfl) (uy (by with_unfolding_all rfl)) (by with_unfolding_all rfl) (bO (by with_unfolding_all rfl)) (by with_unfolding_all rfl))))))
 exact aB<|aJ<|Oo (ug qq) (aQ aP (Bs (Bs (vV 1) aA) aA)<|Bs (Bs (vV 1) aA) aA)<|aQ aP (Bs (Bs (vV 1) aA) aA)<|Bs (Bs (vV 1) aA) aA
theorem zbf:Fk P w K mg base 12 "_law_map" Ib:=by
 refine fk (k:=11) ["_law_script", "_law_numbers"] T.f58 T.z ?_;intro _ _ _ _ _ _ _ hr nd hc z;refine au (Jc [] (i:=1) (by assumption) (by rfl) (by exact Or.inl rfl) hh (cM<|by rfl) FT (Ey<|cM<|by rfl) (bW<|Bu (nC T)<|a3 (vV 0) aA aA) (fun _ _ _ _=>iy)<|fun _ _ _ _=>(Bu (uL T)<|a1<|vV 0)) ?_;refine au (cB (HY (ug qq) (Bu (w6 T)<|a3 (jy (vV 1) (bA aA)<|bA aA) (jy (vV 1) (bA aA)<|bA aA)<|jy (vV 1) (bA aA)<|bA aA) aA) (aB<|Fj 1<|ux<|aC aA<|aC (Bs (vV 1) aA)<|aC (Bs (vV 1) aA)<|aC aA<|aC aA<|aC (Bs (vV 1) aA)<|a3 aA aA aA) aW) ?_;exact aB<|aJ<|Bu (cJ T)<|a1<|vV 1
theorem Ew:Fk P w K mg base 11 "_law_led" vO:=by
 refine fk (k:=10) ["_law_by", "_law_spot"] T.f59 T.z ?_;intro _ _ _ _ _ _ _ hr nd hc z;exact aB<|aJ<|Bu (cJ T)<|a1<|Lr [0,1] (Om<|a1 aA)<|fun _ _ _ _=>(Bu (jP T)<|a2 (jy (vV 1) (bA<|aQ aP aA<|vV 0)<|bA<|aQ bf (aQ aP aA<|vV 0) aA)<|vV 2)
theorem dX:Fk P w K mg base 11 "_law_led_line" jq:=by
 refine fk (k:=10) ["_law_by", "_law_line", "_law_first", "_law_second", "_law_third", "_law_sides_here"] T.f60 T.z ?_;intro _ _ _ _ _ _ _ hr nd hc z;refine au (Fj 2<|jy (vV 0) (bA aA)<|bA aA) ?_;refine au (Fj 3<|jy (vV 0) (bA aA)<|bA aA) ?_;refine au (Fj 4<|jy (vV 0) (bA aA)<|bA aA) ?_;refine au (Fj 5<|ux<|a3 (Bu (cW T)<|a2 (vV 3)<|vV 4) (Bu (cW T)<|a2 (vV 4)<|vV 2)<|Bu (cW T)<|a2 (vV 2)<|vV 3) ?_;exact aB<|aJ<|Bu (cJ T)<|a1<|Lr [1] (bW<|vV 5)<|fun _ _ _ _=>(Bu (jP T)<|a2 (vV 0)<|vV 1)
theorem iZ:Fk P w K mg base 17 "_law_sixth_right" fj:=by
 refine fk (k:=16) ["_law_spots", "_law_curve", "_law_due"] T.f61 T.z ?_;intro _ _ _ _ _ _ _ hr nd hc z;refine au (cB (vZ (HY (zO qq) (Bu (dD T)<|a2 (vV 1)<|Bs (vV 0) aA)<|vV 2)<|oG<|HY (zO qq) (Bu (aeF T)<|a1<|vV 0)<|vV 2).pt (aB<|aJ Kl) aW) ?_;refine au (cB (vZ (HY (zO qq) (Bu (rD T)<|a1<|vV 0)<|ux mL)<|vZ (HY (ug qq) (Bs (vV 0) aA)<|Bs (vV 0) aA)<|oG<|HY (ug qq) (Bs (vV 0) aA)<|Bs (vV 0) aA).pt (aB<|aJ Kl) aW) ?_;exact aB<|aJ<|Oo (ug qq) (Bu (yQ T)<|a1<|dct yZ boot_list<|a1<|vV 0)<|vV 2
theorem rJ:Fk P w K mg base 17 "_law_ends_right" fQ:=by
 refine fk (k:=16) ["_law_by", "_law_curve", "_law_far", "_law_spots", "_law_others", "_law_line", "_law_end", "_law_things", "_law_word", "_law_i", "_law_j"] T.f62 T.z ?_;intro _ _ _ _ _ _ _ hr nd hc z;refine au (cB (jW<|dR<|Bu (lg T)<|a1<|vV 1) (aB<|aJ<|aa7<|Bu (lg T)<|a1<|vV 2) aW) ?_;refine au (Fj 5<|Bu (gM T)<|a2 (vV 1)<|Bs (vV 3) aA) ?_;refine au (cB (HY (zO qq) (Bu (gM T)<|a2 (vV 2)<|Bs (vV 4) aA)<|Bu (dX T)<|a2 (vV 0)<|vV 5) (aB<|aJ Kl) aW) ?_;refine au (cB (HY (zO qq) (Bu (vg T)<|a2 (vV 2)<|Bu (dX T)<|a2 (vV 0)<|vV 5)<|Bs (vV 4) aA) (aB<|aJ Kl) aW) ?_;refine au (cB (HY (zO qq) (Bu (tG T)<|a2 (vV 2)<|Bs (vV 4) aA)<|Bu (dX T)<|a2 (vV 0)<|Bu (tG T)<|a2 (vV 1)<|Bs (vV 3) aA) (aB<|aJ Kl) aW) ?_;refine au (cB (HY (ug qq) (Bs (vV 3) aA)<|Bs (vV 3) aA) (aB<|aJ Kl) aW) ?_;refine au (Fj 5<|Bu (cJ T)<|a1<|Bu (cW T)<|a2 (Bs (vV 3) aA)<|Bs (vV 3) aA) ?_;refine au (Fj 6<|Bu (oY T)<|a3 (vV 1) (Bs (vV 3) aA)<|vV 5) ?_;refine au (cB (HY (zO qq) (Bu (oY T)<|a3 (vV 2) (Bs (vV 4) aA)<|Bu (dX T)<|a2 (vV 0)<|vV 5)<|Bu (Ew T)<|a2 (vV 0)<|vV 6) (aB<|aJ Kl) aW) ?_;refine au (Fj 7<|aQ Zc (dct yZ boot_list<|a1<|jy (vV 3) oh<|bA aA)<|ux<|a1<|vV 5) ?_;refine au (gw Ng hh (bW<|Bu (pQ T)<|a2 (jy (vV 3) oh<|bA aA)<|vV 5) (jF hh<|aX (Hx 8)<|aX (Hx 9)<|aX (Hx 10) jm)<|aB<|eE<|iz (vV 7) (a1<|Bu (cJ T)<|a1<|Bu (cW T)<|a2 (Bs (vV 7)<|vV 9)<|Bs (vV 7)<|vV 10) (by rfl) (uy<|by rfl) (by rfl) (bO<|by rfl)<|by rfl) ?_;exact aB<|aJ<|Oo (ug qq) (Bs (vV 7)<|Oj aA)<|vV 6
theorem Wi {f:Addr}{fd:Le}(F:SN K "law" "law" RD f fd):qO P w K mg base Ma 18 f fd ["_law_script"] (lift K T5):=by
 have S:m6 ["_law_script", "_law_spots", "_law_curve", "_law_due", "_law_by", "_law_others", "_law_far"] ["_law_script"] (bT RD):=⟨rfl,rfl,rfl,by decide +kernel,rfl,by decide +kernel,by decide +kernel⟩
 refine ach (k:=17) F S fun _ _ _ _ _ _ hr=>?_;have hc:=hr.calm (by decide);have nd:=S.nd;have z:=T.z;refine au (Fj 1<|Bu (aeu T)<|a1<|vV 0) ?_;refine au (Fj 2<|Bu (uM T)<|a1<|dct yZ boot_list<|a1<|vV 1) ?_;refine au (eE<|iz (vV 1) (a1<|Bu (aeh T)<|a3 (vV 0) (vV 1)<|vV 2) (by rfl) (uy<|by rfl) (by rfl) (bO<|by rfl)<|by rfl) ?_;refine au (Fj 3<|Bu (dD T)<|a2 (vV 2)<|Bs (vV 1) aA) ?_;refine au (cB (vZ (jW<|dR<|Lg abX boot_isinstance<|a2 (vV 3)<|dc (agY (v:=.ty "bool") (by rfl) (by exact T.z _ (by decide)) boot_bool<|by rfl)<|fun _ _=>by rw [Ab])<|oG<|jW<|dR<|Bu (iZ T)<|a3 (vV 1) (vV 2)<|vV 3).pt (aB<|aJ Kl) aW) ?_;refine au (Fj 4<|Bu (zbf T)<|a1<|vV 0) ?_;refine au (Jc [4] (i:=5) (by assumption) (by rfl) (by exact Or.inl rfl) hh (cM<|by rfl) FT (Ey<|cM<|by rfl) (bW<|vV 1) (fun _ _ _ _=>iy)<|fun _ _ _ _=>(Bu (Ew T)<|a2 (vV 1)<|vV 0)) ?_;refine au (Fj 6<|Bu (uM T)<|a1<|jy (vV 5) oh<|bA aA) ?_;refine au (cB (vZ (HY (zO qq) (vV 6)<|Bu (aem T)<|a2 (vV 4)<|vV 2)<|oG<|jW<|dR<|Bu (iZ T)<|a3 (vV 5) (vV 6)<|vV 3).pt (aB<|aJ Kl) aW) ?_;exact aB<|aJ<|Bu (rJ T)<|aC (vV 4)<|aC (vV 2)<|a3 (vV 6) (vV 1)<|vV 5
end
def fO (x:Str)(s:Stmt)(oc:Go)(od:Option Addr)(kV dc pm:Go)(an:Option Addr)(cd ct:Go)(sl:Array (Option Go)):Option Obj:=Dn ⟨oc,od,.func (Sq x x (ni s) (gU s) (bT s) .none kV dc pm an cd ct),sl⟩
def sR (f:Addr):Option (Option Go):=Dn (Dn (.ref f))
def cQ (K:Ai)(x:Str)(s:Stmt):Prop:=∃ f oc od kV dc pm an cd ct sl,Lx K JW x=sR f/\K.lookup f=fO x s oc od kV dc pm an cd ct sl/\Uj K cd x=true/\Q6 K (.ref f)=true
theorem K1 {K:Ai}{x:Str}{s:Stmt}{f:Addr}{oc:Go}{od:Option Addr}{kV dc pm:Go}{an:Option Addr}{cd ct:Go}{sl:Array (Option Go)}(a:Lx K JW x=sR f)(l:K.lookup f=fO x s oc od kV dc pm an cd ct sl)(c:Uj K cd x=true)(k:Q6 K (.ref f)=true):cQ K x s:=⟨f,oc,od,kV,dc,pm,an,cd,ct,sl,a,l,c,k⟩
theorem aY {K:Ai}{h:Heap}{mg:Str->Option Go}{x:Str}{st:Stmt}{ps:List Str}(X:K.In h)(G:h.Ns JW mg)(H:cQ K x st)(hb:∀ (kV doc pm:Go) (an:Option Addr) (cdv ct:Go) (us:List Go),us.length=ps.length->bindArgs (Sq x x (ni st) (gU st) (bT st) .none kV doc pm an cdv ct) ⟨us,[]⟩=pure (ps.zip us):=by intro _ _ _ _ _ _ us hl;first | (match us,hl with | [],_=>rfl) | (match us,hl with | [_],_=>rfl) | (match us,hl with | [_,_],_=>rfl) | (match us,hl with | [_,_,_],_=>rfl) | (match us,hl with | [_,_,_,_,_],_=>rfl)):At K mg x st ps:=by
 obtain ⟨f,oc,od,kV,dc,pm,an,cd,ct,sl,a,l,c,k⟩:=H;exact ⟨f,_,Ij (st:=st) l c k,PySem.W.mg_of X G a,(Ij (st:=st) l c k).binds hb⟩
theorem zc {mg:Str->Option Go}{n:Str}{l:List Str}(a:mg n=FX)(b:∀ m∈l,mg m=FX):∀ m∈n::l,mg m=FX:=List.forall_mem_cons.2 ⟨a,b⟩
theorem all_mk {l:PySem.W.OpenLaw}{w:FZ}{K:Ai}{h:Heap}{mg:Str->Option Go}{fa:Addr}(hlaw:∀ ns:List Int,ns.length<=63->T5 [.kls (ns.map W.int)] g0 (fun w _=>w=.bl true) EF)(X:K.In h)(G:h.Ns JW mg)(hfa:mg "law" = Dn (.ref fa))
  (h0:cQ K "divisor_of_two" (top 11))
  (h1:cQ K "divisor" (top 12))
  (h2:cQ K "ends_below" (top 13))
  (h3:cQ K "plain" (top 14))
  (h4:cQ K "dot" (top 16))
  (h5:cQ K "cross" (top 17))
  (h6:cQ K "turn" (top 18))
  (h7:cQ K "lies_on" (top 19))
  (h8:cQ K "share_one" (top 20))
  (h9:cQ K "on_line" (top 21))
  (h10:cQ K "plain_cross" (top 22))
  (h11:cQ K "join" (top 23))
  (h12:cQ K "meet" (top 24))
  (h13:cQ K "rising" (top 26))
  (h14:cQ K "picked" (top 27))
  (h15:cQ K "has_alike" (top 28))
  (h16:cQ K "has_on_line" (top 29))
  (h17:cQ K "check_five" (top 31))
  (h18:cQ K "crossings" (top 32))
  (h19:cQ K "is_closed" (top 33))
  (h20:cQ K "rows_of" (top 36))
  (h21:cQ K "size_of" (top 37))
  (h22:cQ K "table_times_row" (top 38))
  (h23:cQ K "flipped" (top 39))
  (h24:cQ K "table_times_table" (top 40))
  (h25:cQ K "turned" (top 41))
  (h26:cQ K "back" (top 42))
  (h27:cQ K "tiles" (top 43))
  (h28:cQ K "worth" (top 45))
  (h29:cQ K "is_on_curve" (top 46))
  (h30:cQ K "together" (top 47))
  (h31:cQ K "table_of" (top 48))
  (h32:cQ K "both_sides" (top 49))
  (h33:cQ K "is_round" (top 50))
  (h34:cQ K "mixed" (top 51))
  (h35:cQ K "through" (top 52))
  (h36:cQ K "carried" (top 53))
  (h37:cQ K "plain_or_none" (top 55))
  (h38:cQ K "line_about" (top 56))
  (h39:cQ K "spot_about" (top 57))
  (h40:cQ K "touching" (top 58))
  (h41:cQ K "another_spot" (top 59))
  (h42:cQ K "other_end" (top 60))
  (h43:cQ K "other_by_edge" (top 63))
  (h44:cQ K "_law_cell" (top 65))
  (h45:cQ K "_law_draws" (top 66))
  (h46:cQ K "_law_plain" (top 67))
  (h47:cQ K "_law_small" (top 68))
  (h48:cQ K "_law_made" (top 69))
  (h49:cQ K "_law_cross" (top 70))
  (h50:cQ K "_law_dot" (top 71))
  (h51:cQ K "_law_worth" (top 72))
  (h52:cQ K "_law_sums" (top 73))
  (h53:cQ K "_law_turn" (top 74))
  (h54:cQ K "_law_threes" (top 75))
  (h55:cQ K "_law_five" (top 76))
  (h56:cQ K "_law_sixth" (top 77))
  (h57:cQ K "_law_sides" (top 78))
  (h58:cQ K "_law_map" (top 79))
  (h59:cQ K "_law_led" (top 80))
  (h60:cQ K "_law_led_line" (top 81))
  (h61:cQ K "_law_sixth_right" (top 82))
  (h62:cQ K "_law_ends_right" (top 83))
  (h63:cQ K "law" (top 84))
  (z_abs:Lx K JW "abs" = Dn FX)
  (z_all:Lx K JW "all" = Dn FX)
  (z_any:Lx K JW "any" = Dn FX)
  (z_bool:Lx K JW "bool" = Dn FX)
  (z_isinstance:Lx K JW "isinstance" = Dn FX)
  (z_len:Lx K JW "len" = Dn FX)
  (z_list:Lx K JW "list" = Dn FX)
  (z_max:Lx K JW "max" = Dn FX)
  (z_range:Lx K JW "range" = Dn FX)
  (z_reversed:Lx K JW "reversed" = Dn FX)
  (z_set:Lx K JW "set" = Dn FX)
  (z_sum:Lx K JW "sum" = Dn FX)
  (z_tuple:Lx K JW "tuple" = Dn FX)
  (z_zip:Lx K JW "zip" = Dn FX)
  {qQ:Addr} {slk_TILES:Array (Option Go)} {nk_TILES:Nat} {k_TILES_0:Addr} {slk_TILES_0:Array (Option Go)} {nk_TILES_0:Nat} {t_TILES_0_0:_} {t_TILES_0_1:_} {t_TILES_0_2:_} {k_TILES_1:Addr} {slk_TILES_1:Array (Option Go)} {nk_TILES_1:Nat} {t_TILES_1_0:_} {t_TILES_1_1:_} {t_TILES_1_2:_} {k_TILES_2:Addr} {slk_TILES_2:Array (Option Go)} {nk_TILES_2:Nat} {t_TILES_2_0:_} {t_TILES_2_1:_} {t_TILES_2_2:_} {k_TILES_3:Addr} {slk_TILES_3:Array (Option Go)} {nk_TILES_3:Nat} {t_TILES_3_0:_} {t_TILES_3_1:_} {t_TILES_3_2:_}
  (gk_TILES:Lx K JW "TILES" = Dn (Dn (.ref qQ)))
  (lk_TILES:K.lookup qQ=Dn ⟨.type "tuple",FX,.seq #[(.ref k_TILES_0),(.ref k_TILES_1),(.ref k_TILES_2),(.ref k_TILES_3)] nk_TILES,slk_TILES⟩)
  (lk_TILES_0:K.lookup k_TILES_0=Dn ⟨.type "tuple",FX,.seq #[(.int 1 t_TILES_0_0),(.int 0 t_TILES_0_1),(.int 0 t_TILES_0_2)] nk_TILES_0,slk_TILES_0⟩)
  (lk_TILES_1:K.lookup k_TILES_1=Dn ⟨.type "tuple",FX,.seq #[(.int 0 t_TILES_1_0),(.int 1 t_TILES_1_1),(.int 0 t_TILES_1_2)] nk_TILES_1,slk_TILES_1⟩)
  (lk_TILES_2:K.lookup k_TILES_2=Dn ⟨.type "tuple",FX,.seq #[(.int 0 t_TILES_2_0),(.int 0 t_TILES_2_1),(.int 1 t_TILES_2_2)] nk_TILES_2,slk_TILES_2⟩)
  (lk_TILES_3:K.lookup k_TILES_3=Dn ⟨.type "tuple",FX,.seq #[(.int 1 t_TILES_3_0),(.int 1 t_TILES_3_1),(.int 1 t_TILES_3_2)] nk_TILES_3,slk_TILES_3⟩)
  {cX:Addr} {slk_OTHER_STEPS:Array (Option Go)} {nk_OTHER_STEPS:Nat} {k_OTHER_STEPS_0:Addr} {slk_OTHER_STEPS_0:Array (Option Go)} {nk_OTHER_STEPS_0:Nat} {t_OTHER_STEPS_0_0:_} {t_OTHER_STEPS_0_1:_} {t_OTHER_STEPS_0_2:_} {k_OTHER_STEPS_1:Addr} {slk_OTHER_STEPS_1:Array (Option Go)} {nk_OTHER_STEPS_1:Nat} {t_OTHER_STEPS_1_0:_} {t_OTHER_STEPS_1_1:_} {t_OTHER_STEPS_1_2:_} {k_OTHER_STEPS_2:Addr} {slk_OTHER_STEPS_2:Array (Option Go)} {nk_OTHER_STEPS_2:Nat} {t_OTHER_STEPS_2_0:_} {t_OTHER_STEPS_2_1:_} {t_OTHER_STEPS_2_2:_} {k_OTHER_STEPS_3:Addr} {slk_OTHER_STEPS_3:Array (Option Go)} {nk_OTHER_STEPS_3:Nat} {t_OTHER_STEPS_3_0:_} {t_OTHER_STEPS_3_1:_} {t_OTHER_STEPS_3_2:_} {k_OTHER_STEPS_4:Addr} {slk_OTHER_STEPS_4:Array (Option Go)} {nk_OTHER_STEPS_4:Nat} {t_OTHER_STEPS_4_0:_} {t_OTHER_STEPS_4_1:_} {t_OTHER_STEPS_4_2:_} {k_OTHER_STEPS_5:Addr} {slk_OTHER_STEPS_5:Array (Option Go)} {nk_OTHER_STEPS_5:Nat} {t_OTHER_STEPS_5_0:_} {t_OTHER_STEPS_5_1:_} {t_OTHER_STEPS_5_2:_} {k_OTHER_STEPS_6:Addr} {slk_OTHER_STEPS_6:Array (Option Go)} {nk_OTHER_STEPS_6:Nat} {t_OTHER_STEPS_6_0:_} {t_OTHER_STEPS_6_1:_} {t_OTHER_STEPS_6_2:_} {k_OTHER_STEPS_7:Addr} {slk_OTHER_STEPS_7:Array (Option Go)} {nk_OTHER_STEPS_7:Nat} {t_OTHER_STEPS_7_0:_} {t_OTHER_STEPS_7_1:_} {t_OTHER_STEPS_7_2:_} {k_OTHER_STEPS_8:Addr} {slk_OTHER_STEPS_8:Array (Option Go)} {nk_OTHER_STEPS_8:Nat} {t_OTHER_STEPS_8_0:_} {t_OTHER_STEPS_8_1:_} {t_OTHER_STEPS_8_2:_} {k_OTHER_STEPS_9:Addr} {slk_OTHER_STEPS_9:Array (Option Go)} {nk_OTHER_STEPS_9:Nat} {t_OTHER_STEPS_9_0:_} {t_OTHER_STEPS_9_1:_} {t_OTHER_STEPS_9_2:_}
  (gk_OTHER_STEPS:Lx K JW "OTHER_STEPS" = Dn (Dn (.ref cX)))
  (lk_OTHER_STEPS:K.lookup cX=Dn ⟨.type "tuple",FX,.seq #[(.ref k_OTHER_STEPS_0),(.ref k_OTHER_STEPS_1),(.ref k_OTHER_STEPS_2),(.ref k_OTHER_STEPS_3),(.ref k_OTHER_STEPS_4),(.ref k_OTHER_STEPS_5),(.ref k_OTHER_STEPS_6),(.ref k_OTHER_STEPS_7),(.ref k_OTHER_STEPS_8),(.ref k_OTHER_STEPS_9)] nk_OTHER_STEPS,slk_OTHER_STEPS⟩)
  (lk_OTHER_STEPS_0:K.lookup k_OTHER_STEPS_0=Dn ⟨.type "tuple",FX,.seq #[(.str "join" t_OTHER_STEPS_0_0),(.int 0 t_OTHER_STEPS_0_1),(.int 1 t_OTHER_STEPS_0_2)] nk_OTHER_STEPS_0,slk_OTHER_STEPS_0⟩)
  (lk_OTHER_STEPS_1:K.lookup k_OTHER_STEPS_1=Dn ⟨.type "tuple",FX,.seq #[(.str "join" t_OTHER_STEPS_1_0),(.int 3 t_OTHER_STEPS_1_1),(.int 4 t_OTHER_STEPS_1_2)] nk_OTHER_STEPS_1,slk_OTHER_STEPS_1⟩)
  (lk_OTHER_STEPS_2:K.lookup k_OTHER_STEPS_2=Dn ⟨.type "tuple",FX,.seq #[(.str "meet" t_OTHER_STEPS_2_0),(.int 6 t_OTHER_STEPS_2_1),(.int 7 t_OTHER_STEPS_2_2)] nk_OTHER_STEPS_2,slk_OTHER_STEPS_2⟩)
  (lk_OTHER_STEPS_3:K.lookup k_OTHER_STEPS_3=Dn ⟨.type "tuple",FX,.seq #[(.str "join" t_OTHER_STEPS_3_0),(.int 1 t_OTHER_STEPS_3_1),(.int 2 t_OTHER_STEPS_3_2)] nk_OTHER_STEPS_3,slk_OTHER_STEPS_3⟩)
  (lk_OTHER_STEPS_4:K.lookup k_OTHER_STEPS_4=Dn ⟨.type "tuple",FX,.seq #[(.str "meet" t_OTHER_STEPS_4_0),(.int 9 t_OTHER_STEPS_4_1),(.int 5 t_OTHER_STEPS_4_2)] nk_OTHER_STEPS_4,slk_OTHER_STEPS_4⟩)
  (lk_OTHER_STEPS_5:K.lookup k_OTHER_STEPS_5=Dn ⟨.type "tuple",FX,.seq #[(.str "join" t_OTHER_STEPS_5_0),(.int 8 t_OTHER_STEPS_5_1),(.int 10 t_OTHER_STEPS_5_2)] nk_OTHER_STEPS_5,slk_OTHER_STEPS_5⟩)
  (lk_OTHER_STEPS_6:K.lookup k_OTHER_STEPS_6=Dn ⟨.type "tuple",FX,.seq #[(.str "join" t_OTHER_STEPS_6_0),(.int 2 t_OTHER_STEPS_6_1),(.int 3 t_OTHER_STEPS_6_2)] nk_OTHER_STEPS_6,slk_OTHER_STEPS_6⟩)
  (lk_OTHER_STEPS_7:K.lookup k_OTHER_STEPS_7=Dn ⟨.type "tuple",FX,.seq #[(.str "meet" t_OTHER_STEPS_7_0),(.int 11 t_OTHER_STEPS_7_1),(.int 12 t_OTHER_STEPS_7_2)] nk_OTHER_STEPS_7,slk_OTHER_STEPS_7⟩)
  (lk_OTHER_STEPS_8:K.lookup k_OTHER_STEPS_8=Dn ⟨.type "tuple",FX,.seq #[(.str "join" t_OTHER_STEPS_8_0),(.int 0 t_OTHER_STEPS_8_1),(.int 13 t_OTHER_STEPS_8_2)] nk_OTHER_STEPS_8,slk_OTHER_STEPS_8⟩)
  (lk_OTHER_STEPS_9:K.lookup k_OTHER_STEPS_9=Dn ⟨.type "tuple",FX,.seq #[(.str "meet" t_OTHER_STEPS_9_0),(.int 14 t_OTHER_STEPS_9_1),(.int 5 t_OTHER_STEPS_9_2)] nk_OTHER_STEPS_9,slk_OTHER_STEPS_9⟩)
  : ∃ fd:Le,(∀ (s:AP) (v:Go),BindsTo s fd ⟨[v],[]⟩ [("_law_script",v)])/\∀ base:Heap,K.In base->base.Ns JW mg->qO l.prog w K mg base Ma 18 fa fd ["_law_script"] (Nv K):=by
 have T:∀ base,Txt l.prog w K mg base ⟨⟩:=fun _=>⟨aY X G h0,aY X G h1,aY X G h2,aY X G h3,aY X G h4,aY X G h5,aY X G h6,aY X G h7,aY X G h8,aY X G h9,aY X G h10,aY X G h11,aY X G h12,aY X G h13,aY X G h14,aY X G h15,aY X G h16,aY X G h17,aY X G h18,aY X G h19,aY X G h20,aY X G h21,aY X G h22,aY X G h23,aY X G h24,aY X G h25,aY X G h26,aY X G h27,aY X G h28,aY X G h29,aY X G h30,aY X G h31,aY X G h32,aY X G h33,aY X G h34,aY X G h35,aY X G h36,aY X G h37,aY X G h38,aY X G h39,aY X G h40,aY X G h41,aY X G h42,aY X G h43,aY X G h44,aY X G h45,aY X G h46,aY X G h47,aY X G h48,aY X G h49,aY X G h50,aY X G h51,aY X G h52,aY X G h53,aY X G h54,aY X G h55,aY X G h56,aY X G h57,aY X G h58,aY X G h59,aY X G h60,aY X G h61,aY X G h62,zc (Nx X G z_abs) (zc (Nx X G z_all) (zc (Nx X G z_any) (zc (Nx X G z_bool) (zc (Nx X G z_isinstance) (zc (Nx X G z_len) (zc (Nx X G z_list) (zc (Nx X G z_max) (zc (Nx X G z_range) (zc (Nx X G z_reversed) (zc (Nx X G z_set) (zc (Nx X G z_sum) (zc (Nx X G z_tuple) (zc (Nx X G z_zip) (fun _ h=>nomatch h)))))))))))))),⟨_,PySem.W.mg_of X G gk_TILES,fun _ _=>((bU lk_TILES (by simp <;> decide) (.cons Er (.cons Er (.cons Er (.cons Er .nil)))) fun _ _=>(bC ((bU lk_TILES_0 (by simp <;> decide) (.cons j4 (.cons j4 (.cons j4 .nil))) fun _ _=>(bC jY (bC jY (bC jY jU)))) _ _) (bC ((bU lk_TILES_1 (by simp <;> decide) (.cons j4 (.cons j4 (.cons j4 .nil))) fun _ _=>(bC jY (bC jY (bC jY jU)))) _ _) (bC ((bU lk_TILES_2 (by simp <;> decide) (.cons j4 (.cons j4 (.cons j4 .nil))) fun _ _=>(bC jY (bC jY (bC jY jU)))) _ _) (bC ((bU lk_TILES_3 (by simp <;> decide) (.cons j4 (.cons j4 (.cons j4 .nil))) fun _ _=>(bC jY (bC jY (bC jY jU)))) _ _) jU))))) _ _)⟩,⟨_,PySem.W.mg_of X G gk_OTHER_STEPS,fun _ _=>((bU lk_OTHER_STEPS (by simp <;> decide) (.cons Er (.cons Er (.cons Er (.cons Er (.cons Er (.cons Er (.cons Er (.cons Er (.cons Er (.cons Er .nil)))))))))) fun _ _=>(bC ((bU lk_OTHER_STEPS_0 (by simp <;> decide) (.cons K5 (.cons j4 (.cons j4 .nil))) fun _ _=>(bC K6 (bC jY (bC jY jU)))) _ _) (bC ((bU lk_OTHER_STEPS_1 (by simp <;> decide) (.cons K5 (.cons j4 (.cons j4 .nil))) fun _ _=>(bC K6 (bC jY (bC jY jU)))) _ _) (bC ((bU lk_OTHER_STEPS_2 (by simp <;> decide) (.cons K5 (.cons j4 (.cons j4 .nil))) fun _ _=>(bC K6 (bC jY (bC jY jU)))) _ _) (bC ((bU lk_OTHER_STEPS_3 (by simp <;> decide) (.cons K5 (.cons j4 (.cons j4 .nil))) fun _ _=>(bC K6 (bC jY (bC jY jU)))) _ _) (bC ((bU lk_OTHER_STEPS_4 (by simp <;> decide) (.cons K5 (.cons j4 (.cons j4 .nil))) fun _ _=>(bC K6 (bC jY (bC jY jU)))) _ _) (bC ((bU lk_OTHER_STEPS_5 (by simp <;> decide) (.cons K5 (.cons j4 (.cons j4 .nil))) fun _ _=>(bC K6 (bC jY (bC jY jU)))) _ _) (bC ((bU lk_OTHER_STEPS_6 (by simp <;> decide) (.cons K5 (.cons j4 (.cons j4 .nil))) fun _ _=>(bC K6 (bC jY (bC jY jU)))) _ _) (bC ((bU lk_OTHER_STEPS_7 (by simp <;> decide) (.cons K5 (.cons j4 (.cons j4 .nil))) fun _ _=>(bC K6 (bC jY (bC jY jU)))) _ _) (bC ((bU lk_OTHER_STEPS_8 (by simp <;> decide) (.cons K5 (.cons j4 (.cons j4 .nil))) fun _ _=>(bC K6 (bC jY (bC jY jU)))) _ _) (bC ((bU lk_OTHER_STEPS_9 (by simp <;> decide) (.cons K5 (.cons j4 (.cons j4 .nil))) fun _ _=>(bC K6 (bC jY (bC jY jU)))) _ _) jU))))))))))) _ _)⟩⟩
 obtain ⟨f,oc,od,kV,dc,pm,an,cd,ct,sl,a,l,c,k⟩:=h63;have e:=hfa.symm.trans (PySem.W.mg_of X G a);cases e;exact ⟨_,fun s v=>.of_eq rfl,fun base _ _=>ahr hlaw<|Wi (T base)<|Ij (st:=RD) l c k⟩
theorem walk {l:PySem.W.OpenLaw}{q:Fb}{loose:List Str}{XP:(Str->Option Go)->Heap->Prop}{YP:FZ->Heap->Prop}{d:DefRec}{K:Params->Ai}(hn:l.most=Dn 63)(hdf:d.params.defaults=[])
  (hY:∀ (w:FZ) (h:Heap),YP w h->(K w.params).In h)
  (F:∀ (w:FZ) (mg:Str->Option Go) (fa:Addr) (h:Heap),(K w.params).In h->h.Ns JW mg->mg d.name=Dn (.ref fa) ->
   ∃ fd:Le,(∀ (s:AP) (u:Go),BindsTo s fd ⟨[u],[]⟩ [("_law_script",u)])/\∀ base:Heap,(K w.params).In base->base.Ns JW mg->qO l.prog w (K w.params) mg base Ma 18 fa fd ["_law_script"] (Nv (K w.params))) :
  PySem.W.WalkO q loose XP YP l.row.toRowW d [] (fun f vs=>PySem.call f vs):=
 L2.Kr (n:=63) (k:=18) (x := "_law_script") (CX:=fun _=>Ma) (sp:=fun w=>Nv (K w.params)) hn (by decide) hdf ⟨fun _=>rfl,by decide,by decide⟩ hY F (fun _ _ a ns hl hO hS=>⟨a,ns,rfl,hS,hO,hl,fun _=>rfl⟩) fun _ _ _ _ _ z=>z
local macro_rules | `(tactic| trivial) => `(tactic| with_reducible exact Sm.lit (by decide))
local macro_rules | `(tactic| trivial) => `(tactic| with_reducible exact Sm.zero)
local macro_rules | `(tactic| trivial) => `(tactic| with_reducible exact Sm.neg (by trivial))
local macro_rules | `(tactic| trivial) => `(tactic| with_reducible exact Sm.sub (by trivial) (by trivial))
local macro_rules | `(tactic| trivial) => `(tactic| with_reducible exact Sm.add (by trivial) (by trivial))
local macro_rules | `(tactic| trivial) => `(tactic| with_reducible exact Sm.mul (by trivial) (by trivial))
local macro_rules | `(tactic| trivial) => `(tactic| with_reducible assumption)
theorem wz (h:Gh)(n:Nat)(c:Cell):(h.set n c).c n=Dn c:=by show (if n=n then Dn c else h.c n)=Dn c;rw [if_pos rfl]
theorem rY {h:Gh}{n m:Nat}{c:Cell}(e:m≠n):(h.set n c).c m=h.c m:=by show (if m=n then Dn c else h.c m)=_;rw [if_neg e]
theorem Ae (h:Gh)(c:Cell):(h.new c).c h.nx=Dn c:=by show (if h.nx=h.nx then Dn c else h.c h.nx)=Dn c;rw [if_pos rfl]
theorem uz {h:Gh}{m:Nat}{c:Cell}(e:m≠h.nx):(h.new c).c m=h.c m:=by show (if m=h.nx then Dn c else h.c m)=_;rw [if_neg e]
theorem CW {h:Gh}{n:Nat}{ws:List W}(e:h.c n=Dn (.lst ws)):view h (.loc n)=Dn ws:=by simp only [view,cG,e]
theorem zbv {a b:Int}(h:0<b):a.fmod b=a % b:=Int.fmod_eq_emod_of_nonneg a (Tn h)
theorem CQ {a b:Int}(h:0<b):a.fdiv b=a / b:=Int.fdiv_eq_ediv_of_nonneg a (Tn h)
theorem K9 {A B:Prop}{c:Bool}(e:c=true)(h:A):Hi c A B:=by subst e;exact h
theorem WL {A B:Prop}{c:Bool}(e:c=false)(h:B):Hi c A B:=by subst e;exact h
theorem Ui {c:Prop} [Decidable c] {A B:Prop} (h1:c->A) (h2:¬ c->B):Hi (decide c) A B:=by
 by_cases h:c
 ·rw [decide_eq_true h];exact h1 h
 ·rw [decide_eq_false h];exact h2 h
theorem j9 {ws ws0:List W}{g:MG}{b:MS}{D:bR}(I:Nat->Sw->Gh->Prop)
  (step:∀ (i:Nat) (w:W) (σ : Sw) (h:Gh) (N:Sw->Gh->Prop),(∀ σ' h',I (i+1) σ' h'->N σ' h')->ws[i]?=Dn w->I i σ h->g w σ h fun σ1 h1=>b { D with nx:=N,ct:=N,bk:=D.nx } σ1 h1)
  (fin:∀ σ h,I ws.length σ h->D.nx σ h):∀ {σ : Sw} {h:Gh},I 0 σ h->eU ⟨ws0,FX⟩ g b D ws σ h:=by
 induction ws generalizing I with
 | nil=>intro σ h h0;exact fin σ h h0
 | cons w ws ih=>
  intro σ h h0;refine step 0 w σ h _ (fun σ' h' q=>?_) rfl h0;exact ih (fun i=>I<|i+1) (fun i w σ h N hN e hi=>step (i+1) w σ h N hN (by simpa using e) hi) (fun σ h q=>fin σ h q) q
theorem jz {ws ws0:List W}{own:W->Option (List W)}{ix:List Nat}{tt:MT}{te:ME}{σ : Sw}{Q:WK}(I:Nat->List W->Gh->Prop)
  (step:∀ (i:Nat) (w:W) (acc:List W) (h:Gh) (N:List W->Gh->Prop),(∀ acc' h',I (i+1) acc' h'->N acc' h')->ws[i]?=Dn w->I i acc h ->
   ∃ vs,own w=Dn vs/\tt (vs.map Dn++tV ix σ) h fun c h1=>Hi c (te (vs.map Dn++tV ix σ) h1 fun v h2=>N (acc++[v]) h2) (N acc h1))
  (fin:∀ acc h,I ws.length acc h->Q (.lst acc) h):∀ {acc:List W} {h:Gh},I 0 acc h->nu ⟨ws0,FX⟩ own ix tt te σ Q ws acc h:=by
 induction ws generalizing I with
 | nil=>intro acc h h0;exact fin acc h h0
 | cons w ws ih=>
  intro acc h h0;obtain ⟨vs,ev,q⟩:=step 0 w acc h _ (fun acc' h' q=>ih (fun i=>I (i+1)) (fun i w acc h N hN e hi=>step (i+1) w acc h N hN (by simpa using e) hi) (fun acc h q=>fin acc h q) q) rfl h0;show (match own w with
   | some vs=>_
   | none=>False)
  rw [ev];exact q
theorem Cv {lo:Int}{n i:Nat}{w:W}(e:(zP lo n)[i]?=Dn w):i<n/\w=.int (lo+(i:Int)):=by
 have hi:i<n:=by
  have:=(Nk.mp e).1
  simpa [zP] using this
 unfold zP at e;rw [K8,List.getElem?_range hi] at e;exact ⟨hi,(HS e).symm⟩
theorem vP {lo:Int}{n:Nat}:(zP lo n).length=n:=by simp [zP]
theorem ahs {ma:MA}{j:Int}{g:MG}{b:MS}{D:bR}{σ : Sw}{h:Gh}(hm:∀ R,ma σ h R=R [.int j] h)(h1:-(2^62)<=j)(h2:j<2^62)(I:Nat->Sw->Gh->Prop)
  (step:∀ (i:Nat) (σ : Sw) (h:Gh) (N:Sw->Gh->Prop),(∀ σ' h',I (i+1) σ' h'->N σ' h')->i<j.toNat->I i σ h->g (.int (i:Int)) σ h fun σ1 h1=>b { D with nx:=N,ct:=N,bk:=D.nx } σ1 h1)
  (fin:∀ σ h,I j.toNat σ h->D.nx σ h) (h0:I 0 σ h):uf (iu ma) g b D σ h:=by
 unfold uf iu;rw [hm];refine yK.mk h1 h2 ?_;refine j9 I (fun i w σ h N hN e hi=>?_) (fun σ h q=>fin σ h (by rw [vP] at q;exact q)) h0;obtain ⟨hlt,rfl⟩:=Cv e;rw [Int.zero_add];exact step i σ h N hN hlt hi
theorem ahl {ns:List Int}{k:Int}(h0:0<=k)(h1:k<((ns.map W.int).length:Int)):Jy (ns.map W.int) k=Dn (.int (ns.getD k.toNat 0)):=by
 have hk:k.toNat<ns.length:=by rw [GJ] at h1;lia
 have e:(ns.map W.int)[k.toNat]?=Dn (.int (ns.getD k.toNat 0)):=by
  rw [K8,Kc hk,Rb,Kc hk];rfl
 have:=cF e
 rwa [show ((k.toNat:Nat):Int)=k by lia] at this
def gF (f n:Int):Int:=((Nr n f:Nat):Int)
def gL (ns:List Int):Int:=ns.foldl gF 0
theorem G3 (ns:List Int)(n:Int):gL (ns++[n])=gF (gL ns) n:=by unfold gL;rw [List.foldl_append];rfl
theorem Yg (f n:Int):0<=gF f n:=Int.natCast_nonneg _
theorem Uo (ns:List Int):0<=gL ns:=by
 rcases List.eq_nil_or_concat ns with rfl | ⟨l,a,rfl⟩
 ·exact Int.le_refl _
 ·rw [List.concat_eq_append,G3];exact Yg _ _
theorem DX {x y:Int}(hx:0<=x)(hy:0<y):Nr y (x.fmod y)=Nr x y/\0<=x.fmod y/\x.fmod y<y:=by
 rw [Int.fmod_eq_emod_of_nonneg x (Tn hy)];refine ⟨?_,Int.emod_nonneg _<|by lia,Int.emod_lt_of_pos _ hy⟩;obtain ⟨m,rfl⟩:=Int.eq_ofNat_of_zero_le hx;obtain ⟨n,rfl⟩:=Int.eq_ofNat_of_zero_le (Tn hy);rw [<-Int.natCast_emod,Int.gcd_natCast_natCast,Int.gcd_natCast_natCast,Nat.gcd_comm m n,Nat.gcd_rec n m,Nat.gcd_comm]
theorem Jg (a:Int):0<=(if a<0 then -a else a):=by split <;> lia
theorem abs_eq (a:Int):(if a<0 then -a else a)=(a.natAbs:Int):=by split <;> lia
theorem agB (a b:Int):Nr (if a<0 then -a else a) (if b<0 then -b else b)=Nr a b:=by
 rw [abs_eq,abs_eq];simp [Nr]
theorem rP {x:Int}(h:0<=x):((Nr x 0:Nat):Int)=x:=by
 rw [Int.gcd_zero_right];lia
def Wk (c:kI):Prop:=∀ {h:Gh} {a b:Int} {Q:WK} {E:EY},Q (.int (gF b a)) h->c [.int a,.int b] h Q E
theorem ab8:Wk iY:=by
 intro h a b Q E q;conv=>whnf
 refine ⟨fun m σ h'=>h'=h/\∃ x y r,σ = [Dn<|.int x,Dn<|.int y,r]/\0<=x/\0<=y/\Nr x y=Nr a b/\m=y.toNat,⟨_,rfl,_,_,FX,rfl,Jg a,Jg b,agB a b,rfl⟩,?_⟩;rintro m σ h' ⟨rfl,x,y,r,rfl,x0,y0,hg,rfl⟩;refine ⟨fun e=>?_,fun e=>?_⟩
 ·have hy:y≠0:=by simpa [Fo] using e
  obtain ⟨g1,g2,g3⟩:=DX x0 (by lia:0<y);conv=>whnf
  refine ⟨hy,?_⟩;refine ⟨(x.fmod y).toNat,by lia,rfl,y,x.fmod y,_,rfl,y0,g2,g1.trans hg,rfl⟩
 ·have hy:y=0:=by simpa [Fo] using e
  subst hy;have:gF b a=x:=by unfold gF;rw [<-hg];exact rP x0
  rw [this] at q;exact q
def Ints (w:W)(ns:List Int):Prop:=w=.lst (ns.map .int)\/w=.tup (ns.map .int)
def xJ (c:kI):Prop:=∀ {h:Gh} {w:W} {ns:List Int} {Q:WK} {E:EY},Ints w ns->Q (.int (gL ns)) h->c [w] h Q E
theorem ints_get {ns:List Int}{i:Nat}{w:W}(e:(ns.map W.int)[i]?=Dn w):∃ n,ns[i]?=Dn n/\w=.int n:=by
 rw [K8] at e;cases q:ns[i]? with
 | none=>rw [q] at e;cases e
 | some n=>rw [q] at e;exact ⟨n,rfl,(HS e).symm⟩
theorem JF {ns:List Int}{i:Nat}{n:Int}(e:ns[i]?=Dn n):gL (ns.take (i+1))=gF (gL (ns.take i)) n:=by
 rw [M4,e,<-G3];rfl
theorem zaY {tw:kI}(ht:Wk tw):xJ (xY tw):=by
 intro h w ns Q E hw q;have key:eU ⟨ns.map .int,FX⟩ (Mk 2) (bx (aF tw E (aj (aq 2) (aj (aq 1) aH))) (Mk 1)) { nx:=sV tw E { nx:=fun _ h'=>Q .non h',rt:=fun w h'=>Q w h' },rt:=fun w h'=>Q w h' } (ns.map .int) [Dn w,Dn (.int 0),FX] h:=by
  refine j9 (fun i σ h'=>h'=h/\∃ o,σ = [Dn w,Dn<|.int<|gL<|ns.take i,o]) ?_ ?_ ⟨rfl,FX,rfl⟩
  ·rintro i x σ h' N hN e ⟨rfl,o,rfl⟩;obtain ⟨n,en,rfl⟩:=ints_get e;conv=>whnf
   refine ht ?_;refine hN _ _ ⟨rfl,Dn<|.int n,?_⟩;rw [JF en];rfl
  ·rintro σ h' ⟨rfl,o,rfl⟩;rw [GJ,NQ];exact q
 rcases hw with rfl | rfl <;> exact key
theorem Zi (f n k:Int)(hf:0<=f):gF (f*(k.natAbs:Int)) (n*k)=gF f n*(k.natAbs:Int):=by
 unfold gF;rw [<-Int.natCast_mul];congr 1
 unfold Nr;rw [Uc,Uc,Int.natAbs_natCast,Nat.gcd_mul_right]
theorem J3 (k:Int)(ns:List Int):gL (ns.map (· * k))=gL ns*(k.natAbs:Int):=by
 have:∀ (ns:List Int) (f:Int),0<=f->(ns.map (· * k)).foldl gF (f*(k.natAbs:Int))=ns.foldl gF f*(k.natAbs:Int):=by
  intro ns;induction ns with
  | nil=>intro f _;rfl
  | cons n ns ih=>intro f hf;rw [Lj,S6,S6,Zi f n k hf];exact ih _ (Yg _ _)
 have h:=this ns 0 (Int.le_refl _);rw [QS] at h;exact h
theorem abW {m:Nat}{f n:Int}(hf:Sm m f)(hn:Sm m n):Sm m (gF f n):=by
 unfold gF Sm at *;rw [Int.natAbs_natCast];unfold Nr;by_cases e:n.natAbs=0
 ·rw [e,Nat.gcd_zero_left];exact hf
 ·exact TQ (Nat.gcd_le_left _<|Nat.pos_of_ne_zero e) hn
theorem Wf {m:Nat}{ns:List Int}(h:∀ n∈ns,Sm m n):Sm m (gL ns):=by
 have:∀ (ns:List Int) (f:Int),Sm m f->(∀ n∈ns,Sm m n)->Sm m (ns.foldl gF f):=by
  intro ns;induction ns with
  | nil=>intro f hf _;exact hf
  | cons n ns ih=>intro f hf h;exact ih _ (abW hf (h n (by simp))) fun x hx=>h x (by simp [hx])
 exact this ns 0 Sm.zero h
def lH:List Int->Int
 | []=>0
 | n::ns=>if n=0 then lH ns else n
def fX (ns:List Int):Int:=lH ns.reverse
def Ky (ns:List Int):Prop:=gL ns=1/\0<fX ns
def NZ (ns:List Int):Prop:=∃ n∈ns,n≠0
theorem cH {k:Int}(hk:k≠0)(x:Int):x*k=0↔x=0:=by
 rw [Gg];exact ⟨fun h=>h.elim id fun h=>absurd h hk,.inl⟩
theorem xT {k:Int}(hk:k≠0):∀ ns:List Int,lH (ns.map (· * k))=lH ns*k
 | []=>(QS k).symm
 | n::ns=>by
  rw [Lj,lH,lH];by_cases h:n=0
  ·rw [if_pos h,if_pos ((cH hk n).mpr h),xT hk ns]
  ·rw [if_neg h,if_neg (fun e=>h ((cH hk n).mp e))]
theorem rz {k:Int}(hk:k≠0)(ns:List Int):fX (ns.map (· * k))=fX ns*k:=by
 unfold fX;rw [<-List.map_reverse,xT hk]
theorem zba {ns:List Int}(h:NZ ns):lH ns≠0:=by
 induction ns with
 | nil=>obtain ⟨n,hn,_⟩:=h;cases hn
 | cons a ns ih=>
  rw [lH];by_cases e:a=0
  ·rw [if_pos e];refine ih ?_;obtain ⟨n,hn,n0⟩:=h;rcases Fe.mp hn with rfl | hn
   ·exact absurd e n0
   ·exact ⟨n,hn,n0⟩
  ·rw [if_neg e];exact e
theorem Ej {ns:List Int}(h:NZ ns):fX ns≠0:=by
 obtain ⟨n,hn,n0⟩:=h;exact zba ⟨n,List.mem_reverse.mpr hn,n0⟩
theorem O8 (f n:Int):gF f n ∣ f/\gF f n ∣ n:=⟨Int.gcd_dvd_right ..,Int.gcd_dvd_left ..⟩
theorem Ie {ns:List Int}:∀ n∈ns,gL ns ∣ n:=by
 have:∀ (ns:List Int) (f:Int),ns.foldl gF f ∣ f/\∀ n∈ns,ns.foldl gF f ∣ n:=by
  intro ns;induction ns with
  | nil=>intro f;exact ⟨Int.dvd_refl _,fun n hn=>absurd hn (by simp)⟩
  | cons a ns ih=>
   intro f;obtain ⟨h1,h2⟩:=ih (gF f a);refine ⟨Int.dvd_trans h1 (O8 f a).1,fun n hn=>?_⟩;rcases Fe.mp hn with rfl | hn
   ·exact Int.dvd_trans h1 (O8 f n).2
   ·exact h2 n hn
 exact (this ns 0).2
theorem U7 {ns:List Int}(h:NZ ns):0<gL ns:=by
 have h0:=Uo ns;obtain ⟨n,hn,n0⟩:=h;have hd:=Ie n hn;by_cases e:gL ns=0
 ·rw [e] at hd;exact absurd (Int.zero_dvd.mp hd) n0
 ·lia
theorem Ky.nz {ns:List Int}(h:Ky ns):NZ ns:=by
 have:∀ l:List Int,0<lH l->NZ l:=by
  intro l;induction l with
  | nil=>intro h;exact absurd h (by decide)
  | cons a l ih=>
   intro h;rw [lH] at h;by_cases e:a=0
   ·rw [if_pos e] at h;obtain ⟨n,hn,n0⟩:=ih h;exact ⟨n,MK _ hn,n0⟩
   ·exact ⟨a,by simp,e⟩
 obtain ⟨n,hn,n0⟩:=this _ h.2;exact ⟨n,List.mem_reverse.mp hn,n0⟩
theorem JT {ns:List Int}{by':Int}(h:NZ ns)(hb:by'=if fX ns<0 then 0 - gL ns else gL ns) :
  by'≠0/\Ky (ns.map (·.fdiv by'))/\ns=(ns.map (·.fdiv by')).map (· * by'):=by
 have g0:=U7 h;have hn:by'≠0:=by rw [hb];split <;> lia
 have hd:∀ t,gL ns ∣ t->by' ∣ t:=fun t ht=>by
  rw [hb];split
  ·rw [Int.zero_sub];exact Int.neg_dvd.mpr ht
  ·exact ht
 have e:ns=(ns.map (·.fdiv by')).map (· * by'):=by
  rw [List.map_map];conv=>lhs;rw [<-List.map_id ns]
  refine List.map_congr_left fun n hn'=>?_;obtain ⟨m,hm⟩:=hd n (Ie n hn');show n=n.fdiv by'*by'
  conv=>lhs;rw [hm]
  conv=>rhs;rw [hm]
  rw [Int.mul_fdiv_cancel_left _ hn,Og]
 refine ⟨hn,?_,e⟩;generalize hms:ns.map (·.fdiv by')=ms at e;have e1:gL ns=gL ms*(by'.natAbs:Int):=by rw [e];exact J3 by' ms
 have e2:(by'.natAbs:Int)=gL ns:=by rw [hb];split <;> lia
 have e3:fX ns=fX ms*by':=by rw [e];exact rz hn ms
 have l0:=Ej h;refine ⟨?_,?_⟩
 ·rw [e2] at e1;have e1':gL ms*gL ns=1*gL ns:=by rw [<-e1,Int.one_mul]
  exact Int.eq_of_mul_eq_mul_right (by lia) e1'
 ·by_cases hs:fX ns<0
  ·rw [if_pos hs] at hb;have:by'<0:=by lia
   rw [e3] at hs;by_cases q:0<fX ms
   ·exact q
   ·have:=Int.mul_nonneg_of_nonpos_of_nonpos (show fX ms<=0 by lia) (Tn this)
    lia
  ·rw [if_neg hs] at hb;have:0<by':=by lia
   have hp:0<fX ns:=by lia
   rw [e3] at hp;by_cases q:0<fX ms
   ·exact q
   ·have:=Int.mul_nonpos_of_nonpos_of_nonneg (show fX ms<=0 by lia) (Tn this)
    lia
theorem sH {k:Int}(hk:k≠0):∀ {ns ms:List Int},ns.map (· * k)=ms.map (· * k)->ns=ms
 | [],[],_=>rfl
 | [],_::_,h=>by simp at h
 | _::_,[],h=>by simp at h
 | a::ns,b::ms,h=>by
  rw [Lj,Lj] at h;obtain ⟨h1,h2⟩:=List.cons.inj h;rw [Int.eq_of_mul_eq_mul_right hk h1,sH hk h2]
theorem Pu {ns ms:List Int}(hn:Ky ns)(hm:Ky ms){s t:Int}(hs:s≠0)(ht:t≠0)(h:ns.map (· * s)=ms.map (· * t)):ns=ms:=by
 have e1:gL ns*(s.natAbs:Int)=gL ms*(t.natAbs:Int):=by rw [<-J3,<-J3,h]
 rw [hn.1,hm.1] at e1;have e2:fX ns*s=fX ms*t:=by rw [<-rz hs,<-rz ht,h]
 have a:=hn.2;have b:=hm.2;have st:s=t:=by
  rcases Int.lt_or_gt_of_ne hs with s0 | s0 <;> rcases Int.lt_or_gt_of_ne ht with t0 | t0
  ·lia
  ·have x:=Int.mul_neg_of_pos_of_neg a s0;have y:=Int.mul_pos b t0;lia
  ·have x:=Int.mul_pos a s0;have y:=Int.mul_neg_of_pos_of_neg b t0;lia
  ·lia
 subst st;exact sH hs h
def qd (c0:kI):Prop:=∀ {h:Gh} {w:W} {ns:List Int} {m:Nat} {Q:WK} {E:EY},Ints w ns->NZ ns->(∀ n∈ns,Sm m n)->m<=8000->ns.length<=1000 ->
 (∀ (ms:List Int) (k:Int),k≠0->ns=ms.map (· * k)->Ky ms->(∀ n∈ms,Sm m n)->Q (.tup (ms.map .int)) h)->c0 [w] h Q E
theorem bN (a b:Int):Fo (.int a) (.int b)=(a==b):=by rw [Fo]
theorem afF {m:Nat}{a a' k:Int}(h:Sm m a)(e:a=a'*k)(hk:k≠0):Sm m a':=by
 refine h.le ?_;rw [e,Uc];exact Nat.le_mul_of_pos_right _<|by lia
theorem CV {m:Nat}{ns ms:List Int}{k:Int}(h:∀ n∈ns,Sm m n)(hk:k≠0)(e:ns=ms.map (· * k)):∀ n∈ms,Sm m n:=fun n hn=>
 afF (h (n*k) (by rw [e];exact MF.mpr ⟨n,hn,rfl⟩)) rfl hk
theorem aeZ {ns:List Int}(h:NZ ns):Jy ((ns.filter (·≠0)).map W.int) (-1)=Dn (.int (fX ns)):=by
 have key:∀ l:List Int,lH l≠0->∃ r,l.filter (·≠0)=lH l::r:=by
  intro l;induction l with
  | nil=>intro h;exact absurd rfl h
  | cons a l ih=>
   intro h;rw [lH] at h |-
   by_cases e:a=0
   ·rw [if_pos e] at h |-
    obtain ⟨r,hr⟩:=ih h;exact ⟨r,by rw [List.filter_cons,if_neg<|by simp [e]];exact hr⟩
   ·rw [if_neg e];exact ⟨_,by rw [List.filter_cons,if_pos<|by simp [e]]⟩
 obtain ⟨r,hr⟩:=key ns.reverse (Ej h);have hf:ns.filter (·≠0)=r.reverse++[fX ns]:=by
  rw [List.filter_reverse] at hr;have:=congrArg List.reverse hr
  rw [List.reverse_reverse,List.reverse_cons] at this;exact this
 rw [hf,Sd];exact Cg _ _
theorem Wu {ix:List Nat}{σ : Sw}{h:Gh}{Q:WK}{w:W}{ns:List Int}{by':Int}{m:Nat}(hs:xG h w=Dn ⟨ns.map .int,FX⟩)(hb:by'≠0)(hm:m<=8000)(hs':Sm m by')(hz:ns.length<=Gb)(hv:σ[0]?=Dn (Dn w))(hx:tV ix σ = [Dn (.int by')])(k:Q (.lst ((ns.map (·.fdiv by')).map .int)) h) :
  GC Gm ix (Gi (aq 0)) fU (JI uV (aq 0) (aq 1)) σ h Q:=by
 unfold GC Gi aq;rw [hv];dsimp only;rw [hs];refine jf.mk (by rw [GJ];exact hz) ?_;refine jz (fun i acc h'=>h'=h/\acc=((ns.take i).map (·.fdiv by')).map W.int) ?_ ?_ ⟨rfl,rfl⟩
 ·rintro i w acc h' N hN e ⟨rfl,rfl⟩;obtain ⟨n,en,rfl⟩:=ints_get e;refine ⟨[.int n],rfl,?_⟩;rw [hx];refine ⟨⟨hb,m,hm,hs'⟩,?_⟩;refine hN _ _ ⟨rfl,?_⟩;rw [M4,en];simp
 ·rintro acc h' ⟨rfl,rfl⟩;rw [GJ,NQ];exact k
def ZD (c0:kI):Prop:=∀ {h:Gh} {w:W} {ns:List Int} {Q:WK} {E:EY},Ints w ns->Q (.bl (decide (fX ns<0))) h->c0 [w] h Q E
theorem afN:ZD pI:=by
 intro h w ns Q E hw q;have key:∀ (l:List Int) (s:Src) (o:Option W),s.cell=FX->Q (.bl (decide (lH l<0))) h->eU s (Mk 1) (fY (bG (JI JG (aq 1) (mC (.int 0)))) (bZ (JI kLt (aq 1) (mC (.int 0)))) bV)
   { nx:=j8 E { nx:=fun _ h'=>Q .non h',rt:=fun w h'=>Q w h' },rt:=fun w h'=>Q w h' } (l.map .int) [Dn w,o] h:=by
  intro l;induction l with
  | nil=>
   intro s o hs q;obtain ⟨ws,ix⟩:=s;cases hs;exact q
  | cons n l ih=>
   intro s o hs q;obtain ⟨ws,ix⟩:=s;cases hs;rw [lH] at q;refine ⟨fun e=>?_,fun e=>?_⟩
   ·rw [bN] at e;rw [if_neg (by simpa using e)] at q;exact q
   ·rw [bN] at e;rw [if_pos (by simpa using e)] at q;exact ih _ _ rfl q
 have k2:=key ns.reverse ⟨(ns.map .int).reverse,FX⟩ FX rfl q;rw [List.map_reverse] at k2;rcases hw with rfl | rfl <;> exact k2
theorem zaG {dv en:kI}(hdv:xJ dv)(hen:ZD en):qd (IV dv en):=by
 intro h w ns m Q E hw h0 hs hm hl q;have hg0:=U7 h0;have hgs:Sm m (gL ns):=Wf hs;have hz:ns.length<=Gb:=Hj hl (by decide);have src:xG h w=Dn ⟨ns.map .int,FX⟩:=by rcases hw with rfl | rfl <;> rfl
 have fin:∀ by',(by'=if fX ns<0 then 0 - gL ns else gL ns)->wZ dv en E { nx:=fun _ h'=>Q .non h',rt:=fun w h'=>Q w h' } [Dn w,Dn (.int by')] h:=by
  intro by' e
  obtain ⟨hn,pl,eq⟩:=JT h0 e;have hbs:Sm m by':=by refine hgs.le ?_;rw [e];split <;> lia
  show GC Gm [1] (Gi (aq 0)) fU (JI uV (aq 0) (aq 1)) [Dn w,Dn (.int by')] h _;refine Wu (w:=w) (ns:=ns) src hn hm hbs hz rfl rfl ?_;exact q _ by' hn eq pl<|CV hs hn eq
 refine hdv hw ?_;refine z9 (by rw [bN];simp;lia) ?_;refine hen hw ?_;refine tZ (fun hl=>?_)<|fun hl=>?_
 ·exact fin _<|by rw [if_pos hl,Int.zero_sub]
 ·exact fin _<|by rw [if_neg hl]
abbrev Tr:=Int×Int×Int
def tl (t:Tr):List Int:=[t.1,t.2.1,t.2.2]
def tw (t:Tr):W:=.tup [.int t.1,.int t.2.1,.int t.2.2]
def Pl (t:Tr):Prop:=Ky (tl t)
def Bw (m:Nat)(t:Tr):Prop:=Sm m t.1/\Sm m t.2.1/\Sm m t.2.2
def sc (k:Int)(t:Tr):Tr:=(t.1*k,t.2.1*k,t.2.2*k)
def Fq (u t:Tr):Prop:=∃ k,k≠0/\u=sc k t
def crs (p q:Tr):Tr:=(p.2.1*q.2.2 - p.2.2*q.2.1,p.2.2*q.1 - p.1*q.2.2,p.1*q.2.1 - p.2.1*q.1)
def dt3 (p q:Tr):Int:=p.1*q.1+p.2.1*q.2.1+p.2.2*q.2.2
theorem Bw.mono {m n:Nat}{t:Tr}(h:Bw m t)(e:m<=n):Bw n t:=⟨h.1.mono e,h.2.1.mono e,h.2.2.mono e⟩
theorem Bw.all {m:Nat}{t:Tr}(h:Bw m t):∀ n∈tl t,Sm m n:=by
 intro n hn;simp only [tl,Fe,Fx,or_false] at hn;rcases hn with rfl | rfl | rfl
 ·exact h.1
 ·exact h.2.1
 ·exact h.2.2
theorem zR {t:Tr}:t=(0,0,0)↔t.1=0/\t.2.1=0/\t.2.2=0:=by
 obtain ⟨a,b,c⟩:=t;simp
theorem Ln {t:Tr}(h:t≠(0,0,0)):NZ (tl t):=by
 by_cases a:t.1=0
 ·by_cases b:t.2.1=0
  ·by_cases c:t.2.2=0
   ·exact absurd (zR.mpr ⟨a,b,c⟩) h
   ·exact ⟨_,by simp [tl],c⟩
  ·exact ⟨_,by simp [tl],b⟩
 ·exact ⟨_,by simp [tl],a⟩
theorem Iz {t:Tr}{k:Int}{ms:List Int}(e:tl t=ms.map (· * k)):∃ u:Tr,ms=tl u/\t=sc k u:=by
 match ms,congrArg List.length e,e with
 | [a,b,c],_,e=>
  simp only [tl,Lj,List.map_nil,List.cons.injEq,and_true] at e;exact ⟨(a,b,c),rfl,by obtain ⟨x,y,z⟩:=t;simp only [sc];simp only at e;rw [e.1,e.2.1,e.2.2]⟩
theorem qd.tr {c0:kI}(hc:qd c0){h:Gh}{w:W}{u:Tr}{m:Nat}{Q:WK}{E:EY}(hw:w=tw u\/w=.lst [.int u.1,.int u.2.1,.int u.2.2])(h0:u≠(0,0,0))(hs:Bw m u)(hm:m<=8000)
  (q:∀ t:Tr,Pl t->Fq u t->Bw m t->Q (tw t) h):c0 [w] h Q E:=by
 refine hc (ns:=tl u) (m:=m) ?_ (Ln h0) hs.all hm (show 3<=1000 by decide) fun ms k hk e pl sm=>?_
 ·rcases hw with rfl | rfl
  ·exact .inr rfl
  ·exact .inl rfl
 ·obtain ⟨t,rfl,e'⟩:=Iz e;exact q t pl ⟨k,hk,e'⟩ ⟨sm _<|by simp [tl],sm _<|by simp [tl],sm _<|by simp [tl]⟩
theorem cU {k:Int}{t:Tr}(hk:k≠0):sc k t=(0,0,0)↔t=(0,0,0):=by
 rw [zR,zR];show (t.1*k=0/\t.2.1*k=0/\t.2.2*k=0)↔_;rw [cH hk,cH hk,cH hk]
theorem Pl.ne {t:Tr}(h:Pl t):t≠(0,0,0):=by
 rintro rfl;obtain ⟨n,hn,n0⟩:=h.nz;simp [tl] at hn;exact n0 hn
theorem rm {u p q:Tr}(hp:Pl p)(hq:Pl q)(h1:Fq u p)(h2:Fq u q):p=q:=by
 obtain ⟨s,hs,e⟩:=h1;obtain ⟨t,ht,e'⟩:=h2;have h:sc s p=sc t q:=by rw [<-e,<-e']
 have:=Pu hp hq hs ht (by
  have:=congrArg tl h
  simpa [tl,sc] using this)
 obtain ⟨a,b,c⟩:=p;obtain ⟨x,y,z⟩:=q;simp only [tl,List.cons.injEq,and_true] at this;rw [this.1,this.2.1,this.2.2]
theorem Fq.refl (t:Tr):Fq t t:=⟨1,by decide,by simp [sc]⟩
theorem Uz (a b:Int)(t:Tr):sc a (sc b t)=sc (b*a) t:=by simp only [sc,Int.mul_assoc]
theorem Fq.trans {u v w:Tr}(h:Fq u v)(h':Fq v w):Fq u w:=by
 obtain ⟨s,hs,rfl⟩:=h;obtain ⟨t,ht,rfl⟩:=h';exact ⟨t*s,fun e=>(Gg.mp e).elim ht hs,Uz _ _ _⟩
theorem ray {p q:Tr}(hp:p≠(0,0,0))(h:crs p q=(0,0,0)):∃ s t:Int,s≠0/\sc s q=sc t p:=by
 obtain ⟨a,b,c⟩:=p;obtain ⟨x,y,z⟩:=q;have h1:b*z - c*y=0:=congrArg (·.1) h;have h2:c*x - a*z=0:=congrArg (·.2.1) h;have h3:a*y - b*x=0:=congrArg (·.2.2) h;by_cases ha:a=0
 ·by_cases hb:b=0
  ·by_cases hc:c=0
   ·exact absurd (by rw [ha,hb,hc]) hp
   ·refine ⟨c,z,hc,?_⟩;simp only [sc];refine Hy ?_ (Hy ?_ ?_) <;> simp only <;> grind
  ·refine ⟨b,y,hb,?_⟩;simp only [sc];refine Hy ?_ (Hy ?_ ?_) <;> simp only <;> grind
 ·refine ⟨a,x,ha,?_⟩;simp only [sc];refine Hy ?_ (Hy ?_ ?_) <;> simp only <;> grind
theorem vC {p q:Tr}(hp:Pl p)(hq:Pl q)(h:crs p q=(0,0,0)):p=q:=by
 obtain ⟨s,t,hs,e⟩:=ray hp.ne h;have ht:t≠0:=by
  rintro rfl;have:sc s q=(0,0,0):=by rw [e];simp [sc]
  exact hq.ne<|(cU hs).mp this
 exact rm (u:=sc t p) hp hq ⟨t,ht,rfl⟩ ⟨s,hs,e.symm⟩
theorem eN {p q:Tr}(hp:Pl p)(hq:Pl q)(h:p≠q):crs p q≠(0,0,0):=fun e=>h (vC hp hq e)
theorem flat {n p q r:Tr}(hn:n≠(0,0,0))(hp:dt3 n p=0)(hq:dt3 n q=0)(hr:dt3 n r=0):dt3 (crs p q) r=0:=by
 obtain ⟨n1,n2,n3⟩:=n;obtain ⟨p1,p2,p3⟩:=p;obtain ⟨q1,q2,q3⟩:=q;obtain ⟨r1,r2,r3⟩:=r;simp only [dt3,crs] at *;generalize hd:(p2*q3 - p3*q2)*r1+(p3*q1 - p1*q3)*r2+(p1*q2 - p2*q1)*r3=d;have e1:n1*d=0:=by grind
 have e2:n2*d=0:=by grind
 have e3:n3*d=0:=by grind
 by_cases h:d=0
 ·exact h
 ·have f:∀ x:Int,x*d=0->x=0:=fun x e=>by
   rcases Gg.mp e with e | e
   ·exact e
   ·exact absurd e h
  exact absurd (by rw [f _ e1,f _ e2,f _ e3]) hn
theorem aR (p q:Tr):dt3 p q=dt3 q p:=by simp only [dt3,Og]
theorem uX (k:Int)(p q:Tr):dt3 (sc k p) q=dt3 p q*k:=by simp only [dt3,sc];grind
theorem d9 (k:Int)(p q:Tr):dt3 p (sc k q)=dt3 p q*k:=by simp only [dt3,sc];grind
theorem zZ {u t n:Tr}(h:Fq u t):dt3 n u=0↔dt3 n t=0:=by
 obtain ⟨k,hk,rfl⟩:=h;rw [d9,cH hk]
theorem fK {u t n:Tr}(h:Fq u t):dt3 u n=0↔dt3 t n=0:=by rw [aR,zZ h,aR]
theorem vd (k l:Int)(p q:Tr):crs (sc k p) (sc l q)=sc (k*l) (crs p q):=by
 simp only [crs,sc];refine Hy ?_ (Hy ?_ ?_) <;> simp only <;> grind
theorem eF {u t u' t':Tr}(h:Fq u t)(h':Fq u' t'):Fq (crs u u') (crs t t'):=by
 obtain ⟨k,hk,rfl⟩:=h;obtain ⟨l,hl,rfl⟩:=h';exact ⟨k*l,fun e=>(Gg.mp e).elim hk hl,vd ..⟩
theorem jT (a:Tr):crs a a=(0,0,0):=by
 simp only [crs];refine Hy ?_ (Hy ?_ ?_) <;> simp only <;> grind
theorem dW (p q:Tr):dt3 (crs p q) p=0:=by simp only [dt3,crs];grind
theorem fH (p q:Tr):dt3 (crs p q) q=0:=by simp only [dt3,crs];grind
theorem cj {m:Nat}{p q:Tr}(hp:Bw m p)(hq:Bw m q):Bw (m+m+1) (crs p q):=
 ⟨(hp.2.1.mul hq.2.2).sub (hp.2.2.mul hq.2.1) |>.mono (by lia),(hp.2.2.mul hq.1).sub (hp.1.mul hq.2.2) |>.mono (by lia),(hp.1.mul hq.2.1).sub (hp.2.1.mul hq.1) |>.mono (by lia)⟩
theorem FQ (p q:Tr):Fo (tw p) (tw q)=decide (p=q):=by
 obtain ⟨a,b,c⟩:=p;obtain ⟨x,y,z⟩:=q;unfold tw;rw [Fo,oO,oO,oO,oO,bN,bN,bN];by_cases ha:a=x <;> by_cases hb:b=y <;> by_cases hc:c=z <;> simp [ha,hb,hc]
def tL (c0:kI):Prop:=∀ {h:Gh} {p q:Tr} {m:Nat} {Q:WK} {E:EY},m<=10000->Bw m p->Bw m q->Q (tw (crs p q)) h->c0 [tw p,tw q] h Q E
def qW (c0:kI):Prop:=∀ {h:Gh} {p q:Tr} {m:Nat} {Q:WK} {E:EY},m<=10000->Bw m p->Bw m q->Q (.int (dt3 p q)) h->c0 [tw p,tw q] h Q E
theorem ahw {h:Gh}{n:Nat}{ws:List W}(e:h.c n=Dn (.lst ws)):cG h (.loc n)=Dn ws:=by simp only [cG,e]
theorem tO:tL Aq:=by
 intro h p q m Q E hm hp hq k;obtain ⟨a,b,c⟩:=p;obtain ⟨x,y,z⟩:=q;obtain ⟨ha,hb,hc⟩:=hp;obtain ⟨hx,hy,hz⟩:=hq;simp only at ha hb hc hx hy hz
 ((conv=>whnf);repeat (refine And.intro (by exact fB.of (by trivial) (by trivial) (by lia) (by lia)) ?_;conv=>whnf))
 exact k
theorem J5:qW JR:=by
 intro h p q m Q E hm hp hq k;obtain ⟨a,b,c⟩:=p;obtain ⟨x,y,z⟩:=q;obtain ⟨ha,hb,hc⟩:=hp;obtain ⟨hx,hy,hz⟩:=hq;simp only at ha hb hc hx hy hz
 ((conv=>whnf);repeat (refine And.intro (by exact fB.of (by trivial) (by trivial) (by lia) (by lia)) ?_;conv=>whnf))
 exact k
def JoinOk (c0:kI):Prop:=∀ {h:Gh} {p q:Tr} {m:Nat} {Q:WK} {E:EY},m<=3900->Bw m p->Bw m q->Pl p->Pl q->p≠q->(∀ t:Tr,Pl t->Fq (crs p q) t->Bw (m+m+1) t->Q (tw t) h)->c0 [tw p,tw q] h Q E
theorem zbo {pl cr:kI}(hpl:qd pl)(hcr:tL cr):JoinOk (dY pl cr):=by
 intro h p q m Q E hm sp sq pp pq hne k;show br (Fo (tw p) (tw q)) _ _;rw [FQ];refine z9 (decide_eq_false hne) ?_;show cr [tw p,tw q] h _ _;refine hcr (m:=m) (by lia) sp sq ?_;show pl [tw (crs p q)] h _ _;exact hpl.tr (u:=crs p q) (m:=m+m+1) (.inl rfl) (eN pp pq hne) (cj sp sq) (by lia) k
theorem Yi {pc:kI}(hpc:JoinOk pc):JoinOk (CZ pc):=by
 intro h p q m Q E hm sp sq pp pq hne k;show pc [tw p,tw q] h _ _;exact hpc hm sp sq pp pq hne k
def Ku (c0:kI):Prop:=∀ {h:Gh} {p q:Tr} {m:Nat} {Q:WK} {E:EY},m<=10000->Bw m p->Bw m q->Q (.bl (decide (dt3 p q=0))) h->c0 [tw p,tw q] h Q E
theorem Qc {dt:kI}(hdt:qW dt):Ku (yj dt):=by
 intro h p q m Q E hm hp hq k;show dt [tw p,tw q] h _ _;refine hdt hm hp hq ?_;show Q (.bl (Fo (.int (dt3 p q)) (.int 0))) h;rw [bN];by_cases e:dt3 p q=0
 ·rw [decide_eq_true e] at k;rw [e];exact k
 ·rw [decide_eq_false e] at k;rw [show (dt3 p q==0)=false by simpa using e];exact k
def AllP (ts:List Tr):Prop:=∀ p∈ts,∀ q∈ts,∀ r∈ts,dt3 (crs q r) p=0
def Z3 (ts:List Tr)(a b c:Nat):Prop:=∀ p q r,ts[a]?=Dn p->ts[b]?=Dn q->ts[c]?=Dn r->dt3 (crs q r) p=0
open Classical in
noncomputable def dH (ts:List Tr):Bool:=decide (AllP ts)
open Classical in
theorem nR {ts:List Tr}(h:AllP ts):dH ts=true:=by unfold dH;exact decide_eq_true h
open Classical in
theorem Bg {ts:List Tr}(h:¬ AllP ts):dH ts=false:=by unfold dH;exact decide_eq_false h
theorem gZ (p q r:Tr):dt3 (crs q r) p=dt3 (crs r p) q:=by simp only [dt3,crs];grind
theorem afh (p q r:Tr):dt3 (crs q r) p = - dt3 (crs r q) p:=by simp only [dt3,crs];grind
theorem iD (p q:Tr):dt3 (crs q q) p=0:=by simp only [dt3,crs];grind
theorem pD {ts:List Tr}(H:∀ k j i,k<j->j<i->Z3 ts k j i):AllP ts:=by
 intro p hp q hq r hr;obtain ⟨a,ea⟩:=List.getElem?_of_mem hp;obtain ⟨b,eb⟩:=List.getElem?_of_mem hq;obtain ⟨c,ec⟩:=List.getElem?_of_mem hr;have rot:∀ {p q r:Tr},dt3 (crs q r) p=0->dt3 (crs r p) q=0:=fun {p q r} h=>by rw [<-gZ];exact h
 have sw:∀ {p q r:Tr},dt3 (crs q r) p=0->dt3 (crs r q) p=0:=fun {p q r} h=>by rw [afh,h];rfl
 have ab:a=b->p=q:=fun e=>by subst e;rw [ea] at eb;exact HS eb
 have bc:b=c->q=r:=fun e=>by subst e;rw [eb] at ec;exact HS ec
 have ac:a=c->p=r:=fun e=>by subst e;rw [ea] at ec;exact HS ec
 by_cases h1:a=b
 ·rw [ab h1];exact rot (iD r q)
 by_cases h2:b=c
 ·rw [bc h2];exact iD p r
 by_cases h3:a=c
 ·rw [ac h3];exact rot (rot (iD q r))
 by_cases l1:a<b
 ·by_cases l2:b<c
  ·exact H a b c l1 l2 _ _ _ ea eb ec
  ·by_cases l3:a<c
   ·exact sw<|H a c b l3 (by lia) _ _ _ ea ec eb
   ·exact rot<|H c a b (by lia) l1 _ _ _ ec ea eb
 ·by_cases l2:b<c
  ·by_cases l3:a<c
   ·exact sw<|rot<|H b a c (by lia) l3 _ _ _ eb ea ec
   ·exact rot<|rot<|H b c a l2 (by lia) _ _ _ eb ec ea
  ·exact sw<|rot<|rot<|H c b a (by lia) (by lia) _ _ _ ec eb ea
theorem agk (ts:List Tr)(h:ts.length<=2):AllP ts:=by
 refine pD fun k j i h1 h2 p q r _ _ e=>?_;have:=(Nk.mp e).1
 lia
theorem zaH {ts:List Tr}{t0 u:Tr}(h0:t0∈ts)(hu:u∈ts)(hne:u≠t0)(hp:∀ t∈ts,Pl t):(∀ t∈ts,t≠t0->dt3 (crs t0 u) t=0)↔AllP ts:=by
 refine ⟨fun H=>?_,fun H t ht _=>H t ht t0 h0 u hu⟩;have hn:=eN (hp _ h0) (hp _ hu) (Jj hne);have H':∀ t∈ts,dt3 (crs t0 u) t=0:=fun t ht=>by
  by_cases e:t=t0
  ·subst e;rw [gZ,gZ];exact iD _ _
  ·exact H t ht e
 intro p hp q hq r hr;exact flat hn (H' q hq) (H' r hr)<|H' p hp
theorem ags {ts:List Tr}{t0:Tr}(H:∀ t∈ts,t=t0):AllP ts:=by
 intro p hp q hq r hr;rw [H q hq,H r hr];exact iD _ _
theorem Dg {ts:List Tr}{i:Nat}{w:W}(e:(ts.map tw)[i]?=Dn w):∃ t,ts[i]?=Dn t/\w=tw t:=by
 rw [K8] at e;cases q:ts[i]? with
 | none=>rw [q] at e;cases e
 | some n=>rw [q] at e;exact ⟨n,rfl,(HS e).symm⟩
theorem Lw (n:Nat)(t:Tr):GR (n+1) (tw t)=true:=by cases n <;> rfl
theorem Ay:∀ bs:List Bool,Km (bs.map W.bl)=Dn bs
 | []=>rfl
 | b::bs=>by rw [Lj,Km,Ay bs];rfl
theorem JC {s:Src}{ws:List W}{own:W->Option (List W)}{ix:List Nat}{tt:MT}{te:ME}{σ : Sw}{Q:WK}(I:Nat->List W->Gh->Prop)
  (go:∀ i acc h,I i acc h->∀ P:Prop,P->s.go h P)
  (step:∀ (i:Nat) (w:W) (acc:List W) (h:Gh) (N:List W->Gh->Prop),(∀ acc' h',I (i+1) acc' h'->N acc' h')->ws[i]?=Dn w->I i acc h ->
   ∃ vs,own w=Dn vs/\tt (vs.map Dn++tV ix σ) h fun c h1=>Hi c (te (vs.map Dn++tV ix σ) h1 fun v h2=>N (acc++[v]) h2) (N acc h1))
  (fin:∀ acc h,I ws.length acc h->Q (.lst acc) h):∀ {acc:List W} {h:Gh},I 0 acc h->nu s own ix tt te σ Q ws acc h:=by
 induction ws generalizing I with
 | nil=>intro acc h h0;exact go 0 acc h h0 _ (fin acc h h0)
 | cons w ws ih=>
  intro acc h h0;obtain ⟨vs,ev,q⟩:=step 0 w acc h _ (fun acc' h' q=>ih (fun i=>I (i+1)) (fun i=>go (i+1)) (fun i w acc h N hN e hi=>step (i+1) w acc h N hN (by simpa using e) hi) (fun acc h q=>fin acc h q) q) rfl h0;refine go 0 acc h h0 _ ?_;show (match own w with
   | some vs=>_
   | none=>False)
  rw [ev];exact q
theorem abk {own:W->Option (List W)}{i:Nat}{ix:List Nat}{te:ME}{σ : Sw}{h:Gh}{Q:WK}{w:W}{ws:List W}(hv:σ[i]?=Dn (Dn w))(hs:xG h w=Dn ⟨ws,FX⟩)(hz:ws.length<=Gb)(k:nu ⟨ws,FX⟩ own ix fU te σ Q ws [] h):GC own ix (Gi (aq i)) fU te σ h Q:=by
 unfold GC Gi aq;rw [hv];dsimp only;rw [hs];exact jf.mk hz k
def iQ (h:Gh)(w:W)(ts:List Tr):Prop:=w=.lst (ts.map tw)\/∃ n,w=.loc n/\h.c n=Dn (.lst (ts.map tw))
theorem iQ.src {h:Gh}{w:W}{ts:List Tr}(e:iQ h w ts):view h w=Dn (ts.map tw)/\∃ s:Src,xG h w=Dn s/\s.ws=ts.map tw/\∀ P:Prop,P->s.go h P:=by
 rcases e with rfl | ⟨n,rfl,e⟩
 ·exact ⟨rfl,_,rfl,rfl,fun _ p=>p⟩
 ·refine ⟨CW e,⟨ts.map tw,Dn (n,ts.map tw)⟩,by simp only [xG,e],rfl,fun P p=>⟨e,p⟩⟩
theorem Aa (t0:Tr)(r:List Tr):Jy ((t0::r).map tw) 0=Dn (tw t0):=cF (j:=0) rfl
theorem zaK {h:Gh}{w:W}{t0:Tr}{r:List Tr}{o1 o2:Option W}{Q:WK}(e:iQ h w (t0::r))(hl:(t0::r).length<=1000)(q:Q (.lst (((t0::r).filter (·≠t0)).map tw)) h) :
  GC Gm [0] (Gi (aq 0)) (bG (JI JG (aq 0) (JI Aw (aq 1) (mC (.int 0))))) (aq 0) [Dn w,o1,o2] h Q:=by
 obtain ⟨ev,s,es,ew,go⟩:=e.src;generalize hts:t0::r=ts at *;have a0:Jy (ts.map tw) 0=Dn (tw t0):=by rw [<-hts];exact Aa _ _
 show (match xG h w with
  | some s=>_
  | none=>False)
 rw [es];show jf s.ws.length (nu s _ _ _ _ _ _ s.ws [] h);rw [ew];refine jf.mk (by rw [GJ];exact Hj hl (by decide)) ?_;refine JC (fun i acc h'=>h'=h/\acc=((ts.take i).filter (·≠t0)).map tw) ?_ ?_ ?_ ⟨rfl,rfl⟩
 ·rintro i acc h' ⟨rfl,_⟩;exact go
 ·rintro i w2 acc h' N hN e2 ⟨rfl,rfl⟩;obtain ⟨t,et,rfl⟩:=Dg e2;refine ⟨[tw t],rfl,?_⟩;show (match view h' w with
   | some ws=>(match Jy ws 0 with
    | some w=>_
    | none=>False)
   | none=>False)
  rw [ev];dsimp only;rw [a0];show Hi (GR 30 (tw t)&&GR 30 (tw t0)) (Hi (!Fo (tw t) (tw t0)) (N (_++[tw t]) h') _) False;rw [Lw 29,Lw 29,FQ];show Hi (!decide (t=t0)) _ _;by_cases h0:t=t0
  ·refine WL (by simp [h0])<|hN _ _ ⟨rfl,?_⟩
   rw [M4,et];simp [h0]
  ·refine K9 (by simp [h0])<|hN _ _ ⟨rfl,?_⟩
   rw [M4,et];simp [h0]
 ·rintro acc h' ⟨rfl,rfl⟩;rw [GJ,NQ];exact q
def jt (c0:kI):Prop:=∀ {h:Gh} {w:W} {ts:List Tr} {M:Nat} {Q:WK} {E:EY},iQ h w ts->ts.length<=1000->M<=4000->(∀ t∈ts,Pl t/\Bw M t)->Q (.bl (dH ts)) h->c0 [w] h Q E
theorem ahB {dot cr:kI}(hdot:qW dot)(hcr:tL cr):jt (tH dot cr):=by
 intro h w ts M Q E e hl hM hs q;show GC Gm [0] (Gi (aq 0)) (bG (JI JG (aq 0) (JI Aw (aq 1) (mC (.int 0))))) (aq 0) [Dn w,FX,FX] h _;match ts,e,hl,hs,q with
 | [],e,hl,hs,q=>
  obtain ⟨ev,s,es,ew,go⟩:=e.src;rw [nR (agk [] (by decide))] at q;show (match xG h w with
   | some s=>_
   | none=>False)
  rw [es];show jf s.ws.length (nu s _ _ _ _ _ _ s.ws [] h);rw [ew];show s.go h _;refine go _ ?_;exact Ve rfl q
 | t0::r,e,hl,hs,q=>
  refine zaK e hl ?_;generalize hts:t0::r=ts at *;have m0:t0∈ts:=by rw [<-hts];simp
  have hus:∀ t,t∈ts.filter (·≠t0)↔t∈ts/\t≠t0:=fun t=>by rw [T9];simp
  have hlu:(ts.filter (·≠t0)).length<=ts.length:=Uu ..;generalize ts.filter (·≠t0)=us at hus hlu;match us,hus,hlu with
  | [],hus,_=>
   rw [nR (ags (t0:=t0) fun t ht=>by
    by_cases e:t=t0
    ·exact e
    ·exact absurd ((hus t).mpr ⟨ht,e⟩) (by simp))] at q
   exact Ve rfl q
  | u::us,hus,hlu=>
   have hu:=(hus u).mp (by simp);refine z9 rfl ?_;obtain ⟨ev,s,es,ew,go⟩:=e.src;show (match view h w with
    | some ws=>(match Jy ws 0 with
     | some w=>_
     | none=>False)
    | none=>False)
   rw [ev];dsimp only;rw [show Jy (ts.map tw) 0=Dn (tw t0) by rw [<-hts];exact Aa _ _];show (match Jy ((u::us).map tw) 0 with
    | some w=>_
    | none=>False)
   rw [Aa];show cr [tw t0,tw u] h _ _;refine hcr (m:=M) (by lia) (hs _ m0).2 (hs _ hu.1).2 ?_;have sc:=cj (hs _ m0).2 (hs _ hu.1).2;have it:=zaH (u:=u) m0 hu.1 hu.2 fun t ht=>(hs t ht).1
   generalize crs t0 u=n at sc it;generalize hvs:u::us=vs at *;show GC Gm [2] (Gi (aq 1)) fU (JI JV (aF dot E (aj (aq 1) (aj (aq 0) aH))) (mC (.int 0))) [Dn w,Dn (.lst (vs.map tw)),Dn (tw n)] h _;refine abk (w:=.lst (vs.map tw)) (ws:=vs.map tw) rfl rfl (by rw [GJ];exact Hj (Hj hlu hl) (by decide)) ?_;refine jz (fun i acc h'=>h'=h/\acc=((vs.take i).map fun t=>dt3 n t==0).map W.bl) ?_ ?_ ⟨rfl,rfl⟩
   ·rintro i w2 acc h' N hN e2 ⟨rfl,rfl⟩;obtain ⟨t,et,rfl⟩:=Dg e2;have mt:=(hus t).mp (SM et);refine ⟨[tw t],rfl,?_⟩;show dot [tw n,tw t] h' _ _;refine hdot (m:=M+M+1) (by lia) sc ((hs t mt.1).2.mono (by lia)) ?_;show N (_++[W.bl (Fo (.int (dt3 n t)) (.int 0))]) h';rw [bN];refine hN _ _ ⟨rfl,?_⟩;rw [M4,et];simp
   ·rintro acc h' ⟨rfl,rfl⟩;rw [GJ,NQ];show (match Km ((vs.map fun t=>dt3 n t==0).map W.bl) with
     | some bs=>Q (.bl (bs.all id)) h'
     | none=>False)
    rw [Ay];have ef:(vs.map fun t=>dt3 n t==0).all id=dH ts:=by
     by_cases H:AllP ts
     ·rw [nR H,Q0];intro b hb;obtain ⟨t,ht,rfl⟩:=MF.mp hb;have:=it.mpr H t ((hus t).mp ht).1 ((hus t).mp ht).2
      simp [this]
     ·rw [Bg H];refine Bool.eq_false_iff.mpr fun hb=>H<|it.mp fun t ht hne=>?_
      rw [Q0] at hb;have:=hb _ (MF.mpr ⟨t,(hus t).mpr ⟨ht,hne⟩,rfl⟩)
      simpa using this
    dsimp only;rw [ef];exact q
theorem aei {sh:kI}(hsh:jt sh):jt (yq sh):=by
 intro h w ts M Q E e hl hM hs q;show sh [w] h _ _;exact hsh e hl hM hs q
theorem Dr {s:Src}{ws:List W}{g:MG}{b:MS}{D:bR}(I:Nat->Sw->Gh->Prop)(go:∀ i σ h,I i σ h->∀ P:Prop,P->s.go h P)
  (step:∀ (i:Nat) (w:W) (σ : Sw) (h:Gh) (N:Sw->Gh->Prop),(∀ σ' h',I (i+1) σ' h'->N σ' h')->ws[i]?=Dn w->I i σ h->g w σ h fun σ1 h1=>b { D with nx:=N,ct:=N,bk:=D.nx } σ1 h1)
  (fin:∀ σ h,I ws.length σ h->D.nx σ h):∀ {σ : Sw} {h:Gh},I 0 σ h->eU s g b D ws σ h:=by
 induction ws generalizing I with
 | nil=>intro σ h h0;exact go 0 σ h h0 _ (fin σ h h0)
 | cons w ws ih=>
  intro σ h h0;refine go 0 σ h h0 _ ?_;refine step 0 w σ h _ (fun σ' h' q=>?_) rfl h0;exact ih (fun i=>I<|i+1) (fun i=>go<|i+1) (fun i w σ h N hN e hi=>step (i+1) w σ h N hN (by simpa using e) hi) (fun σ h q=>fin σ h q) q
theorem W5 {h:Gh}{n:Nat}{us:List W}{w:W}{Q:WK}(e:h.c n=Dn (.lst us))(hz:us.length<Gb)(k:Q .non (h.set n (.lst (us++[w])))):cI (.loc n) [w] h Q:=by
 show (match h.c n with
  | some (Cell.lst us)=>_
  | _=>False)
 rw [e];exact ⟨hz,k⟩
theorem Cu {h:Gh}{n:Nat}{us zs:List W}{Q:WK}(e:h.c n=Dn (.lst us))(hz:us.length+zs.length<=Gb)(k:Q .non (h.set n (.lst (us++zs)))):iw (.loc n) [.lst zs] h Q:=by
 dsimp only [iw];rw [e];exact jf.mk hz k
theorem Qm {ma:MA}{j:Int}{own:W->Option (List W)}{ix:List Nat}{tt:MT}{te:ME}{σ : Sw}{h:Gh}{Q:WK}(hm:∀ R,ma σ h R=R [.int j] h)(h1:-(2^62)<=j)(h2:j<2^62)(hz:j.toNat<=Gb)(I:Nat->List W->Gh->Prop)
  (step:∀ (i:Nat) (acc:List W) (h:Gh) (N:List W->Gh->Prop),(∀ acc' h',I (i+1) acc' h'->N acc' h')->i<j.toNat->I i acc h ->
   ∃ vs,own (.int (i:Int))=Dn vs/\tt (vs.map Dn++tV ix σ) h fun c h1=>Hi c (te (vs.map Dn++tV ix σ) h1 fun v h2=>N (acc++[v]) h2) (N acc h1))
  (fin:∀ acc h,I j.toNat acc h->Q (.lst acc) h) (h0:I 0 [] h):GC own ix (iu ma) tt te σ h Q:=by
 unfold GC iu;rw [hm];refine yK.mk h1 h2<|jf.mk (by rw [vP];exact hz) ?_
 refine jz I (fun i w acc h N hN e hi=>?_) (fun acc h q=>fin acc h (by rw [vP] at q;exact q)) h0;obtain ⟨hlt,rfl⟩:=Cv e;rw [Int.zero_add];exact step i acc h N hN hlt hi
abbrev Mt:=Tr×Tr×Tr
def vm (M:Mt)(v:Tr):Tr:=(dt3 M.1 v,dt3 M.2.1 v,dt3 M.2.2 v)
def tr (M:Mt):Mt:=((M.1.1,M.2.1.1,M.2.2.1),(M.1.2.1,M.2.1.2.1,M.2.2.2.1),(M.1.2.2,M.2.1.2.2,M.2.2.2.2))
def mm (M N:Mt):Mt:=(vm (tr N) M.1,vm (tr N) M.2.1,vm (tr N) M.2.2)
def Ja (M:Mt):Mt:=(crs M.2.1 M.2.2,crs M.2.2 M.1,crs M.1 M.2.1)
def adj (M:Mt):Mt:=tr (Ja M)
def det (M:Mt):Int:=dt3 (crs M.1 M.2.1) M.2.2
def sM (k:Int)(M:Mt):Mt:=(sc k M.1,sc k M.2.1,sc k M.2.2)
def idM:Mt:=((1,0,0),(0,1,0),(0,0,1))
theorem Lq {p q:Tr}(h1:p.1=q.1)(h2:p.2.1=q.2.1)(h3:p.2.2=q.2.2):p=q:=Hy h1 (Hy h2 h3)
theorem mt3 {M N:Mt}(h1:M.1=N.1)(h2:M.2.1=N.2.1)(h3:M.2.2=N.2.2):M=N:=Hy h1 (Hy h2 h3)
theorem qR (x:Tr)(N:Mt)(v:Tr):dt3 (vm (tr N) x) v=dt3 x (vm N v):=by
 simp only [dt3,vm,tr];grind
theorem vo (M N:Mt)(v:Tr):vm (mm M N) v=vm M (vm N v):=by
 simp only [mm];exact Lq (qR _ _ _) (qR _ _ _)<|qR _ _ _
theorem abE (M:Mt):tr (tr M)=M:=rfl
theorem UW (M N:Mt):tr (mm M N)=mm (tr N) (tr M):=by
 simp only [mm,tr,vm];refine mt3 (Lq ?_ ?_ ?_) (Lq ?_ ?_ ?_) (Lq ?_ ?_ ?_) <;> exact aR _ _
theorem aeK (A B C:Mt):mm (mm A B) C=mm A (mm B C):=by
 have f:∀ x:Tr,vm (tr C) (vm (tr B) x)=vm (tr (mm B C)) x:=fun x=>by rw [UW,vo]
 exact mt3 (f _) (f _)<|f _
theorem yX (M:Mt)(k:Int)(v:Tr):vm M (sc k v)=sc k (vm M v):=Lq (d9 _ _ _) (d9 _ _ _) (d9 _ _ _)
theorem xr (M:Mt)(k:Int)(v:Tr):vm (sM k M) v=sc k (vm M v):=Lq (uX _ _ _) (uX _ _ _) (uX _ _ _)
theorem Ft (v:Tr):vm idM v=v:=by
 obtain ⟨a,b,c⟩:=v;simp [vm,idM,dt3]
theorem JK (M:Mt):mm M (adj M)=sM (det M) idM:=by
 obtain ⟨⟨a,b,c⟩,⟨d,e,f⟩,⟨g,h,i⟩⟩:=M;simp only [mm,vm,adj,tr,Ja,det,sM,idM,sc,dt3,crs];refine mt3 (Lq ?_ ?_ ?_) (Lq ?_ ?_ ?_) (Lq ?_ ?_ ?_) <;> simp only <;> grind
theorem Dh (M:Mt):mm (adj M) M=sM (det M) idM:=by
 obtain ⟨⟨a,b,c⟩,⟨d,e,f⟩,⟨g,h,i⟩⟩:=M;simp only [mm,vm,adj,tr,Ja,det,sM,idM,sc,dt3,crs];refine mt3 (Lq ?_ ?_ ?_) (Lq ?_ ?_ ?_) (Lq ?_ ?_ ?_) <;> simp only <;> grind
theorem Jq (M:Mt)(p q:Tr):crs (vm M p) (vm M q)=vm (Ja M) (crs p q):=by
 obtain ⟨⟨a,b,c⟩,⟨d,e,f⟩,⟨g,h,i⟩⟩:=M;obtain ⟨p1,p2,p3⟩:=p;obtain ⟨q1,q2,q3⟩:=q;simp only [vm,Ja,dt3,crs];refine Lq ?_ ?_ ?_ <;> simp only <;> grind
theorem afL (M:Mt)(x v:Tr):dt3 (vm (Ja M) x) (vm M v)=det M*dt3 x v:=by
 show dt3 (vm (tr (adj M)) x) (vm M v)=_;rw [qR,<-vo,Dh,xr,Ft,d9,Og]
theorem CJ (M:Mt)(p q r:Tr):dt3 (crs (vm M p) (vm M q)) (vm M r)=det M*dt3 (crs p q) r:=by rw [Jq,afL]
theorem G6 (M:Mt):det (tr M)=det M:=by
 obtain ⟨⟨a,b,c⟩,⟨d,e,f⟩,⟨g,h,i⟩⟩:=M;simp only [det,tr,dt3,crs];grind
theorem Yy (M N:Mt):det (mm M N)=det M*det N:=by
 show dt3 (crs (vm (tr N) M.1) (vm (tr N) M.2.1)) (vm (tr N) M.2.2)=_;rw [CJ,G6,Og];rfl
theorem Qn (k:Int)(M:Mt):det (sM k M)=det M*(k*k*k):=by
 simp only [det,sM];rw [vd,uX,d9];grind
theorem zH {k:Int}{M:Mt}(hk:k≠0):det (sM k M)≠0↔det M≠0:=by
 rw [Qn];have:k*k*k≠0:=fun h=>(Gg.mp h).elim (fun h=>(Gg.mp h).elim hk hk) hk
 rw [ne_eq,cH this]
theorem XM:det idM=1:=by decide
theorem lM {M:Mt}(h:det M≠0):det (adj M)≠0:=by
 have e:=Yy M (adj M);rw [JK,Qn,XM] at e;intro z;rw [z,Ni,Int.one_mul] at e;exact (Gg.mp e).elim (fun e=>(Gg.mp e).elim h h) h
theorem uh {M:Mt}{v:Tr}(h:det M≠0)(hv:v≠(0,0,0)):vm M v≠(0,0,0):=by
 intro e;have e2:vm (adj M) (vm M v)=(0,0,0):=by rw [e];simp [vm,dt3]
 rw [<-vo,Dh,xr,Ft] at e2;exact hv<|(cU h).mp e2
def ml (M:Mt):List Int:=tl M.1++(tl M.2.1++tl M.2.2)
def mw (M:Mt):W:=.tup [.int M.1.1,.int M.1.2.1,.int M.1.2.2,.int M.2.1.1,.int M.2.1.2.1,.int M.2.1.2.2,.int M.2.2.1,.int M.2.2.2.1,.int M.2.2.2.2]
def Rp (M:Mt):W:=.lst [.int M.1.1,.int M.1.2.1,.int M.1.2.2,.int M.2.1.1,.int M.2.1.2.1,.int M.2.1.2.2,.int M.2.2.1,.int M.2.2.2.1,.int M.2.2.2.2]
def PlM (M:Mt):Prop:=Ky (ml M)
def IW (m:Nat)(M:Mt):Prop:=Bw m M.1/\Bw m M.2.1/\Bw m M.2.2
def Vs (U M:Mt):Prop:=∃ k,k≠0/\U=sM k M
theorem IW.mono {m n:Nat}{M:Mt}(h:IW m M)(e:m<=n):IW n M:=⟨h.1.mono e,h.2.1.mono e,h.2.2.mono e⟩
theorem IW.all {m:Nat}{M:Mt}(h:IW m M):∀ n∈ml M,Sm m n:=by
 intro n hn;unfold ml at hn;rcases S8.mp hn with hn | hn
 ·exact h.1.all n hn
 ·rcases S8.mp hn with hn | hn
  ·exact h.2.1.all n hn
  ·exact h.2.2.all n hn
theorem abr {M:Mt}(h:det M≠0):NZ (ml M):=by
 by_cases h1:M.1=(0,0,0)
 ·exact absurd (by unfold det;rw [h1];simp [crs,dt3]) h
 ·obtain ⟨n,hn,n0⟩:=Ln h1;exact ⟨n,V3 _ hn,n0⟩
theorem Xk {M:Mt}{k:Int}{ms:List Int}(e:ml M=ms.map (· * k)):∃ N:Mt,ms=ml N/\M=sM k N:=by
 match ms,congrArg List.length e,e with
 | [a,b,c,d,e',f,g,h,i],_,e=>
  simp only [ml,tl,List.cons_append,List.nil_append,Lj,List.map_nil,List.cons.injEq,and_true] at e;refine ⟨((a,b,c),(d,e',f),(g,h,i)),rfl,?_⟩;obtain ⟨e1,e2,e3,e4,e5,e6,e7,e8,e9⟩:=e;exact mt3 (Lq e1 e2 e3) (Lq e4 e5 e6)<|Lq e7 e8 e9
theorem Vs.det {U M:Mt}(h:Vs U M):My.det U≠0↔My.det M≠0:=by
 obtain ⟨k,hk,rfl⟩:=h;exact zH hk
theorem qd.mt {c0:kI}(hc:qd c0){h:Gh}{w:W}{U:Mt}{m:Nat}{Q:WK}{E:EY}(hw:w=mw U\/w=Rp U)(h0:My.det U≠0)(hs:IW m U)(hm:m<=8000)
  (q:∀ M:Mt,PlM M->Vs U M->IW m M->Q (mw M) h):c0 [w] h Q E:=by
 refine hc (ns:=ml U) (m:=m) ?_ (abr h0) hs.all hm (show 9<=1000 by decide) fun ms k hk e pl sm=>?_
 ·rcases hw with rfl | rfl
  ·exact .inr rfl
  ·exact .inl rfl
 ·obtain ⟨M,rfl,e'⟩:=Xk e;refine q M pl ⟨k,hk,e'⟩ ⟨⟨sm _ ?_,sm _ ?_,sm _ ?_⟩,⟨sm _ ?_,sm _ ?_,sm _ ?_⟩,⟨sm _ ?_,sm _ ?_,sm _ ?_⟩⟩ <;> simp [ml,tl]
theorem iM {m n:Nat}{p q:Tr}(hp:Bw m p)(hq:Bw n q):Sm (m+n+2) (dt3 p q):=
 ((hp.1.mul hq.1).add (hp.2.1.mul hq.2.1)).add (hp.2.2.mul hq.2.2) |>.mono (by lia)
theorem zV {m:Nat}{M:Mt}(h:IW m M):IW m (tr M):=⟨⟨h.1.1,h.2.1.1,h.2.2.1⟩,⟨h.1.2.1,h.2.1.2.1,h.2.2.2.1⟩,⟨h.1.2.2,h.2.1.2.2,h.2.2.2.2⟩⟩
theorem uw {m n:Nat}{M:Mt}{v:Tr}(h:IW m M)(hv:Bw n v):Bw (m+n+2) (vm M v):=⟨iM h.1 hv,iM h.2.1 hv,iM h.2.2 hv⟩
theorem Wt {m n:Nat}{M N:Mt}(h:IW m M)(h':IW n N):IW (n+m+2) (mm M N):=⟨uw (zV h') h.1,uw (zV h') h.2.1,uw (zV h') h.2.2⟩
theorem Eh {m:Nat}{M:Mt}(h:IW m M):IW (m+m+1) (Ja M):=⟨cj h.2.1 h.2.2,cj h.2.2 h.1,cj h.1 h.2.1⟩
theorem Yo {m:Nat}{M:Mt}(h:IW m M):IW (m+m+1) (adj M):=zV (Eh h)
def yd (h:Gh)(w:W)(ns:List Int):Prop:=w=.lst (ns.map .int)\/w=.tup (ns.map .int)\/∃ n,w=.loc n/\h.c n=Dn (.lst (ns.map .int))
theorem yd.src {h:Gh}{w:W}{ns:List Int}(e:yd h w ns):∃ s:Src,xG h w=Dn s/\s.ws=ns.map .int/\∀ h',yd h' w ns->∀ P:Prop,P->s.go h' P:=by
 rcases e with rfl | rfl | ⟨n,rfl,e⟩
 ·exact ⟨_,rfl,rfl,fun _ _ _ p=>p⟩
 ·exact ⟨_,rfl,rfl,fun _ _ _ p=>p⟩
 ·refine ⟨⟨ns.map .int,Dn (n,ns.map .int)⟩,by simp only [xG,e],rfl,fun h' e' P p=>⟨?_,p⟩⟩;rcases e' with e' | e' | ⟨m,e',q⟩
  ·cases e'
  ·cases e'
  ·cases e';exact q
theorem afj {i:Nat}{g:MG}{b:MS}{D:bR}{σ : Sw}{h:Gh}{w:W}{ns:List Int}(hv:σ[i]?=Dn (Dn w))(e:yd h w ns)(I:Nat->Sw->Gh->Prop)
  (go:∀ i σ h',I i σ h'->yd h' w ns)
  (step:∀ (i:Nat) (t:Int) (σ : Sw) (h:Gh) (N:Sw->Gh->Prop),(∀ σ' h',I (i+1) σ' h'->N σ' h')->ns[i]?=Dn t->I i σ h->g (.int t) σ h fun σ1 h1=>b { D with nx:=N,ct:=N,bk:=D.nx } σ1 h1)
  (fin:∀ σ h,I ns.length σ h->D.nx σ h) (h0:I 0 σ h):uf (Gi (aq i)) g b D σ h:=by
 unfold uf Gi aq;rw [hv];dsimp only;obtain ⟨s,es,ew,hg⟩:=e.src;rw [es];show eU s g b D s.ws σ h;rw [ew];refine Dr I (fun i σ h' hi=>hg h'<|go i σ h' hi) (fun i w σ h N hN e hi=>?_) (fun σ h q=>fin σ h<|by rwa [GJ] at q) h0;obtain ⟨t,et,rfl⟩:=ints_get e;exact step i t σ h N hN et hi
theorem Hz {i:Nat}{ix:List Nat}{tt:MT}{te:ME}{σ : Sw}{h:Gh}{Q:WK}{w:W}{ns:List Int}(hv:σ[i]?=Dn (Dn w))(e:yd h w ns)(hz:ns.length<=Gb)(I:Nat->List W->Gh->Prop)
  (go:∀ i acc h',I i acc h'->yd h' w ns)
  (step:∀ (i:Nat) (t:Int) (acc:List W) (h:Gh) (N:List W->Gh->Prop),(∀ acc' h',I (i+1) acc' h'->N acc' h')->ns[i]?=Dn t->I i acc h ->
   tt (Dn (.int t)::tV ix σ) h fun c h1=>Hi c (te (Dn (.int t)::tV ix σ) h1 fun v h2=>N (acc++[v]) h2) (N acc h1))
  (fin:∀ acc h,I ns.length acc h->Q (.lst acc) h) (h0:I 0 [] h):GC Gm ix (Gi (aq i)) tt te σ h Q:=by
 unfold GC Gi aq;rw [hv];dsimp only;obtain ⟨s,es,ew,hg⟩:=e.src;rw [es];show jf s.ws.length (nu s Gm ix tt te σ Q s.ws [] h);rw [ew];refine jf.mk (by rw [GJ];exact hz) ?_;refine JC I (fun i acc h' hi=>hg h'<|go i acc h' hi) (fun i w acc h N hN e hi=>?_) (fun acc h q=>fin acc h<|by rwa [GJ] at q) h0;obtain ⟨t,et,rfl⟩:=ints_get e;exact ⟨[.int t],rfl,step i t acc h N hN et hi⟩
def aaG (c0:kI):Prop:=∀ {h:Gh} {w:W} {ns:List Int} {m:Nat} {Q:WK} {E:EY},yd h w ns->NZ ns->(∀ n∈ns,Sm m n)->m<=8000->ns.length<=1000 ->
 (∀ (ms:List Int) (k:Int),k≠0->ns=ms.map (· * k)->Ky ms->(∀ n∈ms,Sm m n)->Q (.tup (ms.map .int)) h)->c0 [w] h Q E
def lw (t:Tr):W:=.lst [.int t.1,.int t.2.1,.int t.2.2]
def JX (b:Bool)(t:Tr):W:=if b then tw t else lw t
def Mr (b:Bool)(M:Mt):W:=if b then mw M else Rp M
def abd (c0:kI):Prop:=∀ {h:Gh} {p q:Tr} {m:Nat} {Q:WK} {E:EY} (b b':Bool),m<=10000->Bw m p->Bw m q->Q (tw (crs p q)) h->c0 [JX b p,JX b' q] h Q E
def abR (c0:kI):Prop:=∀ {h:Gh} {p q:Tr} {m:Nat} {Q:WK} {E:EY} (b b':Bool),m<=10000->Bw m p->Bw m q->Q (.int (dt3 p q)) h->c0 [JX b p,JX b' q] h Q E
theorem Ec:abd Aq:=by
 intro h p q m Q E b b' hm hp hq k;obtain ⟨x,y,z⟩:=q;obtain ⟨a,b2,c⟩:=p;obtain ⟨ha,hb,hc⟩:=hp;obtain ⟨hx,hy,hz⟩:=hq;simp only at ha hb hc hx hy hz;cases b <;> cases b'
 ·((conv=>whnf);repeat (refine And.intro (by exact fB.of (by trivial) (by trivial) (by lia) (by lia)) ?_;conv=>whnf))
  exact k
 ·((conv=>whnf);repeat (refine And.intro (by exact fB.of (by trivial) (by trivial) (by lia) (by lia)) ?_;conv=>whnf))
  exact k
 ·((conv=>whnf);repeat (refine And.intro (by exact fB.of (by trivial) (by trivial) (by lia) (by lia)) ?_;conv=>whnf))
  exact k
 ·((conv=>whnf);repeat (refine And.intro (by exact fB.of (by trivial) (by trivial) (by lia) (by lia)) ?_;conv=>whnf))
  exact k
theorem Ox:abR JR:=by
 intro h p q m Q E b b' hm hp hq k;obtain ⟨x,y,z⟩:=q;obtain ⟨a,b2,c⟩:=p;obtain ⟨ha,hb,hc⟩:=hp;obtain ⟨hx,hy,hz⟩:=hq;simp only at ha hb hc hx hy hz;cases b <;> cases b'
 ·((conv=>whnf);repeat (refine And.intro (by exact fB.of (by trivial) (by trivial) (by lia) (by lia)) ?_;conv=>whnf))
  exact k
 ·((conv=>whnf);repeat (refine And.intro (by exact fB.of (by trivial) (by trivial) (by lia) (by lia)) ?_;conv=>whnf))
  exact k
 ·((conv=>whnf);repeat (refine And.intro (by exact fB.of (by trivial) (by trivial) (by lia) (by lia)) ?_;conv=>whnf))
  exact k
 ·((conv=>whnf);repeat (refine And.intro (by exact fB.of (by trivial) (by trivial) (by lia) (by lia)) ?_;conv=>whnf))
  exact k
def yM (c0:kI):Prop:=∀ {h:Gh} {M:Mt} {Q:WK} {E:EY} (b:Bool),Q (.lst [JX b M.1,JX b M.2.1,JX b M.2.2]) h->c0 [Mr b M] h Q E
theorem Ep:yM xO:=by
  intro h M Q E b k;cases b
  . exact k
  . first
    | exact k
    | (refine And.intro (by decide:¬ ((0:Nat)=0/\(3:Nat)=9)) (And.intro (by decide:¬ ((3:Nat)=0/\(6:Nat)=9)) (And.intro (by decide:¬ ((6:Nat)=0/\(9:Nat)=9)) ?_))
       exact k)
def qp (c0:kI):Prop:=∀ {h:Gh} {M:Mt} {m:Nat} {Q:WK} {E:EY} (b:Bool),m<=10000->IW m M->Q (mw (Ja M)) h->c0 [Mr b M] h Q E
theorem aeQ {cr ro:kI}(hcr:abd cr)(hro:yM ro):qp (Dl cr ro):=by
 intro h M m Q E b hm hs k;show ro [Mr b M] h _ _;refine hro b ?_;show cr [JX b M.2.1,JX b M.2.2] h _ _;refine hcr b b hm hs.2.1 hs.2.2 ?_;show cr [JX b M.2.2,JX b M.1] h _ _;refine hcr b b hm hs.2.2 hs.1 ?_;show cr [JX b M.1,JX b M.2.1] h _ _;refine hcr b b hm hs.1 hs.2.1 ?_;exact k
def Ou (c0:kI):Prop:=∀ {h:Gh} {M:Mt} {m:Nat} {Q:WK} {E:EY} (b:Bool),m<=4000->IW m M->Q (.int (det M)) h->c0 [Mr b M] h Q E
def XR (c0:kI):Prop:=∀ {h:Gh} {p q r:Tr} {m:Nat} {Q:WK} {E:EY} (b:Bool),m<=4000->Bw m p->Bw m q->Bw m r->Q (.int (dt3 (crs p q) r)) h->c0 [JX b p,JX b q,JX b r] h Q E
theorem Vo {dt cr:kI}(hdt:abR dt)(hcr:abd cr):XR (Pr dt cr):=by
 intro h p q r m Q E b hm hp hq hr k;show cr [JX b p,JX b q] h _ _;refine hcr (m:=m) b b (by lia) hp hq ?_;show dt [JX true (crs p q),JX b r] h _ _;exact hdt (m:=m+m+1) true b (by lia) (cj hp hq) (hr.mono<|by lia) k
theorem w_size {tu ro:kI}(htu:XR tu)(hro:yM ro):Ou (wU tu ro):=by
 intro h M m Q E b hm hs k;show ro [Mr b M] h _ _;refine hro b ?_;show tu [JX b M.1,JX b M.2.1,JX b M.2.2] h _ _;exact htu b hm hs.1 hs.2.1 hs.2.2 k
def Ce (c0:kI):Prop:=∀ {h:Gh} {M:Mt} {Q:WK} {E:EY} (b:Bool),Q (Rp (tr M)) h->c0 [Mr b M] h Q E
theorem afp {b:Bool}{M:Mt}{h:Gh}{Q:WK}:∀ (i:Nat) (w:W),[W.int M.1.1,.int M.2.1.1,.int M.2.2.1,.int M.1.2.1,.int M.2.1.2.1,.int M.2.2.2.1,.int M.1.2.2,.int M.2.1.2.2,.int M.2.2.2.2][i]?=Dn w->Q w h ->
  JI Aw (aq 1) (JI bD (JI bJ (mC (.int 3)) (JI je (aq 0) (mC (.int 3)))) (JI uV (aq 0) (mC (.int 3)))) [Dn (.int (i:Int)),Dn (Mr b M)] h Q:=by
 have c:∀ a b:Int,RM (a.natAbs+1) (2^64)=true->RM (b.natAbs+1) (2^64)=true->fB a b:=fun a b h1 h2=>.of (Sm.lit h1) (Sm.lit h2) (by decide) (by decide)
 have d:yg 0 3:=⟨by decide,64,by decide,.lit rfl⟩
 intro i w e q;match i,e with
 | 0,e | 1,e | 2,e | 3,e | 4,e | 5,e | 6,e | 7,e | 8,e=>
  have e':=HS e;subst e';refine And.intro (by decide)<|And.intro (c _ _ rfl rfl)<|And.intro d ?_
  cases b
  ·exact q
  ·exact q
theorem Jr:Ce xW:=by
 intro h M Q E b k;show GC Gm [0] (iu (aj (mC (.int 9)) aH)) fU (JI Aw (aq 1) (JI bD (JI bJ (mC (.int 3)) (JI je (aq 0) (mC (.int 3)))) (JI uV (aq 0) (mC (.int 3))))) [Dn (Mr b M)] h _;refine Qm (j:=9) (fun _=>rfl) (by decide) (by decide) (by decide) (fun i acc h'=>h'=h/\acc=[W.int M.1.1,.int M.2.1.1,.int M.2.2.1,.int M.1.2.1,.int M.2.1.2.1,.int M.2.2.2.1,.int M.1.2.2,.int M.2.1.2.2,.int M.2.2.2.2].take i) ?_ ?_ ⟨rfl,rfl⟩
 ·rintro i acc h' N hN hlt ⟨rfl,rfl⟩;refine ⟨[.int (i:Int)],rfl,?_⟩;have hi:i < [W.int M.1.1,.int M.2.1.1,.int M.2.2.1,.int M.1.2.1,.int M.2.1.2.1,.int M.2.2.2.1,.int M.1.2.2,.int M.2.1.2.2,.int M.2.2.2.2].length:=hlt;refine afp (b:=b) (M:=M) i _ (Kc hi) ?_;refine hN _ _ ⟨rfl,?_⟩;rw [M4,Kc hi];rfl
 ·rintro acc h' ⟨rfl,rfl⟩;exact k
def Xe (c0:kI):Prop:=∀ {h:Gh} {M N:Mt} {m:Nat} {Q:WK} {E:EY} (b b':Bool),m<=4000->IW m M->IW m N->Q (Rp (mm M N)) h->c0 [Mr b M,Mr b' N] h Q E
theorem aaN {dt ro fl:kI}(hdt:abR dt)(hro:yM ro)(hfl:Ce fl):Xe (d8 dt ro fl):=by
 intro h M N m Q E b b' hm hM hN k;have hT:=zV hN;show fl [Mr b' N] h _ _;refine hfl b' ?_;show ro [Mr false (tr N)] h _ _;refine hro false ?_;show ro [Mr b M] (h.new (.lst [])) _ _;refine hro b ?_;have dots:∀ (g:Gh) (r:Tr) (s0 s1 s3:Option W) (Q':WK),Bw m r->Q' (.lst [.int (dt3 r (tr N).1),.int (dt3 r (tr N).2.1),.int (dt3 r (tr N).2.2)]) g ->
   GC Gm [4] (Gi (aq 2)) fU (aF dt E (aj (aq 1) (aj (aq 0) aH))) [s0,s1,Dn (.lst [lw (tr N).1,lw (tr N).2.1,lw (tr N).2.2]),s3,Dn (JX b r)] g Q':=by
  intro g r s0 s1 s3 Q' hr q;show dt [JX b r,JX false (tr N).1] g _ _;refine hdt b false (by lia) hr hT.1 ?_;show dt [JX b r,JX false (tr N).2.1] g _ _;refine hdt b false (by lia) hr hT.2.1 ?_;show dt [JX b r,JX false (tr N).2.2] g _ _;refine hdt b false (by lia) hr hT.2.2 ?_;exact q
 show (match (h.new (.lst [])).c h.nx with
  | some (Cell.lst us)=>_
  | _=>False)
 rw [Ae];refine dots _ _ _ _ _ _ hM.1 ?_;dsimp only [aH];refine Cu (Ae _ _) (by simp;decide) ?_;show (match ((h.new (.lst [])).set h.nx _).c h.nx with
  | some (Cell.lst us)=>_
  | _=>False)
 rw [wz];refine dots _ _ _ _ _ _ hM.2.1 ?_;dsimp only [aH];refine Cu (wz _ _ _) (by simp;decide) ?_;show (match (((h.new (.lst [])).set h.nx _).set h.nx _).c h.nx with
  | some (Cell.lst us)=>_
  | _=>False)
 rw [wz];refine dots _ _ _ _ _ _ hM.2.2 ?_;dsimp only [aH];refine Cu (wz _ _ _) (by simp;decide) ?_;refine ⟨fun n c hn e=>?_,.inr ⟨h.nx,_,rfl,Ge _,wz _ _ _,?_,?_⟩⟩
 ·rw [rY (by lia),rY (by lia),rY (by lia),uz (by lia)];exact e
 ·simp [Lo,Kv]
 ·have e:Rp (mm M N)=.lst [.int (dt3 M.1 (tr N).1),.int (dt3 M.1 (tr N).2.1),.int (dt3 M.1 (tr N).2.2),.int (dt3 M.2.1 (tr N).1),.int (dt3 M.2.1 (tr N).2.1),.int (dt3 M.2.1 (tr N).2.2),.int (dt3 M.2.2 (tr N).1),.int (dt3 M.2.2 (tr N).2.1),.int (dt3 M.2.2 (tr N).2.2)]:=by
   simp only [Rp,mm,vm,aR]
  rw [e] at k;exact k
def PX (c0:kI):Prop:=∀ {h:Gh} {M:Mt} {m:Nat} {Q:WK} {E:EY},m<=3000->IW m M->det M≠0->(∀ N,PlM N->Vs (adj M) N->IW (m+m+1) N->Q (mw N) h)->c0 [mw M] h Q E
theorem YD {pl fl tu:kI}(hpl:qd pl)(hfl:Ce fl)(htu:qp tu):PX (OJ pl fl tu):=by
 intro h M m Q E hm sM dM k;show tu [Mr true M] h _ _;refine htu true (by lia) sM ?_;show fl [Mr true (Ja M)] h _ _;refine hfl true ?_;show pl [Rp (adj M)] h _ _;exact hpl.mt (m:=m+m+1) (.inr rfl) (lM dM) (Yo sM) (by lia) k
theorem c32:(10:Int)^(32:Int).toNat=100000000000000000000000000000000:=by decide
def zY (c:kI):Prop:=∀ {h:Gh} {ns:List Int} {k:Int} {Q:WK} {E:EY},0<=k->Q (.int (ns.getD k.toNat 0)) h->c [.kls (ns.map .int),.int k] h Q E
theorem Oq:zY Ed:=by
 intro h ns k Q E h0 q;show br (decide (k<((ns.map W.int).length:Int))) _ _;refine tZ (fun hk=>?_)<|fun hk=>?_
 ·conv=>whnf
  rw [ahl h0 hk];exact q
 ·have e:ns.getD k.toNat 0=0:=by
   rw [Rb,List.getElem?_eq_none (by rw [GJ] at hk;lia)];rfl
  rw [e] at q;exact q
theorem dI (a:Int){b:Int}(h:0<b):0<=a.fmod b/\a.fmod b<b:=by
 rw [zbv h];exact ⟨Int.emod_nonneg _ (by lia),Int.emod_lt_of_pos _ h⟩
def nZ (c:kI):Prop:=∀ {h:Gh} {ns:List Int} {k many:Int} {Q:WK} {E:EY},0<=k->k<=1000->0<=many->many<=1000 ->
 (∀ xs:List Int,(xs.length:Int)=many->Q (.lst (xs.map .int)) h)->c [.kls (ns.map .int),.int k,.int many] h Q E
theorem ahb {cl:kI}(hcl:zY cl):nZ (xV cl):=by
 intro h ns k many Q E k0 k1 m0 m1 q;show cl [.kls (ns.map .int),.int k] h _ _;refine hcl k0 ?_;generalize ns.getD k.toNat 0=left;have p62:(2:Int)^62=4611686018427387904:=by decide
 refine And.intro (.of (m:=64) (n:=10) (.lit rfl) (nJ (by lia)<|by lia) (by decide)<|by decide) ?_;refine And.intro (.of (m:=64) (n:=10) (.lit rfl) (nJ (by lia)<|by lia) (by decide)<|by decide) ?_;refine And.intro (show (4294967291:Int)≠0 by decide) ?_;generalize decide (107*many<(Tf left:Nat))=free;obtain ⟨s0,s1⟩:=dI (left+7919*k+11) (b:=4294967291) (by decide);generalize (left+7919*k+11).fmod 4294967291=seed at *;dsimp only [Mk,aV,bx,nM,aH];refine jf.mk (by decide) ?_;have f32:(10:Int)^(32:Int).toNat≠0:=by rw [c32];decide
 have s32:Sm 8000 ((10:Int)^(32:Int).toNat):=by rw [c32];unfold Sm;decide +kernel
 refine ahs (j:=many) (fun _=>rfl) (by lia) (by lia) (fun i σ h'=>∃ (xs:List Int) (left seed:Int) (o7 o8:Option W),xs.length=i/\0<=seed/\seed<4294967291/\h'.c h.nx=Dn (.lst (xs.map .int))/\(∀ n,n≠h.nx->h'.c n=h.c n) /\
  σ = [Dn (.kls (ns.map .int)),Dn (.int k),Dn (.int many),Dn (.int left),Dn (.bl free),Dn (.int seed),Dn (.loc h.nx),o7,o8]) ?_ ?_ ⟨[],left,seed,FX,FX,rfl,s0,s1,Ae _ _,fun n hn=>uz hn,rfl⟩
 ·rintro i σ h' N hN hi ⟨xs,left,seed,o7,o8,hl,s0,s1,hc,ho,rfl⟩;have hi:(i:Int)<many:=by lia
  have sz:(xs.map W.int).length<Gb:=by rw [GJ,hl];exact JB (show i<1000 by lia) (by decide)
  have app:∀ (x:Int) (left' seed':Int) (o7 o8:Option W),0<=seed'->seed'<4294967291->N [Dn (.kls (ns.map .int)),Dn (.int k),Dn (.int many),Dn (.int left'),Dn (.bl free),Dn (.int seed'),Dn (.loc h.nx),o7,o8] (h'.set h.nx (.lst (xs.map .int++[.int x]))):=by
   intro x left' seed' o7 o8 h0 h1;refine hN _ _ ⟨xs++[x],left',seed',o7,o8,by simp [hl],h0,h1,by rw [wz];simp,fun n hn=>by rw [rY hn];exact ho n hn,rfl⟩
  refine ⟨fun _=>?_,fun _=>?_⟩
  ·show (match h'.c h.nx with
    | some (Cell.lst us)=>_
    | _=>False)
   rw [hc];refine And.intro ⟨by decide,by decide,by decide⟩<|And.intro f32 ?_
   show (match h'.c h.nx with
    | some (Cell.lst us)=>_
    | _=>False)
   rw [hc];refine And.intro sz ?_;refine And.intro ⟨by decide,by decide,by decide⟩<|And.intro ⟨f32,8000,by decide,s32⟩ ?_
   exact app _ _ _ _ _ s0 s1
  ·refine And.intro (.of (m:=32) (n:=64) (nJ (by lia)<|by lia) (.lit rfl) (by decide)<|by decide) ?_;refine And.intro (.of (m:=10) (n:=10) (nJ (by lia)<|by lia) (nJ (by lia)<|by lia) (by decide)<|by decide) ?_;refine And.intro (show (4294967291:Int)≠0 by decide) ?_;obtain ⟨t0,t1⟩:=dI (seed*69069+362437+(i:Int)*(i:Int)) (b:=4294967291) (by decide);generalize (seed*69069+362437+(i:Int)*(i:Int)).fmod 4294967291=sd at *;refine And.intro ⟨by decide,64,by decide,.lit rfl⟩ ?_;have d0:0<=sd.fdiv 4096:=by rw [CQ (by decide)];lia
   have d1:sd.fdiv 4096<4294967291:=by rw [CQ (by decide)];lia
   refine And.intro (.of (m:=32) (n:=40) (nJ (by lia)<|by lia) (nJ (by lia)<|by lia) (by decide)<|by decide) ?_;refine And.intro (show (999999999989:Int)≠0 by decide) ?_;obtain ⟨n0,n1⟩:=dI (sd*(sd.fdiv 4096+(i:Int)+1)) (b:=999999999989) (by decide);generalize (sd*(sd.fdiv 4096+(i:Int)+1)).fmod 999999999989=nr at *;show (match h'.c h.nx with
    | some (Cell.lst us)=>_
    | _=>False)
   rw [hc];have sn:Sm 41 nr:=nJ (by lia) (by lia);have sn7:Sm 41 (nr+7):=nJ (by lia) (by lia);refine And.intro (.of sn sn7 (by decide)<|by decide) ?_;refine And.intro (.of (n:=33) (sn.mul sn7) (nJ (by lia)<|by lia) (by decide)<|by decide) ?_;refine And.intro ⟨by decide,by decide,by decide⟩<|And.intro f32 ?_
   show (match h'.c h.nx with
    | some (Cell.lst us)=>_
    | _=>False)
   rw [hc];exact And.intro sz<|app _ _ _ _ _ t0 t1
 ·rintro σ h' ⟨xs,left,seed,o7,o8,hl,s0,s1,hc,ho,rfl⟩;refine ⟨fun n c hn e=>by rw [ho n<|by lia];exact e,.inr ⟨h.nx,_,rfl,Ge _,hc,?_,q xs<|by lia⟩⟩;have:∀ ys:List Int,Kv h.nx (ys.map W.int):=fun ys=>by
   induction ys with
   | nil=>exact trivial
   | cons y ys ih=>exact ⟨trivial,ih⟩
  exact this xs
theorem afv:aaG xU:=by
 intro h w ns m Q E hw h0 hs hm hl q;have hg0:=U7 h0;have hgs:Sm m (gL ns):=Wf hs;have hz:ns.length<=Gb:=Hj hl (by decide);have fin:∀ by',(by'=if fX ns<0 then 0 - gL ns else gL ns)->∀ o2 o3 o4,sJ E { nx:=fun _ h'=>Q .non h',rt:=fun w h'=>Q w h' } [Dn w,Dn (.int by'),o2,o3,o4] h:=by
  intro by' e o2 o3 o4
  obtain ⟨hn,pl,eq⟩:=JT h0 e;have hbs:Sm m by':=by refine hgs.le ?_;rw [e];split <;> lia
  show GC Gm [1] (Gi (aq 0)) fU (JI uV (aq 0) (aq 1)) [Dn w,Dn (.int by'),o2,o3,o4] h _;refine Hz (w:=w) (ns:=ns) rfl hw hz (fun i acc h'=>h'=h/\acc=((ns.take i).map (·.fdiv by')).map W.int) (fun i acc h' e=>by rw [e.1];exact hw) ?_ ?_ ⟨rfl,rfl⟩
  ·rintro i t acc h' N hN et ⟨rfl,rfl⟩;refine And.intro ⟨hn,m,hm,hbs⟩ ?_;refine hN _ _ ⟨rfl,?_⟩;rw [M4,et];simp
  ·rintro acc h' ⟨rfl,rfl⟩;rw [NQ];exact q _ by' hn eq pl<|CV hs hn eq
 suffices key:uf (Gi (aq 0)) (Mk 2) (aV (bx (HN Ds (aj (aq 2) aH)) (Mk 3)) (Du (bG (JI Ob (aq 3) (mC (.int 0)))) (aV (bx (JI je (aq 1) (aq 3)) (Mk 4)) (aV (bx (aq 3) (Mk 1)) (bx (aq 4) (Mk 3))))))
   { nx:=sO E { nx:=fun _ h'=>Q .non h',rt:=fun w h'=>Q w h' },rt:=fun w h'=>Q w h' } [Dn w,Dn (.int 0),FX,FX,FX] h from key
 refine afj (w:=w) (ns:=ns) rfl hw (fun i σ h'=>h'=h/\∃ o2 o3 o4,σ = [Dn w,Dn<|.int<|gL<|ns.take i,o2,o3,o4]) (fun i σ h' e=>by rw [e.1];exact hw) ?_ ?_ ⟨rfl,FX,FX,FX,rfl⟩
 ·rintro i n σ h' N hN en ⟨rfl,o2,o3,o4,rfl⟩;have f0:=Uo (ns.take i);generalize hf:gL (ns.take i)=f at f0;conv=>whnf
  refine ⟨fun m σ h2=>h2=h'/\∃ x y o4,σ = [Dn w,Dn<|.int x,Dn<|.int n,Dn<|.int y,o4]/\0<=x/\0<=y/\Nr x y=Nr n f/\m=y.toNat,⟨_,rfl,f,_,_,rfl,f0,Jg n,?_,rfl⟩,?_⟩
  ·rw [abs_eq,Int.gcd_comm];simp [Nr]
  ·rintro m σ h2 ⟨rfl,x,y,o4,rfl,x0,y0,hg,rfl⟩;refine ⟨fun e=>?_,fun e=>?_⟩
   ·have hy:0<y:=by simpa using e
    obtain ⟨g1,g2,g3⟩:=DX x0 hy;conv=>whnf
    refine ⟨by lia,?_⟩;refine ⟨(x.fmod y).toNat,by lia,rfl,y,x.fmod y,_,rfl,y0,g2,g1.trans hg,rfl⟩
   ·have hy:y=0:=by
     have:¬ 0<y:=by simpa using e
     lia
    subst hy;refine hN _ _ ⟨rfl,Dn<|.int n,Dn<|.int 0,o4,?_⟩;have:gL (ns.take (i+1))=x:=by rw [JF en,hf];unfold gF;rw [<-hg];exact rP x0
    rw [this]
 ·rintro σ h' ⟨rfl,o2,o3,o4,rfl⟩;rw [NQ];show GC Gm [] (Gi (aq 0)) (bG (JI JG (aq 0) (mC (.int 0)))) (aq 0) [Dn w,Dn (.int (gL ns)),o2,o3,o4] h' _;refine Hz (w:=w) (ns:=ns) rfl hw hz (fun i acc h2=>h2=h'/\acc=((ns.take i).filter (·≠0)).map W.int) (fun i acc h' e=>by rw [e.1];exact hw) ?_ ?_ ⟨rfl,rfl⟩
  ·rintro i n acc h' N hN en ⟨rfl,rfl⟩;show Hi (!Fo (.int n) (.int 0)) (N (_++[W.int n]) h') _;rw [bN];by_cases h0:n=0
   ·refine WL (by simp [h0])<|hN _ _ ⟨rfl,?_⟩
    rw [M4,en];simp [h0]
   ·refine K9 (by simp [h0])<|hN _ _ ⟨rfl,?_⟩
    rw [M4,en];simp [h0]
  ·rintro acc h' ⟨rfl,rfl⟩;rw [NQ];have el:=aeZ h0;generalize (ns.filter (·≠0)).map W.int=F at el;show (match Jy F (-1) with
     | some w=>_
     | none=>False)
   rw [el];refine tZ (fun hl=>?_)<|fun hl=>?_
   ·exact fin _ (by rw [if_pos hl]) _ _ _
   ·exact fin _ (by rw [if_neg hl]) _ _ _
def tK (Q:Bool->Gh->Prop):WK:=fun w h=>match w with
 | .bl c=>Q c h
 | _=>False
def uK (Q:Bool->Gh->Prop):WK:=fun w h=>match Z9 h w with
 | some b=>Q b h
 | none=>False
def aK (b:ME)(σ : Sw)(Q:WK):WK:=fun x h=>match x with
 | .bl true=>b σ h Q
 | .bl false=>Q (.bl false) h
 | _=>False
def oK (b:ME)(σ : Sw)(Q:WK):WK:=fun x h=>match x with
 | .bl false=>b σ h Q
 | .bl true=>Q (.bl true) h
 | _=>False
def nK (Q:WK):WK:=fun x h=>match x with
 | .bl c=>Q (.bl (!c)) h
 | _=>False
def iK (R:Src->Gh->Prop):WK:=fun w h=>match xG h w with
 | some s=>R s h
 | none=>False
def xK (f:Str->Bool)(Q:WK):WK:=fun w h=>match w with
 | .exc n=>Q (.bl (f n)) h
 | .exa n _=>Q (.bl (f n)) h
 | _=>False
def pK (Q:Option Int->Gh->Prop):WK:=fun w h=>match w with
 | .int i=>Q (Dn i) h
 | _=>False
def aco (g:MG)(b:MS)(D:bR)(σ : Sw):Src->Gh->Prop:=fun s h=>eU s g b D s.ws σ h
def lcK (own:W->Option (List W))(ix:List Nat)(tt:MT)(te:ME)(σ : Sw)(Q:WK):Src->Gh->Prop:=fun s h=>jf s.ws.length (nu s own ix tt te σ Q s.ws [] h)
def rgK (R:Src->Gh->Prop):List W->Gh->Prop:=fun ws h=>match ws with
 | [.int j]=>yK j (R ⟨zP 0 j.toNat,FX⟩ h)
 | _=>False
def zpK (R:Src->Gh->Prop):List W->Gh->Prop:=fun ws h=>match ws with
 | [x,y]=>(match PK h x y with
  | some s=>R s h
  | none=>False)
 | _=>False
theorem aO {m u:MS}{D:bR}{σ : Sw}{h:Gh}(x:m { D with nx:=u D } σ h):aV m u D σ h:=x
theorem cC {N b c:Sw->Gh->Prop}{r:WK}{σ : Sw}{h:Gh}(x:N σ h):bR.nx ⟨N,r,b,c⟩ σ h:=x
theorem adJ {N b c:Sw->Gh->Prop}{r:WK}{σ : Sw}{h:Gh}(x:b σ h):bR.bk ⟨N,r,b,c⟩ σ h:=x
theorem adK {N b c:Sw->Gh->Prop}{r:WK}{σ : Sw}{h:Gh}(x:c σ h):bR.ct ⟨N,r,b,c⟩ σ h:=x
theorem uc {N b c:Sw->Gh->Prop}{r:WK}{w:W}{h:Gh}(x:r w h):bR.rt ⟨N,r,b,c⟩ w h:=x
theorem agv {D:bR}{w:W}{h:Gh}(x:D.rt w h):bR.rt (bR.lost D) w h:=x
theorem afX {D:bR}{σ : Sw}{h:Gh}(x:D.nx (σ.map fun _=>FX) h):bR.nx (bR.lost D) σ h:=x
theorem afC {D:bR}{σ : Sw}{h:Gh}(x:D.nx σ h):bV D σ h:=x
theorem aZ {m:ME}{g:MG}{D:bR}{σ : Sw}{h:Gh}(x:m σ h fun w h1=>g w σ h1 D.nx):bx m g D σ h:=x
theorem kW {m:ME}{D:bR}{σ : Sw}{h:Gh}(x:m σ h fun _ h1=>D.nx σ h1):gY m D σ h:=x
theorem cu {m:ME}{D:bR}{σ : Sw}{h:Gh}(x:m σ h D.rt):bZ m D σ h:=x
theorem afT {c:Str}{E:EY}{D:bR}{σ : Sw}{h:Gh}(x:E ⟨c,[]⟩ h):fG c E D σ h:=x
theorem dh {t:MT}{a b:MS}{D:bR}{σ : Sw}{h:Gh}(x:t σ h fun c h1=>br c (a D σ h1) (b D σ h1)):fY t a b D σ h:=x
theorem Wv {t:MT}{a b:ME}{Q:WK}{σ : Sw}{h:Gh}(x:t σ h fun c h1=>br c (a σ h1 Q) (b σ h1 Q)):mIf t a b σ h Q:=x
theorem Xq {i:Nat}{d:Str}{mb:EY->MS}{mh:MS}{D:bR}{σ : Sw}{h:Gh}(x:mb (fun x h'=>Hi (QJ x.cls d) (mh D.lost (σ.set i (Dn (aak x))) h') False) D σ h):adU i d mb mh D σ h:=x
theorem rF {n:Nat}{g:Ny}{w:W}{ws:List W}{σ : Sw}{h:Gh}{N:Sw->Gh->Prop}(e:w=.tup ws)(b:Ls ws.length n=true)(x:g ws σ h N):lE n g w σ h N:=by
 subst e;unfold lE;dsimp only;rw [b];exact x
theorem z7 {n:Nat}{g:Ny}{w:W}{ws:List W}{σ : Sw}{h:Gh}{N:Sw->Gh->Prop}(e:w=.lst ws)(b:Ls ws.length n=true)(x:g ws σ h N):lE n g w σ h N:=by
 subst e;unfold lE;dsimp only;rw [b];exact x
theorem Zh {n:Nat}{g:Ny}{w:W}{ws:List W}{σ : Sw}{h:Gh}{N:Sw->Gh->Prop}(e:w=.tup ws)(b:Ls ws.length n=true)(x:g ws σ h N):acC n g w σ h N:=by
 subst e;unfold acC;dsimp only;rw [b];exact x
theorem cD {g:MG}{r:Ny}{w:W}{ws:List W}{σ : Sw}{h:Gh}{N:Sw->Gh->Prop}(x:g w σ h fun σ1 h1=>r ws σ1 h1 N):cL g r (w::ws) σ h N:=x
theorem qM {σ : Sw}{h:Gh}{N:Sw->Gh->Prop}(x:N σ h):Gq [] σ h N:=x
theorem ao {i:Nat}{w:W}{σ : Sw}{h:Gh}{Q:WK}(e:σ[i]?=Dn (Dn w))(x:Q w h):aq i σ h Q:=by
 unfold aq;rw [e];exact x
theorem bB {w:W}{σ : Sw}{h:Gh}{Q:WK}(x:Q w h):mC w σ h Q:=x
theorem aL {r:M2}{ma mb:ME}{σ : Sw}{h:Gh}{Q:WK}(x:ma σ h fun a h1=>mb σ h1 fun b h2=>r a b h2 Q):JI r ma mb σ h Q:=x
theorem aaF {r:W->Gh->WK->Prop}{ma:ME}{σ : Sw}{h:Gh}{Q:WK}(x:ma σ h fun a h1=>r a h1 Q):mUn r ma σ h Q:=x
theorem Xi {i:Int}{h:Gh}{Q:WK}(x:Q (.int (-i)) h):Vv (.int i) h Q:=x
theorem ak {a:ME}{r:MA}{σ : Sw}{h:Gh}{Q:List W->Gh->Prop}(x:a σ h fun w h1=>r σ h1 fun ws h2=>Q (w::ws) h2):aj a r σ h Q:=x
theorem aD {σ : Sw}{h:Gh}{Q:List W->Gh->Prop}(x:Q [] h):aH σ h Q:=x
theorem cV {n:Nat}{P:Prop}(e:RM n 1000=true)(x:P):jf n P:=by
 unfold jf;rw [e];exact x
theorem j5 {t:MA}{σ : Sw}{h:Gh}{Q:WK}(x:t σ h fun ws h1=>jf ws.length (Q (.tup ws) h1)):qy t σ h Q:=x
theorem qC {t:MA}{σ : Sw}{h:Gh}{Q:WK}(x:t σ h fun ws h1=>jf ws.length (Q (.lst ws) h1)):Dy t σ h Q:=x
theorem aG {c:kI}{E:EY}{ma:MA}{σ : Sw}{h:Gh}{Q:WK}(x:ma σ h fun ws h1=>c ws h1 Q E):aF c E ma σ h Q:=x
theorem mK {r:MC}{ma:MA}{σ : Sw}{h:Gh}{Q:WK}(x:ma σ h fun ws h1=>r ws h1 Q):HN r ma σ h Q:=x
theorem bL {m:ME}{σ : Sw}{h:Gh}{Q:Bool->Gh->Prop}(x:m σ h (tK Q)):bG m σ h Q:=x
theorem qb {c:Bool}{h:Gh}{Q:Bool->Gh->Prop}(x:Q c h):tK Q (.bl c) h:=x
theorem GP {m:ME}{σ : Sw}{h:Gh}{Q:Bool->Gh->Prop}(x:m σ h (uK Q)):wQ m σ h Q:=x
theorem aad {w:W}{b:Bool}{h:Gh}{Q:Bool->Gh->Prop}(e:Z9 h w=Dn b)(x:Q b h):uK Q w h:=by
 unfold uK;rw [e];exact x
theorem Jb {t:MT}{σ : Sw}{h:Gh}{Q:Bool->Gh->Prop}(x:t σ h fun c h1=>Q (!c) h1):Gp t σ h Q:=x
theorem JZ {t u:MT}{σ : Sw}{h:Gh}{Q:Bool->Gh->Prop}(x:t σ h fun c h1=>br c (u σ h1 Q) (Q false h1)):X6 t u σ h Q:=x
theorem yP {t u:MT}{σ : Sw}{h:Gh}{Q:Bool->Gh->Prop}(x:t σ h fun c h1=>br c (Q true h1) (u σ h1 Q)):Ol t u σ h Q:=x
theorem bI {σ : Sw}{h:Gh}{Q:Bool->Gh->Prop}(x:Q true h):fU σ h Q:=x
theorem ahq {a b:ME}{σ : Sw}{h:Gh}{Q:WK}(x:a σ h (aK b σ Q)):ab5 a b σ h Q:=x
theorem Xf {a b:ME}{σ : Sw}{h:Gh}{Q:WK}(x:a σ h (oK b σ Q)):adk a b σ h Q:=x
theorem J2 {a:ME}{σ : Sw}{h:Gh}{Q:WK}(x:a σ h (nK Q)):Tg a σ h Q:=x
theorem adx {b:ME}{σ : Sw}{h:Gh}{Q:WK}{c:Bool}(x:br c (b σ h Q) (Q (.bl false) h)):aK b σ Q (.bl c) h:=by
 cases c with
 | true=>exact x.1 rfl
 | false=>exact x.2 rfl
theorem adN {b:ME}{σ : Sw}{h:Gh}{Q:WK}{c:Bool}(x:br c (Q (.bl true) h) (b σ h Q)):oK b σ Q (.bl c) h:=by
 cases c with
 | true=>exact x.1 rfl
 | false=>exact x.2 rfl
theorem adv {h:Gh}{Q:WK}{c:Bool}(x:Q (.bl (!c)) h):nK Q (.bl c) h:=x
theorem Z6 {f:Str->Bool}{m:ME}{σ : Sw}{h:Gh}{Q:WK}(x:m σ h (xK f Q)):adf f m σ h Q:=x
theorem adp {f:Str->Bool}{n:Str}{h:Gh}{Q:WK}(x:Q (.bl (f n)) h):xK f Q (.exc n) h:=x
theorem Bv {a b:Prop}(x:a):br true a b:=Ve rfl x
theorem rZ {a b:Prop}(x:b):br false a b:=z9 rfl x
theorem Zv {a b:Prop}(x:b):br (!true) a b:=rZ x
theorem Xn {a b:Prop}(x:a):br (!false) a b:=Bv x
theorem bM {a b:Prop}(x:a):Hi true a b:=x
theorem YL {a b:Prop}(x:b):Hi false a b:=x
theorem uO {i j:Int}{h:Gh}{Q:WK}(x:Q (.int (i - j)) h):pJ (.int i) (.int j) h Q:=x
theorem fP {i j:Int}{h:Gh}{Q:WK}(x:Q (.int (i+j)) h):bD (.int i) (.int j) h Q:=x
theorem dF {i j:Int}{h:Gh}{Q:WK}(c:fB i j)(x:Q (.int (i*j)) h):bJ (.int i) (.int j) h Q:=⟨c,x⟩
theorem CG {i j:Int}{h:Gh}{Q:WK}(c:yg i j)(x:Q (.int (i.fdiv j)) h):uV (.int i) (.int j) h Q:=⟨c,x⟩
theorem dO {i j:Int}{h:Gh}{Q:WK}(c:j≠0)(x:Q (.int (i.fmod j)) h):je (.int i) (.int j) h Q:=⟨c,x⟩
theorem Wo {i j:Int}{h:Gh}{Q:WK}(x:Q (.bl (decide (i<j))) h):kLt (.int i) (.int j) h Q:=x
theorem Li {i j:Int}{h:Gh}{Q:WK}(x:Q (.bl (decide (i>j))) h):Ob (.int i) (.int j) h Q:=x
theorem wX {i j:Int}{h:Gh}{Q:WK}(x:Q (.bl (decide (i=j))) h):JV (.int i) (.int j) h Q:=by
 have e:Fo (.int i) (.int j)=decide (i=j):=bN i j;show Q (.bl (Fo (.int i) (.int j))) h;rw [e];exact x
theorem abQ {i j:Int}{h:Gh}{Q:WK}(x:Q (.bl (decide (i≠j))) h):JG (.int i) (.int j) h Q:=by
 have e:(!Fo (.int i) (.int j))=decide (i≠j):=by rw [bN];by_cases z:i=j <;> simp [z]
 show Q (.bl (!Fo (.int i) (.int j))) h;rw [e];exact x
theorem YK {i j:Bool}{h:Gh}{Q:WK}(x:Q (.bl (decide (i=j))) h):JV (.bl i) (.bl j) h Q:=by
 have e:Fo (.bl i) (.bl j)=decide (i=j):=by rw [Fo];cases i <;> cases j <;> rfl
 show Q (.bl (Fo (.bl i) (.bl j))) h;rw [e];exact x
theorem Vh {i j:Bool}{h:Gh}{Q:WK}(x:Q (.bl (decide (i≠j))) h):JG (.bl i) (.bl j) h Q:=by
 have e:(!Fo (.bl i) (.bl j))=decide (i≠j):=by rw [Fo];cases i <;> cases j <;> rfl
 show Q (.bl (!Fo (.bl i) (.bl j))) h;rw [e];exact x
theorem Bq {p q:Tr}{h:Gh}{Q:WK}(x:Q (.bl (decide (p=q))) h):JV (tw p) (tw q) h Q:=by
 show Q (.bl (Fo (tw p) (tw q))) h;rw [FQ];exact x
theorem Vz {p q:Tr}{h:Gh}{Q:WK}(x:Q (.bl (decide (p≠q))) h):JG (tw p) (tw q) h Q:=by
 have e:(!Fo (tw p) (tw q))=decide (p≠q):=by rw [FQ];by_cases z:p=q <;> simp [z]
 show Q (.bl (!Fo (tw p) (tw q))) h;rw [e];exact x
theorem aaD {p:Tr}{a b c:Int}{h:Gh}{Q:WK}(x:Q (.bl (decide (p=(a,b,c)))) h):JV (tw p) (.tup [.int a,.int b,.int c]) h Q:=Bq (q:=(a,b,c)) x
theorem aaM {p:Tr}{a b c:Int}{h:Gh}{Q:WK}(x:Q (.bl (decide (p≠(a,b,c)))) h):JG (tw p) (.tup [.int a,.int b,.int c]) h Q:=Vz (q:=(a,b,c)) x
theorem fC {x w:W}{i:Int}{ws:List W}{h:Gh}{Q:WK}(e:view h x=Dn ws)(a:Jy ws i=Dn w)(k:Q w h):Aw x (.int i) h Q:=by
 unfold Aw;dsimp only;rw [e];dsimp only;rw [a];exact k
theorem agF {w:W}{T:String}{b:Bool}{h:Gh}{Q:WK}(e:aag h w T=Dn b)(x:Q (.bl b) h):Zw [w,.ty T] h Q:=by
 unfold Zw;dsimp only;rw [e];exact x
theorem Jo {w:W}{xs:List W}{h:Gh}{Q:WK}(e:view h w=Dn xs)(x:Q (.int (xs.length:Int)) h):LR [w] h Q:=by
 unfold LR;dsimp only;rw [e];exact x
theorem zbp {us:List W}{h:Gh}{Q:WK}(x:Q (.tup us) h):yS [.lst us] h Q:=x
theorem Qh {w:W}{us:List W}{bs:List Bool}{h:Gh}{Q:WK}(e:cG h w=Dn us)(b:Km us=Dn bs)(x:Q (.bl (bs.any id)) h):Te [w] h Q:=by
 unfold Te;dsimp only;rw [e];dsimp only;rw [b];exact x
theorem Z4 {w:W}{us:List W}{bs:List Bool}{h:Gh}{Q:WK}(e:cG h w=Dn us)(b:Km us=Dn bs)(x:Q (.bl (bs.all id)) h):Ye [w] h Q:=by
 unfold Ye;dsimp only;rw [e];dsimp only;rw [b];exact x
theorem Ww {w:W}{us:List W}{ns:List Int}{h:Gh}{Q:WK}(e:cG h w=Dn us)(b:Fg us=Dn ns)(x:Q (.int ns.sum) h):X8 [w] h Q:=by
 unfold X8;dsimp only;rw [e];dsimp only;rw [b];exact x
theorem Hl {i:Int}{h:Gh}{Q:WK}(x:Q (.int (if i<0 then -i else i)) h):Ds [.int i] h Q:=x
theorem Xb {b:Bool}{h:Gh}{Q:WK}(x:Q (.int (if b then 1 else 0)) h):ac9 [.bl b] h Q:=x
theorem pH {mi:MI}{g:MG}{b:MS}{D:bR}{σ : Sw}{h:Gh}(x:mi σ h (aco g b D σ)):uf mi g b D σ h:=x
theorem oN {ws:List W}{o:Option (Nat×List W)}{g:MG}{b:MS}{D:bR}{σ : Sw}{h:Gh}(x:eU ⟨ws,o⟩ g b D ws σ h):aco g b D σ ⟨ws,o⟩ h:=x
theorem Ao {ws:List W}{g:MG}{b:MS}{D:bR}{σ : Sw}{h:Gh}(x:D.nx σ h):eU ⟨ws,FX⟩ g b D [] σ h:=x
theorem wG {ws r:List W}{w:W}{g:MG}{b:MS}{D:bR}{σ : Sw}{h:Gh}(x:g w σ h fun σ1 h1=>b { D with nx:=eU ⟨ws,FX⟩ g b D r,ct:=eU ⟨ws,FX⟩ g b D r,bk:=D.nx } σ1 h1):eU ⟨ws,FX⟩ g b D (w::r) σ h:=x
theorem nG {m:ME}{R:Src->Gh->Prop}{σ : Sw}{h:Gh}(x:m σ h (iK R)):Gi m σ h R:=x
theorem Gd {w:W}{ws:List W}{o:Option (Nat×List W)}{h:Gh}{R:Src->Gh->Prop}(e:xG h w=Dn ⟨ws,o⟩)(x:R ⟨ws,o⟩ h):iK R w h:=by
 unfold iK;rw [e];exact x
theorem kO {ma:MA}{R:Src->Gh->Prop}{σ : Sw}{h:Gh}(x:ma σ h (rgK R)):iu ma σ h R:=x
theorem W0 {R:Src->Gh->Prop}{h:Gh}(x:R ⟨[.int 0,.int 1,.int 2],FX⟩ h):rgK R [.int 3] h:=x
theorem abp {R:Src->Gh->Prop}{h:Gh}(x:R ⟨[.int 0,.int 1],FX⟩ h):rgK R [.int 2] h:=x
theorem JH {ma:MA}{R:Src->Gh->Prop}{σ : Sw}{h:Gh}(x:ma σ h (zpK R)):P0 ma σ h R:=x
theorem Ux {a b:W}{as bs:List W}{zs:List W}{R:Src->Gh->Prop}{h:Gh}(e:tE a=Dn as)(e':tE b=Dn bs)(z:sS as bs=zs)(x:R ⟨zs,FX⟩ h):zpK R [a,b] h:=by
 subst z;have es:PK h a b=Dn ⟨sS as bs,FX⟩:=by unfold PK;rw [e,e']
 unfold zpK;dsimp only;rw [es];exact x
theorem aaJ {n:Nat}{b:W}{as bs:List W}{zs:List W}{R:Src->Gh->Prop}{h:Gh}(e:h.c n=Dn (.lst as))(e':tE b=Dn bs)(z:sS as bs=zs)(x:R ⟨zs,Dn (n,as)⟩ h):zpK R [.loc n,b] h:=by
 subst z;have es:PK h (.loc n) b=Dn ⟨sS as bs,Dn (n,as)⟩:=by unfold PK;rw [e'];dsimp only [tE];rw [e]
 unfold zpK;dsimp only;rw [es];exact x
theorem aan {bs:List W}:sS [] bs=[]:=by cases bs <;> rfl
theorem acz {a:W}{as:List W}:sS (a::as) []=[]:=rfl
theorem NK {a b:W}{as bs l:List W}(e:sS as bs=l):sS (a::as) (b::bs)=.tup [a,b]::l:=by rw [sS,e]
theorem lA {own:W->Option (List W)}{ix:List Nat}{mi:MI}{tt:MT}{te:ME}{σ : Sw}{h:Gh}{Q:WK}(x:mi σ h (lcK own ix tt te σ Q)):GC own ix mi tt te σ h Q:=x
theorem lD {ws:List W}{o:Option (Nat×List W)}{own:W->Option (List W)}{ix:List Nat}{tt:MT}{te:ME}{σ : Sw}{h:Gh}{Q:WK}(e:RM ws.length 1000=true)(x:nu ⟨ws,o⟩ own ix tt te σ Q ws [] h):lcK own ix tt te σ Q ⟨ws,o⟩ h:=cV e x
theorem tB {ws acc:List W}{own:W->Option (List W)}{ix:List Nat}{tt:MT}{te:ME}{σ : Sw}{h:Gh}{Q:WK}(x:Q (.lst acc) h):nu ⟨ws,FX⟩ own ix tt te σ Q [] acc h:=x
theorem dj {ws r acc vs:List W}{w:W}{own:W->Option (List W)}{ix:List Nat}{tt:MT}{te:ME}{σ : Sw}{h:Gh}{Q:WK}(e:own w=Dn vs)(x:tt (vs.map Dn++tV ix σ) h fun c h1=>Hi c (te (vs.map Dn++tV ix σ) h1 fun v h2=>nu ⟨ws,FX⟩ own ix tt te σ Q r (acc++[v]) h2) (nu ⟨ws,FX⟩ own ix tt te σ Q r acc h1)):nu ⟨ws,FX⟩ own ix tt te σ Q (w::r) acc h:=by
 unfold nu;show match own w with
  | some vs=>tt (vs.map Dn++tV ix σ) h fun c h1=>Hi c (te (vs.map Dn++tV ix σ) h1 fun v h2=>nu ⟨ws,FX⟩ own ix tt te σ Q r (acc++[v]) h2) (nu ⟨ws,FX⟩ own ix tt te σ Q r acc h1)
  | none=>False
 rw [e];exact x
theorem aaI {n N:Nat}{body:EY->MS}{ws:List W}{h:Gh}{Q:WK}{E:EY}(hl:Ls ws.length n=true)(x:body E { nx:=fun _ h'=>Q .non h',rt:=Q } (ws.map Dn++R0 (N - ws.length) FX) h):Fw n N false body ws h Q E:=by
 unfold Fw;rw [hl];exact x
theorem lO {r:W->Option Int->Option Int->Gh->WK->Prop}{m:ME}{l u:MO}{σ : Sw}{h:Gh}{Q:WK}(x:m σ h fun a h1=>l σ h1 fun lo h2=>u σ h2 fun hi h3=>r a lo hi h3 Q):LK r m l u σ h Q:=x
theorem bK {m:ME}{σ : Sw}{h:Gh}{Q:Option Int->Gh->Prop}(x:m σ h (pK Q)):cP m σ h Q:=x
theorem pR {i:Int}{h:Gh}{Q:Option Int->Gh->Prop}(x:Q (Dn i) h):pK Q (.int i) h:=x
def p3K (i j k:Nat)(D:bR)(σ : Sw):List W->Gh->Prop:=fun ws h=>match ws with
 | [x,y,z]=>D.nx (((σ.set i (Dn x)).set j (Dn y)).set k (Dn z)) h
 | _=>False
theorem aho {i j k:Nat}{ta:MA}{D:bR}{σ : Sw}{h:Gh}(x:ta σ h (p3K i j k D σ)):abA i j k ta D σ h:=x
theorem agV {xs:List W}{n:Int}{a b:Prop}(e:decide ((xs.length:Int)≠n)=false)(x:b):br (decide ((xs.length:Int)≠n)) a b:=z9 e x
theorem zbJ {bs:List Bool}{a b:Prop}(e:bs.all id=true)(x:b):br (!(bs.all id)) a b:=z9 (by rw [e];rfl) x
theorem Dv {c:Prop} [Decidable c] {a b:Prop} (x:¬ c->a) (y:c->b):br (!decide c) a b:=⟨fun e=>x (by simpa using e),fun e=>y (by simpa using e)⟩
theorem abC {n d:Str}{a b:Prop}(e:QJ n d=true)(x:a):Hi (QJ n d) a b:=K9 e x
theorem aaY {n d:Str}{a b:Prop}(e:QJ n d=true)(x:a):br (QJ n d) a b:=Ve e x
theorem aaE {n d:Str}{a b:Prop}(e:QJ n d=false)(x:b):br (QJ n d) a b:=z9 e x
theorem Vu {α : Type}{a x:α}{l:List α}:(a::l).set 0 x=x::l:=rfl
theorem Vr {α : Type}{a x:α}{l l':List α}{n:Nat}(e:l.set n x=l'):(a::l).set (n+1) x=a::l':=by rw [List.set_cons_succ,e]
theorem gW {i:Nat}{w:W}{σ σ':Sw}{h:Gh}{N:Sw->Gh->Prop}(e:σ.set i (Dn w) = σ')(x:N σ' h):Mk i w σ h N:=by
 subst e;exact x
theorem nV {i:Nat}{w:W}{σ σ':Sw}{h:Gh}{N:Sw->Gh->Prop}(x:N σ' h)(e:σ.set i (Dn w) = σ':=by repeat (first | with_reducible exact Vu | with_reducible apply Vr)):Mk i w σ h N:=gW e x
theorem aa9 {i j k:Nat}{D:bR}{σ σ1 σ2 σ3:Sw}{h:Gh}{x y z:W}(e1:σ.set i (Dn x) = σ1)(e2:σ1.set j (Dn y) = σ2)(e3:σ2.set k (Dn z) = σ3)(q:D.nx σ3 h):p3K i j k D σ [x,y,z] h:=by
 subst e1 e2 e3;exact q
def ini (ws:List W)(n:Nat):Sw:=ws.map Dn++R0 (n - ws.length) FX
theorem acD:ini [] 0=[]:=rfl
theorem acR {n:Nat}{l:Sw}(e:ini [] n=l):ini [] (n+1)=FX::l:=by
 subst e;rfl
theorem acX {n:Nat}{w:W}{ws:List W}{l:Sw}(e:ini ws n=l):ini (w::ws) (n+1)=Dn w::l:=by
 subst e;unfold ini;rw [Lk,Nat.add_sub_add_right];rfl
theorem gD {n N:Nat}{body:EY->MS}{ws:List W}{σ : Sw}{h:Gh}{Q:WK}{E:EY}(hl:Ls ws.length n=true)(e:ini ws N = σ)(x:body E { nx:=fun _ h'=>Q .non h',rt:=Q } σ h):Fw n N false body ws h Q E:=by
 subst e;exact aaI hl x
theorem abl {i:Nat}{n d:Str}{fs:List (Str×W)}{mh:MS}{D:bR}{σ σ':Sw}{h:Gh}(e:QJ n d=true)(s:σ.set i (Dn (aak ⟨n,fs⟩)) = σ')(x:mh D σ' h):Hi (QJ (Xw.mk n fs).cls d) (mh D (σ.set i (Dn (aak (Xw.mk n fs)))) h) False:=by
 subst s;exact K9 e x
theorem Pa {own:W->Option (List W)}{ix:List Nat}{mi:MI}{tt:MT}{te:ME}{σ : Sw}{h:Gh}{Q:WK}(x:GC own ix mi tt te σ h (aah Q)):aaj own ix mi tt te σ h Q:=x
theorem Zr {us:List W}{h:Gh}{Q:WK}(x:∀ g:Gh,g.c h.nx=Dn (.lst us)->(∀ n,n≠h.nx->g.c n=h.c n)->g.nx=h.nx+1->Q (.loc h.nx) g):aah Q (.lst us) h:=x _ (Ae _ _) (fun _ e=>uz e) rfl
theorem YF {mo mi:ME}{ms:Yb}{w:W}{σ : Sw}{h:Gh}{N:Sw->Gh->Prop}(x:mo σ h fun o h1=>mi σ h1 fun i h2=>ms o i w h2 fun h3=>N σ h3):abu mo mi ms w σ h N:=x
theorem afu {n j:Nat}{k:Int}{w:W}{ws ws':List W}{h:Gh}{N:Gh->Prop}(e:h.c n=Dn (.lst ws))(i:Ms ws.length k=Dn j)(s:ws.set j w=ws')(x:∀ g:Gh,g.c n=Dn (.lst ws')->(∀ m,m≠n->g.c m=h.c m)->g.nx=h.nx->N g):N6 (.loc n) (.int k) w h N:=by
 subst s;show (match h.c n with
  | some (Cell.lst ws)=>(match Ms ws.length k with
   | some j=>N (h.set n (.lst (ws.set j w)))
   | none=>False)
  | _=>False)
 rw [e];dsimp only;rw [i];exact x _ (wz _ _ _) (fun _ e=>rY e) rfl
theorem aeR {ws r us:List W}{n:Nat}{w:W}{g:MG}{b:MS}{D:bR}{σ : Sw}{h:Gh}(e:h.c n=Dn (.lst us))(x:g w σ h fun σ1 h1=>b { D with nx:=eU ⟨ws,Dn (n,us)⟩ g b D r,ct:=eU ⟨ws,Dn (n,us)⟩ g b D r,bk:=D.nx } σ1 h1):eU ⟨ws,Dn (n,us)⟩ g b D (w::r) σ h:=⟨e,x⟩
theorem afb {ws us:List W}{n:Nat}{g:MG}{b:MS}{D:bR}{σ : Sw}{h:Gh}(e:h.c n=Dn (.lst us))(x:D.nx σ h):eU ⟨ws,Dn (n,us)⟩ g b D [] σ h:=⟨e,x⟩
theorem Ba {ws us acc:List W}{n:Nat}{own:W->Option (List W)}{ix:List Nat}{tt:MT}{te:ME}{σ : Sw}{h:Gh}{Q:WK}(e:h.c n=Dn (.lst us))(x:Q (.lst acc) h):nu ⟨ws,Dn (n,us)⟩ own ix tt te σ Q [] acc h:=⟨e,x⟩
theorem dJ {ws us r acc vs:List W}{n:Nat}{w:W}{own:W->Option (List W)}{ix:List Nat}{tt:MT}{te:ME}{σ : Sw}{h:Gh}{Q:WK}(ec:h.c n=Dn (.lst us))(e:own w=Dn vs)(x:tt (vs.map Dn++tV ix σ) h fun c h1=>Hi c (te (vs.map Dn++tV ix σ) h1 fun v h2=>nu ⟨ws,Dn (n,us)⟩ own ix tt te σ Q r (acc++[v]) h2) (nu ⟨ws,Dn (n,us)⟩ own ix tt te σ Q r acc h1)):nu ⟨ws,Dn (n,us)⟩ own ix tt te σ Q (w::r) acc h:=by
 unfold nu;refine ⟨ec,?_⟩;show match own w with
  | some vs=>tt (vs.map Dn++tV ix σ) h fun c h1=>Hi c (te (vs.map Dn++tV ix σ) h1 fun v h2=>nu ⟨ws,Dn (n,us)⟩ own ix tt te σ Q r (acc++[v]) h2) (nu ⟨ws,Dn (n,us)⟩ own ix tt te σ Q r acc h1)
  | none=>False
 rw [e];exact x
theorem aaO {n:Nat}{ws:List W}{h:Gh}{R:Src->Gh->Prop}(e:h.c n=Dn (.lst ws))(x:R ⟨ws,Dn (n,ws)⟩ h):iK R (.loc n) h:=Gd (by simp only [xG,e]) x
theorem ab7 {n:Nat}{w:W}{i:Int}{ws:List W}{h:Gh}{Q:WK}(e:h.c n=Dn (.lst ws))(a:Jy ws i=Dn w)(k:Q w h):Aw (.loc n) (.int i) h Q:=fC (CW e) a k
theorem uF {n N:Nat}{body:EY->MS}{ws:List W}{σ : Sw}{h:Gh}{Q:WK}{E:EY}(hl:Ls ws.length n=true)(e:ini ws N = σ)(x:body E { nx:=fun _ h'=>qz true h .non h' Q,rt:=fun w h'=>qz true h w h' Q } σ h):Fw n N true body ws h Q E:=by
 subst e;unfold Fw;rw [hl];exact x
theorem agP {a b:List W}{h:Gh}{Q:WK}(e:RM (a.length+b.length) 1000=true)(x:Q (.lst (a++b)) h):bD (.lst a) (.lst b) h Q:=cV e x
theorem abe {a b:Bool}{h:Gh}{Q:WK}(x:Q (.bl (a==b)) h):kIs (.bl a) (.bl b) h Q:=x
theorem afZ {a b:Bool}{h:Gh}{Q:WK}(x:Q (.bl (!(a==b))) h):aaX (.bl a) (.bl b) h Q:=x
theorem abz {a b:Str}{h:Gh}{Q:WK}(x:Q (.bl (decide (a=b))) h):JV (.str a) (.str b) h Q:=by
 have e:Fo (.str a) (.str b)=decide (a=b):=by rw [Fo];by_cases z:a=b <;> simp [z]
 show Q (.bl (Fo (.str a) (.str b))) h;rw [e];exact x
theorem aaA {a b:Str}{h:Gh}{Q:WK}(x:Q (.bl (decide (a≠b))) h):JG (.str a) (.str b) h Q:=by
 have e:(!Fo (.str a) (.str b))=decide (a≠b):=by rw [Fo];by_cases z:a=b <;> simp [z]
 show Q (.bl (!Fo (.str a) (.str b))) h;rw [e];exact x
theorem WQ {bs:List Bool}{a b:Prop}(e:bs.any id=false)(x:b):br (bs.any id) a b:=z9 e x
local macro_rules | `(tactic| rfl') => `(tactic| repeat (first
 | with_reducible (first | refine aO ?_ | refine aZ ?_ | refine aG ?_ | refine ak ?_ | refine aD ?_)
 | ((with_reducible apply ao);exact rfl) | with_reducible refine bB ?_ | with_reducible refine aL ?_ | with_reducible refine gW (by repeat (first | with_reducible exact Vu | with_reducible apply Vr)) ?_ | with_reducible (first | refine agv ?_ | refine afX ?_ | refine cC ?_ | refine uc ?_ | refine adJ ?_ | refine adK ?_)
 | with_reducible (first | refine dh ?_ | refine Wv ?_ | refine cu ?_ | refine kW ?_ | refine afC ?_ | refine Xq ?_ | refine afT ?_)
 | with_reducible (first | refine bL ?_ | refine qb ?_ | refine GP ?_) | ((with_reducible apply aad);exact rfl) | with_reducible (first | refine Jb ?_ | refine JZ ?_ | refine yP ?_ | refine bI ?_)
 | with_reducible (first | refine ahq ?_ | refine Xf ?_ | refine J2 ?_ | refine adx ?_ | refine adN ?_ | refine adv ?_ | refine Z6 ?_ | refine adp ?_)
 | with_reducible (first | refine Bv ?_ | refine rZ ?_ | refine Zv ?_ | refine Xn ?_ | refine bM ?_ | refine YL ?_)
 | with_reducible refine j5 ?_ | with_reducible refine qC ?_ | ((with_reducible apply cV);exact rfl) | with_reducible (first | refine mK ?_ | refine aaF ?_ | refine Xi ?_)
 | ((with_reducible apply rF);exact rfl;exact rfl) | ((with_reducible apply z7);exact rfl;exact rfl) | ((with_reducible apply Zh);exact rfl;exact rfl) | with_reducible refine cD ?_ | with_reducible refine qM ?_
 | with_reducible refine uO ?_ | with_reducible refine fP ?_ | ((with_reducible apply dF);exact fB.of (by trivial) (by trivial) (by lia) (by lia)) | with_reducible refine Wo ?_ | with_reducible refine Li ?_
 | with_reducible (first | refine wX ?_ | refine abQ ?_ | refine YK ?_ | refine Vh ?_ | refine Bq ?_ | refine Vz ?_ | refine aaD ?_ | refine aaM ?_)
 | ((with_reducible apply fC);exact rfl;exact rfl) | ((with_reducible apply agF);exact rfl) | ((with_reducible apply Jo);exact rfl) | with_reducible refine zbp ?_ | ((with_reducible apply Qh);exact rfl;exact rfl) | ((with_reducible apply Z4);exact rfl;exact rfl) | ((with_reducible apply Ww);exact rfl;exact rfl) | with_reducible refine Xb ?_ | with_reducible refine Hl ?_
 | with_reducible (first | refine pH ?_ | refine oN ?_ | refine Ao ?_ | refine wG ?_ | refine nG ?_) | ((with_reducible apply Gd);exact rfl) | with_reducible (first | refine kO ?_ | refine W0 ?_ | refine abp ?_ | refine JH ?_) | ((with_reducible apply Ux);exact rfl;exact rfl;(repeat (first | with_reducible exact aan | with_reducible exact acz | with_reducible apply NK)))
 | with_reducible refine lA ?_ | ((with_reducible apply lD);exact rfl) | with_reducible refine tB ?_ | ((with_reducible apply dj);exact rfl) | ((with_reducible apply gD);exact rfl;repeat (first | with_reducible exact acD | with_reducible apply acX | with_reducible apply acR)) | with_reducible (first | refine lO ?_ | refine bK ?_ | refine pR ?_ | refine aho ?_) | with_reducible refine aa9 (by repeat (first | with_reducible exact Vu | with_reducible apply Vr)) (by repeat (first | with_reducible exact Vu | with_reducible apply Vr)) (by repeat (first | with_reducible exact Vu | with_reducible apply Vr)) ?_ | ((with_reducible apply agV);exact rfl) | ((with_reducible apply zbJ);exact rfl) | ((with_reducible apply abl);decide +kernel;(repeat (first | with_reducible exact Vu | with_reducible apply Vr))) | ((with_reducible apply abC);decide +kernel) | ((with_reducible apply aaY);decide +kernel) | ((with_reducible apply aaE);decide +kernel) | with_reducible refine Pa ?_ | with_reducible refine YF ?_ | ((with_reducible apply aaO);(with_reducible assumption)) | ((with_reducible apply aeR);(with_reducible assumption)) | ((with_reducible apply afb);(with_reducible assumption)) | ((with_reducible apply Ba);(with_reducible assumption)) | ((with_reducible apply dJ);(with_reducible assumption);exact rfl) | ((with_reducible apply ab7);(with_reducible assumption);exact rfl) | ((with_reducible apply aaJ);(with_reducible assumption);exact rfl;(repeat (first | with_reducible exact aan | with_reducible exact acz | with_reducible apply NK))) | ((with_reducible apply uF);exact rfl;(repeat (first | with_reducible exact acD | with_reducible apply acX | with_reducible apply acR))) | ((with_reducible apply agP);exact rfl) | with_reducible (first | refine abe ?_ | refine afZ ?_ | refine abz ?_ | refine aaA ?_) | ((with_reducible apply WQ);decide +kernel)))
abbrev C6:=Int×Int×Int×Int×Int×Int
def J6 (c:C6):W:=.tup [.int c.1,.int c.2.1,.int c.2.2.1,.int c.2.2.2.1,.int c.2.2.2.2.1,.int c.2.2.2.2.2]
def J7 (c:C6):List Int:=[c.1,c.2.1,c.2.2.1,c.2.2.2.1,c.2.2.2.2.1,c.2.2.2.2.2]
def Ht (m:Nat)(c:C6):Prop:=Sm m c.1/\Sm m c.2.1/\Sm m c.2.2.1/\Sm m c.2.2.2.1/\Sm m c.2.2.2.2.1/\Sm m c.2.2.2.2.2
def bF (c:C6):Mt:=((2*c.1,c.2.1,c.2.2.2.1),(c.2.1,2*c.2.2.1,c.2.2.2.2.1),(c.2.2.2.1,c.2.2.2.2.1,2*c.2.2.2.2.2))
theorem qL {m:Nat}{x:Int}(h:Sm m x):Sm (m+1) (2*x):=by
 unfold Sm at h |-
 rw [Uc,Nat.pow_succ,Nat.mul_comm];exact Nat.mul_lt_mul_of_pos_right h<|by decide
theorem lW {m:Nat}{c:C6}(h:Ht m c):IW (m+1) (bF c):=by
 obtain ⟨h1,h2,h3,h4,h5,h6⟩:=h;exact ⟨⟨qL h1,h2.mono<|by lia,h4.mono<|by lia⟩,⟨h2.mono<|by lia,qL h3,h5.mono<|by lia⟩,⟨h4.mono<|by lia,h5.mono<|by lia,qL h6⟩⟩
theorem zT (c:C6)(p q:Tr):dt3 (vm (bF c) p) q=dt3 (vm (bF c) q) p:=by
 obtain ⟨p1,p2,p3⟩:=p;obtain ⟨q1,q2,q3⟩:=q;simp only [dt3,vm,bF];grind
def TabOk (c0:kI):Prop:=∀ {h:Gh} {c:C6} {m:Nat} {Q:WK} {E:EY},m<=5000->Ht m c->Q (mw (bF c)) h->c0 [J6 c] h Q E
theorem w_tab:TabOk uY:=by
 intro h c m Q E hm hs k;obtain ⟨c1,c2,c3,c4,c5,c6⟩:=c;obtain ⟨h1,h2,h3,h4,h5,h6⟩:=hs;simp only at h1 h2 h3 h4 h5 h6
 ((conv=>whnf);repeat (refine And.intro (by exact fB.of (by trivial) (by trivial) (by lia) (by lia)) ?_;conv=>whnf))
 exact k
def Ik (c0:kI):Prop:=∀ {h:Gh} {M:Mt} {p:Tr} {m:Nat} {Q:WK} {E:EY},m<=5000->IW m M->Bw m p->Q (.lst [.int (vm M p).1,.int (vm M p).2.1,.int (vm M p).2.2]) h->c0 [mw M,tw p] h Q E
theorem aa8 {dt ro:kI}(hdt:qW dt)(hro:yM ro):Ik (gA dt ro):=by
 intro h M p m Q E hm hs hp k;show ro [Mr true M] h _ _;refine hro true ?_;show dt [tw M.1,tw p] h _ _;refine hdt (m:=m) (by lia) hs.1 hp ?_;show dt [tw M.2.1,tw p] h _ _;refine hdt (m:=m) (by lia) hs.2.1 hp ?_;show dt [tw M.2.2,tw p] h _ _;refine hdt (m:=m) (by lia) hs.2.2 hp ?_;exact k
def Tp (c0:kI):Prop:=∀ {h:Gh} {t:Tr} {m:Nat} {Q:WK} {E:EY},m<=8000->Bw m t->(t≠(0,0,0)->∀ u,Pl u->Fq t u->Bw m u->Q (tw u) h)->(t=(0,0,0)->Q .non h)->c0 [.lst [.int t.1,.int t.2.1,.int t.2.2]] h Q E
theorem VL {pl:kI}(hpl:qd pl):Tp (jH pl):=by
 intro h t m Q E hm hs k k0;obtain ⟨a,b,c⟩:=t;show br (!Fo (.int a) (.int 0)||(!Fo (.int b) (.int 0)||(!Fo (.int c) (.int 0)||false))) _ _;by_cases e:(a,b,c)=((0,0,0):Tr)
 ·have e1:a=0:=congrArg (·.1) e;have e2:b=0:=congrArg (·.2.1) e;have e3:c=0:=congrArg (·.2.2) e;refine z9 (by rw [bN,bN,bN,e1,e2,e3];rfl) ?_;exact k0 e
 ·refine Ve ?_ ?_
  ·rw [bN,bN,bN];by_cases e1:a=0 <;> by_cases e2:b=0 <;> by_cases e3:c=0 <;> simp [e1,e2,e3]
   exact e<|by rw [e1,e2,e3]
  ·show pl [.lst [.int a,.int b,.int c]] h _ _;exact hpl.tr (u:=(a,b,c)) (m:=m) (.inr rfl) e hs hm<|k e
def LC (c0:kI):Prop:=∀ {h:Gh} {c:C6} {p:Tr} {m:Nat} {Q:WK} {E:EY},m<=3000->Ht m c->Bw m p->(vm (bF c) p≠(0,0,0)->∀ u,Pl u->Fq (vm (bF c) p) u->Bw (m+m+4) u->Q (tw u) h)->(vm (bF c) p=(0,0,0)->E ⟨"Knot",[]⟩ h)->c0 [J6 c,tw p] h Q E
theorem YQ {tt ta po:kI}(htt:Ik tt)(hta:TabOk ta)(hpo:Tp po):LC (o9 tt ta po):=by
 intro h c p m Q E hm hc hp k kx;refine hta (m:=m) (by lia) hc ?_;refine htt (m:=m+1) (by lia) (lW hc) (hp.mono<|by lia) ?_;have sv:Bw (m+m+4) (vm (bF c) p):=(uw (lW hc) (hp.mono (show m<=m+1 by lia))).mono (by lia);refine hpo (m:=m+m+4) (by lia) sv (fun e u pu par su=>?_) fun e=>?_
 ·refine z9 rfl ?_;exact k e u pu par su
 ·refine Ve rfl ?_;exact kx e
def ur (p q:Tr):C6:=(p.1*q.1,p.1*q.2.1+p.2.1*q.1,p.2.1*q.2.1,p.1*q.2.2+p.2.2*q.1,p.2.1*q.2.2+p.2.2*q.2.1,p.2.2*q.2.2)
theorem Ht.mono {m n:Nat}{c:C6}(h:Ht m c)(e:m<=n):Ht n c:=⟨h.1.mono e,h.2.1.mono e,h.2.2.1.mono e,h.2.2.2.1.mono e,h.2.2.2.2.1.mono e,h.2.2.2.2.2.mono e⟩
theorem wH {m:Nat}{p q:Tr}(hp:Bw m p)(hq:Bw m q):Ht (m+m+1) (ur p q):=
 ⟨(hp.1.mul hq.1).mono (by lia),((hp.1.mul hq.2.1).add (hp.2.1.mul hq.1)).mono (by lia),(hp.2.1.mul hq.2.1).mono (by lia),((hp.1.mul hq.2.2).add (hp.2.2.mul hq.1)).mono (by lia),((hp.2.1.mul hq.2.2).add (hp.2.2.mul hq.2.1)).mono (by lia),(hp.2.2.mul hq.2.2).mono (by lia)⟩
theorem Ht.all {m:Nat}{c:C6}(h:Ht m c):∀ n∈J7 c,Sm m n:=by
 intro n hn;simp only [J7,Fe,Fx,or_false] at hn;rcases hn with rfl | rfl | rfl | rfl | rfl | rfl
 ·exact h.1
 ·exact h.2.1
 ·exact h.2.2.1
 ·exact h.2.2.2.1
 ·exact h.2.2.2.2.1
 ·exact h.2.2.2.2.2
def Mq (c0:kI):Prop:=∀ {h:Gh} {c:C6} {m:Nat} {Q:WK} {E:EY},m<=2000->Ht m c->Q (.bl (decide (det (bF c)≠0))) h->c0 [J6 c] h Q E
theorem afa {sz ta:kI}(hsz:Ou sz)(hta:TabOk ta):Mq (mX sz ta):=by
 intro h c m Q E hm hc k;unfold mX;rfl'
 refine hta (m:=m) (by lia) hc ?_;rfl'
 refine hsz (M:=bF c) (m:=m+1) true (by lia) (lW hc) ?_;rfl'
 exact k
def wth (c:C6)(p:Tr):Int:=c.1*p.1*p.1+c.2.2.1*p.2.1*p.2.1+c.2.2.2.2.2*p.2.2*p.2.2+c.2.1*p.1*p.2.1+c.2.2.2.1*p.1*p.2.2+c.2.2.2.2.1*p.2.1*p.2.2
def ZG (c0:kI):Prop:=∀ {h:Gh} {c:C6} {p:Tr} {m:Nat} {Q:WK} {E:EY},m<=4000->Ht m c->Bw m p->Q (.int (wth c p)) h->c0 [J6 c,tw p] h Q E
theorem wI:ZG Bm:=by
 intro h c p m Q E hm hc hp k;obtain ⟨c1,c2,c3,c4,c5,c6⟩:=c;obtain ⟨x,y,z⟩:=p;obtain ⟨h1,h2,h3,h4,h5,h6⟩:=hc;obtain ⟨hx,hy,hz⟩:=hp;simp only at h1 h2 h3 h4 h5 h6 hx hy hz;unfold Bm;rfl'
 exact k
def WD (c0:kI):Prop:=∀ {h:Gh} {c:C6} {p:Tr} {m:Nat} {Q:WK} {E:EY},m<=4000->Ht m c->Bw m p->Q (.bl (decide (wth c p=0))) h->c0 [J6 c,tw p] h Q E
theorem w_on {wo:kI}(hwo:ZG wo):WD (iG wo):=by
 intro h c p m Q E hm hc hp k;unfold iG;rfl'
 refine hwo hm hc hp ?_;rfl'
 exact k
theorem adF (a b c d e f:Int):([a,b,c,d,e,f]:List Int).sum=a+b+c+d+e+f:=by simp only [List.sum_cons,List.sum_nil];lia
theorem agT (c1 c2 c3 c4 c5 c6 x y z:Int):c1*(x*x)+c2*(x*y)+c3*(y*y)+c4*(x*z)+c5*(y*z)+c6*(z*z)=wth (c1,c2,c3,c4,c5,c6) (x,y,z):=by
 simp only [wth];grind
theorem ab0 {k:Int}(c:C6)(p:Tr):wth (c.1*k,c.2.1*k,c.2.2.1*k,c.2.2.2.1*k,c.2.2.2.2.1*k,c.2.2.2.2.2*k) p=wth c p*k:=by
 simp only [wth];grind
theorem mJ:tL gB:=by
 intro h p q m Q E hm hp hq k;obtain ⟨a,b,c⟩:=p;obtain ⟨d,e,f⟩:=q;obtain ⟨h1,h2,h3⟩:=hp;obtain ⟨h4,h5,h6⟩:=hq;simp only at h1 h2 h3 h4 h5 h6;unfold gB;rfl'
 exact k
def kC (k:Int)(c:C6):C6:=(c.1*k,c.2.1*k,c.2.2.1*k,c.2.2.2.1*k,c.2.2.2.2.1*k,c.2.2.2.2.2*k)
theorem qd.c6p {c0:kI}(hpl:qd c0){h:Gh}{w:W}{c:C6}{m:Nat}{Q:WK}{E:EY}(hw:w=.lst [.int c.1,.int c.2.1,.int c.2.2.1,.int c.2.2.2.1,.int c.2.2.2.2.1,.int c.2.2.2.2.2]\/w=J6 c)(hz:NZ (J7 c))(hs:Ht m c)(hm:m<=8000)(k:∀ (x:C6) (j:Int),j≠0->c=kC j x->Ky (J7 x)->Ht m x->Q (J6 x) h):c0 [w] h Q E:=by
 refine hpl (m:=m) (ns:=J7 c) hw hz hs.all hm (by show 6<=1000;decide) fun ms j hj em pm sm=>?_;have hl:ms.length=6:=by have:=congrArg List.length em;rw [GJ] at this;exact this.symm
 match ms,hl,sm,em,pm with
 | [x1,x2,x3,x4,x5,x6],_,sm,em,pm=>
  refine k (x1,x2,x3,x4,x5,x6) j hj ?_ pm ⟨sm _<|by simp,sm _<|by simp,sm _<|by simp,sm _<|by simp,sm _<|by simp,sm _<|by simp⟩;obtain ⟨u1,u2,u3,u4,u5,u6⟩:=c
  simpa [J7,kC] using em
theorem afr {x y:C6}{s t:Int}(hx:Ky (J7 x))(hy:Ky (J7 y))(hs:s≠0)(ht:t≠0)(e:kC s x=kC t y):x=y:=by
 have e1:(J7 x).map (· * s)=(J7 y).map (· * t):=congrArg J7 e;have e2:=Pu hx hy hs ht e1;obtain ⟨u1,u2,u3,u4,u5,u6⟩:=x;obtain ⟨v1,v2,v3,v4,v5,v6⟩:=y
 simpa [J7] using e2
theorem Xl (k:Int)(c:C6):bF (kC k c)=sM k (bF c):=by
 simp only [bF,kC,sM,sc,Int.mul_assoc]
theorem CP (k:Int)(c:C6)(p:Tr):wth (kC k c) p=wth c p*k:=ab0 c p
theorem fD (l o s:Tr):wth (ur l o) s=dt3 l s*dt3 o s:=by
 simp only [wth,ur,dt3];grind
theorem Yr (a b c:Int):crs (a,b,c) (1,0,0)=(0,c,-b):=by simp [crs]
theorem ZX (a b c:Int):crs (a,b,c) (0,1,0)=(-c,0,a):=by simp [crs]
theorem W6 (a b c:Int):crs (a,b,c) (0,0,1)=(b,-a,0):=by simp [crs]
theorem Z2 {l p:Tr}(l0:l≠(0,0,0))(h1:crs l (1,0,0)=(0,0,0)\/Fq (crs l (1,0,0)) p)(h2:crs l (0,1,0)=(0,0,0)\/Fq (crs l (0,1,0)) p)(h3:crs l (0,0,1)=(0,0,0)\/Fq (crs l (0,0,1)) p):False:=by
 obtain ⟨a,b,c⟩:=l;obtain ⟨x,y,z⟩:=p;rw [Yr] at h1;rw [ZX] at h2;rw [W6] at h3;simp only [Fq,sc,Mx] at h1 h2 h3;have nz:∀ {s t:Int},s*t≠0->t≠0->s≠0:=fun h _ z=>h (by rw [z,QS])
 by_cases a0:a=0
 ·by_cases b0:b=0
  ·have c0:c≠0:=fun c0=>l0 (by rw [a0,b0,c0])
   rcases h1 with h1 | ⟨k,hk,e1,e2,e3⟩
   ·exact c0 h1.2.1
   ·rcases h2 with h2 | ⟨j,hj,f1,f2,f3⟩
    ·exact c0<|by lia
    ·have x0:x=0:=(Gg.mp e1.symm).resolve_right hk;rw [x0] at f1;lia
  ·rcases h1 with h1 | ⟨k,hk,e1,e2,e3⟩
   ·exact b0<|by lia
   ·rcases h3 with h3 | ⟨j,hj,f1,f2,f3⟩
    ·exact b0 h3.1
    ·have x0:x=0:=(Gg.mp e1.symm).resolve_right hk;rw [x0] at f1;lia
 ·rcases h2 with h2 | ⟨k,hk,e1,e2,e3⟩
  ·exact a0 h2.2.2
  ·rcases h3 with h3 | ⟨j,hj,f1,f2,f3⟩
   ·exact a0<|by lia
   ·have y0:y=0:=(Gg.mp e2.symm).resolve_right hk;rw [y0] at f2;lia
theorem tM:qW nQ:=by
 intro h p q m Q E hm hp hq k;obtain ⟨a,b,c⟩:=p;obtain ⟨d,e,f⟩:=q;obtain ⟨h1,h2,h3⟩:=hp;obtain ⟨h4,h5,h6⟩:=hq;simp only at h1 h2 h3 h4 h5 h6;unfold nQ;rfl'
 exact k
theorem uR {r:MM}{mo:ME}{ma:MA}{σ : Sw}{h:Gh}{Q:WK}(x:mo σ h fun x h1=>Fz h1 x (ma σ h1 fun xs h2=>r x xs h2 Q)):wg r mo ma σ h Q:=x
theorem nT {n:Nat}{us:List W}{h:Gh}{P:Prop}(e:h.c n=Dn (.lst us))(p:P):Fz h (.loc n) P:=by
 simp only [Fz,e];exact p
theorem vB {ma:MA}{ws:List W}{σ : Sw}{h:Gh}{Q:WK}(hm:∀ R,ma σ h R=R ws h)(hz:RM ws.length 1000=true)(x:∀ g:Gh,g.c h.nx=Dn (.lst ws)->(∀ n,n≠h.nx->g.c n=h.c n)->g.nx=h.nx+1->Q (.loc h.nx) g):nM ma σ h Q:=by
 unfold nM;rw [hm];exact cV hz<|x _ (Ae _ _) (fun _ e=>uz e) rfl
theorem aa1 {h:Gh}{n:Nat}{us zs:List W}{Q:WK}(e:h.c n=Dn (.lst us))(hz:us.length+zs.length<=1000)(k:∀ g:Gh,g.c n=Dn (.lst (us++zs))->(∀ m,m≠n->g.c m=h.c m)->g.nx=h.nx->Q .non g):iw (.loc n) [.lst zs] h Q:=
 Cu e (Hj hz (by decide)) (k _ (wz _ _ _) (fun _ e=>rY e) rfl)
theorem JN {h:Gh}{n:Nat}{us:List W}{w:W}{Q:WK}(e:h.c n=Dn (.lst us))(hz:us.length<=1000)(k:∀ g:Gh,g.c n=Dn (.lst (us++[w]))->(∀ m,m≠n->g.c m=h.c m)->g.nx=h.nx->Q .non g):cI (.loc n) [w] h Q:=
 W5 e (TQ hz (by decide)) (k _ (wz _ _ _) (fun _ e=>rY e) rfl)
def rng (a m:Nat):List Nat:=List.range' a (m - a)
theorem lq {a m x:Nat}:x∈rng a m↔a<=x/\x<m:=by
 unfold rng;rw [List.mem_range'_1];lia
theorem BX (a m:Nat):zP (a:Int) ((m:Int) - (a:Int)).toNat=(rng a m).map fun x:Nat=>W.int (x:Int):=by
 unfold zP rng;rw [List.range'_eq_map_range,List.map_map,show ((m:Int) - (a:Int)).toNat=m - a by lia];refine List.map_congr_left fun x _=>?_;simp
theorem zaS (m:Nat):zP 0 ((m:Nat):Int).toNat=(rng 0 m).map fun x:Nat=>W.int (x:Int):=by
 have:=BX 0 m
 rw [show ((m:Int) - ((0:Nat):Int)).toNat=((m:Nat):Int).toNat by lia] at this;exact this
def acE (R:Src->Gh->Prop):List W->Gh->Prop:=fun ws h=>match ws with
 | [.int i,.int j]=>yK i (yK j (R ⟨zP i (j - i).toNat,FX⟩ h))
 | _=>False
theorem zbM {ma:MA}{R:Src->Gh->Prop}{σ : Sw}{h:Gh}(x:ma σ h (acE R)):Jf ma σ h R:=x
theorem Ym {R:Src->Gh->Prop}{h:Gh}{a:Int}{m n:Nat}(ha:a=(n:Int))(h1:n<=1000)(h2:m<=1000)(x:R ⟨(rng n m).map fun x:Nat=>W.int (x:Int),FX⟩ h):acE R [.int a,.int (m:Int)] h:=by
 subst ha;rw [<-BX] at x;exact yK.mk (by lia) (by lia)<|yK.mk (by lia) (by lia) x
theorem Jl {R:Src->Gh->Prop}{h:Gh}{m:Nat}(h2:m<=1000)(x:R ⟨(rng 0 m).map fun x:Nat=>W.int (x:Int),FX⟩ h):rgK R [.int (m:Int)] h:=by
 rw [<-zaS] at x;exact yK.mk (by lia) (by lia) x
def nxt (l:List Nat):Nat:=match l.getLast? with
 | none=>0
 | some x=>x+1
def grow (m:Nat)(l:List Nat):List (List Nat):=(rng (nxt l) m).map fun p=>l++[p]
def Fp (m:Nat):Nat->List (List Nat)
 | 0=>[[]]
 | k+1=>(Fp m k).flatMap (grow m)
def ud (l:List Nat):W:=.tup (l.map fun x:Nat=>.int (x:Int))
theorem lV {m:Nat}:∀ {k:Nat} {l:List Nat},l∈Fp m k->l.length=k
 | 0,l,h=>by
  rw [Fp,Nb] at h;rw [h];rfl
 | k+1,l,h=>by
  rw [Fp,Ur] at h;obtain ⟨u,hu,hl⟩:=h;obtain ⟨p,_,rfl⟩:=MF.mp hl;rw [Nt,lV hu];rfl
theorem agQ {m:Nat}:∀ {k:Nat} {l:List Nat},l∈Fp m k->nxt l<=m
 | 0,l,h=>by
  rw [Fp,Nb] at h;rw [h];exact RN _
 | k+1,l,h=>by
  rw [Fp,Ur] at h;obtain ⟨u,hu,hl⟩:=h;obtain ⟨p,hp,rfl⟩:=MF.mp hl;have:=(lq.mp hp).2
  unfold nxt;rw [List.getLast?_append];simp;lia
theorem nO:∀ m,m<=12->∀ k,k<=4->(Fp m k).length<=1000:=by
 have:(Lh 13).all (fun m=>(Lh 5).all fun k=>decide ((Fp m k).length<=1000))=true:=by decide +kernel
 intro m hm k hk;rw [Q0] at this;have h1:=this m (QX.mpr (by lia));rw [Q0] at h1;exact of_decide_eq_true<|h1 k<|QX.mpr<|by lia
def aaf (h:Gh)(w:W)(ws:List W):Prop:=w=.lst ws\/∃ n,w=.loc n/\h.c n=Dn (.lst ws)
theorem zbq {i:Nat}{g:MG}{b:MS}{D:bR}{σ : Sw}{h:Gh}{w:W}{α : Type}{v:α->W}{xs:List α}(hv:σ[i]?=Dn (Dn w))(e:aaf h w (xs.map v))(I:Nat->Sw->Gh->Prop)
  (go:∀ i σ h',I i σ h'->aaf h' w (xs.map v))
  (step:∀ (i:Nat) (x:α) (σ : Sw) (h:Gh) (N:Sw->Gh->Prop),(∀ σ' h',I (i+1) σ' h'->N σ' h')->xs[i]?=Dn x->I i σ h->g (v x) σ h fun σ1 h1=>b { D with nx:=N,ct:=N,bk:=D.nx } σ1 h1)
  (fin:∀ σ h,I xs.length σ h->D.nx σ h) (h0:I 0 σ h):uf (Gi (aq i)) g b D σ h:=by
 unfold uf Gi aq;rw [hv];dsimp only;have gen:∀ s:Src,xG h w=Dn s->s.ws=xs.map v->(∀ h',aaf h' w (xs.map v)->∀ P:Prop,P->s.go h' P)->(match xG h w with
   | some s=>eU s g b D s.ws σ h
   | none=>False):=by
  intro s es ew hg;rw [es];show eU s g b D s.ws σ h;rw [ew];refine Dr I (fun i σ h' hi=>hg h'<|go i σ h' hi) (fun i w σ h N hN e hi=>?_) (fun σ h q=>fin σ h<|by rwa [GJ] at q) h0;rw [K8] at e;cases q:xs[i]? with
  | none=>rw [q] at e;cases e
  | some x=>
   rw [q] at e;cases e;exact step i x σ h N hN q hi
 rcases e with rfl | ⟨n,rfl,e⟩
 ·exact gen ⟨xs.map v,FX⟩ rfl rfl fun _ _ _ p=>p
 ·refine gen ⟨xs.map v,Dn (n,xs.map v)⟩ (by simp only [xG,e]) rfl fun h' e' P p=>⟨?_,p⟩;rcases e' with e' | ⟨n',e',q⟩
  ·cases e'
  ·cases e';exact q
theorem aeM {a b:List W}{h:Gh}{Q:WK}(hz:a.length+b.length<=1000)(x:Q (.tup (a++b)) h):bD (.tup a) (.tup b) h Q:=by
 cases a with
 | nil=>exact x
 | cons a0 a=>exact jf.mk (Hj (by simpa using hz) (by decide:1000<=Gb)) x
theorem ahk {m:Nat}{l:List Nat}{σ : Sw}{h:Gh}{Q:WK}(hm:m<=12)(hl:l.length<=4)(hn:nxt l<=m)(h5:σ[5]?=Dn (Dn (ud l)))(h6:σ[6]?=Dn (Dn (.int (nxt l:Int))))(h0:σ[0]?=Dn (Dn (.int (m:Int))))(x:Q (.lst ((grow m l).map ud)) h) :
  GC Gm [5] (Jf (aj (aq 6) (aj (aq 0) aH))) fU (JI bD (aq 1) (qy (aj (aq 0) aH))) σ h Q:=by
 refine lA<|zbM<|ak<|ao h6<|ak<|ao h0<|aD ?_
 refine Ym rfl (by lia) (by lia) ?_;have hb:tV [5] σ = [Dn (ud l)]:=by
  show [(σ[5]?).getD FX]=_;rw [h5];rfl
 have hz:((rng (nxt l) m).map fun x:Nat=>W.int (x:Int)).length<=Gb:=by
  rw [GJ];unfold rng;rw [U4];exact Hj (by lia) (by decide:12<=Gb)
 refine jf.mk hz ?_;refine jz (fun i acc h'=>h'=h/\acc=(((rng (nxt l) m).take i).map fun p=>l++[p]).map ud) ?_ ?_ ⟨rfl,rfl⟩
 ·rintro i w acc h' N hN e ⟨rfl,rfl⟩;rw [K8] at e;cases q:(rng (nxt l) m)[i]? with
  | none=>rw [q] at e;cases e
  | some p=>
   rw [q] at e;cases e;refine ⟨[W.int (p:Int)],rfl,?_⟩;rw [hb];refine bI<|bM<|aL<|ao rfl<|j5<|ak<|ao rfl<|aD<|cV rfl ?_
   refine aeM (a:=l.map fun x:Nat=>.int (x:Int)) (by rw [GJ];simp;lia) ?_;refine hN _ _ ⟨rfl,?_⟩;rw [M4,q];simp [ud]
 ·rintro acc h' ⟨rfl,rfl⟩;rw [GJ,NQ];exact x
def Bb (c0:kI):Prop:=∀ {h:Gh} {m k:Nat} {Q:WK} {E:EY},m<=12->k<=4->Q (.lst ((Fp m k).map ud)) h->c0 [.int (m:Int),.int (k:Int)] h Q E
theorem Vm {l:List Nat}{i:Nat}(h:l.length=i+1):∃ x,l.getLast?=Dn x/\Jy (l.map fun x:Nat=>W.int (x:Int)) (i:Int)=Dn (.int (x:Int)):=by
 have hi:i<l.length:=by lia
 refine ⟨l[i],?_,?_⟩
 ·rw [List.getLast?_eq_getElem?,h,Nat.add_sub_cancel,Kc hi]
 ·exact cF (by rw [K8,Kc hi];rfl)
theorem acN (n:Nat):∀ l:List Nat,Kv n (l.map fun x:Nat=>W.int (x:Int))
 | []=>by simp [Kv]
 | x::l=>by
  have:=acN n l
  rw [Lj,Kv];exact ⟨by simp [Lo],this⟩
theorem zbG (n:Nat)(l:List Nat):Lo n (ud l):=by
 unfold ud;rw [Lo];exact acN n l
theorem wJ (n:Nat):∀ ls:List (List Nat),Kv n (ls.map ud)
 | []=>by simp [Kv]
 | l::ls=>by
  have:=wJ n ls
  rw [Lj,Kv];exact ⟨zbG n l,this⟩
theorem qJ {a m i x:Nat}(e:(rng a m)[i]?=Dn x):x=a+i/\x<m:=by
 have hx:=lq.mp (SM e);unfold rng at e;have hl:=(Nk.mp e).1;rw [U4] at hl;rw [Kc (by rw [U4];exact hl),List.getElem_range'] at e;have:=HS e
 lia
theorem Dp:Bb v8:=by
 intro h m k Q E hm hk q;unfold v8;refine uF rfl (σ:=[Dn<|.int (m:Int),Dn<|.int (k:Int),FX,FX,FX,FX,FX]) rfl ?_;refine aO<|aZ<|qC<|ak<|j5<|aD<|cV rfl<|aD<|cV rfl ?_
 refine nV<|cC ?_
 refine aO<|pH<|kO<|ak<|ao rfl<|aD<|Jl (by lia)<|oN ?_
 refine j9 (fun i σ h'=>∃ w s3 s4 s5 s6,σ = [Dn<|.int (m:Int),Dn<|.int (k:Int),Dn w,s3,s4,s5,s6]/\(w=.lst ((Fp m i).map ud)\/∃ n,w=.loc n/\h.nx<=n/\n<h'.nx/\h'.c n=Dn (.lst<|(Fp m i).map ud))/\h.nx<=h'.nx/\∀ n,n<h.nx->h'.c n=h.c n) ?_ ?_ ⟨_,_,_,_,_,rfl,.inl rfl,Ge _,fun _ _=>rfl⟩
 ·rintro i w0 σ h' N hN e ⟨w,s3,s4,s5,s6,rfl,hw,hx,ho⟩;rw [K8] at e;cases qe:(rng 0 k)[i]? with
  | none=>rw [qe] at e;cases e
  | some i'=>
   rw [qe] at e;cases e;obtain ⟨ei,hik⟩:=qJ qe;rw [T7] at ei;subst ei;refine nV ?_;refine aO<|aZ<|vB (ws:=[]) (fun R=>rfl) rfl fun g eg og xg=>?_
   refine nV<|cC ?_
   refine aO ?_;have sw:∀ g':Gh,(∀ n,n≠h'.nx->g'.c n=h'.c n)->aaf g' w ((Fp m i').map ud):=by
    intro g' hg;rcases hw with rfl | ⟨n,rfl,h1,h2,h3⟩
    ·exact .inl rfl
    ·exact .inr ⟨n,rfl,by rw [hg n<|by lia];exact h3⟩
   refine zbq (i:=2) (w:=w) (v:=ud) (xs:=Fp m i') rfl (sw g og) (fun j σ g'=>∃ s5 s6,σ = [Dn<|.int (m:Int),Dn<|.int (k:Int),Dn w,Dn<|.int (i':Int),Dn<|.loc h'.nx,s5,s6]/\g'.c h'.nx=Dn (.lst<|(((Fp m i').take j).flatMap (grow m)).map ud)/\g'.nx=h'.nx+1/\∀ n,n≠h'.nx->g'.c n=h'.c n) ?_ ?_ ?_ ⟨_,_,rfl,eg,xg,og⟩
   ·rintro j σ g' ⟨s5,s6,rfl,h1,h2,h3⟩;exact sw g' h3
   ·rintro j l σ g' N2 hN2 el ⟨s5,s6,rfl,h1,h2,h3⟩;have ml:=SM el;have ll:=lV ml;have ln:=agQ ml;refine nV ?_;have fin:∀ σ,σ = [Dn (.int (m:Int)),Dn (.int (k:Int)),Dn w,Dn (.int (i':Int)),Dn (.loc h'.nx),Dn (ud l),Dn (.int (nxt l:Int))]->gY (wg iw (aq 4) (aj (GC Gm [5] (Jf (aj (aq 6) (aj (aq 0) aH))) fU (JI bD (aq 1) (qy (aj (aq 0) aH)))) aH)) { nx:=N2,rt:=fun w h'=>qz true h w h' Q,bk:=fun _ _=>False,ct:=N2 } σ g':=by
     rintro σ rfl;refine kW<|uR<|ao rfl<|nT h1<|ak<|ahk hm (by lia) ln rfl rfl rfl<|aD<|aa1 h1 ?_ fun g2 e2 o2 x2=>?_
     ·rw [GJ,GJ,<-Nt,show grow m l=[l].flatMap (grow m) by simp,<-List.flatMap_append];have hp:(Fp m i').take (j+1)=(Fp m i').take j++[l]:=by rw [M4,el];rfl
      rw [<-hp];have hr:=nO m hm (i'+1) (by lia);rw [Fp,<-List.take_append_drop (j+1) (Fp m i'),List.flatMap_append,Nt] at hr;lia
     ·refine hN2 _ _ ⟨_,_,rfl,?_,by rw [x2];exact h2,fun n hn=>by rw [o2 n hn];exact h3 n hn⟩;rw [e2,M4,el,List.flatMap_append,Sd];simp
    refine aO<|aZ<|Wv<|bL<|aL<|ao rfl<|bB<|Li<|qb ?_
    refine tZ (fun hp=>?_) fun hp=>?_
    ·obtain ⟨x,ex,ax⟩:=Vm (l:=l) (i:=i' - 1) (by lia);have en:nxt l=x+1:=by unfold nxt;rw [ex]
     refine aL<|aL<|ao rfl<|aL<|ao rfl<|bB<|uO<|fC (x:=ud l) (i:=(i':Int) - 1) (w:=.int (x:Int)) rfl ?_<|bB<|fP ?_
     ·rw [show (i':Int) - 1=((i' - 1:Nat):Int) by lia];exact ax
     ·refine gW (σ':=[Dn<|.int (m:Int),Dn<|.int (k:Int),Dn w,Dn<|.int (i':Int),Dn<|.loc h'.nx,Dn<|ud l,Dn<|.int (nxt l:Int)]) (by rw [en];rfl)<|cC<|fin _ rfl
    ·have l0:l=[]:=VD (by lia);have en:nxt l=0:=by rw [l0];rfl
     refine bB ?_;refine gW (σ':=[Dn<|.int (m:Int),Dn<|.int (k:Int),Dn w,Dn<|.int (i':Int),Dn<|.loc h'.nx,Dn<|ud l,Dn<|.int (nxt l:Int)]) (by rw [en];rfl)<|cC<|fin _ rfl
   ·rintro σ g' ⟨s5,s6,rfl,h1,h2,h3⟩;rw [NQ] at h1;refine cC ?_;refine aZ ?_;refine ao rfl ?_;refine nV<|cC ?_
    exact hN _ _ ⟨_,_,_,_,_,rfl,.inr ⟨_,rfl,hx,by lia,h1⟩,by lia,fun n hn=>by rw [h3 n<|by lia];exact ho n hn⟩
 ·rintro σ h' ⟨w,s3,s4,s5,s6,rfl,hw,hx,ho⟩;have hl:((rng 0 k).map fun x:Nat=>W.int (x:Int)).length=k:=by
   rw [GJ];unfold rng;rw [U4];lia
  rw [hl] at hw;unfold uD;refine cC ?_;refine cu ?_;refine ao rfl ?_;refine uc ?_;refine ⟨fun n c hn e=>by rw [ho n hn];exact e,?_⟩;rcases hw with rfl | ⟨n,rfl,h1,h2,h3⟩
  ·exact .inl ⟨by rw [Lo];exact wJ _ _,q⟩
  ·exact .inr ⟨n,_,rfl,h1,h3,wJ _ _,q⟩
def gt (ts:List Tr)(i:Nat):Tr:=ts.getD i (0,0,0)
def MP (m:Nat)(ts:List Tr):Prop:=∀ t∈ts,Pl t/\Bw m t
theorem lY {ts:List Tr}{i:Nat}(hi:i<ts.length):gt ts i∈ts:=by
 unfold gt;rw [Rb,Kc hi];exact UG hi
theorem YT {ts:List Tr}{i:Nat}(hi:i<ts.length):ts[i]?=Dn (gt ts i):=by
 unfold gt;rw [Rb,Kc hi];rfl
theorem iQ.at {h:Gh}{w:W}{ts:List Tr}(e:iQ h w ts){i:Nat}(hi:i<ts.length){Q:WK}(k:Q (tw (gt ts i)) h):Aw w (.int (i:Int)) h Q:=
 fC e.src.1 (cF (by rw [K8,YT hi];rfl)) k
theorem Rn {h:Gh}{w:W}{ts:List Tr}(e:iQ h w ts){Q:WK}(k:Q (.int (ts.length:Int)) h):LR [w] h Q:=by
 refine Jo e.src.1 ?_;rw [GJ];exact k
def S7 (c0:kI):Prop:=∀ {h:Gh} {w:W} {ts:List Tr} {l:List Nat} {Q:WK} {E:EY},iQ h w ts->(∀ i∈l,i<ts.length)->l.length<=1000->Q (.lst ((l.map (gt ts)).map tw)) h->c0 [w,ud l] h Q E
theorem Ei:S7 v7:=by
 intro h w ts l Q E e hl hz q;unfold v7;refine gD rfl (σ:=[Dn w,Dn<|ud l]) rfl<|cu<|lA<|nG<|ao rfl<|Gd (ws:=l.map fun x:Nat=>.int (x:Int)) (o:=FX) rfl ?_
 refine jf.mk (by rw [GJ];exact Hj hz (by decide)) ?_;refine jz (fun i acc h'=>h'=h/\acc=((l.take i).map (gt ts)).map tw) ?_ ?_ ⟨rfl,rfl⟩
 ·rintro i w2 acc h' N hN e2 ⟨rfl,rfl⟩;rw [K8] at e2;cases qe:l[i]? with
  | none=>rw [qe] at e2;cases e2
  | some p=>
   rw [qe] at e2;cases e2;refine ⟨[W.int (p:Int)],rfl,?_⟩;refine bI<|aL<|ao rfl<|ao rfl<|e.at (hl p<|SM qe) ?_
   refine hN _ _ ⟨rfl,?_⟩;rw [M4,qe];simp
 ·rintro acc h' ⟨rfl,rfl⟩;rw [GJ,NQ];exact uc q
theorem wO {m:Nat}:∀ {k:Nat} {l:List Nat},l∈Fp m k->∀ i∈l,i<m
 | 0,l,h=>by
  rw [Fp,Nb] at h;subst h;intro i hi;cases hi
 | k+1,l,h=>by
  rw [Fp,Ur] at h;obtain ⟨u,hu,hl⟩:=h;obtain ⟨p,hp,rfl⟩:=MF.mp hl;intro i hi;rcases S8.mp hi with hi | hi
  ·exact wO hu i hi
  ·rw [Nb.mp hi];exact (lq.mp hp).2
theorem J8 {m k a b:Nat}{l r:List Nat}:l++[a,b]++r∈Fp m k->a<b:=by
 intro h;induction k generalizing r with
 | zero=>
  rw [Fp,Nb] at h;simp at h
 | succ k ih=>
  rw [Fp,Ur] at h;obtain ⟨u,hu,hl⟩:=h;obtain ⟨p,hp,e⟩:=MF.mp hl;rcases List.eq_nil_or_concat r with rfl | ⟨r',z,rfl⟩
  ·rw [Uk,show l++[a,b]=l++[a]++[b] by simp] at e;obtain ⟨e1,e2⟩:=List.append_inj' e rfl;cases e2;subst e1;have:=(lq.mp hp).1
   unfold nxt at this;rw [List.getLast?_append] at this;simp at this;lia
  ·rw [List.concat_eq_append,<-List.append_assoc] at e;obtain ⟨e1,e2⟩:=List.append_inj' e rfl;subst e1;exact ih hu
noncomputable def Ci (ts:List Tr):List Nat->Bool
 | [a,b,c]=>dH [gt ts a,gt ts b,gt ts c]
 | _=>false
theorem RG (p q r:Tr):dH [p,q,r]=decide (dt3 (crs p q) r=0):=by
 by_cases h:dt3 (crs p q) r=0
 ·rw [decide_eq_true h];refine nR<|pD fun k j i kj ji a b c ea eb ec=>?_
  have hi:=(Nk.mp ec).1;simp only [Lk,List.length_nil] at hi;have hc:k=0/\j=1/\i=2:=by lia
  obtain ⟨rfl,rfl,rfl⟩:=hc;simp at ea eb ec;subst ea eb ec;rw [gZ,gZ];exact h
 ·rw [decide_eq_false h];exact Bg fun a=>h<|a r (by simp) p (by simp) q<|by simp
def yU (us:List Tr):Prop:=∃ a b c,a<b/\b<c/\c<us.length/\dt3 (crs (gt us a) (gt us b)) (gt us c)=0
open Classical in
noncomputable def Vp (us:List Tr):Bool:=decide (yU us)
open Classical in
theorem Qo {us:List Tr}(h:yU us):Vp us=true:=by unfold Vp;exact decide_eq_true h
open Classical in
theorem Qy {us:List Tr}(h:¬ yU us):Vp us=false:=by unfold Vp;exact decide_eq_false h
theorem afV {m a b c:Nat}(h1:a<b)(h2:b<c)(h3:c<m):[a,b,c]∈Fp m 3:=by
 have g:∀ {k:Nat} {l:List Nat} {p:Nat},l∈Fp m k->nxt l<=p->p<m->l++[p]∈Fp m (k+1):=fun {k l p} hl h h'=>by
  rw [Fp,Ur];exact ⟨l,hl,MF.mpr ⟨p,lq.mpr ⟨h,h'⟩,rfl⟩⟩
 exact g (l:=[a,b]) (g (l:=[a]) (g (l:=[]) (by rw [Fp];simp) (RN _)<|by lia) (show a+1<=b by lia)<|by lia) (show b+1<=c by lia) h3
theorem afw {us:List Tr}:((Fp us.length 3).map (Ci us)).any id=Vp us:=by
 by_cases h:yU us
 ·rw [Qo h];obtain ⟨a,b,c,h1,h2,h3,h4⟩:=h;rw [List.any_eq_true];refine ⟨true,MF.mpr ⟨[a,b,c],afV h1 h2 h3,?_⟩,rfl⟩;show dH [gt us a,gt us b,gt us c]=true;rw [RG,decide_eq_true h4]
 ·rw [Qy h];refine Bool.eq_false_iff.mpr fun g=>h ?_;rw [List.any_eq_true] at g;obtain ⟨x,hx,hb⟩:=g;obtain ⟨l,hl,rfl⟩:=MF.mp hx;have ll:=lV hl;match l,ll with
  | [a,b,c],_=>
   have hb:dH [gt us a,gt us b,gt us c]=true:=hb;rw [RG,decide_eq_true_eq] at hb;exact ⟨a,b,c,J8 (l:=[]) (r:=[c]) hl,J8 (l:=[a]) (r:=[]) hl,wO hl c<|by simp,hb⟩
theorem Jv {us:List Bool}{h:Gh}{Q:WK}(k:Q (.bl (us.any id)) h):Te [.lst (us.map .bl)] h Q:=Qh rfl (Ay us) k
def acT (c0:kI):Prop:=∀ {h:Gh} {w:W} {us:List Tr} {m:Nat} {Q:WK} {E:EY},m<=4000->iQ h w us->us.length<=12->MP m us->Q (.bl (Vp us)) h->c0 [w,.int 3] h Q E
theorem w_has {ol ri pi:kI}(hol:jt ol)(hri:Bb ri)(hpi:S7 pi):acT (cY ol ri pi):=by
 intro h w us m Q E hm e hl hs k;unfold cY;refine gD rfl (σ:=[Dn w,Dn<|.int 3]) rfl<|cu<|mK<|ak<|lA<|nG<|aG<|ak<|mK<|ak<|ao rfl<|aD<|Rn e ?_
 refine ak<|ao rfl<|aD<|hri (m:=us.length) (k:=3) hl (by decide)<|Gd rfl ?_
 refine jf.mk (by rw [GJ];exact Hj (nO _ hl 3<|by decide) (by decide)) ?_;refine jz (fun i acc h'=>h'=h/\acc=(((Fp us.length 3).take i).map (Ci us)).map W.bl) ?_ ?_ ⟨rfl,rfl⟩
 ·rintro i w2 acc h' N hN e2 ⟨rfl,rfl⟩;rw [K8] at e2;cases qe:(Fp us.length 3)[i]? with
  | none=>rw [qe] at e2;cases e2
  | some l=>
   rw [qe] at e2;cases e2;have ml:=SM qe;have ll:=lV ml;have li:=wO ml;refine ⟨[ud l],rfl,?_⟩;have fin:∀ b:Bool,b=Ci us l->N ((((Fp us.length 3).take i).map (Ci us)).map W.bl++[W.bl b]) h':=fun b hb=>hN _ _ ⟨rfl,by rw [M4,qe,hb];simp⟩
   match l,ll with
   | [a,b,c],_=>
    refine bI<|bM<|aG<|ak<|aG<|ak<|ao rfl<|ak<|ao rfl<|aD<|hpi e li (by simp) ?_
    refine aD<|hol (ts:=[gt us a,gt us b,gt us c]) (M:=m) (.inl rfl) (by simp) hm ?_<|fin _ rfl
    intro t ht;simp only [Fe,Fx,or_false] at ht;rcases ht with rfl | rfl | rfl
    ·exact hs _<|lY<|li a<|by simp
    ·exact hs _<|lY<|li b<|by simp
    ·exact hs _<|lY<|li c<|by simp
 ·rintro acc h' ⟨rfl,rfl⟩;rw [GJ,NQ];refine aD<|Jv ?_
  rw [afw];exact uc k
def Oe (c0:kI):Prop:=∀ {h:Gh} {w:W} {us:List Tr} {m:Nat} {Q:WK} {E:EY},m<=4000->iQ h w us->us.length<=12->MP m us->(¬ yU us->Q .non h)->(yU us->E ⟨"ThreeOnLine",[]⟩ h)->c0 [w] h Q E
theorem Zx {ho:kI}(hho:acT ho):Oe (jA ho):=by
 intro h w us m Q E hm e hl hs k k1;unfold jA;refine gD rfl (σ:=[Dn w]) rfl ?_;rfl'
 refine hho hm e hl hs ?_;by_cases g:yU us
 ·rw [Qo g];rfl'
  exact k1 g
 ·rw [Qy g];rfl'
  exact k g
theorem Aj {m n:Nat}{p q:Tr}(hp:Bw m p)(hq:Bw n q):Bw (m+n+1) (crs p q):=
 ⟨((hp.2.1.mul hq.2.2).sub (hp.2.2.mul hq.2.1)).mono (by lia),((hp.2.2.mul hq.1).sub (hp.1.mul hq.2.2)).mono (by lia),((hp.1.mul hq.2.1).sub (hp.2.1.mul hq.1)).mono (by lia)⟩
def Bo (c0:kI):Prop:=∀ {h:Gh} {p q:Tr} {m n:Nat} {Q:WK} {E:EY},m<=3900->n<=3900->Bw m p->Bw n q->Pl p->Pl q->p≠q->(∀ t:Tr,Pl t->Fq (crs p q) t->Bw (m+n+1) t->Q (tw t) h)->c0 [tw p,tw q] h Q E
theorem yW {pl cr:kI}(hpl:qd pl)(hcr:tL cr):Bo (dY pl cr):=by
 intro h p q m n Q E hm hn sp sq pp pq ne k;unfold dY;rfl'
 refine z9 (decide_eq_false ne) ?_;rfl'
 first | unfold jr | skip
 rfl'
 refine hcr (m:=max m n) (by lia) (sp.mono<|by lia) (sq.mono<|by lia) ?_;rfl'
 exact hpl.tr (u:=crs p q) (m:=m+n+1) (.inl rfl) (eN pp pq ne) (Aj sp sq) (by lia) k
theorem afG {pc:kI}(hpc:Bo pc):Bo (Jw pc):=by
 intro h p q m n Q E hm hn sp sq pp pq ne k;unfold Jw;rfl'
 exact hpc hm hn sp sq pp pq ne k
theorem agc {pc:kI}(hpc:Bo pc):Bo (CZ pc):=by
 intro h p q m n Q E hm hn sp sq pp pq ne k;unfold CZ;rfl'
 exact hpc hm hn sp sq pp pq ne k
def X3 (a b c d e f X Y Z:Tr):Prop:=(Pl X/\Fq (crs (crs a b) (crs d e)) X)/\(Pl Y/\Fq (crs (crs b c) (crs e f)) Y)/\(Pl Z/\Fq (crs (crs c d) (crs f a)) Z)
def Five (a b c d e:Tr):Prop:=¬ yU [a,b,c,d,e]
theorem dg {a b c d e:Tr}(h:Five a b c d e):dt3 (crs a b) c≠0/\dt3 (crs a b) d≠0/\dt3 (crs a b) e≠0/\dt3 (crs a c) d≠0/\dt3 (crs a c) e≠0/\dt3 (crs a d) e≠0/\dt3 (crs b c) d≠0/\dt3 (crs b c) e≠0/\dt3 (crs b d) e≠0/\dt3 (crs c d) e≠0:=by
 have g:∀ i j k,i<j->j<k->k<5->dt3 (crs (gt [a,b,c,d,e] i) (gt [a,b,c,d,e] j)) (gt [a,b,c,d,e] k)≠0:=fun i j k h1 h2 h3 z=>h ⟨i,j,k,h1,h2,h3,z⟩
 exact ⟨g 0 1 2 (by decide) (by decide)<|by decide,g 0 1 3 (by decide) (by decide)<|by decide,g 0 1 4 (by decide) (by decide)<|by decide,g 0 2 3 (by decide) (by decide)<|by decide,g 0 2 4 (by decide) (by decide)<|by decide,g 0 3 4 (by decide) (by decide)<|by decide,g 1 2 3 (by decide) (by decide)<|by decide,g 1 2 4 (by decide) (by decide)<|by decide,g 1 3 4 (by decide) (by decide)<|by decide,g 2 3 4 (by decide) (by decide)<|by decide⟩
theorem aa6 {R:Src->Gh->Prop}{h:Gh}(x:R ⟨[.int 0,.int 1,.int 2,.int 3,.int 4,.int 5],FX⟩ h):rgK R [.int 6] h:=x
theorem gn {σ : Sw}{h:Gh}{Q:Option Int->Gh->Prop}(x:Q FX h):gR σ h Q:=x
theorem sW {ws us:List W}{lo hi:Option Int}{h:Gh}{Q:WK}(e:Bc ws lo hi=us)(x:Q (.lst us) h):qu (.lst ws) lo hi h Q:=by
 subst e;exact x
def r6 (a b c d e f:Tr):W:=.lst [tw a,tw b,tw c,tw d,tw e,tw f]
theorem dZ {p q r:Tr}(h:dt3 (crs p q) r≠0):p≠q:=fun e=>h (by rw [e,jT];simp [dt3])
theorem mQ {u v l l' p:Tr}(h1:Fq u l)(h2:Fq v l')(hp:dt3 v p=0)(hn:dt3 u p≠0):l≠l':=fun e=>hn (by rw [fK h1,e,<-fK h2];exact hp)
structure Rd (a b c d e f:Tr):Prop where
 pa:Pl a
 pb:Pl b
 pc:Pl c
 pd:Pl d
 pe:Pl e
 pf:Pl f
 sa:Bw 110 a
 sb:Bw 110 b
 sc:Bw 110 c
 sd:Bw 110 d
 se:Bw 110 e
 sf:Bw 1000 f
def Qe (c0:kI):Prop:=∀ {h:Gh} {a b c d e f:Tr} {Q:WK} {E:EY},Rd a b c d e f->(Five a b c d e->f≠a->f≠e->∀ (X Y Z:Tr),X3 a b c d e f X Y Z->Bw 2000 X->Bw 2000 Y->Bw 2000 Z->Q (.lst [tw X,tw Y,tw Z]) h)->(¬ Five a b c d e->E ⟨"ThreeOnLine",[]⟩ h)->(Five a b c d e->f=a\/f=e->E ⟨"Alike",[]⟩ h)->c0 [r6 a b c d e f] h Q E
theorem aeb {jo me fi:kI}(hjo:Bo jo)(hme:Bo me)(hfi:Oe fi):Qe (lJ jo me fi):=by
 intro h a b c d e f Q E R k k1 k2;have hs:MP 110 [a,b,c,d,e]:=by
  intro t ht;simp only [Fe,Fx,or_false] at ht;rcases ht with rfl | rfl | rfl | rfl | rfl
  ·exact ⟨R.pa,R.sa⟩
  ·exact ⟨R.pb,R.sb⟩
  ·exact ⟨R.pc,R.sc⟩
  ·exact ⟨R.pd,R.sd⟩
  ·exact ⟨R.pe,R.se⟩
 unfold lJ r6;refine gD rfl (σ:=[Dn<|.lst [tw a,tw b,tw c,tw d,tw e,tw f],FX]) rfl ?_;rfl'
 refine gn ?_;rfl'
 refine sW (us:=[tw a,tw b,tw c,tw d,tw e]) rfl ?_;rfl'
 refine hfi (us:=[a,b,c,d,e]) (m:=110) (by decide) (.inl rfl) (by simp) hs (fun F=>?_) fun z=>k1 fun F=>F z;obtain ⟨tabc,tabd,tabe,tacd,tace,tade,tbcd,tbce,tbde,tcde⟩:=dg F;rfl'
 refine tZ (fun z=>?_) fun fa=>?_
 ·rfl'
  exact k2 F<|.inl z
 rfl'
 refine tZ (fun z=>?_) fun fe=>?_
 ·rfl'
  exact k2 F<|.inr z
 rfl'
 unfold lU;rfl'
 refine aa6<|lD rfl ?_
 rfl'
 refine dO (by decide) ?_;rfl'
 refine hjo (m:=110) (n:=110) (by decide) (by decide) R.sa R.sb R.pa R.pb (dZ tabc) fun l0 p0 q0 s0=>?_;rfl'
 refine dO (by decide) ?_;rfl'
 refine hjo (m:=110) (n:=110) (by decide) (by decide) R.sb R.sc R.pb R.pc (dZ tbcd) fun l1 p1 q1 s1=>?_;rfl'
 refine dO (by decide) ?_;rfl'
 refine hjo (m:=110) (n:=110) (by decide) (by decide) R.sc R.sd R.pc R.pd (dZ tcde) fun l2 p2 q2 s2=>?_;rfl'
 refine dO (by decide) ?_;rfl'
 refine hjo (m:=110) (n:=110) (by decide) (by decide) R.sd R.se R.pd R.pe (fun z=>tade (by rw [z,gZ];exact iD _ _)) fun l3 p3 q3 s3=>?_;rfl'
 refine dO (by decide) ?_;rfl'
 refine hjo (m:=110) (n:=1000) (by decide) (by decide) R.se R.sf R.pe R.pf (Jj fe) fun l4 p4 q4 s4=>?_;rfl'
 refine dO (by decide) ?_;rfl'
 refine hjo (m:=1000) (n:=110) (by decide) (by decide) R.sf R.sa R.pf R.pa fa fun l5 p5 q5 s5=>?_;have n0:l0≠l3:=mQ q0 q3 (dW d e) tabd;have n1:l1≠l4:=mQ q1 q4 (dW e f) tbce;have n2:l2≠l5:=mQ q2 q5 (fH f a) (fun z=>tacd (by rw [gZ];exact z));rfl'
 refine hme (m:=221) (n:=221) (by decide) (by decide) s0 s3 p0 p3 n0 fun X pX qX sX=>?_;rfl'
 refine hme (m:=221) (n:=1111) (by decide) (by decide) s1 s4 p1 p4 n1 fun Y pY qY sY=>?_;rfl'
 refine hme (m:=221) (n:=1111) (by decide) (by decide) s2 s5 p2 p5 n2 fun Z pZ qZ sZ=>?_;rfl'
 exact k F fa fe X Y Z ⟨⟨pX,(eF q0 q3).trans qX⟩,⟨pY,(eF q1 q4).trans qY⟩,⟨pZ,(eF q2 q5).trans qZ⟩⟩ (sX.mono<|by decide) (sY.mono<|by decide)<|sZ.mono<|by decide
def Bx (c0:kI):Prop:=∀ {h:Gh} {a b c d e f:Tr} {Q:WK} {E:EY},Rd a b c d e f->(Five a b c d e->f≠a->f≠e->∀ (X Y Z:Tr),X3 a b c d e f X Y Z->Q (.bl (decide (dt3 (crs X Y) Z=0))) h)->(¬ Five a b c d e->E ⟨"ThreeOnLine",[]⟩ h)->(Five a b c d e->f=a\/f=e->E ⟨"Alike",[]⟩ h)->c0 [r6 a b c d e f] h Q E
theorem aeJ {ol cr:kI}(hol:jt ol)(hcr:Qe cr):Bx (kJ ol cr):=by
 intro h a b c d e f Q E R k k1 k2;unfold kJ;refine gD rfl (σ:=[Dn<|r6 a b c d e f]) rfl ?_;rfl'
 refine hcr R (fun F fa fe X Y Z x3 sX sY sZ=>?_) k1 k2;rfl'
 refine hol (ts:=[X,Y,Z]) (M:=2000) (.inl rfl) (by simp) (by decide) ?_ ?_
 ·intro t ht;simp only [Fe,Fx,or_false] at ht;rcases ht with rfl | rfl | rfl
  ·exact ⟨x3.1.1,sX⟩
  ·exact ⟨x3.2.1.1,sY⟩
  ·exact ⟨x3.2.2.1,sZ⟩
 rw [RG];rfl'
 exact k F fa fe X Y Z x3
theorem cc (a b c d:Tr):crs (crs a b) (crs c d)=(dt3 (crs a b) d*c.1 - dt3 (crs a b) c*d.1,dt3 (crs a b) d*c.2.1 - dt3 (crs a b) c*d.2.1,dt3 (crs a b) d*c.2.2 - dt3 (crs a b) c*d.2.2):=by
 obtain ⟨a1,a2,a3⟩:=a;obtain ⟨b1,b2,b3⟩:=b;obtain ⟨c1,c2,c3⟩:=c;obtain ⟨d1,d2,d3⟩:=d;simp only [crs,dt3];refine Hy ?_<|Hy ?_ ?_
 ·simp only;grind
 ·simp only;grind
 ·simp only;grind
def FN (a b c:Tr):Int:=dt3 (crs a b) c
theorem pl1 (a b c d e f:Tr):FN a b c*FN d e f=FN d b c*FN a e f+FN a d c*FN b e f+FN a b d*FN c e f:=by
 obtain ⟨a1,a2,a3⟩:=a;obtain ⟨b1,b2,b3⟩:=b;obtain ⟨c1,c2,c3⟩:=c;obtain ⟨d1,d2,d3⟩:=d;obtain ⟨e1,e2,e3⟩:=e;obtain ⟨f1,f2,f3⟩:=f;simp only [FN,crs,dt3];grind
theorem m_a (a b c u v:Tr):FN a b c*FN u v a=FN a u c*FN a b v - FN a b u*FN a v c:=by
 obtain ⟨a1,a2,a3⟩:=a;obtain ⟨b1,b2,b3⟩:=b;obtain ⟨c1,c2,c3⟩:=c;obtain ⟨u1,u2,u3⟩:=u;obtain ⟨v1,v2,v3⟩:=v;simp only [FN,crs,dt3];grind
theorem jN (u v w:Tr):FN u v w=FN v w u:=by
 obtain ⟨u1,u2,u3⟩:=u;obtain ⟨v1,v2,v3⟩:=v;obtain ⟨w1,w2,w3⟩:=w;simp only [FN,crs,dt3];grind
theorem sw3 (u v w:Tr):FN u v w = - FN v u w:=by
 obtain ⟨u1,u2,u3⟩:=u;obtain ⟨v1,v2,v3⟩:=v;obtain ⟨w1,w2,w3⟩:=w;simp only [FN,crs,dt3];grind
theorem m_b (a b c u v:Tr):FN a b c*FN u v b=FN a b u*FN v b c - FN u b c*FN a b v:=by
 have:=m_a b c a u v
 rw [show FN b c a=FN a b c from (jN a b c).symm,show FN b u a=FN a b u from (jN a b u).symm,show FN b c v=FN v b c from (jN v b c).symm,show FN b c u=FN u b c from (jN u b c).symm,show FN b v a=FN a b v from (jN a b v).symm] at this;exact this
theorem m_c (a b c u v:Tr):FN a b c*FN u v c=FN u b c*FN a v c - FN a u c*FN v b c:=by
 have:=m_a c a b u v
 rw [show FN c a b=FN a b c from jN c a b,show FN c u b=FN u b c from jN c u b,show FN c a v=FN a v c from jN c a v,show FN c a u=FN a u c from jN c a u,show FN c v b=FN v b c from jN c v b] at this;exact this
theorem ahp {D d1 d2 d3 e1 e2 e3 f1 f2 f3 X Y U V W G H K:Int}(hD:D≠0)(hX:D*X=d1*f2 - d2*f1)(hY:D*(D*Y)=d1*(e2*f3 - e3*f2)+d2*(e3*f1 - e1*f3)+d3*(e1*f2 - e2*f1))(hU:D*U=d2*e3 - d3*e2)(hV:D*V=d2*f3 - d3*f2)(hW:D*W=e2*f3 - e3*f2)(hG:D*G=d3*e1 - d1*e3)(hH:D*H=d1*e2 - d2*e1)(hK:D*K=d3*f1 - d1*f3):e3*f1*(-d2)*Y - e3*f1*X*U+e3*e1*X*V - d3*e1*X*W=(-e2)*G*(f3*X) - e3*H*((-f2)*K):=by
 refine Int.eq_of_mul_eq_mul_left (M5 hD hD) ?_;have l:D*D*(e3*f1*(-d2)*Y - e3*f1*X*U+e3*e1*X*V - d3*e1*X*W)=e3*f1*(-d2)*(D*(D*Y)) - e3*f1*(D*X)*(D*U)+e3*e1*(D*X)*(D*V) - d3*e1*(D*X)*(D*W):=by grind
 have r:D*D*((-e2)*G*(f3*X) - e3*H*((-f2)*K))=(-e2)*(D*G)*(f3*(D*X)) - e3*(D*H)*((-f2)*(D*K)):=by grind
 rw [l,r,hX,hY,hU,hV,hW,hG,hH,hK];grind
theorem XC {a b c d e f:Tr}(hD:FN a b c≠0):dt3 (crs (crs (crs a b) (crs d e)) (crs (crs b c) (crs e f))) (crs (crs c d) (crs f a))=FN a c e*FN b d e*(FN a b f*FN c d f) - FN a b e*FN c d e*(FN a c f*FN b d f):=by
 have lin:∀ (p q r s t x:Int) (A B C A' B' C':Tr),dt3 (crs (p*A.1 - q*B.1,p*A.2.1 - q*B.2.1,p*A.2.2 - q*B.2.2) (r*A'.1 - s*B'.1,r*A'.2.1 - s*B'.2.1,r*A'.2.2 - s*B'.2.2)) (t*C.1 - x*C'.1,t*C.2.1 - x*C'.2.1,t*C.2.2 - x*C'.2.2)=p*r*t*FN A A' C - p*r*x*FN A A' C' - p*s*t*FN A B' C+p*s*x*FN A B' C' - q*r*t*FN B A' C+q*r*x*FN B A' C'+q*s*t*FN B B' C - q*s*x*FN B B' C':=by
  intro p q r s t x A B C A' B' C';simp only [FN,crs,dt3];grind
 rw [cc a b d e,cc b c e f,cc c d f a,lin];have same:∀ x y:Tr,FN x y y=0/\FN x x y=0:=fun x y=>by
  constructor <;> simp only [FN,crs,dt3] <;> grind
 rw [(same d f).1,(same e f).2,(same e a).2,(same e f).1];have hX:=m_c a b c d f;have hU:=m_a a b c d e;have hV:=m_a a b c d f;have hW:=m_a a b c e f;have hG:=m_b a b c d e;have hH:=m_c a b c d e;have hK:=m_b a b c d f;have hWb:=m_b a b c e f;have hWc:=m_c a b c e f;have hY:FN a b c*(FN a b c*FN d e f)=FN d b c*(FN a e c*FN a b f - FN a b e*FN a f c)+FN a d c*(FN a b e*FN f b c - FN e b c*FN a b f)+FN a b d*(FN e b c*FN a f c - FN a e c*FN f b c):=by
  rw [pl1 a b c d e f,jN a e f,jN b e f,jN c e f,<-hW,<-hWb,<-hWc];grind
 have z:=ahp hD hX hY hU hV hW hG hH hK;have e1:dt3 (crs a b) e=FN a b e:=rfl;have e2:dt3 (crs b c) f=FN f b c:=(jN f b c).symm;have e3:dt3 (crs c d) a = - FN a d c:=by show FN c d a=_;rw [<-jN a c d,jN a c d,sw3 c d a,jN d c a,jN c a d,jN a d c]
 have e4:dt3 (crs b c) e=FN e b c:=(jN e b c).symm;have e5:dt3 (crs c d) f=FN d f c:=by show FN c d f=_;exact jN c d f
 have e6:FN b d e=FN d e b:=jN b d e;have e7:FN c d e=FN d e c:=jN c d e;have e8:FN b d f=FN d f b:=jN b d f;have e9:FN a c e = - FN a e c:=by rw [jN a c e,sw3 c e a,jN e c a,jN c a e]
 have e10:FN a c f = - FN a f c:=by rw [jN a c f,sw3 c f a,jN f c a,jN c a f]
 have e11:dt3 (crs a b) d=FN a b d:=rfl;have e12:FN c d f=FN d f c:=jN c d f;rw [e1,e2,e3,e4,e5,e6,e7,e8,e9,e10,e11,e12];grind
def Iu (c0:kI):Prop:=∀ {h:Gh} {p q r:Tr} {m:Nat} {Q:WK} {E:EY},m<=4000->Bw m p->Bw m q->Bw m r->Q (.int (dt3 (crs p q) r)) h->c0 [tw p,tw q,tw r] h Q E
theorem ahD {cr dt:kI}(hcr:tL cr)(hdt:qW dt):Iu (mO cr dt):=by
 intro h p q r m Q E hm sp sq sr k;unfold mO;rfl'
 refine hcr (m:=m) (by lia) sp sq ?_;rfl'
 refine hdt (m:=m+m+1) (by lia) (cj sp sq) (sr.mono<|by lia) ?_;rfl'
 exact k
def Gw (a b c d:Tr):C6:=ur (crs a b) (crs c d)
def Gu (a b c d:Tr):C6:=ur (crs a c) (crs b d)
def z3 (ts:List Tr)(i j k:Nat):Option Unit:=if dt3 (crs (gt ts i) (gt ts j)) (gt ts k)=0 then Dn () else FX
theorem gt5 {a b c d e f:Tr}{i:Nat}(h:i<5):gt [a,b,c,d,e,f] i=gt [a,b,c,d,e] i:=by
 rcases (show i=0\/i=1\/i=2\/i=3\/i=4 by lia) with rfl | rfl | rfl | rfl | rfl <;> rfl
theorem Ks {m n:Nat}{c:C6}{p:Tr}(hc:Ht m c)(hp:Bw n p):Sm (m+n+n+5) (wth c p):=by
 obtain ⟨h1,h2,h3,h4,h5,h6⟩:=hc;obtain ⟨hx,hy,hz⟩:=hp;unfold wth;exact ((((((h1.mul hx).mul hx).add ((h3.mul hy).mul hy)).add ((h6.mul hz).mul hz)).add ((h2.mul hx).mul hy)).add ((h4.mul hx).mul hz)).add ((h5.mul hy).mul hz) |>.mono (by lia)
def Yl (h t:Int)(o n:C6):C6:=(h*o.1 - t*n.1,h*o.2.1 - t*n.2.1,h*o.2.2.1 - t*n.2.2.1,h*o.2.2.2.1 - t*n.2.2.2.1,h*o.2.2.2.2.1 - t*n.2.2.2.2.1,h*o.2.2.2.2.2 - t*n.2.2.2.2.2)
theorem ahh (h t:Int)(o n:C6)(x:Tr):wth (Yl h t o n) x=h*wth o x - t*wth n x:=by
 simp only [wth,Yl];grind
theorem uJ {c:C6}{x:Tr}(h:wth c x≠0):NZ (J7 c):=by
 obtain ⟨c1,c2,c3,c4,c5,c6⟩:=c;by_cases z:c1=0/\c2=0/\c3=0/\c4=0/\c5=0/\c6=0
 ·obtain ⟨rfl,rfl,rfl,rfl,rfl,rfl⟩:=z;refine absurd ?_ h;simp [wth]
 ·have:∃ n∈[c1,c2,c3,c4,c5,c6],n≠0:=by
   by_cases z1:c1=0
   ·by_cases z2:c2=0
    ·by_cases z3:c3=0
     ·by_cases z4:c4=0
      ·by_cases z5:c5=0
       ·by_cases z6:c6=0
        ·exact absurd ⟨z1,z2,z3,z4,z5,z6⟩ z
        ·exact ⟨c6,by simp,z6⟩
       ·exact ⟨c5,by simp,z5⟩
      ·exact ⟨c4,by simp,z4⟩
     ·exact ⟨c3,by simp,z3⟩
    ·exact ⟨c2,by simp,z2⟩
   ·exact ⟨c1,by simp,z1⟩
  exact this
def fZ (s t:Int)(p q:Tr):Tr:=(s*p.1 - t*q.1,s*p.2.1 - t*q.2.1,s*p.2.2 - t*q.2.2)
theorem Yv (n:Tr)(s t:Int)(p q:Tr):dt3 n (fZ s t p q)=s*dt3 n p - t*dt3 n q:=by
 simp only [fZ,dt3];grind
theorem cc1 (a b c d:Tr):crs (crs a b) (crs c d)=fZ (FN a b d) (FN a b c) c d:=cc a b c d
theorem cc2 (a b c d:Tr):crs (crs a b) (crs c d)=fZ (FN a c d) (FN b c d) b a:=by
 obtain ⟨a1,a2,a3⟩:=a;obtain ⟨b1,b2,b3⟩:=b;obtain ⟨c1,c2,c3⟩:=c;obtain ⟨d1,d2,d3⟩:=d;simp only [crs,dt3,FN,fZ];refine Hy ?_<|Hy ?_ ?_
 ·simp only;grind
 ·simp only;grind
 ·simp only;grind
theorem bH (x y:Tr):FN x y y=0/\FN x x y=0/\FN x y x=0:=by
 refine ⟨?_,?_,?_⟩ <;> simp only [FN,crs,dt3] <;> grind
theorem brl (s t:Int)(u v p q:Tr):FN (fZ s t u v) p q=s*FN u p q - t*FN v p q:=by
 simp only [FN,crs,dt3,fZ];grind
theorem brm (s t:Int)(u v p q:Tr):FN p (fZ s t u v) q=s*FN p u q - t*FN p v q:=by
 simp only [FN,crs,dt3,fZ];grind
theorem brr (s t:Int)(u v p q:Tr):FN p q (fZ s t u v)=s*FN p q u - t*FN p q v:=by
 simp only [FN,crs,dt3,fZ];grind
theorem cO (a b c:Tr):FN b c a=FN a b c:=(jN a b c).symm
theorem Xd (a b c:Tr):FN c a b=FN a b c:=jN c a b
theorem cN (a b c:Tr):FN a c b = - FN a b c:=by
 simp only [FN,crs,dt3];grind
theorem aav (a b c:Tr):FN c b a = - FN a b c:=by rw [cO a c b,cN]
theorem f1 (a b c d e:Tr):FN b d e*FN a c d - FN a d e*FN b c d=FN a b d*FN c d e:=by
 simp only [FN,crs,dt3];grind
theorem f2 (a b c d e:Tr):FN a c e*FN a b d - FN a d e*FN a b c=FN a b e*FN a c d:=by
 simp only [FN,crs,dt3];grind
theorem f3 (a b c d e:Tr):FN a b c*FN c d e+FN a c e*FN b c d=FN a c d*FN b c e:=by
 simp only [FN,crs,dt3];grind
theorem f4 (a b c d e:Tr):FN a b e*FN b c d+FN a b c*FN b d e=FN a b d*FN b c e:=by
 simp only [FN,crs,dt3];grind
theorem Wn {n e:Tr}(x y z:Tr)(h:dt3 n e=0):dt3 n x*FN y z e - dt3 n y*FN x z e+dt3 n z*FN x y e=0:=by
 have:dt3 n x*FN y z e - dt3 n y*FN x z e+dt3 n z*FN x y e=dt3 n e*FN x y z:=by
  simp only [FN,crs,dt3];grind
 rw [this,h,QS]
theorem cl2 (b c l:Tr):crs (crs b c) l=fZ (dt3 l b) (dt3 l c) c b:=by
 simp only [crs,dt3,fZ];refine Hy ?_<|Hy ?_ ?_
 ·simp only;grind
 ·simp only;grind
 ·simp only;grind
def pP (a b d e:Tr):Tr:=crs (crs a b) (crs d e)
theorem WR (a b d e:Tr):pP a b d e=fZ (FN a d e) (FN b d e) b a:=cc2 a b d e
def g8 (a b c d e:Tr):C6:=Yl (wth (Gw a b c d) e) (wth (Gu a b c d) e) (Gu a b c d) (Gw a b c d)
theorem Bd (a b c d e x:Tr):wth (g8 a b c d e) x=FN a b e*FN c d e*(FN a c x*FN b d x) - FN a c e*FN b d e*(FN a b x*FN c d x):=by
 have v1:∀ x,wth (Gw a b c d) x=FN a b x*FN c d x:=fun x=>fD _ _ _
 have v2:∀ x,wth (Gu a b c d) x=FN a c x*FN b d x:=fun x=>fD _ _ _
 unfold g8;rw [ahh,v1,v2,v1,v2]
theorem Ip (h t:Int)(o n:C6)(e x:Tr):dt3 (vm (bF (Yl h t o n)) e) x=h*dt3 (vm (bF o) e) x - t*dt3 (vm (bF n) e) x:=by
 simp only [dt3,vm,bF,Yl];grind
theorem qx (u v e x:Tr):dt3 (vm (bF (ur u v)) e) x=dt3 u e*dt3 v x+dt3 u x*dt3 v e:=by
 simp only [dt3,vm,bF,ur];grind
def Gn (a b c d e:Tr):Tr:=vm (bF (g8 a b c d e)) e
theorem Kz (a b c d e x:Tr):dt3 (Gn a b c d e) x=FN a b e*FN c d e*(FN a c e*FN b d x+FN a c x*FN b d e) - FN a c e*FN b d e*(FN a b e*FN c d x+FN a b x*FN c d e):=by
 have v1:wth (Gw a b c d) e=FN a b e*FN c d e:=fD _ _ _;have v2:wth (Gu a b c d) e=FN a c e*FN b d e:=fD _ _ _;unfold Gn g8;rw [Ip,v1,v2];unfold Gw Gu;rw [qx,qx];rfl
theorem YJ (a b c d e:Tr):dt3 (Gn a b c d e) e=0:=by
 rw [Kz];grind
theorem aaH (a b c d e:Tr):dt3 (Gn a b c d e) c = - (FN a c e*FN c d e*(FN a b d*FN b c e)):=by
 rw [Kz,(bH a c).1,(bH c d).2.2,cN b c d,<-f4 a b c d e];grind
theorem abY (a b c d e:Tr):dt3 (Gn a b c d e) d = - (FN b d e*FN c d e*(FN a b c*FN a d e)):=by
 rw [Kz,(bH b d).1,(bH c d).1];have:=f2 a b c d e
 grind
def oS (b c l:Tr):Tr:=crs (crs b c) l
theorem acQ (a b c d e l:Tr):FN (pP a b d e) (oS b c l) c=FN a b c*FN b d e*dt3 l c:=by
 unfold oS;rw [WR,cl2,brl,brm,brm,(bH b c).1,(bH b c).2.1,(bH a c).1];grind
theorem acf {a b c d e l:Tr}(h:dt3 l e=0):FN (pP a b d e) (oS b c l) d=FN a b d*FN b c e*dt3 l d:=by
 unfold oS;rw [WR,cl2,brl,brm,brm,(bH b d).2.1];have h1:=Wn b c d h;have h2:=f1 a b c d e;have e1:FN a d e*(dt3 l b*FN b c d - dt3 l c*0) - FN b d e*(dt3 l b*FN a c d - dt3 l c*FN a b d) = - (dt3 l b*(FN b d e*FN a c d - FN a d e*FN b c d))+FN b d e*dt3 l c*FN a b d:=by grind
 rw [e1,h2];have e2:dt3 l d*FN b c e=dt3 l c*FN b d e - dt3 l b*FN c d e:=by lia
 have e3:FN a b d*FN b c e*dt3 l d=FN a b d*(dt3 l d*FN b c e):=by grind
 rw [e3,e2];grind
def oR (a b c d e l:Tr):Tr:=crs (crs (pP a b d e) (oS b c l)) (crs c d)
theorem Xc {a b c d e l:Tr}(h:dt3 l e=0):oR a b c d e l=fZ (FN a b d*FN b c e*dt3 l d) (FN a b c*FN b d e*dt3 l c) c d:=by
 have:=cc1 (pP a b d e) (oS b c l) c d
 rw [acQ,acf h] at this;exact this
theorem acZ {a b c d e l:Tr}(h:dt3 l e=0):dt3 l (oR a b c d e l)=FN a b e*FN b c d*(dt3 l c*dt3 l d):=by
 rw [Xc h,Yv];have:=f4 a b c d e
 have e1:FN a b d*FN b c e*dt3 l d*dt3 l c - FN a b c*FN b d e*dt3 l c*dt3 l d=(FN a b d*FN b c e - FN a b c*FN b d e)*(dt3 l c*dt3 l d):=by grind
 rw [e1,<-this];grind
def oX (a b c d e l:Tr):Tr:=crs (crs a (oR a b c d e l)) l
theorem Gk {a b c d e l:Tr}(h:dt3 l e=0)(p q:Tr):FN p q (oX a b c d e l)=dt3 l a*(FN a b d*FN b c e*dt3 l d*FN p q c - FN a b c*FN b d e*dt3 l c*FN p q d) - FN a b e*FN b c d*(dt3 l c*dt3 l d)*FN p q a:=by
 unfold oX;rw [cl2,brr,acZ h,Xc h,brr]
theorem aby (a b c d e l:Tr):dt3 l (oX a b c d e l)=0:=by
 unfold oX;simp only [dt3,crs];grind
theorem adR {a b c d e l:Tr}(h:dt3 l e=0):FN a c (oX a b c d e l) = - (dt3 l a*dt3 l c*FN a b c*FN b d e*FN a c d):=by
 rw [Gk h,(bH a c).1,(bH a c).2.2];grind
theorem adn {a b c d e l:Tr}(h:dt3 l e=0):FN b d (oX a b c d e l) = - (FN a b d*FN b c d*FN a c e*dt3 l b*dt3 l d):=by
 rw [Gk h,(bH b d).1,cN b c d,cO a b d];have r:=Wn a b c h;have e2:dt3 l b*FN a c e=dt3 l a*FN b c e+dt3 l c*FN a b e:=by lia
 have e3:FN a b d*FN b c d*FN a c e*dt3 l b*dt3 l d=FN a b d*FN b c d*(dt3 l b*FN a c e)*dt3 l d:=by grind
 rw [e3,e2];grind
theorem adb {a b c d e l:Tr}(h:dt3 l e=0):FN a b (oX a b c d e l) = - (dt3 l a*dt3 l b*FN a b c*FN a b d*FN c d e):=by
 rw [Gk h,(bH a b).2.2];have r:=Wn b c d h;have e2:dt3 l b*FN c d e=dt3 l c*FN b d e - dt3 l d*FN b c e:=by lia
 have e3:dt3 l a*dt3 l b*FN a b c*FN a b d*FN c d e=dt3 l a*FN a b c*FN a b d*(dt3 l b*FN c d e):=by grind
 rw [e3,e2];grind
theorem adA {a b c d e l:Tr}(h:dt3 l e=0):FN c d (oX a b c d e l) = - (FN a b e*FN b c d*FN a c d*dt3 l c*dt3 l d):=by
 rw [Gk h,(bH c d).2.2,(bH c d).1,cO a c d];grind
theorem W4 {a b c d e l:Tr}(h:dt3 l e=0):wth (g8 a b c d e) (oX a b c d e l)=0:=by
 rw [Bd,adR h,adn h,adb h,adA h];grind
def Q9 (a b c d e l:Tr):Int:=FN a b d*FN b c e*FN a c e*dt3 l d - FN a b c*FN b d e*FN a d e*dt3 l c
theorem Qq (a b c d e l:Tr):dt3 (Gn a b c d e) c*dt3 l d - dt3 (Gn a b c d e) d*dt3 l c = - (FN c d e*Q9 a b c d e l):=by
 rw [aaH,abY];unfold Q9;grind
theorem ab9 {a b c d e l:Tr}(h:dt3 l e=0):FN e c (oX a b c d e l)=Q9 a b c d e l*dt3 l c:=by
 rw [Gk h,(bH e c).1,cO d e c,cO c d e,cO a e c,cN a c e];have r:=Wn a c d h;have g:=f4 a b c d e;have e1:dt3 l a*FN c d e=dt3 l c*FN a d e - dt3 l d*FN a c e:=by lia
 have e2:dt3 l a*(FN a b d*FN b c e*dt3 l d*0 - FN a b c*FN b d e*dt3 l c*FN c d e) = - (FN a b c*FN b d e*dt3 l c*(dt3 l a*FN c d e)):=by grind
 rw [e2,e1];unfold Q9;rw [<-g];grind
theorem acK {a b c d e l:Tr}(h:dt3 l e=0):FN e d (oX a b c d e l)=Q9 a b c d e l*dt3 l d:=by
 rw [Gk h,(bH e d).1,aav c d e,cO a e d,cN a d e];have r:=Wn a c d h;have g:=f2 a b c d e;have g4:=f4 a b c d e;have g1:=f1 a b c d e;have e1:dt3 l a*FN c d e=dt3 l c*FN a d e - dt3 l d*FN a c e:=by lia
 have e2:dt3 l a*(FN a b d*FN b c e*dt3 l d * -FN c d e - FN a b c*FN b d e*dt3 l c*0) = - (FN a b d*FN b c e*dt3 l d*(dt3 l a*FN c d e)):=by grind
 rw [e2,e1];unfold Q9;have e3:FN a b e*FN b c d=FN a b d*FN b c e - FN a b c*FN b d e:=by lia
 rw [e3];grind
theorem Qv {u v p q:Tr}(hu:Fq u p)(hv:Fq v q)(pp:Pl p)(pq:Pl q)(h:crs u v=(0,0,0)):p=q:=by
 by_cases e:p=q
 ·exact e
 ·obtain ⟨k,k0,rfl⟩:=hu;obtain ⟨j,j0,rfl⟩:=hv;rw [vd] at h;exact absurd ((cU<|M5 k0 j0).mp h)<|eN pp pq e
theorem GX {u v p q:Tr}(hu:Fq u p)(hv:Fq v q)(h:p=q):crs u v=(0,0,0):=by
 subst h;obtain ⟨k,k0,rfl⟩:=hu;obtain ⟨j,j0,rfl⟩:=hv;rw [vd,jT];simp [sc]
theorem qj (t l c d:Tr):dt3 (crs t l) (crs c d)=dt3 t c*dt3 l d - dt3 t d*dt3 l c:=by
 simp only [dt3,crs];grind
theorem zah (c d e:Tr):dt3 (crs (crs c d) (crs c e)) (crs d e)=FN c d e*FN c d e:=by
 simp only [FN,dt3,crs];grind
section
variable {a b c d e l:Tr}
theorem wM {x y:Tr}(pl:Pl l)(h:dt3 l e=0)(t:FN x y e≠0):¬ (dt3 l x=0/\dt3 l y=0):=fun z=>t (flat pl.ne z.1 z.2 h)
theorem Xp (F:Five a b c d e)(pl:Pl l)(h:dt3 l e=0):crs (oX a b c d e l) e=(0,0,0)↔Q9 a b c d e l=0:=by
 obtain ⟨tabc,tabd,tabe,tacd,tace,tade,tbcd,tbce,tbde,tcde⟩:=dg F;have d1:∀ y,dt3 (crs (oX a b c d e l) e) y=FN e y (oX a b c d e l):=fun y=>jN _ _ _
 constructor
 ·intro z;have zc:=ab9 (a:=a) (b:=b) (c:=c) (d:=d) h;have zd:=acK (a:=a) (b:=b) (c:=c) (d:=d) h;rw [<-d1,z] at zc zd;have z0:∀ y,dt3 ((0,0,0):Tr) y=0:=fun y=>by simp [dt3]
  rw [z0] at zc zd;by_cases m0:Q9 a b c d e l=0
  ·exact m0
  ·exact absurd ⟨(Gg.mp zc.symm).resolve_left m0,(Gg.mp zd.symm).resolve_left m0⟩<|wM pl h tcde
 ·intro m0;by_cases z:crs (oX a b c d e l) e=(0,0,0)
  ·exact z
  ·refine absurd (flat (p:=c) (q:=d) (r:=e) z ?_ ?_ ?_) tcde
   ·rw [d1,ab9 h,m0,QS]
   ·rw [d1,acK h,m0,QS]
   ·rw [d1,(bH e (oX a b c d e l)).2.1]
theorem ahm (F:Five a b c d e)(h:dt3 l e=0):crs (Gn a b c d e) l=(0,0,0)↔Q9 a b c d e l=0:=by
 obtain ⟨tabc,tabd,tabe,tacd,tace,tade,tbcd,tbce,tbde,tcde⟩:=dg F;have tcde:FN c d e≠0:=tcde;constructor
 ·intro z;have m:=Qq a b c d e l;rw [<-qj,z] at m;have z0:dt3 ((0,0,0):Tr) (crs c d)=0:=by simp [dt3]
  rw [z0] at m;have:FN c d e*Q9 a b c d e l=0:=by lia
  exact (Gg.mp this).resolve_left tcde
 ·intro m0;by_cases z:crs (Gn a b c d e) l=(0,0,0)
  ·exact z
  ·have f:=flat (p:=crs c d) (q:=crs c e) (r:=crs d e) z ?_ ?_ ?_
   ·rw [zah] at f;exact absurd f<|M5 tcde tcde
   ·rw [qj,Qq,m0];simp
   ·rw [qj,YJ,h];simp
   ·rw [qj,YJ,h];simp
end
structure G5 (ts:List Tr):Prop where
 pl:∀ t∈ts,Pl t
 nd:ts.Nodup
 four:∀ n:Tr,n≠(0,0,0)->∀ x∈ts,∃ y∈ts,y≠x/\dt3 n y≠0
theorem G5.perm {ts us:List Tr}(G:G5 ts)(h:ts.Perm us):G5 us:=
 ⟨fun t ht=>G.pl t (h.mem_iff.mpr ht),h.nodup_iff.mp G.nd,fun n hn x hx=>let ⟨y,hy,q⟩:=G.four n hn x (h.mem_iff.mpr hx);⟨y,h.mem_iff.mp hy,q⟩⟩
theorem G5.no {ts:List Tr}(G:G5 ts){p q r s t:Tr}(h:∀ y∈ts,y=p\/y=q\/y=r\/y=s\/y=t)(hp:p∈ts)(hq:q∈ts)(ht:t∈ts)(pq:p≠q):¬ (FN p q r=0/\FN p q s=0):=fun z=>by
 obtain ⟨y,hy,ne,d⟩:=G.four (crs p q) (eN (G.pl p hp) (G.pl q hq) pq) t ht;rcases h y hy with rfl | rfl | rfl | rfl | rfl
 ·exact d<|dW _ _
 ·exact d<|fH _ _
 ·exact d z.1
 ·exact d z.2
 ·exact ne rfl
structure Br (a b c d e:Tr):Prop where
 n1:¬ (FN a b c=0/\FN a b d=0)
 n2:¬ (FN a b c=0/\FN a b e=0)
 n3:¬ (FN a b d=0/\FN a b e=0)
 n4:¬ (FN a b c=0/\FN a c d=0)
 n5:¬ (FN a b c=0/\FN a c e=0)
 n6:¬ (FN a c d=0/\FN a c e=0)
 n7:¬ (FN a b d=0/\FN a c d=0)
 n8:¬ (FN a b d=0/\FN a d e=0)
 n9:¬ (FN a c d=0/\FN a d e=0)
 n10:¬ (FN a b e=0/\FN a c e=0)
 n11:¬ (FN a b e=0/\FN a d e=0)
 n12:¬ (FN a c e=0/\FN a d e=0)
 n13:¬ (FN a b c=0/\FN b c d=0)
 n14:¬ (FN a b c=0/\FN b c e=0)
 n15:¬ (FN b c d=0/\FN b c e=0)
 n16:¬ (FN a b d=0/\FN b c d=0)
 n17:¬ (FN a b d=0/\FN b d e=0)
 n18:¬ (FN b c d=0/\FN b d e=0)
 n19:¬ (FN a b e=0/\FN b c e=0)
 n20:¬ (FN a b e=0/\FN b d e=0)
 n21:¬ (FN b c e=0/\FN b d e=0)
 n22:¬ (FN a c d=0/\FN b c d=0)
 n23:¬ (FN a c d=0/\FN c d e=0)
 n24:¬ (FN b c d=0/\FN c d e=0)
 n25:¬ (FN a c e=0/\FN b c e=0)
 n26:¬ (FN a c e=0/\FN c d e=0)
 n27:¬ (FN b c e=0/\FN c d e=0)
 n28:¬ (FN a d e=0/\FN b d e=0)
 n29:¬ (FN a d e=0/\FN c d e=0)
 n30:¬ (FN b d e=0/\FN c d e=0)
theorem Br.of {a b c d e:Tr}(G:G5 [a,b,c,d,e]):Br a b c d e:=by
 have nd:=G.nd;simp only [N7,Fe,Fx,or_false,not_or,not_false_eq_true,SX,and_true] at nd;obtain ⟨⟨ab,ac,ad,ae⟩,⟨bc,bd,be⟩,⟨cd,ce⟩,de⟩:=nd;exact {
  n1:=fun z=>G.no (p:=a) (q:=b) (r:=c) (s:=d) (t:=e) (fun y hy=>by simp only [Fe,Fx,or_false] at hy;rcases hy with h | h | h | h | h <;> simp [h]) (by simp) (by simp) (by simp) ab ⟨z.1,z.2⟩
  n2:=fun z=>G.no (p:=a) (q:=b) (r:=c) (s:=e) (t:=d) (fun y hy=>by simp only [Fe,Fx,or_false] at hy;rcases hy with h | h | h | h | h <;> simp [h]) (by simp) (by simp) (by simp) ab ⟨z.1,z.2⟩
  n3:=fun z=>G.no (p:=a) (q:=b) (r:=d) (s:=e) (t:=c) (fun y hy=>by simp only [Fe,Fx,or_false] at hy;rcases hy with h | h | h | h | h <;> simp [h]) (by simp) (by simp) (by simp) ab ⟨z.1,z.2⟩
  n4:=fun z=>G.no (p:=a) (q:=c) (r:=b) (s:=d) (t:=e) (fun y hy=>by simp only [Fe,Fx,or_false] at hy;rcases hy with h | h | h | h | h <;> simp [h]) (by simp) (by simp) (by simp) ac ⟨(by rw [cN a b c,z.1];rfl),z.2⟩
  n5:=fun z=>G.no (p:=a) (q:=c) (r:=b) (s:=e) (t:=d) (fun y hy=>by simp only [Fe,Fx,or_false] at hy;rcases hy with h | h | h | h | h <;> simp [h]) (by simp) (by simp) (by simp) ac ⟨(by rw [cN a b c,z.1];rfl),z.2⟩
  n6:=fun z=>G.no (p:=a) (q:=c) (r:=d) (s:=e) (t:=b) (fun y hy=>by simp only [Fe,Fx,or_false] at hy;rcases hy with h | h | h | h | h <;> simp [h]) (by simp) (by simp) (by simp) ac ⟨z.1,z.2⟩
  n7:=fun z=>G.no (p:=a) (q:=d) (r:=b) (s:=c) (t:=e) (fun y hy=>by simp only [Fe,Fx,or_false] at hy;rcases hy with h | h | h | h | h <;> simp [h]) (by simp) (by simp) (by simp) ad ⟨(by rw [cN a b d,z.1];rfl),(by rw [cN a c d,z.2];rfl)⟩
  n8:=fun z=>G.no (p:=a) (q:=d) (r:=b) (s:=e) (t:=c) (fun y hy=>by simp only [Fe,Fx,or_false] at hy;rcases hy with h | h | h | h | h <;> simp [h]) (by simp) (by simp) (by simp) ad ⟨(by rw [cN a b d,z.1];rfl),z.2⟩
  n9:=fun z=>G.no (p:=a) (q:=d) (r:=c) (s:=e) (t:=b) (fun y hy=>by simp only [Fe,Fx,or_false] at hy;rcases hy with h | h | h | h | h <;> simp [h]) (by simp) (by simp) (by simp) ad ⟨(by rw [cN a c d,z.1];rfl),z.2⟩
  n10:=fun z=>G.no (p:=a) (q:=e) (r:=b) (s:=c) (t:=d) (fun y hy=>by simp only [Fe,Fx,or_false] at hy;rcases hy with h | h | h | h | h <;> simp [h]) (by simp) (by simp) (by simp) ae ⟨(by rw [cN a b e,z.1];rfl),(by rw [cN a c e,z.2];rfl)⟩
  n11:=fun z=>G.no (p:=a) (q:=e) (r:=b) (s:=d) (t:=c) (fun y hy=>by simp only [Fe,Fx,or_false] at hy;rcases hy with h | h | h | h | h <;> simp [h]) (by simp) (by simp) (by simp) ae ⟨(by rw [cN a b e,z.1];rfl),(by rw [cN a d e,z.2];rfl)⟩
  n12:=fun z=>G.no (p:=a) (q:=e) (r:=c) (s:=d) (t:=b) (fun y hy=>by simp only [Fe,Fx,or_false] at hy;rcases hy with h | h | h | h | h <;> simp [h]) (by simp) (by simp) (by simp) ae ⟨(by rw [cN a c e,z.1];rfl),(by rw [cN a d e,z.2];rfl)⟩
  n13:=fun z=>G.no (p:=b) (q:=c) (r:=a) (s:=d) (t:=e) (fun y hy=>by simp only [Fe,Fx,or_false] at hy;rcases hy with h | h | h | h | h <;> simp [h]) (by simp) (by simp) (by simp) bc ⟨(by rw [cO a b c];exact z.1),z.2⟩
  n14:=fun z=>G.no (p:=b) (q:=c) (r:=a) (s:=e) (t:=d) (fun y hy=>by simp only [Fe,Fx,or_false] at hy;rcases hy with h | h | h | h | h <;> simp [h]) (by simp) (by simp) (by simp) bc ⟨(by rw [cO a b c];exact z.1),z.2⟩
  n15:=fun z=>G.no (p:=b) (q:=c) (r:=d) (s:=e) (t:=a) (fun y hy=>by simp only [Fe,Fx,or_false] at hy;rcases hy with h | h | h | h | h <;> simp [h]) (by simp) (by simp) (by simp) bc ⟨z.1,z.2⟩
  n16:=fun z=>G.no (p:=b) (q:=d) (r:=a) (s:=c) (t:=e) (fun y hy=>by simp only [Fe,Fx,or_false] at hy;rcases hy with h | h | h | h | h <;> simp [h]) (by simp) (by simp) (by simp) bd ⟨(by rw [cO a b d];exact z.1),(by rw [cN b c d,z.2];rfl)⟩
  n17:=fun z=>G.no (p:=b) (q:=d) (r:=a) (s:=e) (t:=c) (fun y hy=>by simp only [Fe,Fx,or_false] at hy;rcases hy with h | h | h | h | h <;> simp [h]) (by simp) (by simp) (by simp) bd ⟨(by rw [cO a b d];exact z.1),z.2⟩
  n18:=fun z=>G.no (p:=b) (q:=d) (r:=c) (s:=e) (t:=a) (fun y hy=>by simp only [Fe,Fx,or_false] at hy;rcases hy with h | h | h | h | h <;> simp [h]) (by simp) (by simp) (by simp) bd ⟨(by rw [cN b c d,z.1];rfl),z.2⟩
  n19:=fun z=>G.no (p:=b) (q:=e) (r:=a) (s:=c) (t:=d) (fun y hy=>by simp only [Fe,Fx,or_false] at hy;rcases hy with h | h | h | h | h <;> simp [h]) (by simp) (by simp) (by simp) be ⟨(by rw [cO a b e];exact z.1),(by rw [cN b c e,z.2];rfl)⟩
  n20:=fun z=>G.no (p:=b) (q:=e) (r:=a) (s:=d) (t:=c) (fun y hy=>by simp only [Fe,Fx,or_false] at hy;rcases hy with h | h | h | h | h <;> simp [h]) (by simp) (by simp) (by simp) be ⟨(by rw [cO a b e];exact z.1),(by rw [cN b d e,z.2];rfl)⟩
  n21:=fun z=>G.no (p:=b) (q:=e) (r:=c) (s:=d) (t:=a) (fun y hy=>by simp only [Fe,Fx,or_false] at hy;rcases hy with h | h | h | h | h <;> simp [h]) (by simp) (by simp) (by simp) be ⟨(by rw [cN b c e,z.1];rfl),(by rw [cN b d e,z.2];rfl)⟩
  n22:=fun z=>G.no (p:=c) (q:=d) (r:=a) (s:=b) (t:=e) (fun y hy=>by simp only [Fe,Fx,or_false] at hy;rcases hy with h | h | h | h | h <;> simp [h]) (by simp) (by simp) (by simp) cd ⟨(by rw [cO a c d];exact z.1),(by rw [cO b c d];exact z.2)⟩
  n23:=fun z=>G.no (p:=c) (q:=d) (r:=a) (s:=e) (t:=b) (fun y hy=>by simp only [Fe,Fx,or_false] at hy;rcases hy with h | h | h | h | h <;> simp [h]) (by simp) (by simp) (by simp) cd ⟨(by rw [cO a c d];exact z.1),z.2⟩
  n24:=fun z=>G.no (p:=c) (q:=d) (r:=b) (s:=e) (t:=a) (fun y hy=>by simp only [Fe,Fx,or_false] at hy;rcases hy with h | h | h | h | h <;> simp [h]) (by simp) (by simp) (by simp) cd ⟨(by rw [cO b c d];exact z.1),z.2⟩
  n25:=fun z=>G.no (p:=c) (q:=e) (r:=a) (s:=b) (t:=d) (fun y hy=>by simp only [Fe,Fx,or_false] at hy;rcases hy with h | h | h | h | h <;> simp [h]) (by simp) (by simp) (by simp) ce ⟨(by rw [cO a c e];exact z.1),(by rw [cO b c e];exact z.2)⟩
  n26:=fun z=>G.no (p:=c) (q:=e) (r:=a) (s:=d) (t:=b) (fun y hy=>by simp only [Fe,Fx,or_false] at hy;rcases hy with h | h | h | h | h <;> simp [h]) (by simp) (by simp) (by simp) ce ⟨(by rw [cO a c e];exact z.1),(by rw [cN c d e,z.2];rfl)⟩
  n27:=fun z=>G.no (p:=c) (q:=e) (r:=b) (s:=d) (t:=a) (fun y hy=>by simp only [Fe,Fx,or_false] at hy;rcases hy with h | h | h | h | h <;> simp [h]) (by simp) (by simp) (by simp) ce ⟨(by rw [cO b c e];exact z.1),(by rw [cN c d e,z.2];rfl)⟩
  n28:=fun z=>G.no (p:=d) (q:=e) (r:=a) (s:=b) (t:=c) (fun y hy=>by simp only [Fe,Fx,or_false] at hy;rcases hy with h | h | h | h | h <;> simp [h]) (by simp) (by simp) (by simp) de ⟨(by rw [cO a d e];exact z.1),(by rw [cO b d e];exact z.2)⟩
  n29:=fun z=>G.no (p:=d) (q:=e) (r:=a) (s:=c) (t:=b) (fun y hy=>by simp only [Fe,Fx,or_false] at hy;rcases hy with h | h | h | h | h <;> simp [h]) (by simp) (by simp) (by simp) de ⟨(by rw [cO a d e];exact z.1),(by rw [cO c d e];exact z.2)⟩
  n30:=fun z=>G.no (p:=d) (q:=e) (r:=b) (s:=c) (t:=a) (fun y hy=>by simp only [Fe,Fx,or_false] at hy;rcases hy with h | h | h | h | h <;> simp [h]) (by simp) (by simp) (by simp) de ⟨(by rw [cO b d e];exact z.1),(by rw [cO c d e];exact z.2)⟩ }
section
variable {a b c d e:Tr}
theorem Al (a b c d e:Tr):∀ x∈[a,b,c,d,e],wth (g8 a b c d e) x=0:=by
 intro x hx;simp only [Fe,Fx,or_false] at hx;rw [Bd];rcases hx with rfl | rfl | rfl | rfl | rfl
 ·rw [(bH x c).2.2,(bH x b).2.2];simp
 ·rw [(bH x d).2.2,(bH a x).1];simp
 ·rw [(bH a x).1,(bH x d).2.2];simp
 ·rw [(bH b x).1,(bH c x).1];simp
 ·grind
theorem Mh (p q u v:Tr):FN p q (fZ 1 (-1) u v)=FN p q u+FN p q v:=by
 rw [brr];lia
theorem mV {x y:Int}(hx:x≠0)(hy:y≠0):x*y≠0:=M5 hx hy
theorem Y5 (B:Br a b c d e):NZ (J7 (g8 a b c d e)):=by
 have x1:wth (g8 a b c d e) (fZ 1 (-1) a b) = - (FN a b e*FN c d e*(FN a b c*FN a b d)):=by
  rw [Bd,Mh,Mh,Mh,Mh,(bH a c).2.2,(bH b d).2.2,(bH a b).2.2,(bH a b).1,cN a b c,cO a b d];grind
 have x2:wth (g8 a b c d e) (fZ 1 (-1) c d) = - (FN a b e*FN c d e*(FN a c d*FN b c d)):=by
  rw [Bd,Mh,Mh,Mh,Mh,(bH a c).1,(bH b d).1,(bH c d).2.2,(bH c d).1,cN b c d];grind
 have x3:wth (g8 a b c d e) (fZ 1 (-1) b d) = - (FN a c e*FN b d e*(FN a b d*FN b c d)):=by
  rw [Bd,Mh,Mh,Mh,Mh,(bH b d).2.2,(bH b d).1,(bH a b).1,(bH c d).1,cO b c d];grind
 have x4:wth (g8 a b c d e) (fZ 1 (-1) a c) = - (FN a c e*FN b d e*(FN a b c*FN a c d)):=by
  rw [Bd,Mh,Mh,Mh,Mh,(bH a c).2.2,(bH a c).1,(bH a b).2.2,(bH c d).2.2,cO a c d];grind
 have neg:∀ {i:Int},i≠0->-i≠0:=fun h z=>h (by lia)
 by_cases H:FN a b e*FN c d e=0
 ·have K:FN a c e*FN b d e≠0:=fun K=>by
   rcases Gg.mp H with h | h <;> rcases Gg.mp K with k | k
   ·exact B.n10 ⟨h,k⟩
   ·exact B.n20 ⟨h,k⟩
   ·exact B.n26 ⟨k,h⟩
   ·exact B.n30 ⟨k,h⟩
  by_cases z:FN a b d=0
  ·exact uJ (x:=fZ 1 (-1) a c) (by rw [x4];exact neg (mV K<|mV (fun y=>B.n1 ⟨y,z⟩) fun y=>B.n7 ⟨z,y⟩))
  ·by_cases z2:FN b c d=0
   ·exact uJ (x:=fZ 1 (-1) a c) (by rw [x4];exact neg (mV K<|mV (fun y=>B.n13 ⟨y,z2⟩) fun y=>B.n22 ⟨y,z2⟩))
   ·exact uJ (x:=fZ 1 (-1) b d) (by rw [x3];exact neg (mV K<|mV z z2))
 ·by_cases z:FN a b c=0
  ·exact uJ (x:=fZ 1 (-1) c d) (by rw [x2];exact neg (mV H<|mV (fun y=>B.n4 ⟨z,y⟩) fun y=>B.n13 ⟨z,y⟩))
  ·by_cases z2:FN a b d=0
   ·exact uJ (x:=fZ 1 (-1) c d) (by rw [x2];exact neg (mV H<|mV (fun y=>B.n7 ⟨z2,y⟩) fun y=>B.n16 ⟨z2,y⟩))
   ·exact uJ (x:=fZ 1 (-1) a b) (by rw [x1];exact neg (mV H<|mV z z2))
def pol (C:C6)(p q:Tr):Int:=dt3 (vm (bF C) p) q
def P3 (C:C6)(a b c:Tr):Tr:=(pol C a b,pol C a c,pol C b c)
def uu (a b c x:Tr):Tr:=(FN x b c*FN a x c,FN x b c*FN a b x,FN a x c*FN a b x)
theorem Xm (a b c x:Tr):(FN a b c*x.1,FN a b c*x.2.1,FN a b c*x.2.2)=(FN x b c*a.1+FN a x c*b.1+FN a b x*c.1,FN x b c*a.2.1+FN a x c*b.2.1+FN a b x*c.2.1,FN x b c*a.2.2+FN a x c*b.2.2+FN a b x*c.2.2):=by
 simp only [FN,crs,dt3];refine Hy ?_<|Hy ?_ ?_
 ·simp only;grind
 ·simp only;grind
 ·simp only;grind
theorem aeX (C:C6)(i j k:Int)(a b c:Tr):wth C (i*a.1+j*b.1+k*c.1,i*a.2.1+j*b.2.1+k*c.2.1,i*a.2.2+j*b.2.2+k*c.2.2)=i*i*wth C a+j*j*wth C b+k*k*wth C c+(i*j*pol C a b+i*k*pol C a c+j*k*pol C b c):=by
 simp only [wth,pol,dt3,vm,bF];grind
theorem afD (C:C6)(k:Int)(x:Tr):wth C (k*x.1,k*x.2.1,k*x.2.2)=k*k*wth C x:=by
 simp only [wth];grind
theorem abG {C:C6}(ha:wth C a=0)(hb:wth C b=0)(hc:wth C c=0)(x:Tr):FN a b c*FN a b c*wth C x=dt3 (uu a b c x) (P3 C a b c):=by
 rw [<-afD,Xm,aeX,ha,hb,hc];simp only [dt3,uu,P3];lia
theorem ada (a b c d e:Tr):crs (uu a b c d) (uu a b c e)=(FN a b d*FN a b e*(FN a b c*FN c d e),FN a c d*FN a c e*(FN a b c*FN b d e),FN b c d*FN b c e*(FN a b c*FN a d e)):=by
 have h2:=f2 a b c d e;have h3:=f3 a b c d e;have h4:=f4 a b c d e;have k3:FN a b c*FN c d e=FN a c d*FN b c e - FN a c e*FN b c d:=by lia
 have k4:FN a b c*FN b d e=FN a b d*FN b c e - FN a b e*FN b c d:=by lia
 have k2:FN a b c*FN a d e=FN a c e*FN a b d - FN a b e*FN a c d:=by
  have:FN a b c*FN a d e=FN a d e*FN a b c:=Og _ _
  lia
 rw [k2,k3,k4];simp only [uu,crs];rw [Xd b c d,Xd b c e,cN a c d,cN a c e];refine Hy ?_<|Hy ?_ ?_
 ·simp only;grind
 ·simp only;grind
 ·simp only;grind
theorem adl (B:Br a b c d e)(h:FN a b c≠0):crs (uu a b c d) (uu a b c e)≠(0,0,0):=by
 rw [ada];intro z;simp only [Mx] at z;obtain ⟨z1,z2,z3⟩:=z;have t1:FN a b d=0\/FN a b e=0\/FN c d e=0:=by
  rcases Gg.mp z1 with q | q
  ·exact (Gg.mp q).elim .inl fun q=>.inr<|.inl q
  ·exact .inr<|.inr<|(Gg.mp q).resolve_left h
 have t2:FN a c d=0\/FN a c e=0\/FN b d e=0:=by
  rcases Gg.mp z2 with q | q
  ·exact (Gg.mp q).elim .inl fun q=>.inr<|.inl q
  ·exact .inr<|.inr<|(Gg.mp q).resolve_left h
 have t3:FN b c d=0\/FN b c e=0\/FN a d e=0:=by
  rcases Gg.mp z3 with q | q
  ·exact (Gg.mp q).elim .inl fun q=>.inr<|.inl q
  ·exact .inr<|.inr<|(Gg.mp q).resolve_left h
 rcases t1 with q1 | q1 | q1
 ·rcases t2 with q2 | q2 | q2
  ·exact B.n7 ⟨q1,q2⟩
  ·rcases t3 with q3 | q3 | q3
   ·exact B.n16 ⟨q1,q3⟩
   ·exact B.n25 ⟨q2,q3⟩
   ·exact B.n8 ⟨q1,q3⟩
  ·exact B.n17 ⟨q1,q2⟩
 ·rcases t2 with q2 | q2 | q2
  ·rcases t3 with q3 | q3 | q3
   ·exact B.n22 ⟨q2,q3⟩
   ·exact B.n19 ⟨q1,q3⟩
   ·exact B.n11 ⟨q1,q3⟩
  ·exact B.n10 ⟨q1,q2⟩
  ·exact B.n20 ⟨q1,q2⟩
 ·rcases t2 with q2 | q2 | q2
  ·exact B.n23 ⟨q2,q1⟩
  ·exact B.n26 ⟨q2,q1⟩
  ·exact B.n30 ⟨q2,q1⟩
theorem aa3 (u v p:Tr):crs (crs u v) p=fZ (dt3 p u) (dt3 p v) v u:=cl2 u v p
theorem PB {n p q:Tr}(h0:n≠(0,0,0))(hp:crs n p=(0,0,0))(hq:crs n q=(0,0,0)):crs p q=(0,0,0):=by
 obtain ⟨n1,n2,n3⟩:=n;obtain ⟨p1,p2,p3⟩:=p;obtain ⟨q1,q2,q3⟩:=q;simp only [crs,Mx] at hp hq |-
 obtain ⟨a1,a2,a3⟩:=hp;obtain ⟨b1,b2,b3⟩:=hq;have key:∀ {k x:Int},k≠0->k*x=0->x=0:=fun h z=>(Gg.mp z).resolve_left h
 by_cases z1:n1=0
 ·by_cases z2:n2=0
  ·have z3:n3≠0:=fun z3=>h0 (by rw [z1,z2,z3])
   subst z1 z2;have c1:p1=0:=key z3 (by simpa using a2);have c2:p2=0:=key z3 (by lia);have c3:q1=0:=key z3 (by simpa using b2);have c4:q2=0:=key z3 (by lia);subst c1 c2 c3 c4;simp
  ·refine ⟨key z2 ?_,key z2 ?_,key z2 ?_⟩ <;> grind
 ·refine ⟨key z1 ?_,key z1 ?_,key z1 ?_⟩ <;> grind
theorem aaS (u v p q:Tr):dt3 u p*dt3 v q - dt3 v p*dt3 u q=dt3 (crs u v) (crs p q):=by
 simp only [dt3,crs];grind
theorem acP {C C':C6}(B:Br a b c d e)(h:FN a b c≠0)(hC:∀ x∈[a,b,c,d,e],wth C x=0)(hC':∀ x∈[a,b,c,d,e],wth C' x=0)(x y:Tr):wth C x*wth C' y=wth C y*wth C' x:=by
 have w:=abG (hC a (by simp)) (hC b (by simp)) (hC c (by simp));have w':=abG (hC' a (by simp)) (hC' b (by simp)) (hC' c (by simp));have ort:∀ {C:C6},(∀ x∈[a,b,c,d,e],wth C x=0)->crs (crs (uu a b c d) (uu a b c e)) (P3 C a b c)=(0,0,0):=fun {C} hC=>by
  have w:=abG (hC a (by simp)) (hC b (by simp)) (hC c (by simp));have wd:=w d;have we:=w e;rw [hC d (by simp),Ni] at wd;rw [hC e (by simp),Ni] at we;rw [aa3,aR,<-wd,aR,<-we];simp [fZ]
 have z:=PB (adl B h) (ort hC) (ort hC');have k:=aaS (uu a b c x) (uu a b c y) (P3 C a b c) (P3 C' a b c);have z0:dt3 (crs (uu a b c x) (uu a b c y)) ((0,0,0):Tr)=0:=by simp [dt3]
 rw [z,z0,<-w x,<-w' y,<-w y,<-w' x] at k;have hh:FN a b c*FN a b c*(FN a b c*FN a b c)≠0:=mV (mV h h) (mV h h);refine Int.eq_of_mul_eq_mul_left hh ?_;grind
theorem adP {C C':C6}(G:G5 [a,b,c,d,e])(hC:∀ x∈[a,b,c,d,e],wth C x=0)(hC':∀ x∈[a,b,c,d,e],wth C' x=0)(x y:Tr):wth C x*wth C' y=wth C y*wth C' x:=by
 have B:=Br.of G;by_cases h:FN a b c=0
 ·have p:[a,b,c,d,e].Perm [a,b,d,c,e]:=.cons _ (.cons _ (.swap _ _ _));exact acP (Br.of<|G.perm p) (fun z=>B.n1 ⟨h,z⟩) (fun x hx=>hC x<|p.mem_iff.mpr hx) (fun x hx=>hC' x<|p.mem_iff.mpr hx) x y
 ·exact acP B h hC hC' x y
theorem O6 {C C':C6}{s t:Int}(h:∀ x,s*wth C x=t*wth C' x):kC s C=kC t C':=by
 obtain ⟨c1,c2,c3,c4,c5,c6⟩:=C;obtain ⟨d1,d2,d3,d4,d5,d6⟩:=C';have h1:=h (1,0,0);have h2:=h (0,1,0);have h3:=h (0,0,1);have h4:=h (1,1,0);have h5:=h (1,0,1);have h6:=h (0,1,1);simp [wth] at h1 h2 h3 h4 h5 h6;simp only [kC,Mx];refine ⟨?_,?_,?_,?_,?_,?_⟩ <;> grind
theorem Xv {C:C6}(h:NZ (J7 C)):∃ x,wth C x≠0:=by
 apply Nm;intro n;have all:∀ x,wth C x=0:=fun x=>Nm fun z=>n ⟨x,z⟩
 have e:=O6 (C:=C) (C':=(0,0,0,0,0,0)) (s:=1) (t:=1) fun x=>by rw [all x];simp [wth]
 obtain ⟨c1,c2,c3,c4,c5,c6⟩:=C;simp only [kC,Mx] at e;obtain ⟨n,hn,hz⟩:=h;simp only [J7,Fe,Fx,or_false] at hn;lia
theorem QZ {ns:List Int}(h:Ky ns):NZ ns:=h.nz
theorem zaE {C C':C6}(G:G5 [a,b,c,d,e])(p:Ky (J7 C))(p':Ky (J7 C'))(hC:∀ x∈[a,b,c,d,e],wth C x=0)(hC':∀ x∈[a,b,c,d,e],wth C' x=0):C=C':=by
 obtain ⟨y,hy⟩:=Xv (QZ p);obtain ⟨y',hy'⟩:=Xv (QZ p');have k:=adP G hC hC';have hy2:wth C' y≠0:=fun z=>by
  have:=k y y'
  rw [z,Ni] at this;exact mV hy hy' this
 exact afr p p' hy2 hy (O6 fun x=>by have:=k x y;grind)
theorem acV (C:C6)(a b c:Tr)(ha:wth C a=0)(hb:wth C b=0)(hc:wth C c=0):FN a b c*(det (bF C)*FN a b c)=2*(pol C a b*pol C a c*pol C b c):=by
 have h1:=CJ (bF C) a b c;have h2:=CJ (a,b,c) (vm (bF C) a) (vm (bF C) b) (vm (bF C) c);rw [h1] at h2;have e0:∀ p,wth C p=0->dt3 p (vm (bF C) p)=0:=fun p hp=>by
  have:dt3 (vm (bF C) p) p=2*wth C p:=by
   simp only [dt3,vm,bF,wth];grind
  rw [aR,this,hp];rfl
 have v1:vm (a,b,c) (vm (bF C) a)=(0,pol C a b,pol C a c):=Lq (e0 a ha) (aR _ _) (aR _ _);have v2:vm (a,b,c) (vm (bF C) b)=(pol C a b,0,pol C b c):=Lq (by show dt3 a _=_;rw [aR,zT];rfl) (e0 b hb) (aR _ _);have v3:vm (a,b,c) (vm (bF C) c)=(pol C a c,pol C b c,0):=Lq (by show dt3 a _=_;rw [aR,zT];rfl) (by show dt3 b _=_;rw [aR,zT];rfl) (e0 c hc);rw [v1,v2,v3] at h2;have e1:det (a,b,c)=FN a b c:=rfl;have e2:dt3 (crs a b) c=FN a b c:=rfl;rw [e1,e2] at h2;rw [<-h2];simp only [dt3,crs];grind
theorem vq (a b c d e p q:Tr):pol (g8 a b c d e) p q=FN a b e*FN c d e*(FN a c p*FN b d q+FN a c q*FN b d p) - FN a c e*FN b d e*(FN a b p*FN c d q+FN a b q*FN c d p):=by
 have v1:wth (Gw a b c d) e=FN a b e*FN c d e:=fD _ _ _;have v2:wth (Gu a b c d) e=FN a c e*FN b d e:=fD _ _ _;unfold pol g8;rw [Ip,v1,v2];unfold Gw Gu;rw [qx,qx];rfl
theorem f5 (a b c d e:Tr):FN a b e*FN c d e - FN a c e*FN b d e = - (FN a d e*FN b c e):=by
 simp only [FN,crs,dt3];grind
theorem Kp (h:FN a b c≠0):det (bF (g8 a b c d e)) = -2*(FN a b c*(FN a b e*FN c d e)*(FN a c e*FN b d e)*(FN a b d*FN a c d*FN b c d)*(FN a d e*FN b c e)):=by
 have v:=Al a b c d e;have k:=acV (g8 a b c d e) a b c (v a (by simp)) (v b (by simp)) (v c (by simp));have p1:pol (g8 a b c d e) a b = - (FN a b e*FN c d e*(FN a b c*FN a b d)):=by
  rw [vq,(bH a c).2.2,(bH a b).2.2,(bH a b).1,cN a b c,cO a b d];grind
 have p2:pol (g8 a b c d e) a c = - (FN a c e*FN b d e*(FN a b c*FN a c d)):=by
  rw [vq,(bH a c).2.2,(bH a c).1,(bH a b).2.2,cO a c d];grind
 have p3:pol (g8 a b c d e) b c = - (FN a b c*FN b c d*(FN a d e*FN b c e)):=by
  rw [vq,(bH a c).1,(bH b d).2.2,(bH a b).1,(bH c d).2.2,cN a b c,cN b c d,cO b c d];have:=f5 a b c d e
  grind
 rw [p1,p2,p3] at k;refine Int.eq_of_mul_eq_mul_left (mV h h) ?_;grind
theorem afM (h:FN a b c=0)(h2:FN a b d≠0):det (bF (g8 a b c d e))=0:=by
 have v:=Al a b c d e;have k:=acV (g8 a b c d e) a b d (v a (by simp)) (v b (by simp)) (v d (by simp));have p1:pol (g8 a b c d e) a b=0:=by
  rw [vq,(bH a c).2.2,(bH a b).2.2,(bH a b).1,cN a b c,h];simp
 rw [p1] at k;have:FN a b d*FN a b d*det (bF (g8 a b c d e))=0:=by grind
 exact (Gg.mp this).resolve_left (mV h2 h2)
theorem wL (h1:FN a b c≠0)(h2:FN a b d≠0)(h3:FN a b e≠0)(h4:FN a c d≠0)(h5:FN a c e≠0)(h6:FN a d e≠0)(h7:FN b c d≠0)(h8:FN b c e≠0)(h9:FN b d e≠0)(h10:FN c d e≠0):Five a b c d e:=by
 rintro ⟨i,j,l,hi,hj,hl,z⟩;have hl:l<5:=hl;rcases (show l=2\/l=3\/l=4 by lia) with rfl | rfl | rfl
 ·rcases (show j=1 by lia) with rfl;rcases (show i=0 by lia) with rfl;exact h1 z
 ·rcases (show j=1\/j=2 by lia) with rfl | rfl
  ·rcases (show i=0 by lia) with rfl;exact h2 z
  ·rcases (show i=0\/i=1 by lia) with rfl | rfl
   ·exact h4 z
   ·exact h7 z
 ·rcases (show j=1\/j=2\/j=3 by lia) with rfl | rfl | rfl
  ·rcases (show i=0 by lia) with rfl;exact h3 z
  ·rcases (show i=0\/i=1 by lia) with rfl | rfl
   ·exact h5 z
   ·exact h8 z
  ·rcases (show i=0\/i=1\/i=2 by lia) with rfl | rfl | rfl
   ·exact h6 z
   ·exact h9 z
   ·exact h10 z
theorem xZ (G:G5 [a,b,c,d,e]){C:C6}{k:Int}(k0:k≠0)(e0:g8 a b c d e=kC k C):det (bF C)≠0↔Five a b c d e:=by
 have B:=Br.of G;have hd:det (bF (g8 a b c d e))≠0↔det (bF C)≠0:=by
  rw [e0,Xl];exact zH k0
 rw [<-hd];constructor
 ·intro n;have h:FN a b c≠0:=fun h=>n (afM h fun z=>B.n1 ⟨h,z⟩)
  rw [Kp h] at n;exact wL h (fun z=>n (by rw [z];simp)) (fun z=>n (by rw [z];simp)) (fun z=>n (by rw [z];simp)) (fun z=>n (by rw [z];simp)) (fun z=>n (by rw [z];simp)) (fun z=>n (by rw [z];simp)) (fun z=>n (by rw [z];simp)) (fun z=>n (by rw [z];simp))<|fun z=>n (by rw [z];simp)
 ·intro F;obtain ⟨tabc,tabd,tabe,tacd,tace,tade,tbcd,tbce,tbde,tcde⟩:=dg F;rw [Kp tabc];exact mV (by decide)<|mV (mV (mV (mV tabc<|mV tabe tcde)<|mV tace tbde)<|mV (mV tabd tacd) tbcd)<|mV tade tbce
end
theorem xX:∀ (l acc:List (List Int)),((l.foldl Lf acc).length=acc.length+l.length↔(∀ k∈l,k∉acc)/\l.Nodup)
 | [],acc=>by simp
 | k::r,acc=>by
  rw [S6];have le:=jO r (Lf acc k);by_cases hk:k∈acc
  ·have e:Lf acc k=acc:=by unfold Lf;rw [if_pos hk]
   rw [e] at le |-
   constructor
   ·intro h;rw [Lk] at h;lia
   ·rintro ⟨h,_⟩;exact absurd hk<|h k<|by simp
  ·have e:Lf acc k=acc++[k]:=by unfold Lf;rw [if_neg hk]
   have ih:=xX r (acc++[k]);rw [e];rw [Nt,List.length_singleton] at ih;rw [Lk,show acc.length+(r.length+1)=acc.length+1+r.length by lia,ih,N7];constructor
   ·rintro ⟨h1,h2⟩;refine ⟨fun x hx=>?_,fun hx=>?_,h2⟩
    ·rcases Fe.mp hx with rfl | hx
     ·exact hk
     ·exact fun z=>h1 x hx<|V3 _ z
    ·exact h1 k hx<|by simp
   ·rintro ⟨h1,h2,h3⟩;refine ⟨fun x hx z=>?_,h3⟩;rcases S8.mp z with z | z
    ·exact h1 x (MK _ hx) z
    ·rw [Nb.mp z] at hx;exact h2 hx
theorem Z5 {p q:Tr}:tl p=tl q↔p=q:=by
 obtain ⟨a,b,c⟩:=p;obtain ⟨d,e,f⟩:=q;simp [tl]
theorem HW:∀ ts:List Tr,yO (ts.map tw)=Dn (ts.map tl)
 | []=>rfl
 | t::ts=>by
  rw [Lj,tw,yO,HW ts];rfl
theorem Z1:∀ {ts:List Tr},(ts.map tl).Nodup↔ts.Nodup
 | []=>by simp
 | t::ts=>by
  rw [Lj,N7,N7,Z1];have:tl t∈ts.map tl↔t∈ts:=by
   rw [MF];constructor
   ·rintro ⟨u,hu,e⟩;rw [Z5] at e;rw [<-e];exact hu
   ·exact fun h=>⟨t,h,rfl⟩
  rw [this]
theorem afI (ts:List Tr):decide (((Nq (ts.map tl)).length:Int)<(ts.length:Int)) = !decide ts.Nodup:=by
 have le:=jO (ts.map tl) [];have iff:=xX (ts.map tl) [];rw [Z1] at iff;simp only [List.length_nil,T7,GJ] at le iff;unfold Nq;by_cases h:ts.Nodup
 ·have:=iff.mpr ⟨by simp,h⟩
  rw [decide_eq_true h,decide_eq_false (by lia)];rfl
 ·have:¬ (List.foldl Lf [] (ts.map tl)).length=ts.length:=fun e=>h (iff.mp e).2
  rw [decide_eq_false h,decide_eq_true (by lia)];rfl
theorem iQ.vl {h:Gh}{w:W}{ts:List Tr}(e:iQ h w ts):cG h w=Dn (ts.map tw):=by
 rcases e with rfl | ⟨n,rfl,ec⟩
 ·rfl
 ·exact ahw ec
theorem adV {ts:List Tr}{h:Gh}{w:W}{Q:WK}(e:iQ h w ts)(hl:ts.length<=5)(k:Q (.int ((Nq (ts.map tl)).length:Nat)) h):mF [w] h Q:=by
 show (match cG h w with
  | some us=>(match yO us with
   | some kss=>kss.length<=5/\Q (.int (Nq kss).length) h
   | none=>False)
  | none=>False)
 rw [e.vl];dsimp only;rw [HW];exact ⟨by rw [GJ];exact hl,k⟩
def Qu (c0:kI):Prop:=∀ {h:Gh} {w:W} {ts:List Tr} {Q:WK} {E:EY},iQ h w ts->ts.length<=5->Q (.bl (!decide ts.Nodup)) h->c0 [w] h Q E
theorem zbn:Qu lB:=by
 intro h w ts Q E e hl k;unfold lB;refine gD rfl (σ:=[Dn w]) rfl ?_;rfl'
 refine adV e hl ?_;rfl'
 refine Rn e ?_;rfl'
 rw [afI];exact k
noncomputable def HF (ts:List Tr):List Nat->Bool
 | [a,b,c,d]=>dH [gt ts a,gt ts b,gt ts c,gt ts d]
 | _=>false
noncomputable def zQ (ts:List Tr):Bool:=((Fp ts.length 4).map (HF ts)).any id
def acy (c0:kI):Prop:=∀ {h:Gh} {w:W} {us:List Tr} {m:Nat} {Q:WK} {E:EY},m<=4000->iQ h w us->us.length<=12->MP m us->Q (.bl (zQ us)) h->c0 [w,.int 4] h Q E
theorem XD {ol ri pi:kI}(hol:jt ol)(hri:Bb ri)(hpi:S7 pi):acy (cY ol ri pi):=by
 intro h w us m Q E hm e hl hs k;unfold cY;refine gD rfl (σ:=[Dn w,Dn<|.int 4]) rfl<|cu<|mK<|ak<|lA<|nG<|aG<|ak<|mK<|ak<|ao rfl<|aD<|Rn e ?_
 refine ak<|ao rfl<|aD<|hri (m:=us.length) (k:=4) hl (by decide)<|Gd rfl ?_
 refine jf.mk (by rw [GJ];exact Hj (nO _ hl 4<|by decide) (by decide)) ?_;refine jz (fun i acc h'=>h'=h/\acc=(((Fp us.length 4).take i).map (HF us)).map W.bl) ?_ ?_ ⟨rfl,rfl⟩
 ·rintro i w2 acc h' N hN e2 ⟨rfl,rfl⟩;rw [K8] at e2;cases qe:(Fp us.length 4)[i]? with
  | none=>rw [qe] at e2;cases e2
  | some l=>
   rw [qe] at e2;cases e2;have ml:=SM qe;have ll:=lV ml;have li:=wO ml;refine ⟨[ud l],rfl,?_⟩;have fin:∀ b:Bool,b=HF us l->N ((((Fp us.length 4).take i).map (HF us)).map W.bl++[W.bl b]) h':=fun b hb=>hN _ _ ⟨rfl,by rw [M4,qe,hb];simp⟩
   match l,ll with
   | [a,b,c,d],_=>
    refine bI<|bM<|aG<|ak<|aG<|ak<|ao rfl<|ak<|ao rfl<|aD<|hpi e li (by simp) ?_
    refine aD<|hol (ts:=[gt us a,gt us b,gt us c,gt us d]) (M:=m) (.inl rfl) (by simp) hm ?_<|fin _ rfl
    intro t ht;simp only [Fe,Fx,or_false] at ht;rcases ht with rfl | rfl | rfl | rfl
    ·exact hs _<|lY<|li a<|by simp
    ·exact hs _<|lY<|li b<|by simp
    ·exact hs _<|lY<|li c<|by simp
    ·exact hs _<|lY<|li d<|by simp
 ·rintro acc h' ⟨rfl,rfl⟩;rw [GJ,NQ];refine aD<|Jv ?_
  exact uc k
theorem Zq:Fp 5 4=[[0,1,2,3],[0,1,2,4],[0,1,3,4],[0,2,3,4],[1,2,3,4]]:=by decide +kernel
theorem Yk (a b c d e:Tr):zQ [a,b,c,d,e]=(dH [a,b,c,d]||(dH [a,b,c,e]||(dH [a,b,d,e]||(dH [a,c,d,e]||dH [b,c,d,e])))):=by
 unfold zQ;rw [show ([a,b,c,d,e]:List Tr).length=5 from rfl,Zq];simp [HF,gt]
theorem yG {n:Tr}{ts:List Tr}(hn:n≠(0,0,0))(h:∀ t∈ts,dt3 n t=0):AllP ts:=fun p hp q hq r hr=>flat hn (h q hq) (h r hr) (h p hp)
theorem pG {n:Tr}{ts:List Tr}(hn:n≠(0,0,0))(h:dH ts=false):∃ y∈ts,dt3 n y≠0:=by
 apply Nm;intro q;rw [nR (yG hn fun t ht=>Nm fun z=>q ⟨t,ht,z⟩)] at h;cases h
theorem NP {a b c d e:Tr}(pl:∀ t∈[a,b,c,d,e],Pl t)(nd:[a,b,c,d,e].Nodup)(h:zQ [a,b,c,d,e]=false):G5 [a,b,c,d,e]:=by
 refine ⟨pl,nd,fun n hn x hx=>?_⟩;rw [Yk] at h;simp only [Bool.or_eq_false_iff] at h;obtain ⟨h1,h2,h3,h4,h5⟩:=h;simp only [N7,Fe,Fx,or_false,not_or,not_false_eq_true,SX,and_true] at nd;obtain ⟨⟨ab,ac,ad,ae⟩,⟨bc,bd,be⟩,⟨cd,ce⟩,de⟩:=nd;simp only [Fe,Fx,or_false] at hx;rcases hx with rfl | rfl | rfl | rfl | rfl
 ·obtain ⟨y,hy,d0⟩:=pG hn h5;simp only [Fe,Fx,or_false] at hy;rcases hy with rfl | rfl | rfl | rfl
  ·exact ⟨y,by simp,Jj ab,d0⟩
  ·exact ⟨y,by simp,Jj ac,d0⟩
  ·exact ⟨y,by simp,Jj ad,d0⟩
  ·exact ⟨y,by simp,Jj ae,d0⟩
 ·obtain ⟨y,hy,d0⟩:=pG hn h4;simp only [Fe,Fx,or_false] at hy;rcases hy with rfl | rfl | rfl | rfl
  ·exact ⟨y,by simp,ab,d0⟩
  ·exact ⟨y,by simp,Jj bc,d0⟩
  ·exact ⟨y,by simp,Jj bd,d0⟩
  ·exact ⟨y,by simp,Jj be,d0⟩
 ·obtain ⟨y,hy,d0⟩:=pG hn h3;simp only [Fe,Fx,or_false] at hy;rcases hy with rfl | rfl | rfl | rfl
  ·exact ⟨y,by simp,ac,d0⟩
  ·exact ⟨y,by simp,bc,d0⟩
  ·exact ⟨y,by simp,Jj cd,d0⟩
  ·exact ⟨y,by simp,Jj ce,d0⟩
 ·obtain ⟨y,hy,d0⟩:=pG hn h2;simp only [Fe,Fx,or_false] at hy;rcases hy with rfl | rfl | rfl | rfl
  ·exact ⟨y,by simp,ad,d0⟩
  ·exact ⟨y,by simp,bd,d0⟩
  ·exact ⟨y,by simp,cd,d0⟩
  ·exact ⟨y,by simp,Jj de,d0⟩
 ·obtain ⟨y,hy,d0⟩:=pG hn h1;simp only [Fe,Fx,or_false] at hy;rcases hy with rfl | rfl | rfl | rfl
  ·exact ⟨y,by simp,ae,d0⟩
  ·exact ⟨y,by simp,be,d0⟩
  ·exact ⟨y,by simp,ce,d0⟩
  ·exact ⟨y,by simp,de,d0⟩
theorem pW {p q r s:Tr}(hp:Pl p)(hq:Pl q)(pq:p≠q):dH [p,q,r,s]=true↔FN p q r=0/\FN p q s=0/\FN p r s=0/\FN q r s=0:=by
 constructor
 ·intro h;have all:AllP [p,q,r,s]:=Nm fun z=>by rw [Bg z] at h;cases h
  refine ⟨all r (by simp) p (by simp) q<|by simp,all s (by simp) p (by simp) q<|by simp,all s (by simp) p (by simp) r<|by simp,all s (by simp) q (by simp) r<|by simp⟩
 ·rintro ⟨h1,h2,_,_⟩;refine nR<|yG (eN hp hq pq) fun t ht=>?_
  simp only [Fe,Fx,or_false] at ht;rcases ht with rfl | rfl | rfl | rfl
  ·exact dW _ _
  ·exact fH _ _
  ·exact h1
  ·exact h2
def V5 (c0:kI):Prop:=∀ {h:Gh} {p q:Tr} {m:Nat} {Q:WK} {E:EY},m<=4000->Bw m p->Bw m q->Q (J6 (ur p q)) h->c0 [tw p,tw q] h Q E
theorem abV:V5 oA:=by
 intro h p q m Q E hm sp sq k;obtain ⟨p1,p2,p3⟩:=p;obtain ⟨q1,q2,q3⟩:=q;obtain ⟨a1,a2,a3⟩:=sp;obtain ⟨b1,b2,b3⟩:=sq;simp only at a1 a2 a3 b1 b2 b3;unfold oA;rfl'
 exact k
def Yz (m:Nat):Nat:=10*m+15
theorem agR {a b c d e:Tr}{m:Nat}(sa:Bw m a)(sb:Bw m b)(sc:Bw m c)(sd:Bw m d)(se:Bw m e):Ht (Yz m) (g8 a b c d e):=by
 have so6:Ht (4*m+3) (Gw a b c d):=Ht.mono (wH (cj sa sb) (cj sc sd)) (by lia);have st6:Ht (4*m+3) (Gu a b c d):=Ht.mono (wH (cj sa sc) (cj sb sd)) (by lia);have hh:Sm (6*m+8) (wth (Gw a b c d) e):=(Ks so6 se).mono (by lia);have ht:Sm (6*m+8) (wth (Gu a b c d) e):=(Ks st6 se).mono (by lia);unfold g8 Yz;exact ⟨((hh.mul st6.1).sub (ht.mul so6.1)).mono (by lia),((hh.mul st6.2.1).sub (ht.mul so6.2.1)).mono (by lia),((hh.mul st6.2.2.1).sub (ht.mul so6.2.2.1)).mono (by lia),((hh.mul st6.2.2.2.1).sub (ht.mul so6.2.2.2.1)).mono (by lia),((hh.mul st6.2.2.2.2.1).sub (ht.mul so6.2.2.2.2.1)).mono (by lia),((hh.mul st6.2.2.2.2.2).sub (ht.mul so6.2.2.2.2.2)).mono (by lia)⟩
def c6L (c:C6):W:=.lst [.int c.1,.int c.2.1,.int c.2.2.1,.int c.2.2.2.1,.int c.2.2.2.2.1,.int c.2.2.2.2.2]
def acG (c0:kI):Prop:=∀ {h:Gh} {w:W} {a b c d e:Tr} {m:Nat} {Q:WK} {E:EY},iQ h w [a,b,c,d,e]->m<=300->Bw m a->Bw m b->Bw m c->Bw m d->Bw m e->Q (c6L (g8 a b c d e)) h->c0 [w] h Q E
theorem zbD {dt cr to:kI}(hdt:qW dt)(hcr:tL cr)(hto:V5 to):acG (zW dt cr to):=by
 intro h w a b c d e m Q E src hm sa sb sc sd se k;have at0:∀ {Q:WK},Q (tw a) h->Aw w (.int 0) h Q:=fun {Q} k=>src.at (i:=0) (by simp) k
 have at1:∀ {Q:WK},Q (tw b) h->Aw w (.int 1) h Q:=fun {Q} k=>src.at (i:=1) (by simp) k
 have at2:∀ {Q:WK},Q (tw c) h->Aw w (.int 2) h Q:=fun {Q} k=>src.at (i:=2) (by simp) k
 have at3:∀ {Q:WK},Q (tw d) h->Aw w (.int 3) h Q:=fun {Q} k=>src.at (i:=3) (by simp) k
 have at4:∀ {Q:WK},Q (tw e) h->Aw w (.int 4) h Q:=fun {Q} k=>src.at (i:=4) (by simp) k
 have s1:=cj sa sb;have s2:=cj sc sd;have s3:=cj sa sc;have s4:=cj sb sd;have d1:=iM s1 se;have d2:=iM s2 se;have d3:=iM s3 se;have d4:=iM s4 se;have so6:Ht (4*m+3) (Gw a b c d):=Ht.mono (wH s1 s2) (by lia);have st6:Ht (4*m+3) (Gu a b c d):=Ht.mono (wH s3 s4) (by lia);have v1:wth (Gw a b c d) e=dt3 (crs a b) e*dt3 (crs c d) e:=fD _ _ _;have v2:wth (Gu a b c d) e=dt3 (crs a c) e*dt3 (crs b d) e:=fD _ _ _;unfold g8 at k;rw [v1,v2] at k;unfold zW;refine gD rfl (σ:=[Dn w,FX,FX,FX,FX,FX,FX]) rfl ?_;rfl'
 refine at0 ?_;rfl'
 refine at1 ?_;rfl'
 refine hcr (m:=m) (by lia) sa sb ?_;rfl'
 refine at2 ?_;rfl'
 refine at3 ?_;rfl'
 refine hcr (m:=m) (by lia) sc sd ?_;rfl'
 refine at0 ?_;rfl'
 refine at2 ?_;rfl'
 refine hcr (m:=m) (by lia) sa sc ?_;rfl'
 refine at1 ?_;rfl'
 refine at3 ?_;rfl'
 refine hcr (m:=m) (by lia) sb sd ?_;rfl'
 refine at4 ?_;rfl'
 refine hdt (m:=m+m+1) (by lia) s1 (se.mono<|by lia) ?_;rfl'
 refine at4 ?_;rfl'
 refine hdt (m:=m+m+1) (by lia) s2 (se.mono<|by lia) ?_;rfl'
 refine at4 ?_;rfl'
 refine hdt (m:=m+m+1) (by lia) s3 (se.mono<|by lia) ?_;rfl'
 refine at4 ?_;rfl'
 refine hdt (m:=m+m+1) (by lia) s4 (se.mono<|by lia) ?_;have hh:Sm (8*m+10) (dt3 (crs a b) e*dt3 (crs c d) e):=(d1.mul d2).mono (by lia);have ht:Sm (8*m+10) (dt3 (crs a c) e*dt3 (crs b d) e):=(d3.mul d4).mono (by lia);rfl'
 refine hto (m:=m+m+1) (by lia) s3 s4 ?_;rfl'
 refine hto (m:=m+m+1) (by lia) s1 s2 ?_;generalize dt3 (crs a b) e*dt3 (crs c d) e=hr at hh k;generalize dt3 (crs a c) e*dt3 (crs b d) e=th at ht k;unfold Gw at k so6;unfold Gu at k st6;generalize ur (crs a b) (crs c d)=o at so6 k;generalize ur (crs a c) (crs b d)=t at st6 k;obtain ⟨o1,o2,o3,o4,o5,o6⟩:=o;obtain ⟨t1,t2,t3,t4,t5,t6⟩:=t;obtain ⟨so1,so2,so3,so4,so5,so6⟩:=so6;obtain ⟨st1,st2,st3,st4,st5,st6⟩:=st6;simp only at so1 so2 so3 so4 so5 so6 st1 st2 st3 st4 st5 st6;rfl'
 exact k
def Ry (c0:kI):Prop:=∀ {h:Gh} {w:W} {a b c d e:Tr} {m:Nat} {Q:WK} {E:EY},iQ h w [a,b,c,d,e]->m<=300->MP m [a,b,c,d,e]->(G5 [a,b,c,d,e]->∀ (C:C6) (k:Int),k≠0->g8 a b c d e=kC k C->Ky (J7 C)->Ht (Yz m) C->Q (J6 C) h)->(¬ [a,b,c,d,e].Nodup->E ⟨"Alike",[]⟩ h)->([a,b,c,d,e].Nodup->zQ [a,b,c,d,e]=true->E ⟨"FourOnLine",[]⟩ h)->c0 [w] h Q E
theorem zaJ {pl al ho mi:kI}(hpl:qd pl)(hal:Qu al)(hho:acy ho)(hmi:acG mi):Ry (rM pl al ho mi):=by
 intro h w a b c d e m Q E src hm hs k k1 k2;unfold rM;refine gD rfl (σ:=[Dn w]) rfl ?_;rfl'
 refine hal src (by simp) ?_;by_cases nd:[a,b,c,d,e].Nodup
 ·rw [decide_eq_true nd];rfl'
  unfold tW;rfl'
  refine hho (m:=m) (by lia) src (by simp) hs ?_;by_cases f:zQ [a,b,c,d,e]=true
  ·rw [f];rfl'
   exact k2 nd f
  ·have f:zQ [a,b,c,d,e]=false:=by simpa using f
   have G:=NP (fun t ht=>(hs t ht).1) nd f;rw [f];rfl'
   unfold rT;rfl'
   refine hmi src hm (hs a<|by simp).2 (hs b<|by simp).2 (hs c<|by simp).2 (hs d<|by simp).2 (hs e<|by simp).2 ?_;rfl'
   refine hpl.c6p (c:=g8 a b c d e) (m:=Yz m) (.inl rfl) (Y5<|Br.of G) (agR (hs a<|by simp).2 (hs b<|by simp).2 (hs c<|by simp).2 (hs d<|by simp).2 (hs e<|by simp).2) (by unfold Yz;lia) fun C j j0 eC pC sC=>?_;exact k G C j j0 eC pC sC
 ·rw [decide_eq_false nd];rfl'
  exact k1 nd
def pom (c:C6)(p q:Tr):Int:=dt3 p (vm (bF c) q)
def Ho (x:Int)(p:Tr)(y:Int)(q:Tr):Tr:=(x*p.1+y*q.1,x*p.2.1+y*q.2.1,x*p.2.2+y*q.2.2)
theorem qF (c:C6)(p q:Tr)(x y:Int):wth c (Ho x p y q)=x*x*wth c p+y*y*wth c q+x*y*pom c p q:=by
 obtain ⟨c1,c2,c3,c4,c5,c6⟩:=c;obtain ⟨p1,p2,p3⟩:=p;obtain ⟨q1,q2,q3⟩:=q;simp only [wth,pom,dt3,vm,bF,Ho];grind
theorem afY (c:C6)(p q:Tr)(x y:Int):pom c p (Ho x p y q)=x*(2*wth c p)+y*pom c p q:=by
 obtain ⟨c1,c2,c3,c4,c5,c6⟩:=c;obtain ⟨p1,p2,p3⟩:=p;obtain ⟨q1,q2,q3⟩:=q;simp only [wth,pom,dt3,vm,bF,Ho];grind
theorem oF (c:C6)(k:Int)(p:Tr):wth c (sc k p)=k*k*wth c p:=by
 simp only [wth,sc];grind
theorem Dm (c:C6)(k:Int)(p q:Tr):pom c p (sc k q)=k*pom c p q:=by
 simp only [pom,dt3,vm,bF,sc];grind
theorem lZ (c:C6)(p:Tr):pom c p p=2*wth c p:=by
 simp only [pom,dt3,vm,bF,wth];grind
theorem JL (l p q:Tr)(x y:Int):dt3 l (Ho x p y q)=x*dt3 l p+y*dt3 l q:=by
 simp only [dt3,Ho];grind
theorem J4 (p q:Tr)(x y z w:Int):crs (Ho x p y q) (Ho z p w q)=sc (x*w - y*z) (crs p q):=by
 simp only [crs,Ho,sc];refine Hy ?_ (Hy ?_ ?_) <;> simp only <;> grind
theorem ZJ {t:Tr}(h:t≠(0,0,0)):dt3 t t≠0:=by
 obtain ⟨a,b,c⟩:=t;intro e;simp only [dt3] at e;have n:∀ x:Int,0<=x*x:=fun x=>by
  rcases Int.le_total 0 x with q | q
  ·exact Int.mul_nonneg q q
  ·have:=Int.mul_nonneg (show 0<=-x by lia) (show 0<=-x by lia)
   rwa [Int.neg_mul_neg] at this
 have ea:=n a;have eb:=n b;have ec:=n c;have z:∀ x:Int,x*x=0->x=0:=fun x h=>(Gg.mp h).elim id id
 exact h<|by rw [z a<|by lia,z b<|by lia,z c<|by lia]
theorem span {l p b x:Tr}(l0:l≠(0,0,0))(hp:Pl p)(hb:Pl b)(ne:b≠p)(lp:dt3 l p=0)(lb:dt3 l b=0)(lx:dt3 l x=0):∃ k s t:Int,k≠0/\sc k x=Ho s p t b:=by
 have n0:crs p b≠(0,0,0):=eN hp hb fun e=>ne e.symm
 have d0:dt3 (crs p b) x=0:=flat l0 lp lb lx;refine ⟨dt3 (crs p b)<|crs p b,dt3 (crs x b)<|crs p b,dt3 (crs p x)<|crs p b,ZJ n0,?_⟩;obtain ⟨p1,p2,p3⟩:=p;obtain ⟨b1,b2,b3⟩:=b;obtain ⟨x1,x2,x3⟩:=x;simp only [dt3,crs] at d0;simp only [sc,Ho,dt3,crs];refine Hy ?_ (Hy ?_ ?_) <;> simp only <;> grind
theorem QG {p b x:Tr}{k s t:Int}(hp:Pl p)(hx:Pl x)(k0:k≠0)(e:sc k x=Ho s p t b)(ne:x≠p):t≠0:=by
 rintro rfl;have e':sc k x=sc s p:=by
  rw [e];simp only [Ho,sc];refine Hy ?_ (Hy ?_ ?_) <;> simp only <;> grind
 have s0:s≠0:=by
  rintro rfl;refine hx.ne<|(cU k0).mp ?_
  rw [e'];simp [sc]
 exact ne<|rm (u:=sc k x) hx hp ⟨k,k0,rfl⟩ ⟨s,s0,e'⟩
def InC (c:C6)(l:Tr):Prop:=∀ x,dt3 l x=0->wth c x=0
def Pq (c:C6)(p l u:Tr):Prop:=Pl u/\dt3 l u=0/\wth c u=0/\(∀ x,Pl x->dt3 l x=0->wth c x=0->x=p\/x=u)/\∀ x,Pl x->dt3 l x=0->x≠p->(u=p↔pom c p x=0)
theorem mz {a b:Int}(h:a*b=0)(h0:a≠0):b=0:=(Gg.mp h).resolve_left h0
theorem YS {c:C6}{l p b:Tr}(l0:l≠(0,0,0))(hp:Pl p)(hb:Pl b)(ne:b≠p)(lp:dt3 l p=0)(lb:dt3 l b=0)(wp:wth c p=0)(wb:wth c b=0)(g:pom c p b=0):InC c l:=by
 intro x lx;obtain ⟨k,s,t,k0,e⟩:=span l0 hp hb ne lp lb lx;have w:=oF c k x;rw [e,qF,wp,wb,g] at w;refine mz (a:=k*k) ?_<|M5 k0 k0
 rw [<-w];simp
theorem U3 {c:C6}{l p b:Tr}(lp:dt3 l p=0)(lb:dt3 l b=0)(i:InC c l):pom c p b=0:=by
 have e:=qF c p b 1 1;rw [i _ lp,i _ lb,i (Ho 1 p 1 b) (by rw [JL,lp,lb];rfl)] at e;lia
theorem Yn {c:C6}{l p b:Tr}(lp:dt3 l p=0)(lb:dt3 l b=0)(i:InC c l):Ho (pom c b b) p (-(2*pom c p b)) b=(0,0,0):=by
 rw [U3 lp lb i,U3 lb lb i];simp [Ho]
theorem agn {c:C6}{l p b u:Tr}(l0:l≠(0,0,0))(hp:Pl p)(hb:Pl b)(ne:b≠p)(lp:dt3 l p=0)(lb:dt3 l b=0)(wp:wth c p=0)(hu:Pl u)(par:Fq (Ho (pom c b b) p (-(2*pom c p b)) b) u):Pq c p l u:=by
 have c0:crs p b≠(0,0,0):=eN hp hb fun e=>ne e.symm
 have lu:dt3 l u=0:=by
  rw [<-zZ par,JL,lp,lb];simp
 obtain ⟨j,j0,e⟩:=par;rw [lZ] at e;have cE:∀ s t:Int,crs (Ho s p t b) u=(0,0,0)↔s*pom c p b+t*wth c b=0:=by
  intro s t;have q:crs (Ho s p t b) (sc j u)=sc (-2*(s*pom c p b+t*wth c b)) (crs p b):=by
   rw [<-e,J4];congr 1
   grind
  have q1:crs (Ho s p t b) (sc j u)=sc j (crs (Ho s p t b) u):=by
   have:=vd 1 j (Ho s p t b) u
   simp only [Int.one_mul] at this;rw [<-this];congr 1
   simp [sc]
  rw [q1] at q;constructor
  ·intro z;rw [z] at q;have:-2*(s*pom c p b+t*wth c b)=0:=Nm fun n=>c0 ((cU n).mp (by rw [<-q];simp [sc]))
   lia
  ·intro z;refine (cU j0).mp ?_;rw [q,z];simp [sc]
 have onlyx:∀ x,Pl x->dt3 l x=0->wth c x=0->x=p\/x=u:=by
  intro x px lx wx;obtain ⟨k,s,t,k0,ex⟩:=span l0 hp hb ne lp lb lx;by_cases xp:x=p
  ·exact .inl xp
  ·have t0:=QG hp px k0 ex xp;have w:=oF c k x;rw [ex,qF,wp,wx] at w;have z:s*pom c p b+t*wth c b=0:=mz (a:=t) (by grind) t0;have:=(cE s t).mpr z
   rw [<-ex] at this;refine .inr<|vC px hu<|(cU k0).mp ?_
   have q:=vd k 1 x u;have u1:sc 1 u=u:=by simp [sc]
   rw [u1,this,Int.mul_one] at q;exact q.symm
 have up:u=p↔pom c p b=0:=by
  constructor
  ·rintro rfl;have:crs (Ho 1 u 0 b) u=(0,0,0):=by
    have:Ho 1 u 0 b=u:=by simp [Ho]
    rw [this,jT]
   have:=(cE 1 0).mp this
   lia
  ·intro g;refine (vC hp hu ?_).symm;have:Ho 1 p 0 b=p:=by simp [Ho]
   rw [<-this];exact (cE 1 0).mpr (by lia)
 refine ⟨hu,lu,?_,onlyx,?_⟩
 ·have w:=oF c j u;rw [<-e,qF,wp] at w;refine mz (a:=j*j) ?_<|M5 j0 j0
  rw [<-w];grind
 ·intro x px lx xp;obtain ⟨k,s,t,k0,ex⟩:=span l0 hp hb ne lp lb lx;have t0:=QG hp px k0 ex xp;have w:=Dm c k p x;rw [ex,afY,wp] at w;rw [up];constructor
  ·intro g;rw [g] at w;exact mz (a:=k) (by lia) k0
  ·intro g;rw [g] at w;exact mz (a:=t) (by lia) t0
theorem afl {c:C6}{l p b u v:Tr}(hb:Pl b)(lb:dt3 l b=0)(ne:b≠p)(h1:Pq c p l u)(h2:Pq c p l v):u=v:=by
 obtain ⟨a1,a2,a3,a4,a5⟩:=h1;obtain ⟨b1,b2,b3,b4,b5⟩:=h2;rcases a4 v b1 b2 b3 with e | e
 ·exact ((a5 b hb lb ne).mpr ((b5 b hb lb ne).mp e)).trans e.symm
 ·exact e.symm
def Wh (c0:kI):Prop:=∀ {h:Gh} {Q:WK} {E:EY},Q (.lst (([(1,0,0),(0,1,0),(0,0,1),(1,1,1)]:List Tr).map tw)) h->c0 [] h Q E
theorem zbE:Wh Ah:=by
 intro h Q E k;unfold Ah;rfl'
 exact k
def Ze (c0:kI):Prop:=∀ {h:Gh} {l p:Tr} {m:Nat} {Q:WK} {E:EY},1<=m->m<=2000->Bw m l->Pl l->Pl p->(∀ b,Pl b->dt3 l b=0->b≠p->Bw (m+m+1) b->Q (tw b) h)->c0 [tw l,tw p] h Q E
theorem aaR {me ti:kI}(hme:JoinOk me)(hti:Wh ti):Ze (fW me ti):=by
 intro h l p m Q E h1 hm hl pl pp k;have s1:Sm m 1:=.mono (m:=1) (by unfold Sm;decide) h1;have s0:Sm m 0:=.mono (m:=1) (by unfold Sm;decide) h1;have se:∀ e∈([(1,0,0),(0,1,0),(0,0,1)]:List Tr),Bw m e/\Pl e:=by
  intro e he;simp only [Fe,Fx,or_false] at he;rcases he with rfl | rfl | rfl
  ·exact ⟨⟨s1,s0,s0⟩,by unfold Pl Ky;decide +kernel⟩
  ·exact ⟨⟨s0,s1,s0⟩,by unfold Pl Ky;decide +kernel⟩
  ·exact ⟨⟨s0,s0,s1⟩,by unfold Pl Ky;decide +kernel⟩
 unfold fW;rfl'
 refine hti ?_;rfl'
 refine gn ?_;rfl'
 refine sW (us:=([(1,0,0),(0,1,0),(0,0,1)]:List Tr).map tw) rfl ?_;refine Gd rfl<|lD rfl ?_
 refine jz (fun i acc h'=>h'=h/\∃ ts:List Tr,acc=ts.map tw/\ts.length<=i/\(∀ t∈ts,Pl t/\dt3 l t=0/\Bw (m+m+1) t)/\∀ j,j<i->∀ e,([(1,0,0),(0,1,0),(0,0,1)]:List Tr)[j]?=Dn e->(crs l e=(0,0,0)\/∃ t∈ts,Fq (crs l e) t)) ?_ ?_ ⟨rfl,[],rfl,Ge _,fun t ht=>absurd ht<|by simp,fun j hj=>absurd hj<|by lia⟩
 ·rintro i w acc h' N hN ew ⟨rfl,ts,rfl,hlen,good,old⟩;obtain ⟨e,ee,rfl⟩:=Dg ew;obtain ⟨hse,ple⟩:=se e (SM ee);refine ⟨[tw e],rfl,?_⟩;have nxt:∀ ts':List Tr,ts'.length<=ts.length+1->(∀ t∈ts,t∈ts')->(∀ t∈ts',Pl t/\dt3 l t=0/\Bw (m+m+1) t)->(crs l e=(0,0,0)\/∃ t∈ts',Fq (crs l e) t)->N (ts'.map tw) h':=fun ts' q1 q2 q3 q4=>hN _ _ ⟨rfl,ts',rfl,by lia,q3,fun j hj e' he'=>by
   by_cases q:j<i
   ·exact (old j q e' he').imp id fun ⟨t,ht,pt⟩=>⟨t,q2 t ht,pt⟩
   ·have ej:j=i:=by lia
    rw [ej,ee] at he';cases he'
    exact q4⟩
  rfl'
  refine Ui (fun z=>?_) fun z=>?_
  ·rfl'
   refine hme (m:=m) (by lia) hl hse pl ple (fun q=>z q.symm) fun t pt par st=>?_;have:=nxt (ts++[t]) (by simp) (fun x hx=>V3 _ hx) (fun x hx=>by
    rcases S8.mp hx with q | q
    ·exact good x q
    ·rw [Nb.mp q];exact ⟨pt,(zZ par).mp (by rw [aR];exact dW _ _),st⟩) (.inr ⟨t,by simp,par⟩)
   rw [Sd] at this;exact this
  ·have el:e=l:=Nm fun q=>z q
   subst el;exact nxt ts (by lia) (fun _ h=>h) good<|.inl<|jT _
 ·rintro acc h' ⟨rfl,ts,rfl,hlen,good,old⟩;have ex:∃ t∈ts,t≠p:=Nm fun n=>by
   have al:∀ t∈ts,t=p:=fun t ht=>Nm fun q=>n ⟨t,ht,q⟩
   have o:∀ j,j<3->∀ e,([(1,0,0),(0,1,0),(0,0,1)]:List Tr)[j]?=Dn e->(crs l e=(0,0,0)\/Fq (crs l e) p):=fun j hj e he=>(old j hj e he).imp id fun ⟨t,ht,pt⟩=>by rw [<-al t ht];exact pt
   exact Z2 pl.ne (o 0 (by decide) _ rfl) (o 1 (by decide) _ rfl)<|o 2 (by decide) _ rfl
  have hlen:ts.length<=3:=hlen;rfl'
  refine lD (Nat.ble_eq_true_of_le (by rw [GJ];lia)) ?_;refine jz (fun i acc h2=>h2=h'/\acc=((ts.take i).filter (·≠p)).map tw) ?_ ?_ ⟨rfl,rfl⟩
  ·rintro i w acc h2 N hN ew ⟨rfl,rfl⟩;obtain ⟨t,et,rfl⟩:=Dg ew;refine ⟨[tw t],rfl,?_⟩;rfl'
   refine Ui (fun z=>?_) fun z=>?_
   ·rfl'
    refine hN _ _ ⟨rfl,?_⟩;rw [M4,et];simp [z]
   ·refine hN _ _ ⟨rfl,?_⟩;rw [M4,et];simp [Classical.not_not.mp z]
  ·rintro acc h2 ⟨rfl,rfl⟩;rw [GJ,NQ];cases q:ts.filter (·≠p) with
   | nil=>
    obtain ⟨t,ht,tp⟩:=ex;have:t∈ts.filter (·≠p):=T9.mpr ⟨ht,by simp [tp]⟩
    rw [q] at this;exact absurd this<|by simp
   | cons b r=>
    have hb:b∈ts.filter (·≠p):=by rw [q];exact MJ
    obtain ⟨hb1,hb2⟩:=T9.mp hb;obtain ⟨g1,g2,g3⟩:=good b hb1;rw [Lj];refine fC (x:=.lst (tw b::r.map tw)) (i:=0) (w:=tw b) (ws:=tw b::r.map tw) rfl (by unfold Jy Ms;simp) ?_;rfl'
    exact k b g1 g2 (by simpa using hb2) g3
theorem Qt (c:C6):tr (bF c)=bF c:=rfl
theorem z8 (c:C6):Ja (bF c)=adj (bF c):=by
 unfold adj;obtain ⟨c1,c2,c3,c4,c5,c6⟩:=c;simp only [Ja,tr,bF,crs,Mx];grind
def Rx (c0:kI):Prop:=∀ {h:Gh} {c:C6} {l:Tr} {m:Nat} {Q:WK} {E:EY},m<=2000->Ht m c->Bw m l->l≠(0,0,0)->(det (bF c)≠0->∀ u,Pl u->Fq (vm (adj (bF c)) l) u->Bw (3*m+5) u->Q (tw u) h)->(det (bF c)=0->E ⟨"NotRound",[]⟩ h)->c0 [J6 c,tw l] h Q E
theorem ago {pl tt tu ta ro:kI}(hpl:qd pl)(htt:Ik tt)(htu:qp tu)(hta:TabOk ta)(hro:Mq ro):Rx (jG pl tt tu ta ro):=by
 intro h c l m Q E hm hc hl l0 k kx;unfold jG;rfl'
 refine hro (m:=m) (by lia) hc ?_;rfl'
 refine Dv (fun e=>?_)<|fun e=>?_
 ·rfl'
  exact kx<|Decidable.not_not.mp e
 ·rfl'
  unfold jV;rfl'
  refine hta (m:=m) (by lia) hc ?_;rfl'
  refine htu (M:=bF c) (m:=m+1) true (by lia) (lW hc) ?_;rfl'
  refine htt (m:=m+1+(m+1)+1) (by lia) (Eh<|lW hc) (hl.mono<|by lia) ?_;rfl'
  have sv:Bw (3*m+5) (vm (Ja (bF c)) l):=(uw (Eh (lW hc)) hl).mono (by lia);have v0:vm (Ja (bF c)) l≠(0,0,0):=by
   rw [z8];exact uh (lM e) l0
  refine hpl.tr (u:=vm (Ja<|bF c) l) (m:=3*m+5) (.inr rfl) v0 sv (by lia) fun t pt par st=>?_;rfl'
  exact k e t pt (by rw [<-z8];exact par) st
theorem Vk (c:C6)(v:Tr):vm (adj (bF c)) (vm (bF c) v)=sc (det (bF c)) v:=by
 rw [<-vo,Dh,xr,Ft]
theorem Wd {M:Mt}{u v:Tr}(h:Fq u v):Fq (vm M u) (vm M v):=by
 obtain ⟨k,hk,rfl⟩:=h;exact ⟨k,hk,yX _ _ _⟩
theorem afB (c:C6)(p:Tr):dt3 p (vm (bF c) p)=2*wth c p:=lZ c p
def q6 (T:Mt):C6:=(T.1.1,2*T.1.2.1,T.2.1.2.1,2*T.1.2.2,2*T.2.1.2.2,T.2.2.2.2)
theorem Yj {T:Mt}(h:tr T=T)(x:Tr):wth (q6 T) x=dt3 x (vm T x):=by
 have e1:T.2.1.1=T.1.2.1:=congrArg (fun M:Mt=>M.1.2.1) h;have e2:T.2.2.1=T.1.2.2:=congrArg (fun M:Mt=>M.1.2.2) h;have e3:T.2.2.2.1=T.2.1.2.2:=congrArg (fun M:Mt=>M.2.1.2.2) h;obtain ⟨⟨a,b,c⟩,⟨d,e,f⟩,⟨g,i,j⟩⟩:=T;obtain ⟨x,y,z⟩:=x;simp only at e1 e2 e3;subst e1 e2 e3;simp only [wth,q6,dt3,vm];grind
theorem aaU (N:Mt)(c:C6):tr (mm (tr N) (mm (bF c) N))=mm (tr N) (mm (bF c) N):=by
 rw [UW,UW,abE,Qt,aeK]
theorem ab1 (N:Mt)(c:C6)(x:Tr):wth (q6 (mm (tr N) (mm (bF c) N))) x=2*wth c (vm N x):=by
 rw [Yj (aaU N c),vo,vo,aR,qR,aR,afB]
theorem aey {c:C6}(h:∀ x,wth c x=0):¬ NZ (J7 c):=by
 obtain ⟨c1,c2,c3,c4,c5,c6⟩:=c;have h1:=h (1,0,0);have h2:=h (0,1,0);have h3:=h (0,0,1);have h4:=h (1,1,0);have h5:=h (1,0,1);have h6:=h (0,1,1);simp only [wth] at h1 h2 h3 h4 h5 h6;rintro ⟨n,hn,n0⟩;simp only [J7,Fe,Fx,or_false] at hn;lia
def Rm (M:Mt)(c f:C6):Prop:=∃ j k:Int,j≠0/\k≠0/\∀ x,j*wth f x=k*wth c (vm (adj M) x)
def Vg (c0:kI):Prop:=∀ {h:Gh} {M:Mt} {c:C6} {m n:Nat} {Q:WK} {E:EY},4*m+n<=3000->IW m M->det M≠0->Ht n c->NZ (J7 c)->(∀ f,Ky (J7 f)->Ht (n+4*m+9) f->Rm M c f->Q (J6 f) h)->c0 [mw M,J6 c] h Q E
theorem abq {pl fl tt ba ta:kI}(hpl:qd pl)(hfl:Ce fl)(htt:Xe tt)(hba:PX ba)(hta:TabOk ta):Vg (rC pl fl tt ba ta):=by
 intro h M c m n Q E hm sM' dM hc nz k;unfold rC;rfl'
 refine hba (m:=m) (by lia) sM' dM fun N pN par sN=>?_;rfl'
 refine hfl true ?_;rfl'
 refine hta (m:=n) (by lia) hc ?_;rfl'
 have sT:IW (n+1) (bF c):=lW hc;have s1:IW (n+2*m+4) (mm (bF c) N):=(Wt sT sN).mono (by lia);have s2:IW (n+4*m+7) (mm (tr N) (mm (bF c) N)):=(Wt (zV sN) s1).mono (by lia);refine htt (m:=n+2*m+4) true true (by lia) (sT.mono<|by lia) (sN.mono<|by lia) ?_;rfl'
 refine htt (m:=n+2*m+4) false false (by lia) ((zV sN).mono (by lia)) s1 ?_;have key:∀ x,wth (q6 (mm (tr N) (mm (bF c) N))) x=2*wth c (vm N x):=ab1 N c
 obtain ⟨kk,k0,ek⟩:=par;have dN:det N≠0:=(Vs.det ⟨kk,k0,ek⟩).mp (lM dM);generalize mm (tr N) (mm (bF c) N)=T at *;have nz6:NZ (J7 (q6 T)):=Nm fun z=>by
  have al:∀ x,wth (q6 T) x=0:=by
   intro x;have az:∀ t∈J7 (q6 T),t=0:=fun t ht=>Nm fun q=>z ⟨t,ht,q⟩
   have a1:(q6 T).1=0:=az _ (by simp [J7]);have a2:(q6 T).2.1=0:=az _ (by simp [J7]);have a3:(q6 T).2.2.1=0:=az _ (by simp [J7]);have a4:(q6 T).2.2.2.1=0:=az _ (by simp [J7]);have a5:(q6 T).2.2.2.2.1=0:=az _ (by simp [J7]);have a6:(q6 T).2.2.2.2.2=0:=az _ (by simp [J7]);simp only [wth,a1,a2,a3,a4,a5,a6,QS,Int.add_zero]
  refine aey (c:=c) (fun y=>?_) nz;have e:=key (vm (adj N) y);rw [al,<-vo,JK,xr,Ft,oF] at e;have:=(Gg.mp (show det N*det N*wth c y=0 by lia)).resolve_left (M5 dN dN)
  exact this
 have s6:Ht (n+4*m+8) (q6 T):=⟨s2.1.1.mono (by lia),qL s2.1.2.1,s2.2.1.2.1.mono (by lia),qL s2.1.2.2,qL s2.2.1.2.2,s2.2.2.2.2.mono (by lia)⟩
 have fin:∀ (x:C6) (j:Int),j≠0->q6 T=kC j x->Ky (J7 x)->Ht (n+4*m+8) x->Q (J6 x) h:=by
  intro x j j0 ej px sx;refine k x px (sx.mono<|by lia) ⟨j*(kk*kk),2,M5 j0<|M5 k0 k0,by decide,fun y=>?_⟩;have e:=key y;rw [ej,CP] at e;rw [ek,xr,oF];grind
 obtain ⟨⟨t1,t2,t3⟩,⟨t4,t5,t6⟩,⟨t7,t8,t9⟩⟩:=T;obtain ⟨⟨q1,q2,q3⟩,⟨q4,q5,q6'⟩,⟨q7,q8,q9⟩⟩:=s2;simp only at q1 q2 q3 q4 q5 q6' q7 q8 q9;rfl'
 exact hpl.c6p (m:=n+4*m+8) (c:=q6 ((t1,t2,t3),(t4,t5,t6),(t7,t8,t9))) (.inl rfl) nz6 s6 (by lia) fin
theorem adY (x y:C6):Fo (J6 x) (J6 y)=decide (x=y):=by
 obtain ⟨a,b,c,d,e,f⟩:=x;obtain ⟨a',b',c',d',e',f'⟩:=y;unfold J6;rw [Fo,oO,oO,oO,oO,oO,oO,oO,bN,bN,bN,bN,bN,bN];by_cases h1:a=a' <;> by_cases h2:b=b' <;> by_cases h3:c=c' <;> by_cases h4:d=d' <;> by_cases h5:e=e' <;> by_cases h6:f=f' <;> simp [h1,h2,h3,h4,h5,h6]
theorem abm {x y:C6}{h:Gh}{Q:WK}(k:Q (.bl (decide (x≠y))) h):JG (J6 x) (J6 y) h Q:=by
 show Q (.bl (!Fo (J6 x) (J6 y))) h;rw [adY];by_cases z:x=y <;> simpa [z] using k
def acs (c0:kI):Prop:=∀ {h:Gh} {p q:Tr} {m:Nat} {Q:WK} {E:EY},m<=10000->Bw m p->Bw m q->Q (.int (dt3 p q)) h->c0 [tw p,.lst [.int q.1,.int q.2.1,.int q.2.2]] h Q E
theorem ZV:acs JR:=by
 intro h p q m Q E hm hp hq k;obtain ⟨a,b,c⟩:=p;obtain ⟨d,e,f⟩:=q;obtain ⟨h1,h2,h3⟩:=hp;obtain ⟨h4,h5,h6⟩:=hq;simp only at h1 h2 h3 h4 h5 h6;unfold JR;rfl'
 exact k
def Ka (c0:kI):Prop:=∀ {h:Gh} {M:Mt} {p q:Tr} {m:Nat} {Q:WK} {E:EY},m<=4000->IW m M->Bw m p->Bw m q->Q (.int (dt3 p (vm M q))) h->c0 [mw M,tw p,tw q] h Q E
theorem XH {dt tt:kI}(hdt:acs dt)(htt:Ik tt):Ka (jJ dt tt):=by
 intro h M p q m Q E hm hM hp hq k;unfold jJ;rfl'
 refine htt (m:=m) (by lia) hM hq ?_;rfl'
 refine hdt (m:=m+m+2) (by lia) (hp.mono<|by lia) (uw hM hq) ?_;rfl'
 exact k
def Tj (c0:kI):Prop:=∀ {h:Gh} {c:C6} {p l:Tr} {n mc ml:Nat} {Q:WK} {E:EY},n<=300->mc<=1200->1<=ml->ml<=1200->Ht mc c->Bw n p->Bw ml l->Pl p->Pl l->(wth c p=0->dt3 p l=0->¬ InC c l->∀ u,Pq c p l u->Bw (n+mc+4*ml+10) u->Q (tw u) h)->(wth c p≠0\/dt3 p l≠0->E ⟨"NotOn",[]⟩ h)->(wth c p=0->dt3 p l=0->InC c l->E ⟨"InCurve",[]⟩ h)->c0 [J6 c,tw p,tw l] h Q E
theorem ZF {p b:Tr}{s t:Int}(hp:Pl p)(hb:Pl b)(ne:b≠p)(e:Ho s p t b=(0,0,0)):s=0/\t=0:=by
 have c0:crs p b≠(0,0,0):=eN hp hb fun e=>ne e.symm
 have k:∀ x y:Int,s*y - t*x=0:=fun x y=>Nm fun n=>c0 ((cU n).mp (by
  rw [<-J4,e];simp [crs]))
 have h1:=k 0 1;have h2:=k 1 0;lia
theorem Wz {li on ta bo po an:kI}(hli:Ku li)(hon:WD on)(hta:TabOk ta)(hbo:Ka bo)(hpo:Tp po)(han:Ze an):Tj (kZ li on ta bo po an):=by
 intro h c p l n mc ml Q E hn hmc hml1 hml hc hp hl pp pl k k1 k2;unfold kZ;rfl'
 refine hon (m:=n+mc) (by lia) (hc.mono<|by lia) (hp.mono<|by lia) ?_;rfl'
 refine Dv (fun e=>?_)<|fun wp=>?_
 ·rfl'
  exact k1<|.inl e
 rfl'
 refine hli (m:=n+ml) (by lia) (hp.mono<|by lia) (hl.mono<|by lia) ?_;rfl'
 refine Dv (fun e=>?_)<|fun lp=>?_
 ·rfl'
  exact k1<|.inr e
 have lp':dt3 l p=0:=by rw [aR];exact lp
 rfl'
 unfold mH;rfl'
 refine hta (m:=mc) (by lia) hc ?_;rfl'
 refine han (m:=ml) (by lia) (by lia) hl pl pp fun b pb lb bp sb=>?_;have hM:IW (mc+1) (bF c):=lW hc;have sb:Bw (ml+ml+1) b:=sb;have smv:Bw (mc+2*ml+4) (vm (bF c) b):=(uw hM sb).mono (by lia);have so:Sm (mc+4*ml+7) (pom c b b):=(iM sb smv).mono (by lia);have sg:Sm (n+mc+2*ml+6) (pom c p b):=(iM hp smv).mono (by lia);have s2:Sm (n+mc+2*ml+7) (2*pom c p b):=qL sg;rfl'
 refine hbo (m:=mc+2*ml+2) (by lia) (hM.mono<|by lia) (sb.mono<|by lia) (sb.mono<|by lia) ?_;rfl'
 refine hbo (m:=n+mc+2*ml+2) (by lia) (hM.mono<|by lia) (hp.mono<|by lia) (sb.mono<|by lia) ?_;have eO:dt3 b (vm (bF c) b)=pom c b b:=rfl;have eG:dt3 p (vm (bF c) b)=pom c p b:=rfl;rw [eO,eG];have sE:Bw (n+mc+4*ml+10) (Ho (pom c b b) p (-(2*pom c p b)) b):=by
  have sn:Sm (n+mc+2*ml+7) (-(2*pom c p b)):=s2.le (by lia);exact ⟨((so.mul hp.1).add (sn.mul sb.1)).mono (by lia),((so.mul hp.2.1).add (sn.mul sb.2.1)).mono (by lia),((so.mul hp.2.2).add (sn.mul sb.2.2)).mono (by lia)⟩
 have fin1:Ho (pom c b b) p (-(2*pom c p b)) b≠(0,0,0)->∀ u,Pl u->Fq (Ho (pom c b b) p (-(2*pom c p b)) b) u->Bw (n+mc+4*ml+10) u->Q (tw u) h:=fun E0 u pu par su=>k wp lp (fun i=>E0 (Yn (b:=b) lp' lb i)) u (agn pl.ne pp pb bp lp' lb wp pu par) su
 have fin2:Ho (pom c b b) p (-(2*pom c p b)) b=(0,0,0)->E ⟨"InCurve",[]⟩ h:=fun E0=>k2 wp lp (by
  obtain ⟨e1,e2⟩:=ZF pp pb bp E0;rw [lZ] at e1;exact YS pl.ne pp pb bp lp' lb wp (by lia) (by lia))
 generalize pom c b b=o at *;generalize pom c p b=g at *;obtain ⟨p1,p2,p3⟩:=p;obtain ⟨b1,b2,b3⟩:=b;obtain ⟨hp1,hp2,hp3⟩:=hp;obtain ⟨hb1,hb2,hb3⟩:=sb;simp only at hp1 hp2 hp3 hb1 hb2 hb3;rfl'
 have ee:∀ x y z w:Int,x*y - z*w=x*y + -z*w:=fun x y z w=>by rw [Int.sub_eq_add_neg,Int.neg_mul]
 rw [ee,ee,ee];refine hpo (t:=Ho o (p1,p2,p3) (-(2*g)) (b1,b2,b3)) (m:=n+mc+4*ml+10) (by lia) sE (fun E0 u pu par su=>?_) fun E0=>?_
 ·rfl'
  refine z9 rfl ?_;rfl'
  unfold lQ;rfl'
  exact fin1 E0 u pu par su
 ·rfl'
  refine Ve rfl ?_;rfl'
  exact fin2 E0
theorem Dd {a b c d e:Tr}{C:C6}{k:Int}(k0:k≠0)(e0:g8 a b c d e=kC k C):∀ x∈[a,b,c,d,e],wth C x=0:=fun x hx=>by
 have:=Al a b c d e x hx
 rw [e0,CP] at this;exact (Gg.mp this).resolve_right k0
theorem zaT {C:C6}{p L u:Tr}(hd:det (bF C)≠0)(pp:Pl p)(pu:Pl u)(h1:Fq (vm (bF C) p) L)(h2:Fq (vm (adj (bF C)) L) u):u=p:=by
 have h3:=(Wd (M:=adj (bF C)) h1).trans h2;rw [Vk] at h3;exact rm pu pp h3 ⟨_,hd,rfl⟩
theorem O7 (C:C6)(p q:Tr):dt3 q (vm (bF C) p)=dt3 p (vm (bF C) q):=by
 have:=qR q (bF C) p
 rw [Qt] at this;rw [<-this,aR]
theorem Am {p q l:Tr}(h:Fq (crs p q) l):dt3 l p=0/\dt3 l q=0:=by
 obtain ⟨k,k0,e⟩:=h;have z1:dt3 (crs p q) p=0:=dW _ _;have z2:dt3 (crs p q) q=0:=fH _ _;rw [e,uX] at z1 z2;exact ⟨(Gg.mp z1).resolve_right k0,(Gg.mp z2).resolve_right k0⟩
theorem V6 {C:C6}{p q l:Tr}(hd:det (bF C)≠0)(pp:Pl p)(pq:Pl q)(ne:p≠q)(h:Fq (crs p q) l):¬ InC C l:=by
 intro i;obtain ⟨l1,l2⟩:=Am h;have w1:wth C p=0:=i p l1;have w2:wth C q=0:=i q l2;have w3:pom C p q=0:=U3 l1 l2 i;have c0:crs p q≠(0,0,0):=eN pp pq ne;have a1:dt3 p (vm (bF C) p)=0:=by rw [show dt3 p (vm (bF C) p)=2*wth C p from lZ C p,w1];rfl
 have a2:dt3 q (vm (bF C) q)=0:=by rw [show dt3 q (vm (bF C) q)=2*wth C q from lZ C q,w2];rfl
 have a3:dt3 p (vm (bF C) q)=0:=w3;have a4:dt3 q (vm (bF C) p)=0:=by rw [O7];exact a3
 have e1:crs (crs p q) (vm (bF C) p)=(0,0,0):=by
  rw [cl2];rw [aR (vm (bF C) p) p,aR (vm (bF C) p) q,a1,a4];simp [fZ]
 have e2:crs (crs p q) (vm (bF C) q)=(0,0,0):=by
  rw [cl2];rw [aR (vm (bF C) q) p,aR (vm (bF C) q) q,a2,a3];simp [fZ]
 have e3:=PB c0 e1 e2;rw [Jq,z8] at e3;exact uh (lM hd) c0 e3
theorem pU {u:Tr}(h0:u≠(0,0,0)):∃ t,Pl t/\Fq u t:=by
 obtain ⟨b0,pl,e⟩:=JT (Ln h0) rfl;obtain ⟨t,et,e'⟩:=Iz e;exact ⟨t,by unfold Pl;rw [<-et];exact pl,_,b0,e'⟩
def Ld (M:Mt)(p u:Tr):Prop:=Pl u/\Fq (vm M p) u
def LdL (M:Mt)(l k:Tr):Prop:=Pl k/\Fq (vm (Ja M) l) k
theorem Ld.uniq {M:Mt}{p u v:Tr}(h:Ld M p u)(h':Ld M p v):u=v:=rm h.1 h'.1 h.2 h'.2
theorem LdL.uniq {M:Mt}{p u v:Tr}(h:LdL M p u)(h':LdL M p v):u=v:=rm h.1 h'.1 h.2 h'.2
theorem zy (M:Mt)(p:Tr):vm (adj M) (vm M p)=sc (det M) p:=by rw [<-vo,Dh,xr,Ft]
theorem agf (M:Mt)(p:Tr):vm M (vm (adj M) p)=sc (det M) p:=by rw [<-vo,JK,xr,Ft]
theorem YW (M:Mt):tr (adj M)=Ja M:=rfl
theorem Ot (M:Mt)(l x:Tr):dt3 (vm (Ja M) l) x=dt3 l (vm (adj M) x):=by rw [<-YW,qR]
theorem aeV (M:Mt)(l p:Tr):dt3 (vm (Ja M) l) (vm M p)=dt3 l p*det M:=by rw [Ot,zy,d9]
theorem Ak {l u v:Tr}(h:Fq u v):dt3 l u=0↔dt3 l v=0:=by
 obtain ⟨k,k0,rfl⟩:=h;rw [d9];exact ⟨fun z=>(Gg.mp z).resolve_right k0,fun z=>by rw [z,QS]⟩
theorem Hh {l u v:Tr}(h:Fq u v):dt3 u l=0↔dt3 v l=0:=by rw [aR u,aR v];exact Ak h
theorem zq {M:Mt}{l k p u:Tr}(d:det M≠0)(hl:LdL M l k)(hp:Ld M p u):dt3 k u=0↔dt3 l p=0:=by
 rw [<-Hh hl.2,<-Ak hp.2,aeV];exact ⟨fun z=>(Gg.mp z).resolve_right d,fun z=>by rw [z,QS]⟩
theorem vY {M:Mt}{p q u:Tr}(d:det M≠0)(pp:Pl p)(pq:Pl q)(hp:Ld M p u)(hq:Ld M q u):p=q:=by
 refine Nm fun ne=>?_;have c0:=GX hp.2 hq.2 rfl;rw [Jq] at c0;have hc:det (Ja M)≠0:=by rw [show det (Ja M)=det (adj M) from (G6 (Ja M)).symm];exact lM d
 exact uh hc (eN pp pq ne) c0
theorem wW {M:Mt}{p q r u v w:Tr}(d:det M≠0)(hp:Ld M p u)(hq:Ld M q v)(hr:Ld M r w):dt3 (crs u v) w=0↔dt3 (crs p q) r=0:=by
 have e:=CJ M p q r;rw [<-Hh (eF hp.2 hq.2),<-Ak hr.2,e];exact ⟨fun z=>(Gg.mp z).resolve_left d,fun z=>by rw [z,Ni]⟩
theorem agU (M:Mt)(p q:Tr)(s t:Int):vm M (Ho s p t q)=Ho s (vm M p) t (vm M q):=by
 simp only [vm,Ho,dt3,Mx];grind
theorem Gy (c:C6)(p q:Tr):pom c p q=wth c (Ho 1 p 1 q) - wth c p - wth c q:=by
 rw [qF];grind
theorem Ia {M:Mt}{c f:C6}(h:Rm M c f):∃ j k:Int,j≠0/\k≠0/\(∀ x,j*wth f x=k*wth c (vm (adj M) x))/\∀ x y,j*pom f x y=k*pom c (vm (adj M) x) (vm (adj M) y):=by
 obtain ⟨j,k,j0,k0,e⟩:=h;refine ⟨j,k,j0,k0,e,fun x y=>?_⟩;have e1:=e (Ho 1 x 1 y);have e2:=e x;have e3:=e y;rw [agU] at e1;rw [Gy,Gy,Int.mul_sub,Int.mul_sub,Int.mul_sub,Int.mul_sub,e1,e2,e3]
theorem jl {M:Mt}{c f:C6}{p u:Tr}(d:det M≠0)(h:Rm M c f)(hp:Ld M p u):wth f u=0↔wth c p=0:=by
 obtain ⟨j,k,j0,k0,e⟩:=h;obtain ⟨i,i0,ei⟩:=hp.2;have e1:=e (vm M p);rw [zy,oF,ei,oF] at e1;constructor
 ·intro z;rw [z,Ni,Ni] at e1;exact (Gg.mp<|(Gg.mp e1.symm).resolve_left k0).resolve_left (M5 d d)
 ·intro z;rw [z,Ni,Ni] at e1;exact (Gg.mp<|(Gg.mp e1).resolve_left j0).resolve_left (M5 i0 i0)
theorem Wa {u v:Tr}(h:∀ y,dt3 y u=dt3 y v):u=v:=by
 obtain ⟨a,b,c⟩:=u;obtain ⟨a',b',c'⟩:=v;have h1:=h (1,0,0);have h2:=h (0,1,0);have h3:=h (0,0,1);simp only [dt3] at h1 h2 h3;simp only [Mx];lia
theorem Ig {u v:Tr}{s t:Int}(s0:s≠0)(t0:t≠0)(e:sc s u=sc t v):∀ w,Pl w->Fq u w->Fq v w:=by
 intro w pw hu;have v0:v≠(0,0,0):=fun z=>by
  rw [z] at e;obtain ⟨k,k0,rfl⟩:=hu;exact pw.ne<|(cU k0).mp ((cU s0).mp (by rw [e];simp [sc]))
 obtain ⟨x,px,hx⟩:=pU v0;have:w=x:=by
  refine Qv hu hx pw px ?_;have c1:crs (sc s u) (sc t v)=(0,0,0):=by rw [e];exact jT _
  have c2:crs (sc s u) (sc t v)=sc (s*t) (crs u v):=by
   simp only [crs,sc,Mx];grind
  rw [c2] at c1;exact (cU<|M5 s0 t0).mp c1
 rw [this];exact hx
theorem Qx (s:Int)(y u:Tr):dt3 y (sc s u)=s*dt3 y u:=by rw [d9,Og]
theorem ahd {M:Mt}{c f:C6}(h:Rm M c f)(x:Tr):∃ s t:Int,s≠0/\(det M≠0->t≠0)/\sc s (vm (bF f) (vm M x))=sc t (vm (Ja M) (vm (bF c) x)):=by
 obtain ⟨j,k,j0,k0,_,e⟩:=Ia h;refine ⟨j,k*det M,j0,fun d=>M5 k0 d,Wa fun y=>?_⟩;rw [Qx,Qx];have e1:=e y (vm M x);rw [zy,Dm] at e1;have e2:dt3 y (vm (Ja M) (vm (bF c) x))=pom c (vm (adj M) y) x:=by
  rw [aR,Ot,aR];rfl
 rw [e2];show j*pom f y (vm M x)=_;rw [e1,Int.mul_assoc]
theorem R7 (M:Mt)(k:Int)(p:Tr):vm M (sc k p)=sc k (vm M p):=yX _ _ _
theorem DK {M:Mt}{c f:C6}{p u L L' K:Tr}(d:det M≠0)(h:Rm M c f)(hp:Ld M p u)(hL:Fq (vm (bF c) p) L)(pL':Pl L')(hL':Fq (vm (bF f) u) L')(hK:LdL M L K):L'=K:=by
 obtain ⟨s,t,s0,t0,e⟩:=ahd h p;obtain ⟨i,i0,ei⟩:=hp.2;obtain ⟨o,o0,eo⟩:=hL;rw [ei,R7,eo,R7,Uz,Uz] at e;refine rm pL' hK.1 (u:=vm (Ja M) L) ?_ hK.2;exact Ig (M5 i0 s0) (M5 o0<|t0 d) e _ pL' hL'
theorem Ck {M:Mt}{x:Tr}(d:det M≠0)(px:Pl x):∃ y,Pl y/\Ld M y x/\Fq (vm (adj M) x) y:=by
 obtain ⟨y,py,hy⟩:=pU (uh (lM d) px.ne);refine ⟨y,py,⟨px,?_⟩,hy⟩;obtain ⟨k,k0,e⟩:=hy;have:=agf M x
 rw [e,R7] at this;exact Ig d k0 this.symm x px<|Fq.refl x
theorem afc {M:Mt}{c f:C6}{p u q v:Tr}(d:det M≠0)(h:Rm M c f)(hp:Ld M p u)(hq:Ld M q v):pom f u v=0↔pom c p q=0:=by
 obtain ⟨j,k,j0,k0,_,e⟩:=Ia h;obtain ⟨i,i0,ei⟩:=hp.2;obtain ⟨o,o0,eo⟩:=hq.2;have e1:=e (vm M p) (vm M q);have ps:∀ (g:C6) (s:Int) (x y:Tr),pom g (sc s x) y=s*pom g x y:=fun g s x y=>by
  unfold pom;rw [uX,Og]
 rw [zy,zy,Dm,ps,ei,eo,Dm,ps] at e1;constructor
 ·intro z;rw [z,Ni,Ni,Ni] at e1;exact (Gg.mp<|(Gg.mp<|(Gg.mp e1.symm).resolve_left k0).resolve_left d).resolve_left d
 ·intro z;rw [z,Ni,Ni,Ni] at e1;exact (Gg.mp<|(Gg.mp<|(Gg.mp e1).resolve_left j0).resolve_left o0).resolve_left i0
theorem afo {M:Mt}{c f:C6}{p l u p' l' u':Tr}(d:det M≠0)(h:Rm M c f)(pp:Pl p)(hp:Ld M p p')(hl:LdL M l l')(hu:Ld M u u')(o:Pq c p l u):Pq f p' l' u':=by
 obtain ⟨o1,o2,o3,o4,o5⟩:=o;refine ⟨hu.1,(zq d hl hu).mpr o2,(jl d h hu).mpr o3,fun x px lx wx=>?_,fun x px lx ne=>?_⟩
 ·obtain ⟨y,py,hy,_⟩:=Ck d px;rcases o4 y py ((zq d hl hy).mp lx) ((jl d h hy).mp wx) with rfl | rfl
  ·exact .inl<|hy.uniq hp
  ·exact .inr<|hy.uniq hu
 ·obtain ⟨y,py,hy,_⟩:=Ck d px;have ny:y≠p:=fun e=>ne (by rw [e] at hy;exact hy.uniq hp)
  rw [afc d h hp hy,<-o5 y py ((zq d hl hy).mp lx) ny];constructor
  ·intro e;rw [e] at hu;exact vY d o1 pp hu hp
  ·intro e;rw [e] at hu;exact hu.uniq hp
structure Rh (M:Mt) (a b c d e a' b' c' d' e':Tr):Prop where
 dn:det M≠0
 pl:∀ t∈[a,b,c,d,e],Pl t
 ha:Ld M a a'
 hb:Ld M b b'
 hc:Ld M c c'
 hd:Ld M d d'
 he:Ld M e e'
section
variable {M:Mt}{a b c d e a' b' c' d' e':Tr}(L:Rh M a b c d e a' b' c' d' e')
include L
theorem Rh.nd (nd:[a,b,c,d,e].Nodup):[a',b',c',d',e'].Nodup:=by
 have pl:=L.pl;simp only [Fe,Fx,or_false,forall_eq_or_imp,forall_eq] at pl;obtain ⟨pa,pb,pc,pd,pe⟩:=pl;have n:∀ {p q u v:Tr},Pl p->Pl q->Ld M p u->Ld M q v->p≠q->u≠v:=fun pp pq hp hq ne e=>ne (vY L.dn pp pq hp (e ▸ hq))
 simp only [N7,Fe,Fx,or_false,not_or,not_false_eq_true,SX,and_true] at nd |-
 obtain ⟨⟨ab,ac,ad,ae⟩,⟨bc,bd,be⟩,⟨cd,ce⟩,de⟩:=nd;exact ⟨⟨n pa pb L.ha L.hb ab,n pa pc L.ha L.hc ac,n pa pd L.ha L.hd ad,n pa pe L.ha L.he ae⟩,⟨n pb pc L.hb L.hc bc,n pb pd L.hb L.hd bd,n pb pe L.hb L.he be⟩,⟨n pc pd L.hc L.hd cd,n pc pe L.hc L.he ce⟩,n pd pe L.hd L.he de⟩
theorem Rh.five:Five a' b' c' d' e'↔Five a b c d e:=by
 have t:=@wW M;constructor
 ·intro F;obtain ⟨t1,t2,t3,t4,t5,t6,t7,t8,t9,t10⟩:=dg F;refine wL ?_ ?_ ?_ ?_ ?_ ?_ ?_ ?_ ?_ ?_ <;> intro z
  ·exact t1<|(t L.dn L.ha L.hb L.hc).mpr z
  ·exact t2<|(t L.dn L.ha L.hb L.hd).mpr z
  ·exact t3<|(t L.dn L.ha L.hb L.he).mpr z
  ·exact t4<|(t L.dn L.ha L.hc L.hd).mpr z
  ·exact t5<|(t L.dn L.ha L.hc L.he).mpr z
  ·exact t6<|(t L.dn L.ha L.hd L.he).mpr z
  ·exact t7<|(t L.dn L.hb L.hc L.hd).mpr z
  ·exact t8<|(t L.dn L.hb L.hc L.he).mpr z
  ·exact t9<|(t L.dn L.hb L.hd L.he).mpr z
  ·exact t10<|(t L.dn L.hc L.hd L.he).mpr z
 ·intro F;obtain ⟨t1,t2,t3,t4,t5,t6,t7,t8,t9,t10⟩:=dg F;refine wL ?_ ?_ ?_ ?_ ?_ ?_ ?_ ?_ ?_ ?_ <;> intro z
  ·exact t1<|(t L.dn L.ha L.hb L.hc).mp z
  ·exact t2<|(t L.dn L.ha L.hb L.hd).mp z
  ·exact t3<|(t L.dn L.ha L.hb L.he).mp z
  ·exact t4<|(t L.dn L.ha L.hc L.hd).mp z
  ·exact t5<|(t L.dn L.ha L.hc L.he).mp z
  ·exact t6<|(t L.dn L.ha L.hd L.he).mp z
  ·exact t7<|(t L.dn L.hb L.hc L.hd).mp z
  ·exact t8<|(t L.dn L.hb L.hc L.he).mp z
  ·exact t9<|(t L.dn L.hb L.hd L.he).mp z
  ·exact t10<|(t L.dn L.hc L.hd L.he).mp z
end
theorem mR {M:Mt}{p q r s p' q' r' s':Tr}(d:det M≠0)(pp:Pl p)(pq:Pl q)(ne:p≠q)(hp:Ld M p p')(hq:Ld M q q')(hr:Ld M r r')(hs:Ld M s s'):dH [p',q',r',s']=dH [p,q,r,s]:=by
 have ne':p'≠q':=fun e=>ne (vY d pp pq hp (e ▸ hq))
 have a:=pW (r:=r') (s:=s') hp.1 hq.1 ne';have b:=pW (r:=r) (s:=s) pp pq ne;unfold FN at a b;rw [wW d hp hq hr,wW d hp hq hs,wW d hp hr hs,wW d hq hr hs,<-b] at a;cases h1:dH [p',q',r',s'] <;> cases h2:dH [p,q,r,s] <;> simp [h1,h2] at a |-
section
variable {M:Mt}{a b c d e a' b' c' d' e':Tr}(L:Rh M a b c d e a' b' c' d' e')
include L
theorem Rh.four (nd:[a,b,c,d,e].Nodup):zQ [a',b',c',d',e']=zQ [a,b,c,d,e]:=by
 have pl:=L.pl;simp only [Fe,Fx,or_false,forall_eq_or_imp,forall_eq] at pl;obtain ⟨pa,pb,pc,pd,pe⟩:=pl;simp only [N7,Fe,Fx,or_false,not_or,not_false_eq_true,SX,and_true] at nd;obtain ⟨⟨ab,ac,ad,ae⟩,⟨bc,bd,be⟩,⟨cd,ce⟩,de⟩:=nd;rw [Yk,Yk,mR L.dn pa pb ab L.ha L.hb L.hc L.hd,mR L.dn pa pb ab L.ha L.hb L.hc L.he,mR L.dn pa pb ab L.ha L.hb L.hd L.he,mR L.dn pa pc ac L.ha L.hc L.hd L.he,mR L.dn pb pc bc L.hb L.hc L.hd L.he]
theorem Rh.plain:∀ t∈[a',b',c',d',e'],Pl t:=by
 intro t ht;simp only [Fe,Fx,or_false] at ht;rcases ht with rfl | rfl | rfl | rfl | rfl
 ·exact L.ha.1
 ·exact L.hb.1
 ·exact L.hc.1
 ·exact L.hd.1
 ·exact L.he.1
theorem Rh.curve {C C' f:C6}{k k':Int}(nd:[a,b,c,d,e].Nodup)(f4:zQ [a,b,c,d,e]=false)(k0:k≠0)(e0:g8 a b c d e=kC k C)(k0':k'≠0)(e0':g8 a' b' c' d' e'=kC k' C')(pC:Ky (J7 C'))(pf:Ky (J7 f))(h:Rm M C f):C'=f:=by
 have G:=NP L.plain (L.nd nd) (by rw [L.four nd];exact f4);refine zaE G pC pf (Dd k0' e0') fun x hx=>?_;have v:=Dd k0 e0;simp only [Fe,Fx,or_false] at hx;rcases hx with rfl | rfl | rfl | rfl | rfl
 ·exact (jl L.dn h L.ha).mpr (v a<|by simp)
 ·exact (jl L.dn h L.hb).mpr (v b<|by simp)
 ·exact (jl L.dn h L.hc).mpr (v c<|by simp)
 ·exact (jl L.dn h L.hd).mpr (v d<|by simp)
 ·exact (jl L.dn h L.he).mpr (v e<|by simp)
end
theorem Cd {a b c d e x:Tr}{C:C6}{k:Int}(k0:k≠0)(e0:g8 a b c d e=kC k C):wth C x=0↔FN a b e*FN c d e*(FN a c x*FN b d x)=FN a c e*FN b d e*(FN a b x*FN c d x):=by
 have:=Bd a b c d e x
 rw [e0,CP] at this;constructor
 ·intro z;rw [z,QS] at this;lia
 ·intro z;rw [z,Int.sub_self] at this;exact (Gg.mp this).resolve_right k0
theorem agq {a b c d e f X Y Z:Tr}{C:C6}{k:Int}(k0:k≠0)(e0:g8 a b c d e=kC k C)(F:Five a b c d e)(x3:X3 a b c d e f X Y Z):dt3 (crs X Y) Z=0↔wth C f=0:=by
 obtain ⟨⟨_,hX⟩,⟨_,hY⟩,⟨_,hZ⟩⟩:=x3;rw [Cd k0 e0,<-Hh (eF hX hY),<-Ak hZ,XC (dg F).1];constructor
 ·intro z;lia
 ·intro z;lia
theorem Io {i j:Int}{h:Gh}{Q:WK}(c:ab6 i j)(x:Q (.int (i^j.toNat)) h):Gs (.int i) (.int j) h Q:=⟨c,x⟩
theorem p10:(10:Int)^(10:Int).toNat=10000000000:=by decide
theorem Hf {x y z M:Int}(hm:M∈[(if x<0 then -x else x),(if y<0 then -y else y),(if z<0 then -z else z)])(hle:∀ a,a∈[(if x<0 then -x else x),(if y<0 then -y else y),(if z<0 then -z else z)]->a<=M):(M=0↔(x,y,z)=((0,0,0):Tr))/\0<=M:=by
 have h1:=hle _ (MJ ..);have h2:=hle (if y<0 then -y else y) (by simp);have h3:=hle (if z<0 then -z else z) (by simp);simp only [Fe,Fx,or_false] at hm;refine ⟨⟨fun e=>?_,fun e=>?_⟩,?_⟩
 ·subst e;have:x=0/\y=0/\z=0:=by
   refine ⟨?_,?_,?_⟩
   ·split at h1 <;> lia
   ·split at h2 <;> lia
   ·split at h3 <;> lia
  rw [this.1,this.2.1,this.2.2]
 ·simp only [Mx] at e;rw [e.1,e.2.1,e.2.2] at hm
  simpa using hm
 ·split at h1 <;> lia
def wY (c0:kI):Prop:=∀ {h:Gh} {x y z:Int} {Q:WK} {E:EY},(∀ t,Pl t->Bw 35 t->Q (tw t) h)->c0 [.lst [.int x,.int y,.int z]] h Q E
def el3:ME:=(JI Aw (Dy (aj (JI pJ (JI je (JI uV (aq 0) (mC (.int 3))) (mC (.int 5))) (mC (.int 2))) (aj (JI pJ (JI je (JI uV (aq 0) (mC (.int 3))) (mC (.int 41))) (mC (.int 20))) (aj (JI pJ (JI je (JI uV (aq 0) (mC (.int 3))) (JI bJ (mC (.int 2)) (JI Gs (mC (.int 10)) (mC (.int 10))))) (JI Gs (mC (.int 10)) (mC (.int 10)))) aH)))) (JI je (aq 0) (mC (.int 3))))
theorem aaw (x:Int):yg x 3:=⟨by decide,64,by decide,.lit rfl⟩
theorem aaK {v:Int}{h:Gh}{Q:WK}(k:∀ v',Sm 35 v'->Q (.int v') h):el3 [Dn (.int v)] h Q:=by
 have cm:fB 2 ((10:Int)^(10:Int).toNat):=.of (m:=64) (n:=64) (.lit rfl) (by rw [p10];exact .lit rfl) (by decide) (by decide);unfold el3;rfl'
 refine CG (aaw _) ?_;rfl'
 refine dO (by decide) ?_;rfl'
 refine CG (aaw _) ?_;rfl'
 refine dO (by decide) ?_;rfl'
 refine CG (aaw _) ?_;rfl'
 refine Io ⟨by decide,by decide,by decide⟩ ?_;refine dF cm ?_;refine dO (by rw [p10];decide) ?_;rfl'
 refine Io ⟨by decide,by decide,by decide⟩ ?_;rfl'
 refine dO (by decide) ?_;rw [p10];have b1:=dI (v.fdiv 3) (b:=5) (by decide);have b2:=dI (v.fdiv 3) (b:=41) (by decide);have b3:0<=(v.fdiv 3).fmod (2*10000000000)/\(v.fdiv 3).fmod (2*10000000000)<2*10000000000:=dI (v.fdiv 3) (by decide);have b0:=dI v (b:=3) (by decide);have hs:∀ x:Int,-10000000000<=x->x<=10000000000->Sm 35 x:=fun x h1 h2=>Sm.le (i:=10000000000) (by unfold Sm;decide +kernel) (by lia)
 rcases (show v.fmod 3=0\/v.fmod 3=1\/v.fmod 3=2 by lia) with z | z | z
 ·rw [z];exact fC rfl rfl<|k _<|hs _ (by lia)<|by lia
 ·rw [z];exact fC rfl rfl<|k _<|hs _ (by lia)<|by lia
 ·rw [z];exact fC rfl rfl<|k _<|hs _ (by lia)<|by lia
def abZ (c0:kI):Prop:=∀ {h:Gh} {v:Int} {Q:WK} {E:EY},(∀ v',Sm 35 v'->Q (.int v') h)->c0 [.int v] h Q E
theorem YC:abZ rG:=by
 intro h v Q E k;unfold rG;refine gD rfl (σ:=[Dn<|.int v]) rfl<|cu ?_
 exact aaK fun v' s=>uc<|k v' s
theorem ahv {pl sm:kI}(hpl:aaG pl)(hsm:abZ sm):wY (vU pl sm):=by
 intro h x y z Q E k;unfold vU;refine uF rfl (σ:=[Dn<|.lst [.int x,.int y,.int z],FX]) rfl ?_;refine aO<|aZ<|Pa<|lA<|nG<|ao rfl<|Gd rfl<|lD rfl ?_
 refine dj rfl<|bI<|bM<|aG<|ak<|ao rfl<|aD<|hsm fun x2 hx=>dj rfl<|bI<|bM<|aG<|ak<|ao rfl<|aD<|hsm fun y2 hy=>dj rfl<|bI<|bM<|aG<|ak<|ao rfl<|aD<|hsm fun z2 hz=>tB ?_
 refine Zr fun g2 e2 o2 x2'=>?_;have e2:g2.c h.nx=Dn (.lst [.int x2,.int y2,.int z2]):=e2;have old:∀ n,n<h.nx->g2.c n=h.c n:=fun n hn=>by rw [o2 n (by lia)]
 refine gW (σ':=[Dn<|.lst [.int x,.int y,.int z],Dn<|.loc h.nx]) rfl<|cC ?_
 -- what follows
 have fin:∀ (t:Tr) (g3:Gh),g3.c h.nx=Dn (.lst [.int t.1,.int t.2.1,.int t.2.2])->(∀ n,n<h.nx->g3.c n=h.c n)->t≠(0,0,0)->Bw 35 t->nW pl sm E { nx:=fun _ h'=>qz true h .non h' Q,rt:=fun w h'=>qz true h w h' Q } [Dn (.lst [.int x,.int y,.int z]),Dn (.loc h.nx)] g3:=by
  intro t g3 e3 o3 t0 st;unfold nW;rfl'
  refine hpl (ns:=tl t) (m:=35) (.inr<|.inr ⟨_,rfl,e3⟩) (Ln t0) st.all (by decide) (by simp [tl]) fun ms kk k0 e pm sm=>?_;obtain ⟨u,rfl,_⟩:=Iz e;rfl'
  refine ⟨fun n c hn ec=>by rw [o3 n hn];exact ec,.inl ⟨by simp [Lo,Kv,tl],k u pm ⟨sm _<|by simp [tl],sm _<|by simp [tl],sm _<|by simp [tl]⟩⟩⟩
 rfl'
 refine ⟨[(if x2<0 then -x2 else x2),(if y2<0 then -y2 else y2),(if z2<0 then -z2 else z2)],rfl,Nat.succ_pos _,fun M hM hle=>?_⟩;have hx2:=Hf hM hle;rfl'
 refine tZ (fun e0=>?_) fun e0=>?_
 ·have z0:=hx2.1.mp e0;rfl'
  refine afu e2 (j:=2) rfl rfl fun g3 e3 o3 x3=>?_;simp only [Mx] at z0;obtain ⟨rfl,rfl,rfl⟩:=z0;rfl'
  exact fin (0,0,1) g3 e3 (fun n hn=>by rw [o3 n<|by lia];exact old n hn) (by decide) ⟨hx,hy,by unfold Sm;decide +kernel⟩
 ·rfl'
  exact fin (x2,y2,z2) g2 e2 old (fun e=>e0<|hx2.1.mpr e) ⟨hx,hy,hz⟩
theorem mY {ws us:List W}{lo hi:Option Int}{h:Gh}{Q:WK}(e:Bc ws lo hi=us)(x:Q (.tup us) h):qu (.tup ws) lo hi h Q:=by
 subst e;exact x
def aac (c0:kI):Prop:=∀ {h:Gh} {M:Mt} {p:Tr} {m n:Nat} {Q:WK} {E:EY},m<=100->n<=7000->IW m M->Bw n p->det M≠0->Pl p->(∀ u,Ld M p u->Bw (m+n+2) u->Q (tw u) h)->c0 [mw M,tw p] h Q E
theorem aha {pl dt:kI}(hpl:qd pl)(hdt:qW dt):aac (Bh pl dt):=by
 intro h M p m n Q E hm hn sM' sp d pp k;have v0:=uh d pp.ne;obtain ⟨⟨a1,a2,a3⟩,⟨b1,b2,b3⟩,⟨c1,c2,c3⟩⟩:=M;have s1:=sM'.1;have s2:=sM'.2.1;have s3:=sM'.2.2;have sv:=uw sM' sp;unfold Bh;refine gD rfl (σ:=[Dn<|mw ((a1,a2,a3),(b1,b2,b3),(c1,c2,c3)),Dn<|tw p]) rfl ?_;refine cu<|aG<|ak<|lA<|kO<|ak<|bB<|aD<|W0<|lD rfl ?_
 have cm:∀ j:Int,j=0\/j=1\/j=2->fB 3 j:=fun j hj=>.of (m:=64) (n:=64) (.lit rfl) (by rcases hj with rfl | rfl | rfl <;> exact .lit rfl) (by decide) (by decide)
 refine dj rfl<|bI<|bM<|aG<|ak<|lO<|ao rfl<|bK<|aL<|bB<|ao rfl<|dF (cm 0<|.inl rfl)<|pR<|bK<|aL<|aL<|bB<|ao rfl<|dF (cm 0<|.inl rfl)<|bB<|fP<|pR ?_
 refine mY (us:=[.int a1,.int a2,.int a3]) rfl<|ak<|ao rfl<|aD ?_
 refine hdt (p:=(a1,a2,a3)) (m:=m+n) (by lia) (s1.mono<|by lia) (sp.mono<|by lia) ?_;refine dj rfl<|bI<|bM<|aG<|ak<|lO<|ao rfl<|bK<|aL<|bB<|ao rfl<|dF (cm 1<|.inr<|.inl rfl)<|pR<|bK<|aL<|aL<|bB<|ao rfl<|dF (cm 1<|.inr<|.inl rfl)<|bB<|fP<|pR ?_
 refine mY (us:=[.int b1,.int b2,.int b3]) rfl<|ak<|ao rfl<|aD ?_
 refine hdt (p:=(b1,b2,b3)) (m:=m+n) (by lia) (s2.mono<|by lia) (sp.mono<|by lia) ?_;refine dj rfl<|bI<|bM<|aG<|ak<|lO<|ao rfl<|bK<|aL<|bB<|ao rfl<|dF (cm 2<|.inr<|.inr rfl)<|pR<|bK<|aL<|aL<|bB<|ao rfl<|dF (cm 2<|.inr<|.inr rfl)<|bB<|fP<|pR ?_
 refine mY (us:=[.int c1,.int c2,.int c3]) rfl<|ak<|ao rfl<|aD ?_
 refine hdt (p:=(c1,c2,c3)) (m:=m+n) (by lia) (s3.mono<|by lia) (sp.mono<|by lia) ?_;refine tB<|aD ?_
 refine hpl.tr (u:=vm ((a1,a2,a3),(b1,b2,b3),(c1,c2,c3)) p) (m:=m+n+2) (.inr rfl) v0 sv (by lia) fun t pt par st=>?_;exact uc<|k t ⟨pt,par⟩ st
def aa4 (c0:kI):Prop:=∀ {h:Gh} {M:Mt} {l:Tr} {m n:Nat} {Q:WK} {E:EY},m<=100->n<=7000->IW m M->Bw n l->det M≠0->Pl l->(∀ u,LdL M l u->Bw (m+m+n+4) u->Q (tw u) h)->c0 [mw M,tw l] h Q E
theorem afR {pl cr dt:kI}(hpl:qd pl)(hcr:tL cr)(hdt:qW dt):aa4 (jx pl cr dt):=by
 intro h M l m n Q E hm hn sM' sl d pl' k;have hc:det (Ja M)≠0:=by rw [show det (Ja M)=det (adj M) from (G6 (Ja M)).symm];exact lM d
 have v0:=uh hc pl'.ne;have sv:=uw (Eh sM') sl;obtain ⟨r1,r2,r3⟩:=M;have s1:=sM'.1;have s2:=sM'.2.1;have s3:=sM'.2.2;unfold jx;refine gD rfl (σ:=[Dn<|mw (r1,r2,r3),Dn<|tw l,FX,FX,FX,FX]) rfl ?_;refine aO<|aZ<|lO<|ao rfl<|bK<|bB<|pR<|bK<|bB<|pR<|mY (us:=[.int r1.1,.int r1.2.1,.int r1.2.2]) rfl ?_
 refine gW (σ':=[Dn<|mw (r1,r2,r3),Dn<|tw l,Dn<|tw r1,FX,FX,FX]) rfl<|cC ?_
 refine aO<|aZ<|lO<|ao rfl<|bK<|bB<|pR<|bK<|bB<|pR<|mY (us:=[.int r2.1,.int r2.2.1,.int r2.2.2]) rfl ?_
 refine gW (σ':=[Dn<|mw (r1,r2,r3),Dn<|tw l,Dn<|tw r1,Dn<|tw r2,FX,FX]) rfl<|cC ?_
 refine aO<|aZ<|lO<|ao rfl<|bK<|bB<|pR<|bK<|bB<|pR<|mY (us:=[.int r3.1,.int r3.2.1,.int r3.2.2]) rfl ?_
 refine gW (σ':=[Dn<|mw (r1,r2,r3),Dn<|tw l,Dn<|tw r1,Dn<|tw r2,Dn<|tw r3,FX]) rfl<|cC ?_
 refine aO<|aZ<|qC<|ak<|aG<|ak<|ao rfl<|ak<|ao rfl<|aD ?_
 refine hcr (m:=m) (by lia) s2 s3<|ak<|aG<|ak<|ao rfl<|ak<|ao rfl<|aD ?_
 refine hcr (m:=m) (by lia) s3 s1<|ak<|aG<|ak<|ao rfl<|ak<|ao rfl<|aD ?_
 refine hcr (m:=m) (by lia) s1 s2<|aD<|cV rfl ?_
 refine nV<|cC ?_
 refine cu<|aG<|ak<|lA<|nG<|ao rfl<|Gd rfl<|lD rfl ?_
 refine dj rfl<|bI<|bM<|aG<|ak<|ao rfl<|ak<|ao rfl<|aD ?_
 refine hdt (m:=m+m+1+n) (by lia) ((cj s2 s3).mono (by lia)) (sl.mono<|by lia) ?_;refine dj rfl<|bI<|bM<|aG<|ak<|ao rfl<|ak<|ao rfl<|aD ?_
 refine hdt (m:=m+m+1+n) (by lia) ((cj s3 s1).mono (by lia)) (sl.mono<|by lia) ?_;refine dj rfl<|bI<|bM<|aG<|ak<|ao rfl<|ak<|ao rfl<|aD ?_
 refine hdt (m:=m+m+1+n) (by lia) ((cj s1 s2).mono (by lia)) (sl.mono<|by lia) ?_;refine tB<|aD ?_
 refine hpl.tr (u:=vm (Ja (r1,r2,r3)) l) (m:=m+m+n+4) (.inr rfl) v0 (sv.mono<|by lia) (by lia) fun t pt par st=>?_;exact uc<|k t ⟨pt,par⟩ st
def l3 (p:Tr):W:=.lst [.int p.1,.int p.2.1,.int p.2.2]
def YM (c0:kI):Prop:=∀ {h:Gh} {p q r:Tr} {m:Nat} {Q:WK} {E:EY},m<=4000->Bw m p->Bw m q->Bw m r->Q (.int (dt3 (crs p q) r)) h->c0 [l3 p,l3 q,l3 r] h Q E
theorem Ys {h:Gh}{p q:Tr}{m:Nat}{Q:WK}{E:EY}(hm:m<=10000)(hp:Bw m p)(hq:Bw m q)(k:Q (tw (crs p q)) h):gB [l3 p,l3 q] h Q E:=by
 obtain ⟨a,b,c⟩:=p;obtain ⟨d,e,f⟩:=q;obtain ⟨h1,h2,h3⟩:=hp;obtain ⟨h4,h5,h6⟩:=hq;simp only at h1 h2 h3 h4 h5 h6;unfold gB l3;refine gD rfl (σ:=[Dn<|.lst [.int a,.int b,.int c],Dn<|.lst [.int d,.int e,.int f],FX,FX,FX,FX,FX,FX]) rfl ?_;refine aO<|aZ<|ao rfl<|z7 rfl rfl<|cD<|nV ?_
 refine cD<|nV ?_
 refine cD<|nV<|qM<|cC ?_
 refine aO<|aZ<|ao rfl<|z7 rfl rfl<|cD<|nV ?_
 refine cD<|nV ?_
 refine cD<|nV<|qM<|cC ?_
 rfl'
 exact k
theorem Yx {h:Gh}{p q:Tr}{m:Nat}{Q:WK}{E:EY}(hm:m<=10000)(hp:Bw m p)(hq:Bw m q)(k:Q (.int (dt3 p q)) h):nQ [tw p,l3 q] h Q E:=by
 obtain ⟨a,b,c⟩:=p;obtain ⟨d,e,f⟩:=q;obtain ⟨h1,h2,h3⟩:=hp;obtain ⟨h4,h5,h6⟩:=hq;simp only at h1 h2 h3 h4 h5 h6;unfold nQ l3;rfl'
 exact k
theorem ahz:YM (mO gB nQ):=by
 intro h p q r m Q E hm sp sq sr k;unfold mO;refine gD rfl (σ:=[Dn<|l3 p,Dn<|l3 q,Dn<|l3 r]) rfl ?_;refine cu<|aG<|ak<|aG<|ak<|ao rfl<|ak<|ao rfl<|aD ?_
 refine Ys (m:=m) (by lia) sp sq ?_;refine ak<|ao rfl<|aD ?_
 exact Yx (m:=m+m+1) (by lia) (cj sp sq) (sr.mono<|by lia)<|uc k
def acO (c0:kI):Prop:=∀ {h:Gh} {ns:List Int} {Q:WK} {E:EY},(∀ M,IW 35 M->det M≠0->Q (mw M) h)->c0 [.kls (ns.map .int)] h Q E
theorem YH {dr pl sm tu:kI}(hdr:nZ dr)(hpl:qd pl)(hsm:abZ sm)(htu:YM tu):acO (Az dr pl sm tu):=by
 intro h ns Q E k;have fin:∀ {s0:Option W} (M:Mt),IW 35 M->det M≠0->tU dr pl sm tu E { nx:=fun _ h'=>Q .non h',rt:=Q } [s0,Dn (Rp M)] h:=by
  intro s0 M sM' dM;unfold tU;rfl'
  refine hpl.mt (U:=M) (m:=35) (.inr rfl) dM sM' (by decide) fun N _ par sN=>?_;rfl'
  exact k N sN<|(Vs.det par).mp dM
 unfold Az;rfl'
 refine hdr (by decide) (by decide) (by decide) (by decide) fun xs hl=>?_;have hl:xs.length=9:=by lia
 rfl'
 refine lD (Nat.ble_eq_true_of_le (by rw [GJ];lia)) ?_;refine jz (fun i acc h'=>h'=h/\∃ ys:List Int,ys.length=i/\acc=ys.map W.int/\∀ y∈ys,Sm 35 y) ?_ ?_ ⟨rfl,[],rfl,rfl,fun y hy=>absurd hy<|by simp⟩
 ·rintro i w acc h' N hN ew ⟨rfl,ys,hy,rfl,hs⟩;rw [K8] at ew;obtain ⟨t,et,rfl⟩:=Ub.mp ew;refine ⟨[.int t],rfl,?_⟩;rfl'
  refine hsm fun y sy=>hN _ _ ⟨rfl,ys++[y],by simp [hy],by simp,fun z hz'=>?_⟩;rcases S8.mp hz' with hz' | hz'
  ·exact hs z hz'
  ·rw [Nb.mp hz'];exact sy
 ·rintro acc h' ⟨rfl,ys,hy,rfl,hs⟩;rw [GJ,hl] at hy;match ys,hy,hs with
  | [a,b,c,d,e,f,g,i,j],_,hs=>
   have h1:=hs a (by simp);have h2:=hs b (by simp);have h3:=hs c (by simp);have h4:=hs d (by simp);have h5:=hs e (by simp);have h6:=hs f (by simp);have h7:=hs g (by simp);have h8:=hs i (by simp);have h9:=hs j (by simp);have o1:Sm 35 1:=by unfold Sm;decide +kernel
   have o0:Sm 35 0:=by unfold Sm;decide +kernel
   simp only [List.map];refine nV ?_;refine aO<|dh<|bL<|aL<|aG<|ak<|lO<|ao rfl<|bK<|bB<|pR<|bK<|bB<|pR<|sW (us:=[.int a,.int b,.int c]) rfl ?_
   refine ak<|lO<|ao rfl<|bK<|bB<|pR<|bK<|bB<|pR<|sW (us:=[.int d,.int e,.int f]) rfl ?_
   refine ak<|lO<|ao rfl<|bK<|bB<|pR<|bK<|bB<|pR<|sW (us:=[.int g,.int i,.int j]) rfl<|aD ?_
   refine htu (p:=(a,b,c)) (q:=(d,e,f)) (r:=(g,i,j)) (m:=35) (by decide) ⟨h1,h2,h3⟩ ⟨h4,h5,h6⟩ ⟨h7,h8,h9⟩ ?_;refine bB<|wX<|qb ?_
   refine tZ (fun z=>?_) fun z=>?_
   ·rfl'
    exact fin ((1,b,c),(0,1,f),(0,0,1)) ⟨⟨o1,h2,h3⟩,⟨o0,o1,h6⟩,⟨o0,o0,o1⟩⟩ (by simp only [det,dt3,crs];lia)
   ·rfl'
    exact fin ((a,b,c),(d,e,f),(g,i,j)) ⟨⟨h1,h2,h3⟩,⟨h4,h5,h6⟩,⟨h7,h8,h9⟩⟩ z
theorem Ju {w:W}{us:List W}{lo hi:Option Int}{h:Gh}{Q:WK}(nt:∀ ws,w≠.tup ws)(e:cG h w=Dn us)(x:Q (.lst (Bc us lo hi)) h):qu w lo hi h Q:=by
 unfold qu;split
 ·rename_i ws;exact absurd rfl<|nt ws
 ·rw [e];exact x
theorem iQ.nt {h:Gh}{w:W}{ts:List Tr}(e:iQ h w ts):∀ ws,w≠.tup ws:=by
 intro ws z;rcases e with e | ⟨n,e,_⟩ <;> (rw [z] at e;cases e)
theorem iQ.keep {h g:Gh}{w:W}{ts:List Tr}(e:iQ h w ts)(l:∀ n,w=.loc n->n<h.nx)(k:∀ n,n<h.nx->g.c n=h.c n):iQ g w ts:=by
 rcases e with e | ⟨n,e,ec⟩
 ·exact .inl e
 ·exact .inr ⟨n,e,(k n<|l n e).trans ec⟩
def sdB (a b c d e x:Tr):Prop:=FN a b e*FN c d e*(FN a c x*FN b d x)=FN a c e*FN b d e*(FN a b x*FN c d x)
instance (a b c d e x:Tr):Decidable (sdB a b c d e x):=by unfold sdB;infer_instance
def acI (c0:kI):Prop:=∀ {h:Gh} {w:W} {a b c d e x:Tr} {Q:WK} {E:EY},iQ h w [a,b,c,d,e,x]->(∀ n,w=.loc n->n<h.nx)->MP 110 [a,b,c,d,e]->Bw 940 x->Q (.bl (decide (sdB a b c d e x))) h->c0 [w] h Q E
theorem aga {cr dt:kI}(hcr:tL cr)(hdt:qW dt):acI (qD cr dt):=by
 intro h w a b c d e x Q E sr lo ok sx k;have sa:=(ok a (by simp)).2;have sb:=(ok b (by simp)).2;have sc:=(ok c (by simp)).2;have sd:=(ok d (by simp)).2;have se:=(ok e (by simp)).2;have nt:=sr.nt;have pr:∀ {p q r:Tr},Bw 110 p->Bw 110 q->Bw 110 r->Sm 333 (dt3 (crs p q) r):=fun hp hq hr=>(iM (cj hp hq) hr).mono (by decide)
 have pr2:∀ {p q:Tr},Bw 110 p->Bw 110 q->Sm 1163 (dt3 (crs p q) x):=fun hp hq=>(iM (cj hp hq) sx).mono (by decide)
 have cut:Bc ([a,b,c,d,e,x].map tw) (Dn 4) FX=[tw e,tw x]:=rfl
 -- one lap
 have lap:∀ {g:Gh} {n:Nat} {us:List W} {q r:Tr} {i j:Nat} {D:bR} {E:EY} {s1 s4 s5:Option W},s1=Dn (.loc n)->iQ g w [a,b,c,d,e,x]->g.c n=Dn (.lst us)->us.length<=5->i<6->j<6->gt [a,b,c,d,e,x] i=q->gt [a,b,c,d,e,x] j=r->Bw 110 q->Bw 110 r ->
   (∀ (g2:Gh) s4 s5,g2.c n=Dn (.lst (us++[.lst [.int (dt3 (crs a q) e*dt3 (crs r d) e),.int (dt3 (crs a q) x*dt3 (crs r d) x)]]))->(∀ m,m≠n->g2.c m=g.c m)->g2.nx=g.nx->D.nx [Dn w,Dn (.loc n),Dn (.int (i:Int)),Dn (.int (j:Int)),s4,s5] g2) ->
   (aV (bx (aF cr E (aj (JI Aw (aq 0) (mC (.int 0))) (aj (JI Aw (aq 0) (aq 2)) aH))) (Mk 4))
  (aV (bx (aF cr E (aj (JI Aw (aq 0) (aq 3)) (aj (JI Aw (aq 0) (mC (.int 3))) aH))) (Mk 5))
  (gY (wg cI (aq 1) (aj (GC Gm [4,5] (Gi (LK qu (aq 0) (cP (mC (.int 4))) gR)) fU (JI bJ (aF dt E (aj (aq 1) (aj (aq 0) aH))) (aF dt E (aj (aq 2) (aj (aq 0) aH))))) aH))))) D [Dn w,s1,Dn (.int (i:Int)),Dn (.int (j:Int)),s4,s5] g:=by
  intro g n us q r i j D E s1 s4 s5 e1 sg ec hl hi hj eq er sq sr' fin;subst e1;refine aO<|aZ<|aG<|ak<|aL<|ao rfl<|bB ?_
  refine sg.at (i:=0) (by simp) ?_;refine ak<|aL<|ao rfl<|ao rfl ?_
  refine sg.at (i:=i) (by simpa using hi) ?_;rw [eq];refine aD ?_;refine hcr (p:=a) (m:=110) (by decide) sa sq ?_;refine nV<|cC ?_
  refine aO<|aZ<|aG<|ak<|aL<|ao rfl<|ao rfl ?_
  refine sg.at (i:=j) (by simpa using hj) ?_;rw [er];refine ak<|aL<|ao rfl<|bB ?_
  refine sg.at (i:=3) (by simp) ?_;refine aD ?_;refine hcr (p:=r) (q:=d) (m:=110) (by decide) sr' sd ?_;refine nV<|cC ?_
  refine kW<|uR<|ao rfl<|nT ec<|ak<|lA<|nG<|lO<|ao rfl<|bK<|bB<|pR<|gn ?_
  refine Ju nt sg.vl ?_;rw [cut];refine Gd rfl<|lD rfl ?_
  refine dj rfl<|bI<|bM<|aL<|aG<|ak<|ao rfl<|ak<|ao rfl<|aD ?_
  refine hdt (p:=crs a q) (q:=e) (m:=221) (by decide) (cj sa sq) (se.mono<|by decide) ?_;refine aG<|ak<|ao rfl<|ak<|ao rfl<|aD ?_
  refine hdt (p:=crs r d) (q:=e) (m:=221) (by decide) (cj sr' sd) (se.mono<|by decide) ?_;refine dF (.of (pr sa sq se) (pr sr' sd se) (by decide)<|by decide) ?_;refine dj rfl<|bI<|bM<|aL<|aG<|ak<|ao rfl<|ak<|ao rfl<|aD ?_
  refine hdt (p:=crs a q) (q:=x) (m:=940) (by decide) ((cj sa sq).mono (by decide)) sx ?_;refine aG<|ak<|ao rfl<|ak<|ao rfl<|aD ?_
  refine hdt (p:=crs r d) (q:=x) (m:=940) (by decide) ((cj sr' sd).mono (by decide)) sx ?_;refine dF (.of (pr2 sa sq) (pr2 sr' sd) (by decide)<|by decide) ?_;refine tB<|aD ?_
  refine JN ec (by lia) fun g2 e2 o2 x2=>?_;exact cC<|fin g2 _ _ e2 o2 x2
 unfold qD;refine uF rfl (σ:=[Dn w,FX,FX,FX,FX,FX]) rfl ?_;refine aO<|aZ<|vB (ws:=[]) (fun R=>rfl) rfl fun g eg og xg=>?_
 refine nV<|cC ?_
 have sg:iQ g w [a,b,c,d,e,x]:=sr.keep lo fun n hn=>og n (HI hn)
 refine aO<|pH<|nG<|qC<|ak<|j5<|ak<|bB<|ak<|bB<|aD<|cV rfl ?_
 refine ak<|j5<|ak<|bB<|ak<|bB<|aD<|cV rfl<|aD<|cV rfl<|Gd rfl<|oN ?_
 refine wG<|rF rfl rfl<|cD<|nV ?_
 refine cD<|nV<|qM ?_
 refine lap (i:=1) (j:=2) (q:=b) (r:=c) rfl sg eg (by decide) (by decide) (by decide) rfl rfl sb sc fun g2 s4 s5 e2 o2 x2=>?_;have sg2:iQ g2 w [a,b,c,d,e,x]:=sr.keep lo fun n hn=>(o2 n (HI hn)).trans (og n (HI hn))
 refine cC ?_;refine wG<|rF rfl rfl<|cD<|nV ?_
 refine cD<|nV<|qM ?_
 refine lap (i:=2) (j:=1) (q:=c) (r:=b) rfl sg2 e2 (by simp) (by decide) (by decide) rfl rfl sc sb fun g3 s4 s5 e3 o3 x3=>?_;refine cC ?_;refine Ao<|cC ?_
 simp only [List.nil_append,List.cons_append] at e3;unfold qI;have v3:view g3 (.loc h.nx)=Dn [.lst [.int (dt3 (crs a b) e*dt3 (crs c d) e),.int (dt3 (crs a b) x*dt3 (crs c d) x)],.lst [.int (dt3 (crs a c) e*dt3 (crs b d) e),.int (dt3 (crs a c) x*dt3 (crs b d) x)]]:=by simp only [view,cG,e3]
 have m1:∀ {p q r s:Tr},Bw 110 p->Bw 110 q->Bw 110 r->Bw 110 s->Sm 666 (dt3 (crs p q) e*dt3 (crs r s) e):=fun hp hq hr hs=>(pr hp hq se).mul (pr hr hs se)
 have m2:∀ {p q r s:Tr},Bw 110 p->Bw 110 q->Bw 110 r->Bw 110 s->Sm 2326 (dt3 (crs p q) x*dt3 (crs r s) x):=fun hp hq hr hs=>(pr2 hp hq).mul (pr2 hr hs)
 refine cu<|aL<|aL<|aL<|aL<|ao rfl<|bB<|fC v3 (cF (j:=0) rfl)<|bB<|fC (ws:=[_,_]) rfl (cF (j:=0) rfl) ?_
 refine aL<|aL<|ao rfl<|bB<|fC v3 (cF (j:=1) rfl)<|bB<|fC (ws:=[_,_]) rfl (cF (j:=1) rfl) ?_
 refine dF (.of (m1 sa sb sc sd) (m2 sa sc sb sd) (by decide)<|by decide) ?_;refine aL<|aL<|aL<|ao rfl<|bB<|fC v3 (cF (j:=1) rfl)<|bB<|fC (ws:=[_,_]) rfl (cF (j:=0) rfl) ?_
 refine aL<|aL<|ao rfl<|bB<|fC v3 (cF (j:=0) rfl)<|bB<|fC (ws:=[_,_]) rfl (cF (j:=1) rfl) ?_
 refine dF (.of (m1 sa sc sb sd) (m2 sa sb sc sd) (by decide)<|by decide) ?_;refine wX<|uc ⟨fun n c hn e=>by rw [o3 n<|HI hn,o2 n<|HI hn,og n<|HI hn];exact e,.inl ⟨by simp [Lo],k⟩⟩
def Mf (t:Nat×Nat×Nat):W:=.tup [.int (t.1:Int),.int (t.2.1:Int),.int (t.2.2:Int)]
def Np (ts:List Tr)(t:Nat×Nat×Nat):Bool:=decide (dt3 (crs (gt ts t.1) (gt ts t.2.1)) (gt ts t.2.2)=0)
def tri:List (Nat×Nat×Nat):=[(0,1,2),(0,1,3),(0,2,3),(1,2,3),(0,1,4),(0,2,4),(1,2,4),(0,3,4),(1,3,4),(2,3,4)]
def thr (ts:List Tr):List (Nat×Nat×Nat):=tri.filter (Np ts)
def Nz (c0:kI):Prop:=∀ {h:Gh} {w:W} {ts:List Tr} {Q:WK} {E:EY},iQ h w ts->(∀ n,w=.loc n->n<h.nx)->5<=ts.length->(∀ i,i<5->Bw 110 (gt ts i))->Q (.lst ((thr ts).map Mf)) h->c0 [w] h Q E
theorem Qk (k:Nat):∀ ts:List (Nat×Nat×Nat),Kv k (ts.map Mf)
 | []=>by simp [Kv]
 | t::ts=>by
  simp only [Lj,Kv];exact ⟨by simp [Mf,Lo,Kv],Qk k ts⟩
theorem aeI {tu:kI}(htu:Iu tu):Nz (nH tu):=by
 intro h w ts Q E sr lo hl sm q
 -- one lap
 have lap:∀ {g:Gh} {D:bR} {E:EY} {us:List (Nat×Nat×Nat)} (t:Nat×Nat×Nat) {s2 s3 s4:Option W},s2=Dn (.int (t.2.2:Int))->s3=Dn (.int (t.2.1:Int))->s4=Dn (.int (t.1:Int))->t.1<5->t.2.1<5->t.2.2<5->iQ g w ts->g.c h.nx=Dn (.lst (us.map Mf))->us.length<=20 ->
   (∀ g2:Gh,g2.c h.nx=Dn (.lst ((us++[t].filter (Np ts)).map Mf))->(∀ m,m≠h.nx->g2.c m=g.c m)->g2.nx=g.nx->D.nx [Dn w,Dn (.loc h.nx),Dn (.int (t.2.2:Int)),Dn (.int (t.2.1:Int)),Dn (.int (t.1:Int))] g2) ->
   (fY (bG (JI JV (aF tu E (aj (JI Aw (aq 0) (aq 4)) (aj (JI Aw (aq 0) (aq 3)) (aj (JI Aw (aq 0) (aq 2)) aH)))) (mC (.int 0)))) (gY (wg cI (aq 1) (aj (qy (aj (aq 4) (aj (aq 3) (aj (aq 2) aH)))) aH))) bV) D [Dn w,Dn (.loc h.nx),s2,s3,s4] g:=by
  intro g D E us t s2 s3 s4 e2 e3 e4 h1 h2 h3 sg ec ul fin;subst e2 e3 e4;refine dh<|bL<|aL<|aG<|ak<|aL<|ao rfl<|ao rfl<|sg.at (by lia) ?_
  refine ak<|aL<|ao rfl<|ao rfl<|sg.at (by lia) ?_
  refine ak<|aL<|ao rfl<|ao rfl<|sg.at (by lia)<|aD ?_
  refine htu (m:=110) (by decide) (sm _ h1) (sm _ h2) (sm _ h3) ?_;refine bB<|wX<|qb ?_
  have ef:[t].filter (Np ts)=if dt3 (crs (gt ts t.1) (gt ts t.2.1)) (gt ts t.2.2)=0 then [t] else []:=by
   simp only [List.filter,Np];split <;> simp_all
  rw [ef] at fin;refine tZ (fun z=>?_) fun z=>?_
  ·rw [if_pos z,Sd] at fin;refine kW<|uR<|ao rfl<|nT ec<|ak<|j5<|ak<|ao rfl<|ak<|ao rfl<|ak<|ao rfl<|aD<|cV rfl<|aD ?_
   refine JN ec (by rw [GJ];lia) fun g2 eg og xg=>?_;exact cC<|fin g2 eg og xg
  ·rw [if_neg z,Uk] at fin;exact cC<|fin g ec (fun _ _=>rfl) rfl
 unfold nH;refine uF rfl (σ:=[Dn w,FX,FX,FX,FX]) rfl ?_;refine aO<|aZ<|vB (ws:=[]) (fun R=>rfl) rfl fun g eg og xg=>?_
 refine nV<|cC ?_
 have keep:∀ {g2:Gh},(∀ n,n<h.nx->g2.c n=h.c n)->iQ g2 w ts:=fun k=>sr.keep lo k
 have k0:∀ n,n<h.nx->g.c n=h.c n:=fun n hn=>og n (HI hn)
 refine aO<|pH<|kO<|ak<|bB<|aD<|Jl (m:=5) (by decide)<|oN ?_
 -- the loops, one behind another
 refine j9 (fun i σ g'=>∃ s2 s3 s4,σ = [Dn w,Dn<|.loc h.nx,s2,s3,s4]/\g'.c h.nx=Dn (.lst<|((tri.filter fun t=>decide<|t.2.2<i).filter (Np ts)).map Mf)/\∀ n,n<h.nx->g'.c n=h.c n) ?_ ?_ ⟨_,_,_,rfl,eg,k0⟩
 ·rintro i wi σ g1 N hN ei ⟨s2,s3,s4,rfl,c1,k1⟩;rw [K8] at ei;obtain ⟨i',ei',rfl⟩:=Ub.mp ei;obtain ⟨e',hi⟩:=qJ ei';rw [T7] at e';subst e';refine nV ?_;refine pH<|kO<|ak<|ao rfl<|aD<|Jl (by lia)<|oN ?_
  refine j9 (fun j σ g'=>∃ s3 s4,σ = [Dn w,Dn<|.loc h.nx,Dn<|.int (i':Int),s3,s4]/\g'.c h.nx=Dn (.lst<|((tri.filter fun t=>decide<|t.2.2<i'\/t.2.2=i'/\t.2.1<j).filter (Np ts)).map Mf)/\∀ n,n<h.nx->g'.c n=h.c n) ?_ ?_ ⟨_,_,rfl,by simpa using c1,k1⟩
  ·rintro j wj σ g2 N2 hN2 ej ⟨s3,s4,rfl,c2,k2⟩;rw [K8] at ej;obtain ⟨j',ej',rfl⟩:=Ub.mp ej;obtain ⟨e',hj⟩:=qJ ej';rw [T7] at e';subst e';refine nV ?_;refine pH<|kO<|ak<|ao rfl<|aD<|Jl (by lia)<|oN ?_
   refine j9 (fun k σ g'=>∃ s4,σ = [Dn w,Dn<|.loc h.nx,Dn<|.int (i':Int),Dn<|.int (j':Int),s4]/\g'.c h.nx=Dn (.lst<|((tri.filter fun t=>decide<|t.2.2<i'\/t.2.2=i'/\(t.2.1<j'\/t.2.1=j'/\t.1<k)).filter (Np ts)).map Mf)/\∀ n,n<h.nx->g'.c n=h.c n) ?_ ?_ ⟨_,rfl,by simpa using c2,k2⟩
   ·rintro k wk σ g3 N3 hN3 ek ⟨s4,rfl,c3,k3⟩;rw [K8] at ek;obtain ⟨k',ek',rfl⟩:=Ub.mp ek;obtain ⟨e',hk⟩:=qJ ek';rw [T7] at e';subst e';refine nV ?_;have tl:((tri.filter fun t=>decide (t.2.2<i'\/t.2.2=i'/\(t.2.1<j'\/t.2.1=j'/\t.1<k'))).filter (Np ts)).length<=20:=Hj (Uu _ _) (Hj (Uu _ _) (by decide));refine lap (k',j',i') rfl rfl rfl (by show k'<5;lia) (by show j'<5;lia) (by show i'<5;lia) (keep k3) c3 tl fun g4 c4 o4 x4=>?_;refine cC<|hN3 _ _ ⟨_,rfl,?_,fun n hn=>(o4 n<|HI hn).trans (k3 n hn)⟩
    rw [c4,<-List.filter_append];have fin:∀ i j k:Nat,i<5->j<i->k<j->(tri.filter fun t=>decide (t.2.2<i\/t.2.2=i/\(t.2.1<j\/t.2.1=j/\t.1<k)))++[(k,j,i)]=tri.filter fun t=>decide (t.2.2<i\/t.2.2=i/\(t.2.1<j\/t.2.1=j/\t.1<k+1)):=by
     intro i j k hi hj hk;rcases (show i=0\/i=1\/i=2\/i=3\/i=4 by lia) with rfl | rfl | rfl | rfl | rfl <;> rcases (show j=0\/j=1\/j=2\/j=3 by lia) with rfl | rfl | rfl | rfl <;> rcases (show k=0\/k=1\/k=2 by lia) with rfl | rfl | rfl <;> first | lia | decide
    rw [fin i' j' k' (by lia) (by lia) (by lia)]
   ·rintro σ g3 ⟨s4,rfl,c3,k3⟩;refine hN2 _ _ ⟨_,_,rfl,?_,k3⟩;have hz:((rng 0 j').map fun x:Nat=>W.int (x:Int)).length=j':=by
     rw [GJ];unfold rng;rw [U4];lia
    rw [hz] at c3;rw [c3];have fin:∀ i j:Nat,i<5->j<i->(tri.filter fun t=>decide (t.2.2<i\/t.2.2=i/\(t.2.1<j\/t.2.1=j/\t.1<j)))=tri.filter fun t=>decide (t.2.2<i\/t.2.2=i/\t.2.1<j+1):=by
     intro i j hi hj;rcases (show i=0\/i=1\/i=2\/i=3\/i=4 by lia) with rfl | rfl | rfl | rfl | rfl <;> rcases (show j=0\/j=1\/j=2\/j=3 by lia) with rfl | rfl | rfl | rfl <;> first | lia | decide
    rw [fin i' j' (by lia) (by lia)]
  ·rintro σ g2 ⟨s3,s4,rfl,c2,k2⟩;refine hN _ _ ⟨_,_,_,rfl,?_,k2⟩;have hz:((rng 0 i').map fun x:Nat=>W.int (x:Int)).length=i':=by
    rw [GJ];unfold rng;rw [U4];lia
   rw [hz] at c2;rw [c2];have fin:∀ i:Nat,i<5->(tri.filter fun t=>decide (t.2.2<i\/t.2.2=i/\t.2.1<i))=tri.filter fun t=>decide (t.2.2<i+1):=by
    intro i hi;rcases (show i=0\/i=1\/i=2\/i=3\/i=4 by lia) with rfl | rfl | rfl | rfl | rfl <;> decide
   rw [fin i' (by lia)]
 ·rintro σ g' ⟨s2,s3,s4,rfl,c1,k1⟩;have e5:(tri.filter fun t=>decide (t.2.2<((rng 0 5).map fun x:Nat=>W.int (x:Int)).length))=tri:=by decide
  rw [e5] at c1;unfold oM;refine cC ?_;refine cu<|ao rfl<|uc ⟨fun n c hn e=>by rw [k1 n hn];exact e,.inr ⟨_,_,rfl,Ge _,c1,Qk _ _,q⟩⟩
theorem Kg {ts:List Tr}{t:Nat×Nat×Nat}:t∈thr ts↔t∈tri/\dt3 (crs (gt ts t.1) (gt ts t.2.1)) (gt ts t.2.2)=0:=by
 unfold thr;rw [T9];simp only [Np,decide_eq_true_eq]
theorem agI {a b c d e:Tr}{ts:List Tr}(h0:gt ts 0=a)(h1:gt ts 1=b)(h2:gt ts 2=c)(h3:gt ts 3=d)(h4:gt ts 4=e):thr ts=[]↔Five a b c d e:=by
 constructor
 ·intro h;have n:∀ t,t∈tri->dt3 (crs (gt ts t.1) (gt ts t.2.1)) (gt ts t.2.2)≠0:=fun t ht z=>by
   have:=Kg.mpr ⟨ht,z⟩
   rw [h] at this;cases this
  have n1:=n (0,1,2) (by decide);have n2:=n (0,1,3) (by decide);have n3:=n (0,1,4) (by decide);have n4:=n (0,2,3) (by decide);have n5:=n (0,2,4) (by decide);have n6:=n (0,3,4) (by decide);have n7:=n (1,2,3) (by decide);have n8:=n (1,2,4) (by decide);have n9:=n (1,3,4) (by decide);have n10:=n (2,3,4) (by decide);simp only [h0,h1,h2,h3,h4] at n1 n2 n3 n4 n5 n6 n7 n8 n9 n10;exact wL n1 n2 n3 n4 n5 n6 n7 n8 n9 n10
 ·intro F;obtain ⟨t1,t2,t3,t4,t5,t6,t7,t8,t9,t10⟩:=dg F;refine List.eq_nil_iff_forall_not_mem.mpr fun t ht=>?_;obtain ⟨m,z⟩:=Kg.mp ht;unfold tri at m;simp only [Fe,Fx,or_false] at m;rcases m with rfl | rfl | rfl | rfl | rfl | rfl | rfl | rfl | rfl | rfl <;> simp only [h0,h1,h2,h3,h4] at z
  ·exact t1 z
  ·exact t2 z
  ·exact t4 z
  ·exact t7 z
  ·exact t3 z
  ·exact t5 z
  ·exact t8 z
  ·exact t6 z
  ·exact t9 z
  ·exact t10 z
def Ph (ts:List Tr)(o:Nat):Nat:=((thr ts).filter fun t=>decide (o≠t.1/\o≠t.2.1/\o≠t.2.2)).length
theorem ahf (ts:List Tr){o:Nat}(ho:o<5):Ph ts o<=4:=by
 unfold Ph thr;rw [List.filter_filter];have e:(tri.filter fun t=>(decide (o≠t.1/\o≠t.2.1/\o≠t.2.2))&&Np ts t)=(tri.filter fun t=>decide (o≠t.1/\o≠t.2.1/\o≠t.2.2)).filter (Np ts):=by
  rw [List.filter_filter];congr 1
  funext t;exact Bool.and_comm _ _
 rw [e];refine Hj (Uu _ _) ?_;rcases (show o=0\/o=1\/o=2\/o=3\/o=4 by lia) with rfl | rfl | rfl | rfl | rfl <;> decide
theorem zaz {ts:List Tr}{o:Nat}(ho:o<5)(h:∀ t∈tri,(o≠t.1/\o≠t.2.1/\o≠t.2.2)->dt3 (crs (gt ts t.1) (gt ts t.2.1)) (gt ts t.2.2)=0):Ph ts o=4:=by
 unfold Ph thr;rw [List.filter_filter];have e:(tri.filter fun t=>(decide (o≠t.1/\o≠t.2.1/\o≠t.2.2))&&Np ts t)=tri.filter fun t=>decide (o≠t.1/\o≠t.2.1/\o≠t.2.2):=by
  refine List.filter_congr fun t ht=>?_;by_cases z:o≠t.1/\o≠t.2.1/\o≠t.2.2
  ·rw [decide_eq_true z,Bool.true_and];unfold Np;exact decide_eq_true<|h t ht z
  ·rw [decide_eq_false z,Bool.false_and]
 rw [e];rcases (show o=0\/o=1\/o=2\/o=3\/o=4 by lia) with rfl | rfl | rfl | rfl | rfl <;> decide
theorem agZ {a b c d e:Tr}(pl:∀ t∈[a,b,c,d,e],Pl t)(nd:[a,b,c,d,e].Nodup)(h:∀ o,o<5->Ph [a,b,c,d,e] o≠4):zQ [a,b,c,d,e]=false:=by
 simp only [Fe,Fx,or_false,forall_eq_or_imp,forall_eq] at pl;obtain ⟨pa,pb,pc,pd,pe⟩:=pl;simp only [N7,Fe,Fx,or_false,not_or,not_false_eq_true,SX,and_true] at nd;obtain ⟨⟨ab,ac,ad,ae⟩,⟨bc,bd,be⟩,⟨cd,ce⟩,de⟩:=nd;have key:∀ {p q r s:Tr} (o:Nat),o<5->Pl p->Pl q->p≠q->((FN p q r=0/\FN p q s=0/\FN p r s=0/\FN q r s=0)->∀ t∈tri,(o≠t.1/\o≠t.2.1/\o≠t.2.2)->dt3 (crs (gt [a,b,c,d,e] t.1) (gt [a,b,c,d,e] t.2.1)) (gt [a,b,c,d,e] t.2.2)=0)->dH [p,q,r,s]=false:=by
  intro p q r s o ho pp pq ne hz;cases hf:dH [p,q,r,s] with
  | false=>rfl
  | true=>exact absurd (zaz ho (hz ((pW pp pq ne).mp hf))) (h o ho)
 have sel:∀ {P:Nat×Nat×Nat->Prop} {o:Nat},o<5->(∀ t∈tri.filter (fun t=>decide (o≠t.1/\o≠t.2.1/\o≠t.2.2)),P t)->∀ t∈tri,(o≠t.1/\o≠t.2.1/\o≠t.2.2)->P t:=fun _ hp t ht hn=>hp t (T9.mpr ⟨ht,decide_eq_true hn⟩)
 rw [Yk,key (p:=a) (q:=b) (r:=c) (s:=d) 4 (by decide) pa pb ab fun z=>sel (by decide) ?_,key (p:=a) (q:=b) (r:=c) (s:=e) 3 (by decide) pa pb ab fun z=>sel (by decide) ?_,key (p:=a) (q:=b) (r:=d) (s:=e) 2 (by decide) pa pb ab fun z=>sel (by decide) ?_,key (p:=a) (q:=c) (r:=d) (s:=e) 1 (by decide) pa pc ac fun z=>sel (by decide) ?_,key (p:=b) (q:=c) (r:=d) (s:=e) 0 (by decide) pb pc bc fun z=>sel (by decide) ?_]
 ·rfl
 all_goals
  intro t ht;obtain ⟨z1,z2,z3,z4⟩:=z;unfold FN at z1 z2 z3 z4;simp [tri,List.filter] at ht;rcases ht with rfl | rfl | rfl | rfl
  ·exact z1
  ·exact z2
  ·exact z3
  ·exact z4
def cn (l:List Tr)(t:Tr):Nat:=l.countP fun u=>decide (u=t)
def agH (p q r s:Tr):Prop:=(p=q/\q=r)\/(p=q/\q=s)\/(p=r/\r=s)\/(q=r/\r=s)
instance (p q r s:Tr):Decidable (agH p q r s):=inferInstanceAs (Decidable (_\/_))
theorem KJ {x:W}{ts:List Tr}{t:Tr}{h:Gh}{Q:WK}(e:cG h x=Dn (ts.map tw))(k:Q (.int (cn ts t:Int)) h):yH x [tw t] h Q:=by
 have ea:(ts.map tw).all (GR 20)=true:=by
  rw [Q0];intro w hw;obtain ⟨u,_,rfl⟩:=MF.mp hw;exact Lw 19 u
 have ec:(ts.map tw).countP (fun u=>Fo u (tw t))=cn ts t:=by
  unfold cn;rw [List.countP_map];congr 1
  funext u;exact FQ u t
 show (match cG h x with
  | some us=>Hi (GR 20 (tw t)&&us.all (GR 20)) (Q (.int (us.countP fun u=>Fo u (tw t))) h) False
  | none=>False)
 rw [e];dsimp only;rw [Lw 19,ea,ec];exact k
theorem Es:∀ {ts:List Tr},(∀ t∈ts,cn ts t<=1)->ts.Nodup
 | [],_=>SX
 | t::ts,h=>by
  have h1:=h t (by simp);have e:∀ u,cn (t::ts) u=cn ts u+if t=u then 1 else 0:=fun u=>by
   unfold cn;rw [List.countP_cons];simp
  refine N7.mpr ⟨fun m=>?_,Es fun u hu=>?_⟩
  ·rw [e,if_pos rfl] at h1;have z:cn ts t=0:=by lia
   have:0<cn ts t:=List.countP_pos_iff.mpr ⟨t,m,by simp⟩
   lia
  ·have:=h u (by simp [hu])
   rw [e] at this;lia
theorem aer {u v:Int}(hu:2<=u)(hv:4<=v):[((1,0,0):Tr),(0,1,0),(0,0,1),(1,1,1),(u,v,1)].Nodup/\zQ [((1,0,0):Tr),(0,1,0),(0,0,1),(1,1,1),(u,v,1)]=false/\Pl (u,v,1):=by
 have p1:Pl (1,0,0):=⟨by decide,by decide⟩
 have p2:Pl (0,1,0):=⟨by decide,by decide⟩
 have p3:Pl (0,0,1):=⟨by decide,by decide⟩
 have p:Pl (u,v,1):=by
  refine ⟨?_,by show (0:Int)<1;decide⟩;have d:gL (tl (u,v,1)) ∣ 1:=Ie 1 (by simp [tl]);have n:=Uo (tl (u,v,1));have:=Int.le_of_dvd (by decide) d
  have:gL (tl (u,v,1))≠0:=fun z=>by rw [z] at d;exact absurd (Int.zero_dvd.mp d) (by decide)
  lia
 refine ⟨?_,?_,p⟩
 ·simp only [N7,Fe,Fx,or_false,not_or,Mx,not_false_eq_true,SX,and_true];lia
 ·have key:∀ {p q r s:Tr},Pl p->Pl q->p≠q->FN p q r≠0->dH [p,q,r,s]=false:=by
   intro p q r s pp pq ne hz;cases hf:dH [p,q,r,s] with
   | false=>rfl
   | true=>exact absurd ((pW pp pq ne).mp hf).1 hz
  rw [Yk,key p1 p2 (by decide) (by decide),key p1 p2 (by decide) (by decide),key p1 p2 (by decide) (by decide),key p1 p3 (by decide) (by decide),key p2 p3 (by decide) (by decide)];rfl
theorem ZK {x y z:Int}{h:Gh}{Q:WK}(k:∀ M:Int,(M>0↔(x,y,z)≠((0,0,0):Tr))->Q (.int M) h):uo [.lst [.int (if x<0 then -x else x),.int (if y<0 then -y else y),.int (if z<0 then -z else z)]] h Q:=by
 refine ⟨[(if x<0 then -x else x),(if y<0 then -y else y),(if z<0 then -z else z)],rfl,Nat.succ_pos _,fun M hM hle=>?_⟩;have:=Hf hM hle
 refine k M ⟨fun g e=>?_,fun ne=>?_⟩
 ·have:=this.1.mpr e
  lia
 ·have h0:M≠0:=fun z=>ne (this.1.mp z)
  lia
def bd9 (dr pl ma:kI)(E:EY):MS:=(aV (bx (aF dr E (aj (aq 0) (aj (aq 2) (aj (mC (.int 6)) aH)))) (Mk 3))
  (aV (bx (aF ma E (aj (LK qu (aq 3) (cP (mC (.int 1))) (cP (mC (.int 4)))) aH)) (Mk 4))
  (aV (fY (X6 (bG (JI JV (JI je (JI Aw (aq 3) (mC (.int 0))) (mC (.int 8))) (mC (.int 2)))) (bG (JI Ob (aq 2) (mC (.int 1))))) (aV (bx (GC (Ro 2) [3] (P0 (aj (JI Aw (aq 1) (mC (.int 0))) (aj (JI Aw (aq 1) (JI pJ (aq 2) (mC (.int 1)))) aH))) fU (JI bD (JI bJ (JI je (JI Aw (aq 2) (mC (.int 4))) (mC (.int 5))) (aq 0)) (JI bJ (JI bD (mC (.int 1)) (JI je (JI Aw (aq 2) (mC (.int 5))) (mC (.int 4)))) (aq 1)))) (Mk 5))
  (fY (bG (JI Ob (HN uo (aj (GC Gm [] (Gi (aq 5)) fU (HN Ds (aj (aq 0) aH))) aH)) (mC (.int 0)))) (bx (aF pl E (aj (aq 5) aH)) (Mk 4)) bV)) bV)
  (gY (wg cI (aq 1) (aj (aq 4) aH))))))
theorem aaz {dr pl ma:kI}(hdr:nZ dr)(hpl:qd pl)(hma:wY ma){E:EY}{D:bR}{h:Gh}{ns:List Int}{n i:Nat}{ts:List Tr}{s3 s4 s5 s6 s7 s8 s9 s10 s11:Option W}(ec:h.c n=Dn (.lst (ts.map tw)))(hl:ts.length=i)(hi:i<5)(hs:∀ j,j<i->Pl (gt ts j)/\Bw (35+4*j) (gt ts j))
  (k:∀ (t:Tr) (g:Gh) s3 s4 s5,Pl t->Bw (35+4*i) t->g.c n=Dn (.lst ((ts++[t]).map tw))->(∀ m,m≠n->g.c m=h.c m)->g.nx=h.nx->D.nx [Dn (.kls (ns.map .int)),Dn (.loc n),Dn (.int (i:Int)),s3,s4,s5,s6,s7,s8,s9,s10,s11] g) :
  bd9 dr pl ma E D [Dn (.kls (ns.map .int)),Dn (.loc n),Dn (.int (i:Int)),s3,s4,s5,s6,s7,s8,s9,s10,s11] h:=by
 unfold bd9;refine aO<|aZ<|aG<|ak<|ao rfl<|ak<|ao rfl<|ak<|bB<|aD ?_
 refine hdr (by lia) (by lia) (by decide) (by decide) fun xs hx=>?_;have hx:xs.length=6:=by lia
 match xs,hx with
 | [x0,x1,x2,x3,x4,x5],_=>
  refine nV<|cC ?_
  refine aO<|aZ<|aG<|ak<|lO<|ao rfl<|bK<|bB<|pR<|bK<|bB<|pR<|sW (us:=[.int x1,.int x2,.int x3]) rfl<|aD ?_
  refine hma fun t pt st=>?_;refine nV<|cC ?_
  have src:iQ h (.loc n) ts:=.inr ⟨n,rfl,ec⟩;have last:∀ {s5:Option W} (u:Tr),Pl u->Bw (35+4*i) u->gY (wg cI (aq 1) (aj (aq 4) aH)) D [Dn (.kls (ns.map .int)),Dn (.loc n),Dn (.int (i:Int)),Dn (.lst ([x0,x1,x2,x3,x4,x5].map .int)),Dn (tw u),s5,s6,s7,s8,s9,s10,s11] h:=by
   intro s5 u pu su;refine kW<|uR<|ao rfl<|nT ec<|ak<|ao rfl<|aD ?_
   refine JN ec (by rw [GJ];lia) fun g2 e2 o2 x2=>?_;exact cC<|k u g2 _ _ _ pu su (by rw [e2];simp) o2 x2
  refine aO<|dh<|JZ<|bL<|aL<|aL<|aL<|ao rfl<|bB<|fC (ws:=[x0,x1,x2,x3,x4,x5].map .int) rfl (cF (j:=0) rfl)<|bB<|dO (by decide)<|bB<|wX<|qb ?_
  refine tZ (fun _=>?_) fun _=>?_
  rotate_left
  ·exact rZ<|cC<|last t pt<|st.mono<|by lia
  refine bL<|aL<|ao rfl<|bB<|Li<|qb ?_
  refine tZ (fun h1=>?_) fun _=>?_
  rotate_left
  ·exact cC<|last t pt<|st.mono<|by lia
  obtain ⟨p0,s0⟩:=hs 0 (by lia);obtain ⟨p1,s1⟩:=hs (i - 1) (by lia);refine aO<|aZ<|lA<|JH<|ak<|aL<|ao rfl<|bB<|src.at (i:=0) (by lia) ?_
  refine ak<|aL<|ao rfl<|aL<|ao rfl<|bB<|uO ?_
  rw [show (i:Int) - 1=((i - 1:Nat):Int) by lia];refine src.at (i:=i - 1) (by lia)<|aD ?_
  generalize gt ts 0=u at *;generalize gt ts (i - 1)=v at *;obtain ⟨u1,u2,u3⟩:=u;obtain ⟨v1,v2,v3⟩:=v;obtain ⟨su1,su2,su3⟩:=s0;obtain ⟨sv1,sv2,sv3⟩:=s1;simp only at su1 su2 su3 sv1 sv2 sv3;have b4:=dI x4 (b:=5) (by decide);have b5:=dI x5 (b:=4) (by decide);have c4:Sm 3 (x4.fmod 5):=nJ (by lia) (by lia);have c5:Sm 3 (1+x5.fmod 4):=nJ (by lia) (by lia);have el:∀ {a b:Int} {R:WK},Sm 35 a->Sm (35+4*(i - 1)) b->R (.int (x4.fmod 5*a+(1+x5.fmod 4)*b)) h->(JI bD (JI bJ (JI je (JI Aw (aq 2) (mC (.int 4))) (mC (.int 5))) (aq 0)) (JI bJ (JI bD (mC (.int 1)) (JI je (JI Aw (aq 2) (mC (.int 5))) (mC (.int 4)))) (aq 1))) [Dn (.int a),Dn (.int b),Dn (.lst ([x0,x1,x2,x3,x4,x5].map .int))] h R:=by
   intro a b R sa sb q;refine aL<|aL<|aL<|aL<|ao rfl<|bB<|fC (ws:=[x0,x1,x2,x3,x4,x5].map .int) rfl (cF (j:=4) rfl)<|bB<|dO (by decide)<|ao rfl<|dF (.of c4 sa (by decide)<|by decide) ?_
   refine aL<|aL<|bB<|aL<|aL<|ao rfl<|bB<|fC (ws:=[x0,x1,x2,x3,x4,x5].map .int) rfl (cF (j:=5) rfl)<|bB<|dO (by decide)<|fP<|ao rfl<|dF (.of c5 sb (by decide)<|by lia)<|fP q
  have sz:∀ {a b:Int},Sm 35 a->Sm (35+4*(i - 1)) b->Sm (35+4*i) (x4.fmod 5*a+(1+x5.fmod 4)*b):=fun sa sb=>((c4.mul sa).add (c5.mul sb)).mono (by lia)
  refine Ux rfl rfl (NK<|NK<|NK aan)<|lD rfl ?_
  refine dj rfl<|bI<|bM<|el su1 sv1 ?_
  refine dj rfl<|bI<|bM<|el su2 sv2 ?_
  refine dj rfl<|bI<|bM<|el su3 sv3 ?_
  refine tB ?_;simp only [List.nil_append,List.cons_append];have z1:=sz su1 sv1;have z2:=sz su2 sv2;have z3:=sz su3 sv3;generalize x4.fmod 5*u1+(1+x5.fmod 4)*v1=y1 at *;generalize x4.fmod 5*u2+(1+x5.fmod 4)*v2=y2 at *;generalize x4.fmod 5*u3+(1+x5.fmod 4)*v3=y3 at *;refine nV ?_;refine dh<|bL<|aL<|mK<|ak<|lA<|nG<|ao rfl<|Gd rfl<|lD rfl ?_
  rfl'
  refine ZK fun M hM=>?_;rfl'
  refine tZ (fun g=>?_) fun _=>?_
  ·rfl'
   refine hpl.tr (u:=(y1,y2,y3)) (m:=35+4*i) (.inr rfl) (hM.mp g) ⟨z1,z2,z3⟩ (by lia) fun t2 pt2 _ st2=>?_;rfl'
   exact last t2 pt2 st2
  ·rfl'
   exact last t pt<|st.mono<|by lia
theorem ahn {t:MA}{σ : Sw}{h:Gh}{Q:WK}(x:t σ h fun ws h1=>jf ws.length (Q (.loc h1.nx) (h1.new (.lst ws)))):nM t σ h Q:=x
theorem yL {r:MM}{mo:ME}{ma:MA}{σ : Sw}{h:Gh}{Q:WK}(x:mo σ h fun x h1=>uN h1 x (ma σ h1 fun xs h2=>r x xs h2 Q)):abO r mo ma σ h Q:=x
theorem Wc {w:W}{us:List W}{h:Gh}{P:Prop}(e:cG h w=Dn us)(x:P):uN h w P:=by
 unfold uN;rw [e];exact x
def acY (c0:kI):Prop:=∀ {h:Gh} {ns:List Int} {Q:WK} {E:EY},(∀ (a b c d e:Tr) (n:Nat) (g:Gh),MP 71 [a,b,c,d,e]->[a,b,c,d,e].Nodup->zQ [a,b,c,d,e]=false->h.nx<=n->n<g.nx->g.c n=Dn (.lst [tw a,tw b,tw c,tw d,tw e])->(∀ m,m<h.nx->g.c m=h.c m)->Q (.loc n) g)->c0 [.kls (ns.map .int)] h Q E
theorem ahc {ts:List Tr}(h:ts.length=5):∃ a b c d e,ts=[a,b,c,d,e]:=by
 match ts,h with
 | [a,b,c,d,e],_=>exact ⟨a,b,c,d,e,rfl⟩
theorem acv {ns:List Int}{w:W}{h:Gh}{Q:WK}(e:cG h w=Dn (ns.map .int))(l:0<ns.length)(k:∀ M,M∈ns->(∀ a,a∈ns->a<=M)->Q (.int M) h):uo [w] h Q:=by
 unfold uo;split
 ·rename_i z;cases z
 ·rename_i z;cases z;rw [e];exact ⟨ns,rfl,l,k⟩
 ·rename_i z1 z2;exact absurd rfl<|z2 w
theorem adu {o:Nat}{t:Nat×Nat×Nat}{h:Gh}{Q:WK}(k:Q (.bl (decide (o≠t.1/\o≠t.2.1/\o≠t.2.2))) h):V2 (.int (o:Int)) (Mf t) h Q:=by
 have e:(!([W.int (t.1:Int),.int (t.2.1:Int),.int (t.2.2:Int)].any fun w=>Fo w (.int (o:Int))))=decide (o≠t.1/\o≠t.2.1/\o≠t.2.2):=by
  simp only [List.any_cons,List.any_nil,bN,Bool.or_false];have f:∀ x y:Nat,((x:Int)==(y:Int))=decide (x=y):=fun x y=>by
   by_cases z:x=y
   ·rw [z];simp
   ·simp [z];lia
  rw [f,f,f];by_cases h1:o=t.1 <;> by_cases h2:o=t.2.1 <;> by_cases h3:o=t.2.2 <;> simp_all [eq_comm]
 show Hi (pL (.int (o:Int))&&[W.int (t.1:Int),.int (t.2.1:Int),.int (t.2.2:Int)].all pL) (Q (.bl (!([W.int (t.1:Int),.int (t.2.1:Int),.int (t.2.2:Int)].any fun w=>Fo w (.int (o:Int))))) h) False;rw [e];exact k
theorem aax {ts:List Tr}{o:Nat}{h:Gh}{Q:WK}(k:Q (.int (Ph ts o:Nat)) h):(HN LR (aj (GC Gm [0] (Gi (aq 1)) (bG (JI V2 (aq 1) (aq 0))) (aq 0)) aH)) [Dn (.int (o:Int)),Dn (.lst ((thr ts).map Mf))] h Q:=by
 have tl:(thr ts).length<=20:=Hj (Uu _ _) (by decide);refine mK<|ak<|lA<|nG<|ao rfl<|Gd rfl<|lD (Nat.ble_eq_true_of_le (by rw [GJ];lia)) ?_
 refine jz (fun i acc h'=>h'=h/\acc=(((thr ts).take i).filter fun t=>decide<|o≠t.1/\o≠t.2.1/\o≠t.2.2).map Mf) ?_ ?_ ⟨rfl,rfl⟩
 ·rintro i w acc h' N hN ew ⟨rfl,rfl⟩;rw [K8] at ew;obtain ⟨t,et,rfl⟩:=Ub.mp ew;have ek:(thr ts).take (i+1)=(thr ts).take i++[t]:=by rw [M4,et];rfl
  refine ⟨[Mf t],rfl,bL<|aL<|ao rfl<|ao rfl<|adu<|qb ?_⟩;refine Ui (fun z=>?_) fun z=>?_
  ·refine ao rfl<|hN _ _ ⟨rfl,?_⟩
   rw [ek,List.filter_append,Sd];simp [List.filter,z]
  ·refine hN _ _ ⟨rfl,?_⟩;rw [ek,List.filter_append,Sd];simp [List.filter,z]
 ·rintro acc h' ⟨rfl,rfl⟩;rw [GJ,NQ];refine aD<|Jo rfl ?_
  rw [GJ];exact k
theorem agC {dr pl ma th:kI}(hdr:nZ dr)(hpl:qd pl)(hma:wY ma)(hth:Nz th):acY (wA dr pl ma th):=by
 intro h ns Q E k;unfold wA;refine gD rfl (σ:=[Dn<|.kls<|ns.map .int,FX,FX,FX,FX,FX,FX,FX,FX,FX,FX,FX]) rfl ?_;refine aO<|aZ<|vB (ws:=[]) (fun R=>rfl) rfl fun g eg og xg=>?_
 refine nV<|cC ?_
 refine aO<|pH<|kO<|ak<|bB<|aD<|Jl (m:=5) (by decide)<|oN ?_
 refine j9 (fun i σ g'=>∃ (ts:List Tr) (s2 s3 s4 s5:Option W),σ = [Dn<|.kls<|ns.map .int,Dn<|.loc h.nx,s2,s3,s4,s5,FX,FX,FX,FX,FX,FX]/\g'.c h.nx=Dn (.lst<|ts.map tw)/\ts.length=i/\(∀ j,j<i->Pl (gt ts j)/\Bw (35+4*j) (gt ts j))/\(∀ m,m≠h.nx->g'.c m=h.c m)/\g'.nx=h.nx+1) ?_ ?_ ⟨[],_,_,_,_,rfl,eg,rfl,fun j hj=>absurd hj<|S5 j,og,xg⟩
 ·rintro i wi σ g1 N hN ei ⟨ts,s2,s3,s4,s5,rfl,c1,hl,hs,o1,x1⟩;rw [K8] at ei;obtain ⟨i',ei',rfl⟩:=Ub.mp ei;obtain ⟨e',hi⟩:=qJ ei';rw [T7] at e';subst e';refine nV ?_;refine aaz (ns:=ns) hdr hpl hma c1 hl (by lia) hs fun t g2 s3 s4 s5 pt st c2 o2 x2=>?_;refine cC<|hN _ _ ⟨ts++[t],_,_,_,_,rfl,c2,by simp [hl],fun j hj=>?_,fun m hm=>(o2 m hm).trans (o1 m hm),by rw [x2];exact x1⟩
  by_cases hj':j<i'
  ·have e1:gt (ts++[t]) j=gt ts j:=by
    unfold gt;simp [Ss (show j<ts.length by lia)]
   rw [e1];exact hs j hj'
  ·have e2:j=i':=by lia
   subst e2;have e1:gt (ts++[t]) j=t:=by
    unfold gt;simp [<-hl]
   rw [e1];exact ⟨pt,st⟩
 ·rintro σ g1 ⟨ts,s2,s3,s4,s5,rfl,c1,hl,hs,o1,x1⟩;have hl:ts.length=5:=hl;have hs:∀ j,j<5->Pl (gt ts j)/\Bw (35+4*j) (gt ts j):=hs
  obtain ⟨a,b,c,d,e,rfl⟩:=ahc hl;have ok:MP 71 [a,b,c,d,e]:=by
   intro t ht;simp only [Fe,Fx,or_false] at ht;rcases ht with rfl | rfl | rfl | rfl | rfl
   ·exact ⟨(hs 0<|by decide).1,(hs 0<|by decide).2.mono (by decide)⟩
   ·exact ⟨(hs 1<|by decide).1,(hs 1<|by decide).2.mono (by decide)⟩
   ·exact ⟨(hs 2<|by decide).1,(hs 2<|by decide).2.mono (by decide)⟩
   ·exact ⟨(hs 3<|by decide).1,(hs 3<|by decide).2.mono (by decide)⟩
   ·exact ⟨(hs 4<|by decide).1,(hs 4<|by decide).2.mono (by decide)⟩
  refine cC ?_;unfold uI;refine aO<|aZ<|aG<|ak<|ao rfl<|aD ?_
  refine hth (ts:=[a,b,c,d,e]) (.inr ⟨_,rfl,c1⟩) (fun n en=>by cases en;lia) (by simp) (fun j hj=>(hs j hj).2.mono (by lia)) ?_;refine nV<|cC ?_
  have src:iQ g1 (.loc h.nx) [a,b,c,d,e]:=.inr ⟨_,rfl,c1⟩;refine aO<|aZ<|mK<|ak ?_
  refine Qm (j:=5) (fun _=>rfl) (by decide) (by decide) (by decide) (fun i acc g'=>g'=g1/\acc=((rng 0 i).map fun o=>((Ph [a,b,c,d,e] o:Nat):Int)).map .int) ?_ ?_ ⟨rfl,rfl⟩
  ·rintro i acc g' N' hN' hi ⟨rfl,rfl⟩;refine ⟨[.int (i:Int)],rfl,bI<|bM<|aax<|hN' _ _ ⟨rfl,?_⟩⟩;have:rng 0 (i+1)=rng 0 i++[i]:=by
    unfold rng;rw [Nat.sub_zero,Nat.sub_zero,List.range'_concat];simp
   rw [this];simp
  rintro acc g' ⟨rfl,rfl⟩;refine aD<|acv rfl (by simp [rng]) fun M hM hle=>?_
  have le4:∀ o,o<5->((Ph [a,b,c,d,e] o:Nat):Int)<=M:=fun o ho=>hle _ (MF.mpr ⟨o,lq.mpr ⟨RN _,ho⟩,rfl⟩)
  refine nV<|cC ?_
  have done:∀ {g2:Gh} {n:Nat} {s2 s3 s4 s5 s6 s7 s8 s9 s10 s11:Option W} (a b c d e:Tr),MP 71 [a,b,c,d,e]->[a,b,c,d,e].Nodup->zQ [a,b,c,d,e]=false->h.nx<=n->n<g2.nx->g2.c n=Dn (.lst [tw a,tw b,tw c,tw d,tw e])->(∀ m,m<h.nx->g2.c m=h.c m)->jK dr pl ma th E { nx:=fun _ h'=>Q .non h',rt:=Q } [Dn (.kls (ns.map .int)),Dn (.loc n),s2,s3,s4,s5,s6,s7,s8,s9,s10,s11] g2:=by
   intro g2 n s2 s3 s4 s5 s6 s7 s8 s9 s10 s11 a b c d e o1 o2 o3 o4 o5 o6 o7;unfold jK;exact cu<|ao rfl<|uc<|k a b c d e n g2 o1 o2 o3 o4 o5 o6 o7
  have keep:∀ m,m<h.nx->g'.c m=h.c m:=fun m hm=>o1 m (HI hm)
  have spare:∀ {s7:Option W},(aV (bx (JI Aw (aq 1) (mC (.int 0))) (lE 3 (cL (Mk 8) (cL (Mk 9) (cL (Mk 10) Gq)))))
  (aV (bx (JI bD (mC (.int 2)) (JI je (HN Ds (aj (JI bD (aq 8) (aq 9)) aH)) (JI Gs (mC (.int 10)) (mC (.int 10))))) (Mk 11))
  (bx (nM (aj (qy (aj (mC (.int 1)) (aj (mC (.int 0)) (aj (mC (.int 0)) aH)))) (aj (qy (aj (mC (.int 0)) (aj (mC (.int 1)) (aj (mC (.int 0)) aH)))) (aj (qy (aj (mC (.int 0)) (aj (mC (.int 0)) (aj (mC (.int 1)) aH)))) (aj (qy (aj (mC (.int 1)) (aj (mC (.int 1)) (aj (mC (.int 1)) aH)))) (aj (aF pl E (aj (Dy (aj (aq 11) (aj (JI bD (JI bJ (aq 11) (aq 11)) (JI je (HN Ds (aj (aq 10) aH)) (mC (.int 3)))) (aj (mC (.int 1)) aH)))) aH)) aH)))))) (Mk 1)))) { nx:=jK dr pl ma th E { nx:=fun _ h'=>Q .non h',rt:=Q },rt:=Q } [Dn (.kls (ns.map .int)),Dn (.loc h.nx),s2,s3,s4,s5,Dn (.lst ((thr [a,b,c,d,e]).map Mf)),s7,FX,FX,FX,FX] g':=by
   intro s7;obtain ⟨_,sa⟩:=ok a (by simp);obtain ⟨a1,a2,a3⟩:=a;refine aO<|aZ<|aL<|ao rfl<|bB<|src.at (i:=0) (by simp) ?_
   rw [show gt [((a1,a2,a3):Tr),b,c,d,e] 0=(a1,a2,a3) from rfl];refine rF rfl rfl<|cD<|nV ?_
   refine cD<|nV ?_
   refine cD<|nV<|qM<|cC ?_
   refine aO<|aZ<|aL<|bB<|aL<|mK<|ak<|aL<|ao rfl<|ao rfl<|fP<|aD ?_
   refine Hl<|aL<|bB<|bB<|Io ⟨by decide,by decide,by decide⟩<|dO (by rw [p10];decide)<|fP ?_
   rw [p10];have b1:0<=(if a1+a2<0 then -(a1+a2) else a1+a2).fmod 10000000000/\(if a1+a2<0 then -(a1+a2) else a1+a2).fmod 10000000000<10000000000:=dI _ (by decide);generalize (if a1+a2<0 then -(a1+a2) else a1+a2).fmod 10000000000=y at *;have hu:(2:Int)<=2+y:=by lia
   have su:Sm 35 (2+y):=Sm.le (i:=10000000002) (by unfold Sm;decide +kernel) (by lia);generalize 2+y=u at *;refine nV<|cC ?_
   refine aZ<|ahn ?_
   refine ak<|j5<|ak<|bB<|ak<|bB<|ak<|bB<|aD<|cV rfl ?_
   refine ak<|j5<|ak<|bB<|ak<|bB<|ak<|bB<|aD<|cV rfl ?_
   refine ak<|j5<|ak<|bB<|ak<|bB<|ak<|bB<|aD<|cV rfl ?_
   refine ak<|j5<|ak<|bB<|ak<|bB<|ak<|bB<|aD<|cV rfl ?_
   refine ak<|aG<|ak<|qC<|ak<|ao rfl<|ak<|aL<|aL<|ao rfl<|ao rfl<|dF (.of su su (by decide)<|by decide) ?_
   refine aL<|mK<|ak<|ao rfl<|aD<|Hl<|bB<|dO (by decide)<|fP ?_
   have b3:=dI (if a3<0 then -a3 else a3) (b:=3) (by decide);generalize (if a3<0 then -a3 else a3).fmod 3=r at *;refine ak<|bB<|aD<|cV rfl<|aD ?_
   have u4:4<=u*u:=by
    have:u*2<=u*u:=Int.mul_le_mul_of_nonneg_left hu (by lia)
    lia
   have sv:Sm 71 (u*u+r):=(su.mul su).add (n:=2) (nJ (by lia) (by lia));have hv:4<=u*u+r:=by lia
   generalize u*u+r=v at *;obtain ⟨nd,f4,pv⟩:=aer hu hv;have s1:Sm 71 1:=by unfold Sm;decide +kernel
   have s0:Sm 71 0:=by unfold Sm;decide +kernel
   refine hpl.tr (u:=(u,v,1)) (m:=71) (.inr rfl) pv.ne ⟨su.mono<|by decide,sv,s1⟩ (by decide) fun t pt par _=>?_;have et:t=(u,v,1):=rm pt pv par (Fq.refl _);subst et;refine aD<|cV rfl ?_
   refine nV<|cC ?_
   refine done (1,0,0) (0,1,0) (0,0,1) (1,1,1) (u,v,1) (fun t ht=>?_) nd f4 (n:=g'.nx) (by lia) (Ul _) (Ae _ _) fun m hm=>?_
   ·simp only [Fe,Fx,or_false] at ht;rcases ht with rfl | rfl | rfl | rfl | rfl
    ·exact ⟨⟨by decide,by decide⟩,s1,s0,s0⟩
    ·exact ⟨⟨by decide,by decide⟩,s0,s1,s0⟩
    ·exact ⟨⟨by decide,by decide⟩,s0,s0,s1⟩
    ·exact ⟨⟨by decide,by decide⟩,s1,s1,s1⟩
    ·exact ⟨pv,su.mono<|by decide,sv,s1⟩
   ·rw [uz (HI (by lia))];exact keep m hm
  refine aO<|dh<|yP<|bL<|aL<|ao rfl<|bB<|wX<|qb ?_
  refine tZ (fun _=>?_) fun n4=>?_
  ·exact Bv spare
  refine bL<|aL<|mK<|ak<|lA<|nG<|ao rfl<|aaO c1<|lD rfl ?_
  have vl:cG g' (.loc h.nx)=Dn ([a,b,c,d,e].map tw):=src.vl;refine dJ c1 rfl<|bI<|bM<|yL<|ao rfl<|Wc vl<|ak<|ao rfl<|aD<|KJ vl ?_
  refine dJ c1 rfl<|bI<|bM<|yL<|ao rfl<|Wc vl<|ak<|ao rfl<|aD<|KJ vl ?_
  refine dJ c1 rfl<|bI<|bM<|yL<|ao rfl<|Wc vl<|ak<|ao rfl<|aD<|KJ vl ?_
  refine dJ c1 rfl<|bI<|bM<|yL<|ao rfl<|Wc vl<|ak<|ao rfl<|aD<|KJ vl ?_
  refine dJ c1 rfl<|bI<|bM<|yL<|ao rfl<|Wc vl<|ak<|ao rfl<|aD<|KJ vl ?_
  refine Ba c1<|aD ?_
  refine acv (ns:=[a,b,c,d,e].map fun t=>((cn [a,b,c,d,e] t:Nat):Int)) rfl (by simp) fun M2 hM2 hle2=>?_;refine bB<|Li<|qb ?_
  refine tZ (fun _=>?_) fun n1=>?_
  ·exact spare
  have nd:[a,b,c,d,e].Nodup:=Es fun t ht=>by
   have:=hle2 _ (MF.mpr ⟨t,ht,rfl⟩)
   lia
  have f4:zQ [a,b,c,d,e]=false:=agZ (fun t ht=>(ok t ht).1) nd fun o ho z=>by
   have h1:=le4 o ho;obtain ⟨o',mo',eo'⟩:=MF.mp hM;have h2:=ahf [a,b,c,d,e] (lq.mp mo').2;lia
  exact cC<|done a b c d e ok nd f4 (Ge _) (by lia) c1 keep
theorem abw {e g:Tr}{s t:Int}(pe:Pl e)(pg:Pl g)(ne:g≠e)(h:¬ (s=0/\t=0)):fZ s t g e≠(0,0,0):=by
 intro z;have c1:∀ x:Tr,crs (fZ s t g e) x=fZ s t (crs g x) (crs e x):=fun x=>by
  simp only [crs,fZ];refine Hy ?_<|Hy ?_ ?_
  ·simp only;grind
  ·simp only;grind
  ·simp only;grind
 have n0:crs g e≠(0,0,0):=eN pg pe ne;have z1:=c1 e;have z2:=c1 g;rw [z,jT] at z1 z2;have o:∀ x:Tr,crs (0,0,0) x=(0,0,0):=fun x=>by simp [crs]
 rw [o] at z1 z2;have f1:sc s (crs g e)=(0,0,0):=by
  rw [z1];simp only [sc,fZ];refine Hy ?_<|Hy ?_ ?_
  ·simp only;grind
  ·simp only;grind
  ·simp only;grind
 have f2:sc t (crs g e)=(0,0,0):=by
  rw [z2];simp only [sc,fZ,crs];refine Hy ?_<|Hy ?_ ?_
  ·simp only;grind
  ·simp only;grind
  ·simp only;grind
 refine h ⟨?_,?_⟩
 ·by_cases s0:s=0
  ·exact s0
  ·exact absurd ((cU s0).mp f1) n0
 ·by_cases t0:t=0
  ·exact t0
  ·exact absurd ((cU t0).mp f2) n0
def Vy (c0:kI):Prop:=∀ {h:Gh} {c:C6} {p:Tr} {m:Nat} {Q:WK} {E:EY},m<=4000->Ht m c->Bw m p->Q (.int (wth c p)) h->c0 [J6 c,tw p] h Q E
theorem zaP:Vy qH:=by
 intro h c p m Q E hm hc hp k;obtain ⟨c1,c2,c3,c4,c5,c6⟩:=c;obtain ⟨x,y,z⟩:=p;obtain ⟨h1,h2,h3,h4,h5,h6⟩:=hc;obtain ⟨hx,hy,hz⟩:=hp;simp only at h1 h2 h3 h4 h5 h6 hx hy hz;unfold qH;rfl'
 rw [adF,agT];exact k
def VH (c0:kI):Prop:=∀ {h:Gh} {c:C6} {p:Tr} {m:Nat} {Q:WK} {E:EY},m<=3000->Ht m c->Bw m p->Q (tw (vm (bF c) p)) h->c0 [J6 c,tw p] h Q E
theorem agS:VH wC:=by
 intro h c p m Q E hm hs hp k;obtain ⟨c1,c2,c3,c4,c5,c6⟩:=c;obtain ⟨x,y,z⟩:=p;obtain ⟨h1,h2,h3,h4,h5,h6⟩:=hs;obtain ⟨hx,hy,hz⟩:=hp;simp only at h1 h2 h3 h4 h5 h6 hx hy hz;unfold wC;rfl'
 exact k
def acU (c0:kI):Prop:=∀ {h:Gh} {ns:List Int} {n:Nat} {a b c d e:Tr} {C:C6} {Q:WK} {E:EY},h.c n=Dn (.lst [tw a,tw b,tw c,tw d,tw e])->MP 71 [a,b,c,d,e]->Ht 725 C->(∀ t,Pl t->Bw 900 t->Q (tw t) h)->c0 [.kls (ns.map .int),.loc n,J6 C] h Q E
theorem zbc {cl dr pl ma dt wo su:kI}(hcl:zY cl)(hdr:nZ dr)(hpl:qd pl)(hma:wY ma)(hdt:qW dt)(hwo:Vy wo)(hsu:VH su):acU (rO cl dr pl ma dt wo su):=by
 intro h ns n a b c d e C Q E ec ok sC k;have src:iQ h (.loc n) [a,b,c,d,e]:=.inr ⟨n,rfl,ec⟩;unfold rO;refine gD rfl (σ:=[Dn<|.kls<|ns.map .int,Dn<|.loc n,Dn<|J6 C,FX,FX,FX,FX,FX]) rfl ?_;refine aO<|aZ<|aG<|ak<|aG<|ak<|ao rfl<|ak<|bB<|ak<|bB<|aD ?_
 refine hdr (by decide) (by decide) (by decide) (by decide) fun xs hx=>?_;have hx:xs.length=3:=by lia
 match xs,hx with
 | [x0,x1,x2],_=>
  refine aD ?_;refine hma fun o po so=>?_;refine nV<|cC ?_
  refine aO<|aZ<|aL<|aL<|aG<|ak<|ao rfl<|ak<|bB<|aD ?_
  refine hcl (by decide) ?_;refine bB<|CG ⟨by decide,64,by decide,.lit rfl⟩<|bB<|dO (by decide) ?_
  have bw:=dI ((ns.getD (6:Int).toNat 0).fdiv 2) (b:=6) (by decide);generalize ((ns.getD (6:Int).toNat 0).fdiv 2).fmod 6=wy at *;refine nV<|cC ?_
  refine aO<|dh<|yP<|bL<|aL<|ao rfl<|bB<|Wo<|qb ?_
  refine tZ (fun _=>?_) fun w2=>?_
  ·exact Bv<|cu<|ao rfl<|uc<|k o po<|so.mono<|by decide
  obtain ⟨j,ej,hj⟩:∃ j:Nat,wy - 1=(j:Int)/\j<5:=⟨(wy - 1).toNat,by lia,by lia⟩
  have okj:=ok _ (lY (ts:=[a,b,c,d,e]) (i:=j) (by simpa using hj));refine bL<|aL<|ao rfl<|aL<|ao rfl<|aL<|ao rfl<|bB<|uO ?_
  rw [ej];refine src.at (i:=j) (by simpa using hj) ?_;refine Bq<|qb ?_
  refine tZ (fun _=>?_) fun ne=>?_
  ·exact cu<|ao rfl<|uc<|k o po<|so.mono<|by decide
  refine cC ?_;unfold rA;refine aO<|aZ<|aL<|ao rfl<|aL<|ao rfl<|bB<|uO ?_
  rw [ej];refine src.at (i:=j) (by simpa using hj) ?_;generalize gt [a,b,c,d,e] j=p at *;obtain ⟨pp,sp⟩:=okj;refine nV<|cC ?_
  refine aO<|aZ<|aG<|ak<|aG<|ak<|ao rfl<|ak<|ao rfl<|aD ?_
  refine hsu (m:=725) (by decide) sC (sp.mono<|by decide) ?_;refine ak<|ao rfl<|aD ?_
  have sv:Bw 799 (vm (bF C) p):=(uw (lW sC) sp).mono (by decide);refine hdt (m:=799) (by decide) sv (so.mono<|by decide) ?_;have s1:Sm 836 (dt3 (vm (bF C) p) o):=(iM sv so).mono (by decide);have s2:Sm 800 (wth C o):=(Ks sC so).mono (by decide);refine nV<|cC ?_
  refine aO<|aZ<|aG<|ak<|ao rfl<|ak<|ao rfl<|aD ?_
  refine hwo (m:=725) (by decide) sC (so.mono<|by decide) ?_;refine nV<|cC ?_
  generalize dt3 (vm (bF C) p) o=s at *;generalize wth C o=t at *;refine aO<|dh<|JZ<|bL<|aL<|ao rfl<|bB<|wX<|qb ?_
  have last:¬ (s=0/\t=0)->lC cl dr pl ma dt wo su E { nx:=fun _ h'=>Q .non h',rt:=Q } [Dn (.kls (ns.map .int)),Dn (.loc n),Dn (J6 C),Dn (tw o),Dn (.int wy),Dn (tw p),Dn (.int s),Dn (.int t)] h:=by
   intro nz;have v0:fZ s t o p≠(0,0,0):=abw pp po ne nz;obtain ⟨o1,o2,o3⟩:=o;obtain ⟨p1,p2,p3⟩:=p;obtain ⟨a1,a2,a3⟩:=so;obtain ⟨b1,b2,b3⟩:=sp;simp only at a1 a2 a3 b1 b2 b3;unfold lC;refine cu<|aG<|ak<|lA<|JH<|ak<|ao rfl<|ak<|ao rfl<|aD<|Ux rfl rfl (NK<|NK<|NK aan)<|lD rfl ?_
   have el:∀ {x y:Int} {R:WK},Sm 71 x->Sm 35 y->R (.int (s*y - t*x)) h->(JI pJ (JI bJ (aq 2) (aq 1)) (JI bJ (aq 3) (aq 0))) [Dn (.int x),Dn (.int y),Dn (.int s),Dn (.int t)] h R:=fun sx sy q=>
    aL (aL (ao rfl (ao rfl (dF (.of s1 sy (by decide) (by decide)) (aL (ao rfl (ao rfl (dF (.of s2 sx (by decide) (by decide)) (uO q)))))))))
   have sz:∀ {x y:Int},Sm 71 x->Sm 35 y->Sm 900 (s*y - t*x):=fun sx sy=>((s1.mul sy).sub (s2.mul sx)).mono (by decide)
   refine dj rfl<|bI<|bM<|el b1 a1 ?_
   refine dj rfl<|bI<|bM<|el b2 a2 ?_
   refine dj rfl<|bI<|bM<|el b3 a3 ?_
   refine tB<|aD ?_
   refine hpl.tr (u:=fZ s t (o1,o2,o3) (p1,p2,p3)) (m:=900) (.inr rfl) v0 ⟨sz b1 a1,sz b2 a2,sz b3 a3⟩ (by decide) fun u pu _ su'=>?_;exact uc<|k u pu su'
  refine tZ (fun e1=>?_) fun e1=>?_
  ·refine bL<|aL<|ao rfl<|bB<|wX<|qb ?_
   refine tZ (fun e2=>?_) fun e2=>?_
   ·exact cu<|ao rfl<|uc<|k o po<|so.mono<|by decide
   ·exact cC<|last fun z=>e2 z.2
  ·exact rZ<|cC<|last fun z=>e1 z.1
theorem Yu {a b:W}{h:Gh}{Q:WK}(da:Mz h a=Dn a)(db:Mz h b=Dn b)(pa:GR 30 a=true)(pb:GR 30 b=true)(k:Q (.bl (!Fo a b)) h):JG a b h Q:=by
 unfold JG;rw [da,db];show Hi (GR 30 a&&GR 30 b) (Q (.bl (!Fo a b)) h) False;rw [pa,pb];exact k
theorem Av {w:W}{us:List W}{h:Gh}{Q:WK}(e:view h w=Dn us)(k:Q (.lst us) h):xq [w] h Q:=by
 show (match view h w with
  | some us=>Q (.lst us) h
  | none=>False)
 rw [e];exact k
theorem Vd {ts:List (Nat×Nat×Nat)}{h:Gh}{Q:WK}(k:Q (.bl (decide (ts≠[]))) h):JG (.lst (ts.map Mf)) (.lst []) h Q:=by
 have pl:GR 30 (.lst (ts.map Mf))=true:=by
  show (ts.map Mf).all (GR 29)=true;rw [List.all_map,Q0];intro t _;rfl
 refine Yu rfl rfl pl rfl ?_;cases ts with
 | nil=>
  rw [List.map_nil,Fo,oO];exact k
 | cons t ts=>
  rw [Lj,Fo,oO];exact k;all_goals (intros;simp_all)
def SxR (c0:kI):Prop:=∀ {h:Gh} {w:W} {a b c d e x:Tr} {C:C6} {k:Int} {bd:Bool} {Q:WK} {E:EY},iQ h w [a,b,c,d,e,x]->(∀ n,w=.loc n->n<h.nx)->MP 110 [a,b,c,d,e]->Pl x->Bw 940 x->k≠0->g8 a b c d e=kC k C->Ht 1115 C->(bd=true↔wth C x=0)->Q (.bl true) h->c0 [w,J6 C,.bl bd] h Q E
theorem aaC {ic on th si:kI}(hic:Bx ic)(hon:WD on)(hth:Nz th)(hsi:acI si):SxR (eH ic on th si):=by
 intro h w a b c d e x C k bd Q E src lo ok px sx k0 e0 sC hbd q;have e1:bd=decide (wth C x=0):=by
  cases bd <;> simp at hbd |- <;> exact hbd
 have e2:bd=decide (sdB a b c d e x):=by
  rw [e1];exact decide_eq_decide.mpr<|Cd k0 e0
 unfold eH;refine gD rfl (σ:=[Dn w,Dn<|J6 C,Dn<|.bl bd]) rfl ?_;refine aO<|dh<|yP<|bL<|aL<|aG<|ak<|ao rfl<|ak<|aL<|ao rfl<|bB<|src.at (i:=5) (by simp) ?_
 refine aD ?_;refine hon (m:=1115) (by decide) sC (sx.mono<|by decide) ?_;refine ao rfl<|Vh<|qb ?_
 rw [show (decide (wth C (gt [a,b,c,d,e,x] 5)=0))=bd from e1.symm];refine z9 (by simp) ?_;refine bL<|aL<|aG<|ak<|ao rfl<|aD ?_
 refine hsi src lo ok sx ?_;refine ao rfl<|Vh<|qb ?_
 rw [<-e2];refine z9 (by simp) ?_;refine cC ?_;unfold gK;have sm:∀ i,i<5->Bw 110 (gt [a,b,c,d,e,x] i):=fun i hi=>by
  rw [gt5 hi];exact (ok _<|lY<|by simpa using hi).2
 refine aO<|dh<|yP<|bL<|aL<|aG<|ak<|ao rfl<|aD ?_
 refine hth src lo (by simp) sm ?_;refine qC<|aD<|cV rfl ?_
 have fb:=agI (a:=a) (b:=b) (c:=c) (d:=d) (e:=e) (ts:=[a,b,c,d,e,x]) rfl rfl rfl rfl rfl;refine Vd<|qb ?_
 refine tZ (fun _=>?_) fun nf=>?_
 ·exact Bv<|cu<|bB<|uc q
 have F:Five a b c d e:=fb.mp (Decidable.not_not.mp nf);refine yP<|bL<|aL<|aL<|ao rfl<|bB<|src.at (i:=5) (by simp) ?_
 refine aL<|ao rfl<|bB<|src.at (i:=0) (by simp) ?_
 refine Bq<|qb ?_
 refine tZ (fun _=>?_) fun xa=>?_
 ·exact Bv<|cu<|bB<|uc q
 refine bL<|aL<|aL<|ao rfl<|bB<|src.at (i:=5) (by simp) ?_
 refine aL<|ao rfl<|bB<|src.at (i:=4) (by simp) ?_
 refine Bq<|qb ?_
 refine tZ (fun _=>?_) fun xe=>?_
 ·exact cu<|bB<|uc q
 refine cC ?_;unfold gq;refine cu<|aL<|aG<|ak<|mK<|ak<|ao rfl<|aD ?_
 refine Av src.src.1<|aD ?_
 have O:∀ t∈[a,b,c,d,e],Pl t/\Bw 110 t:=ok
 have R:Rd a b c d e x:=⟨(O a (by simp)).1,(O b (by simp)).1,(O c (by simp)).1,(O d (by simp)).1,(O e (by simp)).1,px,(O a (by simp)).2,(O b (by simp)).2,(O c (by simp)).2,(O d (by simp)).2,(O e (by simp)).2,sx.mono (by decide)⟩
 refine hic R (fun _ _ _ X Y Z x3=>?_) (fun z=>absurd F z)<|fun _ z=>z.elim (fun z=>absurd z xa) fun z=>absurd z xe
 refine ao rfl<|YK<|uc ?_
 rw [show decide (dt3 (crs X Y) Z=0)=bd by rw [e1];exact decide_eq_decide.mpr (agq k0 e0 F x3),decide_eq_true rfl];exact q
def acu (c0:kI):Prop:=∀ {h:Gh} {c:C6} {p:Tr} {m:Nat} {Q:WK} {E:EY},m<=3000->Ht m c->Bw m p->(wth c p=0->vm (bF c) p≠(0,0,0)->∀ u,Pl u->Fq (vm (bF c) p) u->Bw (m+m+4) u->Q (tw u) h)->(wth c p≠0->E ⟨"NotOn",[]⟩ h)->(wth c p=0->vm (bF c) p=(0,0,0)->E ⟨"Knot",[]⟩ h)->c0 [J6 c,tw p] h Q E
theorem Zn {on la:kI}(hon:WD on)(hla:LC la):acu (nU on la):=by
 intro h c p m Q E hm hc hp k k1 k2;unfold nU;rfl'
 refine hon (m:=m) (by lia) hc hp ?_;rfl'
 refine Dv (fun e=>?_)<|fun e=>?_
 ·rfl'
  exact k1 e
 ·rfl'
  unfold oJ;rfl'
  refine hla (m:=m) (by lia) hc hp (fun e' u pu par su=>?_) fun e'=>?_
  ·rfl'
   exact k e e' u pu par su
  ·exact k2 e e'
def oSt:List W:=[(.tup [(.str "join"),(.int 0),(.int 1)]),(.tup [(.str "join"),(.int 3),(.int 4)]),(.tup [(.str "meet"),(.int 6),(.int 7)]),(.tup [(.str "join"),(.int 1),(.int 2)]),(.tup [(.str "meet"),(.int 9),(.int 5)]),(.tup [(.str "join"),(.int 8),(.int 10)]),(.tup [(.str "join"),(.int 2),(.int 3)]),(.tup [(.str "meet"),(.int 11),(.int 12)]),(.tup [(.str "join"),(.int 0),(.int 13)]),(.tup [(.str "meet"),(.int 14),(.int 5)])]
def r5 (a b c d e:Tr):W:=.lst [tw a,tw b,tw c,tw d,tw e]
def abn (c0:kI):Prop:=∀ {h:Gh} {a b c d e l:Tr} {Q:WK} {E:EY},MP 71 [a,b,c,d,e]->Bw 972 l->(Five a b c d e->dt3 e l=0->Q (.lst oSt) h)->(¬ Five a b c d e->E ⟨"ThreeOnLine",[]⟩ h)->(Five a b c d e->dt3 e l≠0->E ⟨"NotOn",[]⟩ h)->c0 [r5 a b c d e,tw l] h Q E
theorem Yc {lo fi:kI}(hlo:Ku lo)(hfi:Oe fi):abn (eZ lo fi):=by
 intro h a b c d e l Q E hs sl k k1 k2;unfold eZ r5;refine gD rfl (σ:=[Dn<|.lst [tw a,tw b,tw c,tw d,tw e],Dn<|tw l]) rfl ?_;rfl'
 refine hfi (us:=[a,b,c,d,e]) (m:=71) (by decide) (.inl rfl) (by simp) hs (fun F=>?_) fun z=>k1 fun F=>F z;rfl'
 refine hlo (m:=972) (by decide) ((hs e<|by simp).2.mono (by decide)) sl ?_;by_cases g:dt3 e l=0
 ·rw [decide_eq_true g];rfl'
  unfold gC;rfl'
  exact k F g
 ·rw [decide_eq_false g];rfl'
  exact k2 F g
def aar (K:List Tr->Prop):List (Nat×Nat)->List Tr->Prop
 | [],ts=>K ts
 | (i,j)::r,ts=>∃ (p q:Tr) (m m':Nat),ts.length<=100/\ts[i]?=Dn p/\ts[j]?=Dn q/\m<=3000/\m'<=3000/\Pl p/\Pl q/\Bw m p/\Bw m' q/\p≠q /\
   ∀ t,Pl t->Fq (crs p q) t->Bw (m+m'+1) t->aar K r (ts++[t])
def oS9:List (Nat×Nat):=[(0,1),(3,4),(6,7),(1,2),(9,5),(8,10),(2,3),(11,12),(0,13),(14,5)]
theorem zaD (p q:Tr):dt3 (crs p q) q=0:=by
 simp only [dt3,crs];grind
theorem XF {x y p q n:Tr}(h1:Fq x p)(h2:Fq y q)(hx:dt3 n x=0)(hy:dt3 n y≠0):p≠q:=fun e=>hy (by
 obtain ⟨k,k0,rfl⟩:=h1;obtain ⟨j,j0,rfl⟩:=h2;rw [d9] at hx |-
 rw [<-e,(Gg.mp hx).resolve_right k0,QS])
section
variable {a b c d e l:Tr}
theorem Y0 (F:Five a b c d e)(hs:MP 71 [a,b,c,d,e])(pl:Pl l)(sl:Bw 972 l)(h:dt3 l e=0){K:List Tr->Prop}(k:∀ pre x,Pl x->Bw 2600 x->Fq (oX a b c d e l) x->K (pre++[x])):aar K oS9 ([a,b,c,d,e]++[l]):=by
 obtain ⟨tabc,tabd,tabe,tacd,tace,tade,tbcd,tbce,tbde,tcde⟩:=dg F;obtain ⟨pa,sa⟩:=hs a (by simp);obtain ⟨pb,sb⟩:=hs b (by simp);obtain ⟨pc,sc⟩:=hs c (by simp);obtain ⟨pd,sd⟩:=hs d (by simp);obtain ⟨pe,se⟩:=hs e (by simp);have two:¬ (FN (pP a b d e) (oS b c l) c=0/\FN (pP a b d e) (oS b c l) d=0):=fun z=>by
  obtain ⟨z1,z2⟩:=z;rw [acQ] at z1;rw [acf h] at z2;exact wM pl h tcde ⟨(Gg.mp z1).resolve_left (M5 tabc tbde),(Gg.mp z2).resolve_left (M5 tabd tbce)⟩
 refine ⟨a,b,71,71,Oh rfl,rfl,rfl,by decide,by decide,pa,pb,sa,sb,dZ tabc,fun l6 p6 q6 s6=>?_⟩;refine ⟨d,e,71,71,Oh rfl,rfl,rfl,by decide,by decide,pd,pe,sd,se,fun z=>tade (by rw [z,gZ];exact iD _ _),fun l7 p7 q7 s7=>?_⟩;refine ⟨l6,l7,143,143,Oh rfl,rfl,rfl,by decide,by decide,p6,p7,s6,s7,mQ q6 q7 (fH d e) tabe,fun x8 p8 q8 s8=>?_⟩;have q8:Fq (pP a b d e) x8:=(eF q6 q7).trans q8;refine ⟨b,c,71,71,Oh rfl,rfl,rfl,by decide,by decide,pb,pc,sb,sc,dZ tbcd,fun l9 p9 q9 s9=>?_⟩;refine ⟨l9,l,143,972,Oh rfl,rfl,rfl,by decide,by decide,p9,pl,s9,sl,mQ q9 (Fq.refl l) h tbce,fun x10 p10 q10 s10=>?_⟩;have q10:Fq (oS b c l) x10:=(eF q9 (Fq.refl l)).trans q10;have n810:x8≠x10:=fun z=>two (by
  have:=GX q8 q10 z
  constructor
  ·show dt3 (crs _ _) c=0;rw [this];simp [dt3]
  ·show dt3 (crs _ _) d=0;rw [this];simp [dt3])
 refine ⟨x8,x10,287,1116,Oh rfl,rfl,rfl,by decide,by decide,p8,p10,s8,s10,n810,fun l11 p11 q11 s11=>?_⟩;have q11:Fq (crs (pP a b d e) (oS b c l)) l11:=(eF q8 q10).trans q11;refine ⟨c,d,71,71,Oh rfl,rfl,rfl,by decide,by decide,pc,pd,sc,sd,dZ tcde,fun l12 p12 q12 s12=>?_⟩;have n1112:l11≠l12:=fun z=>two ⟨(fK q11).mpr (by rw [z];exact (fK q12).mp (dW c d)),(fK q11).mpr (by rw [z];exact (fK q12).mp (fH c d))⟩
 refine ⟨l11,l12,1404,143,Oh rfl,rfl,rfl,by decide,by decide,p11,p12,s11,s12,n1112,fun x13 p13 q13 s13=>?_⟩;have q13:Fq (oR a b c d e l) x13:=(eF q11 q12).trans q13;refine ⟨a,x13,71,1548,Oh rfl,rfl,rfl,by decide,by decide,pa,p13,sa,s13,Jj<|XF q13 (Fq.refl a) (n:=crs c d) (by unfold oR;rw [aR];exact zaD _ _)<|fun z=>tacd (by rw [gZ];exact z),fun l14 p14 q14 s14=>?_⟩;have q14:Fq (crs a (oR a b c d e l)) l14:=(eF (Fq.refl a) q13).trans q14;have n14:l14≠l:=fun z=>by
  have za:dt3 l a=0:=by rw [<-z];exact (fK q14).mp (dW a _)
  have zr:dt3 l (oR a b c d e l)=0:=by rw [<-z];exact (fK q14).mp (by rw [z];exact fH a _)
  rw [acZ h] at zr;rcases Gg.mp ((Gg.mp zr).resolve_left (M5 tabe tbcd)) with zc | zd
  ·exact wM pl h tace ⟨za,zc⟩
  ·exact wM pl h tade ⟨za,zd⟩
 refine ⟨l14,l,1620,972,Oh rfl,rfl,rfl,by decide,by decide,p14,pl,s14,sl,n14,fun x15 p15 q15 s15=>?_⟩;exact k _ x15 p15 (s15.mono<|by decide)<|(eF q14<|Fq.refl l).trans q15
end
def acj (t:Str×Nat×Nat):W:=.tup [.str t.1,.int (t.2.1:Int),.int (t.2.2:Int)]
def wb9 (pl cr:kI)(E:EY):MS:=(gY (wg cI (aq 7) (aj (aF pl E (aj (aF cr E (aj (JI Aw (aq 7) (aq 9)) (aj (JI Aw (aq 7) (aq 10)) aH))) aH)) aH)))
theorem acr {ts:List Tr}{i:Nat}{p:Tr}(e:ts[i]?=Dn p):(ts.map tw)[i]?=Dn (tw p):=by rw [K8,e];rfl
theorem QD {pl cr:kI}(hpl:qd pl)(hcr:tL cr){E:EY}{D:bR}{all:List W}{n:Nat}{K:List Tr->Prop}{s0 s1 s2 s3 s4 s5 s6:Option W}:∀ (st:List (Str×Nat×Nat)) {ts:List Tr} {h:Gh} {s8 s9 s10:Option W},h.c n=Dn (.lst (ts.map tw))->aar K (st.map fun t=>t.2) ts ->
  (∀ (ts':List Tr) (g:Gh) (s8 s9 s10:Option W),K ts'->g.c n=Dn (.lst (ts'.map tw))->(∀ x,x≠n->g.c x=h.c x)->g.nx=h.nx->D.nx [s0,s1,s2,s3,s4,s5,s6,Dn (.loc n),s8,s9,s10] g) ->
  eU ⟨all,FX⟩ (lE 3 (cL (Mk 8) (cL (Mk 9) (cL (Mk 10) Gq)))) (wb9 pl cr E) D (st.map acj) [s0,s1,s2,s3,s4,s5,s6,Dn (.loc n),s8,s9,s10] h
 | [],ts,h,s8,s9,s10,ec,k,fin=>Ao (fin ts h _ _ _ k ec (fun _ _=>rfl) rfl)
 | (w,i,j)::r,ts,h,s8,s9,s10,ec,k,fin=>by
  obtain ⟨p,q,m,m',hl,hi,hj,hm,hm',pp,pq,sp,sq,ne,kk⟩:=k;refine wG<|rF rfl rfl<|cD<|nV ?_
  refine cD<|nV ?_
  refine cD<|nV<|qM ?_
  have vw:view h (.loc n)=Dn (ts.map tw):=by simp only [view,cG,ec]
  refine kW<|uR<|ao rfl<|nT ec<|ak<|aG<|ak<|aG<|ak<|aL<|ao rfl<|ao rfl<|fC vw (cF<|acr hi) ?_
  refine ak<|aL<|ao rfl<|ao rfl<|fC vw (cF<|acr hj)<|aD ?_
  refine hcr (m:=m+m') (by lia) (sp.mono<|by lia) (sq.mono<|by lia) ?_;refine aD ?_;refine hpl.tr (u:=crs p q) (m:=m+m'+1) (.inl rfl) (eN pp pq ne) (Aj sp sq) (by lia) fun t pt par st'=>?_;refine aD<|JN ec (by rw [GJ];lia) fun g e2 o2 x2=>?_
  refine cC ?_;refine QD hpl hcr r (ts:=ts++[t]) (by rw [e2];simp) (kk t pt par st') fun ts' g' s8 s9 s10 k' e' o' x'=>?_;exact fin ts' g' s8 s9 s10 k' e' (fun x hx=>by rw [o' x hx,o2 x hx])<|by rw [x',x2]
def oT9:List (Str×Nat×Nat):=[("join",0,1),("join",3,4),("meet",6,7),("join",1,2),("meet",9,5),("join",8,10),("join",2,3),("meet",11,12),("join",0,13),("meet",14,5)]
theorem Wb:oT9.map acj=oSt:=rfl
theorem abJ:(oT9.map fun t=>t.2)=oS9:=rfl
theorem h0c (t:Tr):crs (0,0,0) t=(0,0,0):=by simp [crs]
theorem aft {a b c d e l u x:Tr}{C:C6}{k:Int}(F:Five a b c d e)(pe:Pl e)(pl:Pl l)(h:dt3 l e=0)(k0:k≠0)(e0:g8 a b c d e=kC k C)(hd:det (bF C)≠0)(o:Pq C e l u)(px:Pl x)(hx:Fq (oX a b c d e l) x):x=u:=by
 have on:dt3 l x=0:=(Ak hx).mp (aby a b c d e l);have wx:wth C x=0:=by
  have z:=W4 (a:=a) (b:=b) (c:=c) (d:=d) (e:=e) (l:=l) h;rw [e0,CP] at z;have z:=(Gg.mp z).resolve_right k0;obtain ⟨i,i0,ei⟩:=hx;rw [ei,oF] at z;exact (Gg.mp z).resolve_left (M5 i0 i0)
 rcases o.2.2.2.1 x px on wx with xe | z
 ·-- the line touches
  rw [xe] at hx |-
  have c1:crs (oX a b c d e l) e=(0,0,0):=GX hx (Fq.refl e) rfl;have c2:=(ahm F h).mpr ((Xp F pl h).mp c1);have ee:=ZJ pe.ne;have y0:crs l e≠(0,0,0):=fun z=>by
   have q:=aa3 l e e;rw [z,h0c,aR e l,h] at q;have q2:sc (dt3 e e) l=(0,0,0):=by
    have:=q.symm
    simp only [fZ,sc] at this |-
    simp only [Mx] at this |-
    refine ⟨?_,?_,?_⟩
    ·have:=this.1;rw [Og];lia
    ·have:=this.2.1;rw [Og];lia
    ·have:=this.2.2;rw [Og];lia
   exact pl.ne<|(cU ee).mp q2
  obtain ⟨y,py,hy⟩:=pU y0;have ly:dt3 l y=0:=(Ak hy).mp (by rw [aR];exact dW l e);have ey:dt3 e y=0:=(Ak hy).mp (by rw [aR];exact fH l e);have ne:y≠e:=fun z=>ee (by rw [z] at ey;exact ey)
  refine ((o.2.2.2.2 y py ly ne).mpr ?_).symm;have t0:dt3 y (Gn a b c d e)=0:=by
   have q:=aa3 (Gn a b c d e) l y;rw [c2,h0c,aR y l,ly] at q;refine Nm fun n=>pl.ne<|(cU n).mp ?_
   have:=q.symm
   simp only [fZ,sc] at this |-
   simp only [Mx] at this |-
   refine ⟨?_,?_,?_⟩
   ·have:=this.1;rw [Og];lia
   ·have:=this.2.1;rw [Og];lia
   ·have:=this.2.2;rw [Og];lia
  unfold Gn at t0;rw [e0,Xl,xr,d9] at t0;have t1:=(Gg.mp t0).resolve_right k0;unfold pom;rw [O7];exact t1
 ·exact z
theorem abo {a b:List W}{h:Gh}{Q:WK}(hz:a.length+b.length<=1000)(x:Q (.loc h.nx) (h.new (.lst (a++b)))):Mg (.lst a) (.lst b) h Q:=jf.mk (Hj hz (by decide:1000<=Gb)) x
theorem CK {p q:Tr}{h:Gh}{R:WK}(e:p=q)(k:R (.bl false) h):JG (tw p) (tw q) h R:=by
 refine Yu rfl rfl rfl rfl ?_;rw [FQ,decide_eq_true e];exact k
structure ad1 (M:Mt) (C f:C6) (a b c d e x a' b' c' d' e' x':Tr) (k k':Int):Prop where
 L:Rh M a b c d e a' b' c' d' e'
 hx:Ld M x x'
 ok:MP 71 [a,b,c,d,e]
 px:Pl x
 sx:Bw 900 x
 ok':MP 110 [a',b',c',d',e']
 sx':Bw 940 x'
 sM:IW 35 M
 sC:Ht 725 C
 sf:Ht 1115 f
 k0:k≠0
 e0:g8 a b c d e=kC k C
 k0':k'≠0
 e0':g8 a' b' c' d' e'=kC k' f
 car:Rm M C f
 nd:[a,b,c,d,e].Nodup
 f4:zQ [a,b,c,d,e]=false
def aau (c0:kI):Prop:=∀ {h:Gh} {w w':W} {M:Mt} {C f:C6} {a b c d e x a' b' c' d' e' x':Tr} {k k':Int} {Q:WK} {E:EY},ad1 M C f a b c d e x a' b' c' d' e' x' k k'->iQ h w [a,b,c,d,e,x]->(∀ n,w=.loc n->n<h.nx)->iQ h w' [a',b',c',d',e',x']->Q (.bl true) h->c0 [mw M,J6 C,J6 f,w,w'] h Q E
theorem Z0 {ro la sa to oe ob pl cr le ll:kI}(hro:Mq ro)(hla:LC la)(hsa:Rx sa)(hto:acu to)(hoe:Tj oe)(hob:abn ob)(hpl:qd pl)(hcr:tL cr)(hle:aac le)(hll:aa4 ll):aau (fM ro la sa to oe ob pl cr le ll):=by
 intro h w w' M C f a b c d e x a' b' c' d' e' x' k k' Q E X src lo src' q;have L:=X.L;have dM:=L.dn;have G:G5 [a,b,c,d,e]:=NP (fun t ht=>(X.ok t ht).1) X.nd X.f4;have G':G5 [a',b',c',d',e']:=NP L.plain (L.nd X.nd) (by rw [L.four X.nd];exact X.f4);have r1:=xZ G X.k0 X.e0;have r2:=xZ G' X.k0' X.e0';have fin:∀ {g:Gh},(∀ m,m<h.nx->g.c m=h.c m)->qz true h (.bl true) g Q:=fun kp=>⟨fun n c hn e=>by rw [kp n hn];exact e,.inl ⟨by simp [Lo],q⟩⟩
 have px':=X.hx.1;have pe:=(X.ok e (by simp)).1;have se:=(X.ok e (by simp)).2;have pe':=(X.ok' e' (by simp)).1;have se':=(X.ok' e' (by simp)).2;unfold fM;refine uF rfl (σ:=[Dn<|mw M,Dn<|J6 C,Dn<|J6 f,Dn w,Dn w',FX,FX,FX,FX,FX,FX]) rfl ?_;refine aO<|dh<|Jb<|GP<|aG<|ak<|ao rfl<|aD ?_
 refine hro (m:=725) (by decide) X.sC ?_;refine aad rfl ?_;by_cases hd:det (bF C)≠0
 rotate_left
 ·rw [decide_eq_false hd];refine Bv<|cu<|J2<|aG<|ak<|ao rfl<|aD ?_
  refine hro (m:=1115) (by decide) X.sf ?_;have hf:¬ det (bF f)≠0:=fun z=>hd (r1.mpr (L.five.mp (r2.mp z)))
  rw [decide_eq_false hf];rfl'
  exact fin fun _ _=>rfl
 rw [decide_eq_true hd];refine rZ<|cC ?_
 have F:=r1.mp hd;have hdf:det (bF f)≠0:=r2.mpr (L.five.mpr F);unfold iI;refine aO<|aZ<|aG<|ak<|ao rfl<|ak<|aL<|ao rfl<|bB<|src.at (i:=5) (by simp)<|aD ?_
 refine hla (p:=x) (m:=900) (by decide) (X.sC.mono<|by decide) X.sx (fun _ A pA hA sA=>?_)<|fun z=>absurd z<|uh hd X.px.ne
 refine nV<|cC ?_
 refine aO<|dh<|bL<|aL<|aG<|ak<|ao rfl<|ak<|aL<|ao rfl<|bB<|src'.at (i:=5) (by simp)<|aD ?_
 refine hla (p:=x') (m:=1115) (by decide) X.sf (X.sx'.mono<|by decide) (fun _ A' pA' hA' sA'=>?_)<|fun z=>absurd z<|uh hdf px'.ne
 refine aG<|ak<|ao rfl<|ak<|ao rfl<|aD ?_
 refine hll (m:=35) (by decide) (by decide) X.sM sA dM pA fun K hK sK=>?_;have eK:A'=K:=DK dM X.car X.hx hA pA' hA' hK;refine CK eK<|qb<|rZ<|cC ?_
 unfold iW;refine aO<|dh<|bL<|aL<|aG<|ak<|ao rfl<|ak<|aG<|ak<|ao rfl<|ak<|ao rfl<|aD ?_
 refine hll (m:=35) (by decide) (by decide) X.sM sA dM pA fun K2 hK2 sK2=>?_;have eK2:K2=A':=(hK2.uniq hK).trans eK.symm;refine aD ?_;refine hsa (m:=1878) (by decide) (X.sf.mono<|by decide) (sK2.mono<|by decide) hK2.1.ne (fun _ u pu hu _=>?_)<|fun z=>absurd z hdf
 have eu:u=x':=zaT hdf px' pu (by rw [eK2];exact hA') hu;refine aL<|ao rfl<|bB<|src'.at (i:=5) (by simp) ?_
 refine CK eu<|qb<|rZ<|cC ?_
 unfold iH;refine aO<|dh<|bL<|aL<|aG<|ak<|ao rfl<|ak<|aL<|ao rfl<|bB<|src'.at (i:=4) (by simp)<|aD ?_
 have we:wth C e=0:=Dd X.k0 X.e0 e (by simp);have we':wth f e'=0:=Dd X.k0' X.e0' e' (by simp);refine hto (p:=e') (m:=1115) (by decide) X.sf (se'.mono<|by decide) (fun _ _ B' pB' hB' sB'=>?_) (fun z=>absurd we' z)<|fun _ z=>absurd z<|uh hdf pe'.ne
 refine aG<|ak<|ao rfl<|ak<|aG<|ak<|ao rfl<|ak<|aL<|ao rfl<|bB<|src.at (i:=4) (by simp)<|aD ?_
 refine hto (p:=e) (m:=725) (by decide) X.sC (se.mono<|by decide) (fun _ _ B pB hB sB=>?_) (fun z=>absurd we z)<|fun _ z=>absurd z<|uh hd pe.ne
 refine aD ?_;refine hll (m:=35) (by decide) (by decide) X.sM sB dM pB fun K3 hK3 sK3=>?_;refine CK (DK dM X.car L.he hB pB' hB' hK3)<|qb<|rZ<|cC ?_
 unfold iR;refine aO<|dh<|bL<|aL<|aL<|ao rfl<|bB<|src.at (i:=5) (by simp) ?_
 refine aL<|ao rfl<|bB<|src.at (i:=4) (by simp)<|Bq<|qb ?_
 refine tZ (fun _=>?_) fun xe=>?_
 ·exact cu<|bB<|uc<|fin fun _ _=>rfl
 have xe:x≠e:=xe;have ex:e≠x:=fun z=>xe z.symm
 refine cC ?_;unfold iJ;refine aO<|aZ<|aG<|ak<|aG<|ak<|aL<|ao rfl<|bB<|src.at (i:=4) (by simp) ?_
 refine ak<|aL<|ao rfl<|bB<|src.at (i:=5) (by simp)<|aD ?_
 refine hcr (p:=e) (q:=x) (m:=900) (by decide) (se.mono<|by decide) X.sx ?_;refine aD ?_;refine hpl.tr (u:=crs e x) (m:=972) (.inl rfl) (eN pe X.px ex) (Aj se X.sx) (by decide) fun l pl' hl sl=>?_;obtain ⟨le',lx⟩:=Am hl;refine nV<|cC ?_
 refine aO<|aZ<|aG<|ak<|ao rfl<|ak<|aL<|ao rfl<|bB<|src.at (i:=4) (by simp) ?_
 refine ak<|ao rfl<|aD ?_
 have el:dt3 e l=0:=by rw [aR];exact le'
 refine hoe (p:=e) (n:=71) (mc:=725) (ml:=972) (by decide) (by decide) (by decide) (by decide) X.sC se sl pe pl' (fun _ _ _ u o su=>?_) (fun z=>z.elim (fun z=>absurd we z) fun z=>absurd el z)<|fun _ _ z=>absurd z<|V6 hd pe X.px ex hl
 refine nV<|cC ?_
 refine aO<|dh<|bL<|aL<|aG<|ak<|ao rfl<|ak<|aL<|ao rfl<|bB<|src'.at (i:=4) (by simp) ?_
 refine ak<|aG<|ak<|ao rfl<|ak<|ao rfl<|aD ?_
 refine hll (m:=35) (by decide) (by decide) X.sM sl dM pl' fun l' hl' sl'=>?_;refine aD ?_;have el':dt3 e' l'=0:=by rw [aR];exact (zq dM hl' L.he).mpr le'
 have lx':dt3 l' x'=0:=(zq dM hl' X.hx).mpr lx;have ex':e'≠x':=fun z=>ex (vY dM pe X.px L.he (by rw [z];exact X.hx))
 have par':Fq (crs e' x') l':=by
  obtain ⟨y,py,hy⟩:=pU (eN pe' px' ex');obtain ⟨y1,y2⟩:=Am hy;have:y=l':=Qv hy (Fq.refl l') py hl'.1 (by
   rw [cl2,lx',aR l' e',el'];simp [fZ])
  rw [<-this];exact hy
 refine hoe (p:=e') (n:=110) (mc:=1115) (ml:=1046) (by decide) (by decide) (by decide) (by decide) X.sf se' (sl'.mono<|by decide) pe' hl'.1 (fun _ _ _ u' o' su'=>?_) (fun z=>z.elim (fun z=>absurd we' z) fun z=>absurd el' z)<|fun _ _ z=>absurd z<|V6 hdf pe' px' ex' par'
 refine aG<|ak<|ao rfl<|ak<|ao rfl<|aD ?_
 refine hle (m:=35) (n:=4694) (by decide) (by decide) X.sM (su.mono<|by decide) dM o.1 fun v hv sv=>?_;have o2:Pq f e' l' v:=afo dM X.car pe L.he hl' hv o;have euv:u'=v:=afl px' lx' (fun z=>ex' z.symm) o' o2;refine CK euv<|qb<|rZ<|cC ?_
 unfold iV;have nt:=src.nt;refine aO<|aZ<|aL<|mK<|ak<|lO<|ao rfl<|gn<|bK<|bB<|pR<|Ju nt src.vl ?_
 rw [show Bc ([a,b,c,d,e,x].map tw) FX (Dn 5)=[a,b,c,d,e].map tw from rfl];refine aD<|Av rfl<|qC<|ak<|ao rfl<|aD<|cV rfl<|abo (Oh rfl) ?_
 have c1:(h.new (.lst ([a,b,c,d,e].map tw++[tw l]))).c h.nx=Dn (.lst (([a,b,c,d,e]++[l]).map tw)):=Ae _ _;have o1:∀ m,m<h.nx->(h.new (.lst ([a,b,c,d,e].map tw++[tw l]))).c m=h.c m:=fun m hm=>uz (HI hm)
 generalize h.new (.lst ([a,b,c,d,e].map tw++[tw l]))=g at *;have sg:iQ g w [a,b,c,d,e,x]:=src.keep lo o1;refine nV<|cC ?_
 refine aO<|pH<|nG<|aG<|ak<|lO<|ao rfl<|gn<|bK<|bB<|pR<|Ju nt sg.vl ?_
 rw [show Bc ([a,b,c,d,e,x].map tw) FX (Dn 5)=[tw a,tw b,tw c,tw d,tw e] from rfl];refine ak<|ao rfl<|aD ?_
 refine hob (l:=l) X.ok sl (fun _ _=>?_) (fun z=>absurd F z)<|fun _ z=>absurd el z
 refine Gd rfl<|oN ?_
 rw [<-Wb];refine QD (K:=fun ts=>∃ pre y,ts=pre++[y]/\Pl y/\Fq (oX a b c d e l) y) hpl hcr oT9 c1 ?_ ?_
 ·rw [abJ];exact Y0 F X.ok pl' sl le' fun pre y py _ hy=>⟨pre,y,rfl,py,hy⟩
 ·rintro ts' g2 s8 s9 s10 ⟨pre,y,rfl,py,hy⟩ c2 o2' _;have ey:y=u:=aft F pe pl' le' X.k0 X.e0 hd o py hy;refine cC ?_;unfold gG;have vw:view g2 (.loc h.nx)=Dn ((pre++[y]).map tw):=by simp only [view,cG,c2]
  refine cu<|aL<|aL<|ao rfl ?_
  rfl'
  refine fC (w:=tw y) vw (by rw [Sd];exact Cg _ _) ?_;refine ao rfl<|Bq<|uc ?_
  rw [decide_eq_true ey];exact fin fun m hm=>(o2' m<|HI hm).trans (o1 m hm)
theorem ab4 {on th ca fv sx mp le sr en:kI}(hon:WD on)(hth:Ry th)(hca:Vg ca)(hfv:acY fv)(hsx:acU sx)(hmp:acO mp)(hle:aac le)(hsr:SxR sr)(hen:aau en)(ns:List Int){h:Gh}:QL on th ca fv sx mp le sr en [.kls (ns.map .int)] h (fun w _=>w=.bl true) EF:=by
 unfold QL;refine gD rfl (σ:=[Dn<|.kls<|ns.map .int,FX,FX,FX,FX,FX,FX]) rfl ?_;refine aO<|aZ<|aG<|ak<|ao rfl<|aD ?_
 refine hfv fun a b c d e n g ok nd f4 hn ng gc go=>?_;refine nV<|cC ?_
 have v5:view g (.loc n)=Dn [tw a,tw b,tw c,tw d,tw e]:=by simp only [view,cG,gc]
 refine aO<|aZ<|aG<|ak<|mK<|ak<|ao rfl<|aD<|Av v5<|aD ?_
 refine hth (m:=71) (.inl rfl) (by decide) ok (fun G C k k0 e0 pC sC=>?_) (fun z=>absurd nd z)<|fun _ z=>absurd (f4.symm.trans z)<|by decide
 refine nV<|cC ?_
 refine aO<|kW<|uR<|ao rfl<|nT gc<|ak<|aG<|ak<|ao rfl<|ak<|ao rfl<|ak<|ao rfl<|aD ?_
 refine hsx gc ok sC fun x px sx'=>?_;refine aD<|JN gc (by simp) fun g2 c2 o2 x2=>?_
 have c2:g2.c n=Dn (.lst ([a,b,c,d,e,x].map tw)):=c2;have src:iQ g2 (.loc n) [a,b,c,d,e,x]:=.inr ⟨n,rfl,c2⟩;have lo:∀ m,W.loc n=.loc m->m<g2.nx:=fun m em=>by cases em;lia
 refine cC ?_;refine aO<|aZ<|aG<|ak<|ao rfl<|ak<|aL<|ao rfl<|bB<|src.at (i:=5) (by simp)<|aD ?_
 refine hon (p:=x) (m:=900) (by decide) (sC.mono<|by decide) sx' ?_;refine nV<|cC ?_
 have hb:decide (wth C x=0)=true↔wth C x=0:=decide_eq_true_iff;generalize decide (wth C x=0)=bd at *;have ok1:MP 110 [a,b,c,d,e]:=fun t ht=>⟨(ok t ht).1,(ok t ht).2.mono (by decide)⟩
 refine aO<|dh<|yP ?_
 rfl'
 refine hsr src lo ok1 px (sx'.mono<|by decide) k0 e0 (sC.mono<|by decide) hb ?_;refine aad rfl<|rZ<|cC ?_
 unfold Ke;refine aO<|aZ<|aG<|ak<|ao rfl<|aD ?_
 refine hmp fun M sM dM=>?_;refine nV<|cC ?_
 refine aO<|aZ<|lA<|nG<|ao rfl<|aaO c2<|lD rfl ?_
 refine dJ c2 rfl<|bI<|bM<|aG<|ak<|ao rfl<|ak<|ao rfl<|aD ?_
 refine hle (m:=35) (n:=71) (by decide) (by decide) sM (ok a<|by simp).2 dM (ok a<|by simp).1 fun a' ha sa=>?_;refine dJ c2 rfl<|bI<|bM<|aG<|ak<|ao rfl<|ak<|ao rfl<|aD ?_
 refine hle (m:=35) (n:=71) (by decide) (by decide) sM (ok b<|by simp).2 dM (ok b<|by simp).1 fun b' hb' sb=>?_;refine dJ c2 rfl<|bI<|bM<|aG<|ak<|ao rfl<|ak<|ao rfl<|aD ?_
 refine hle (m:=35) (n:=71) (by decide) (by decide) sM (ok c<|by simp).2 dM (ok c<|by simp).1 fun c' hc sc'=>?_;refine dJ c2 rfl<|bI<|bM<|aG<|ak<|ao rfl<|ak<|ao rfl<|aD ?_
 refine hle (m:=35) (n:=71) (by decide) (by decide) sM (ok d<|by simp).2 dM (ok d<|by simp).1 fun d' hd sd=>?_;refine dJ c2 rfl<|bI<|bM<|aG<|ak<|ao rfl<|ak<|ao rfl<|aD ?_
 refine hle (m:=35) (n:=71) (by decide) (by decide) sM (ok e<|by simp).2 dM (ok e<|by simp).1 fun e' he se=>?_;refine dJ c2 rfl<|bI<|bM<|aG<|ak<|ao rfl<|ak<|ao rfl<|aD ?_
 refine hle (m:=35) (n:=900) (by decide) (by decide) sM sx' dM px fun x' hx sx2=>?_;refine Ba c2 ?_;refine gW (σ':=[Dn<|.kls<|ns.map .int,Dn<|.loc n,Dn<|J6 C,Dn<|.bl bd,Dn<|mw M,Dn<|.lst<|[a',b',c',d',e',x'].map tw,FX]) rfl<|cC ?_
 have L:Rh M a b c d e a' b' c' d' e':=⟨dM,fun t ht=>(ok t ht).1,ha,hb',hc,hd,he⟩
 have ok2:MP 110 [a',b',c',d',e']:=by
  intro t ht;refine ⟨L.plain t ht,?_⟩;simp only [Fe,Fx,or_false] at ht;rcases ht with rfl | rfl | rfl | rfl | rfl
  ·exact sa.mono<|by decide
  ·exact sb.mono<|by decide
  ·exact sc'.mono<|by decide
  ·exact sd.mono<|by decide
  ·exact se.mono<|by decide
 refine aO<|aZ<|aG<|ak<|lO<|ao rfl<|gn<|bK<|bB<|pR<|sW (us:=[a',b',c',d',e'].map tw) rfl<|aD ?_
 refine hth (m:=110) (.inl rfl) (by decide) ok2 (fun _ f k' k0' e0' pf sf=>?_) (fun z=>absurd (L.nd nd) z)<|fun _ z=>absurd ((L.four nd).symm.trans z) (by rw [f4];decide)
 refine nV<|cC ?_
 refine aO<|dh<|yP<|bL<|aL<|ao rfl<|aG<|ak<|ao rfl<|ak<|ao rfl<|aD ?_
 refine hca (m:=35) (n:=725) (by decide) sM dM sC (QZ pC) fun f2 pf2 _ car=>?_;have ef:f=f2:=L.curve nd f4 k0 e0 k0' e0' pf pf2 car;rw [<-ef] at car;refine abm<|qb ?_
 refine z9 (by simp [ef]) ?_;have src':iQ g2 (.lst ([a',b',c',d',e',x'].map tw)) [a',b',c',d',e',x']:=.inl rfl;refine Jb<|GP<|aG<|ak<|ao rfl<|ak<|ao rfl<|ak<|ao rfl<|aD ?_
 refine hsr src' (fun m em=>by cases em) ok2 hx.1 (sx2.mono<|by decide) k0' e0' sf (hb.trans (jl dM car hx).symm) ?_;refine aad rfl<|rZ<|cC ?_
 unfold Jz;refine cu<|aG<|ak<|ao rfl<|ak<|ao rfl<|ak<|ao rfl<|ak<|ao rfl<|ak<|ao rfl<|aD ?_
 exact hen ⟨L,hx,ok,px,sx',ok2,sx2.mono<|by decide,sM,sC,sf,k0,e0,k0',e0',car,nd,f4⟩ src lo src' rfl
theorem ZW (ns:List Int)(_:ns.length<=63):T5 [.kls (ns.map W.int)] g0 (fun w _=>w=.bl true) EF:=by
 have ph:aaG cR:=afv;have pl:qd cR:=fun {hh w ns m Q E} hw=>ph (hw.elim .inl fun e=>.inr (.inl e))
 have pp:qd jk:=zaG (zaY ab8) afN;have sh:jt lG:=ahB J5 tO;have ol:jt mj:=aei sh;have tt:Ik bY:=aa8 J5 Ep;have td:qp ql:=aeQ Ec Ep;have bo:Ka jg:=XH ZV tt;have rd:Mq jQ:=afa (w_size (Vo Ox Ec) Ep) w_tab;have th:Ry rB:=zaJ pp zbn (XD ol Dp Ei) (zbD J5 tO abV);have la:LC fJ:=YQ tt w_tab (VL pp);have sa:Rx jj:=ago pp tt td w_tab rd;have oe:Tj lK:=Wz (Qc J5) (w_on wI) w_tab bo (VL pp) (aaR (Yi (zbo pp tO)) zbE);have fi:Oe fL:=Zx (w_has ol Dp Ei);have ob:abn eY:=Yc (Qc J5) fi;have ic:Bx kh:=aeJ ol (aeb (afG (yW pp tO)) (agc (yW pp tO)) fi);have dr:nZ jh:=ahb Oq;have ma:wY qw:=ahv ph YC;have tu:Iu qg:=ahD mJ tM;have t3:Nz jR:=aeI tu;have le:aac vO:=aha pl tM;have ll:aa4 jq:=afR pl mJ tM;have sr:SxR fj:=aaC ic (w_on wI) t3 (aga mJ tM);have en:aau fQ:=Z0 rd la sa (Zn (w_on wI) la) oe ob pl mJ le ll;have ca:Vg sG:=abq pp Jr (aaN Ox Ep Jr) (YD pp Jr td) w_tab;exact ab4 (w_on wI) th ca (agC dr pl ma t3) (zbc Oq dr pl ma tM zaP agS) (YH dr pl YC ahz) le sr en ns
end My
namespace PySem.W.Fast
def tw13065365310329275693:=()
def tw263279097331642212:=()
def tw14020767538902232779:=()
def tw17095852900210250866:=()
def tw14488065823104745555:=()
def tw15393293743672960329:=()
def tw6643044542970094359:=()
def tw13070221746163256633:=()
def tw9415097087065290385:=()
def tw4913401902773909274:=()
def tw5874413579966365394:=()
def tw3873646155691790342:=()
def tw1966454275341522261:=()
def tw9827697948064029716:=()
def tw14932417945186673122:=()
def tw14100659311190379767:=()
def tw16203875692220018446:=()
def tw8007568474176882761:=()
def tw3090317805371699098:=()
def tw7891124561128843060:=()
def tw10710719220131554122:=()
def tw5770612630249460212:=()
def tw10842930748657027523:=()
def tw5621518865613403272:=()
def tw14928897660363684746:=()
def tw2160523555446782856:=()
def tw6219912189340790849:=()
def tw2831918158612698231:=()
def tw5040934443434218044:=()
def tw7106539333972826206:=()
def tw1514400023092821067:=()
def tw6800317883232710804:=()
def tw12128636222890503319:=()
def tw14053313157730323890:=()
def tw16481433422380074742:=()
def tw10809913906661237119:=()
def tw9037965834236326047:=()
def tw7231396867360632151:=()
def tw10085564794105378008:=()
def tw18330357127673819986:=()
def tw11081097542786250961:=()
def tw5588972095738901243:=()
def tw9984105575399387856:=()
def tw8719752042930284931:=()
def tw12717736770889576933:=()
def tw482116078405940891:=()
def tw5340123912085998276:=()
def tw11189227823180378127:=()
def tw14037986060627800729:=()
def tw18398733640744422883:=()
def tw1181149261077366488:=()
def tw9340556843631801007:=()
def tw6561521806090639360:=()
def tw2370167431114732987:=()
def tw15893196391748632620:=()
def tw7751117193502294885:=()
def tw5696198718664890209:=()
def tw13028194806865692070:=()
def tw12060749580502140988:=()
def tw18026213847460156704:=()
def tw18381364283584507126:=()
def tw6943418539805487707:=()
def tw15407678358252953956:=()
def tw7215815629499010137:=()
def tw9330026172525666112:=()
def tw3718730525759875520:=()
def tw13612486755102292272:=()
def tw9124140711241112726:=()
def tw2686715440690394849:=()
def tw1768243885733764775:=()
def tw393487510462961489:=()
def tw18098029325045384029:=()
def tw280440348616709051:=()
def tw7396283615085935386:=()
def tw14700589076921029255:=()
def tw1551925007663637238:=()
def tw3355365574827753674:=()
def tw11081679058417129489:=()
def tw14708644060650199386:=()
def tw14942804348336267264:=()
def tw10649711793044296899:=()
def tw10115990389072840252:=()
def tw12128926321996662524:=()
def tw11222206607565614939:=()
def tw6257914363446547067:=()
def tw8296405350741140678:=()
def tw14306864729349648105:=()
def tw17479851723392476274:=()
def tw1675783543966783401:=()
def tw1113133904279363136:=()
def tw14524752883653667873:=()
def tw7431622910081596829:=()
def tw974744253272118249:=()
def tw8970179047513579501:=()
def tw226406892003734305:=()
def tw15294973448919947583:=()
def tw13476278639726479410:=()
def tw6078119737189831594:=()
def tw7445361074161989860:=()
def tw12781917535923366649:=()
def tw14762566352155688035:=()
def tw5236864541621488063:=()
def tw5759039050147488600:=()
def tw16062267772558734581:=()
def tw15854012715827026189:=()
def tw13090486328042886495:=()
def tw9854478670467557654:=()
def tw7495498038885292050:=()
def tw12914343403649605828:=()
def tw14568410618878301945:=()
def tw12688607132008934464:=()
def tw11733538736535928293:=()
def tw13517264296182268963:=()
def tw11831552269432726418:=()
def tw6456271846259029451:=()
def tw5736506178639965763:=()
def tw6831524093109823871:=()
def tw9260619379154313615:=()
def tw6191793577616774708:=()
def tw4342646166345571896:=()
def tw8986609567673586505:=()
def tw15301682511490010712:=()
def tw7568787867541005342:=()
def tw14983656766137195836:=()
def tw16557198813072908528:=()
def tw17155556237735168859:=()
def tw10103496152188840395:=()
def tw13851813687132317660:=()
def tw9422378019335614522:=()
def tw18325293155416325171:=()
def tw10813494977493059014:=()
def tw8050370661044527271:=()
def tw462718954665197124:=()
def tw6792403895144818350:=()
def tw18346206142781501427:=()
def tw2704704465051505364:=()
def tw9709812974158346965:=()
def tw11959449432397016114:=()
def tw16087090792016842577:=()
def tw3343172739160777184:=()
def tw10081681115711986716:=()
def tw12080005351745158745:=()
def tw13530042573526698574:=()
def tw8972901218736076094:=()
def tw16326083948500113214:=()
def tw13288705857641631947:=()
def tw2753163595715330557:=()
def tw11923683612757000125:=()
end PySem.W.Fast
open PySem PySem.W PyProof.Rows
theorem PySem.Challenge.cw_easelroom_k49_whole_sixth_spot_holds : PySem.Challenge.rw_easelroom_k49_whole_sixth_spot.Holds := by
 w_on;o_law;k_head;(case hw=>w_witness2)
 k_fill
 refine My.walk (l:=PySem.Challenge.rw_easelroom_k49_whole_sixth_spot) rfl rfl (fun w h Y=>PySem.W.kIn_of Y) ?F
 case F=>
  intro w mg fa h KX G hmg;refine' My.all_mk My.ZW KX G hmg ?h0 ?h1 ?h2 ?h3 ?h4 ?h5 ?h6 ?h7 ?h8 ?h9 ?h10 ?h11 ?h12 ?h13 ?h14 ?h15 ?h16 ?h17 ?h18 ?h19 ?h20 ?h21 ?h22 ?h23 ?h24 ?h25 ?h26 ?h27 ?h28 ?h29 ?h30 ?h31 ?h32 ?h33 ?h34 ?h35 ?h36 ?h37 ?h38 ?h39 ?h40 ?h41 ?h42 ?h43 ?h44 ?h45 ?h46 ?h47 ?h48 ?h49 ?h50 ?h51 ?h52 ?h53 ?h54 ?h55 ?h56 ?h57 ?h58 ?h59 ?h60 ?h61 ?h62 ?h63 ?z_abs ?z_all ?z_any ?z_bool ?z_isinstance ?z_len ?z_list ?z_max ?z_range ?z_reversed ?z_set ?z_sum ?z_tuple ?z_zip ?gk_TILES ?lk_TILES ?lk_TILES_0 ?lk_TILES_1 ?lk_TILES_2 ?lk_TILES_3 ?gk_OTHER_STEPS ?lk_OTHER_STEPS ?lk_OTHER_STEPS_0 ?lk_OTHER_STEPS_1 ?lk_OTHER_STEPS_2 ?lk_OTHER_STEPS_3 ?lk_OTHER_STEPS_4 ?lk_OTHER_STEPS_5 ?lk_OTHER_STEPS_6 ?lk_OTHER_STEPS_7 ?lk_OTHER_STEPS_8 ?lk_OTHER_STEPS_9
  (case h0 | h1 | h2 | h3 | h4 | h5 | h6 | h7 | h8 | h9 | h10 | h11 | h12 | h13 | h14=>(apply My.K1 <;> k_is))
  (case h15 | h16 | h17 | h18 | h19 | h20 | h21 | h22 | h23 | h24 | h25 | h26 | h27 | h28 | h29=>(apply My.K1 <;> k_is))
  (case h30 | h31 | h32 | h33 | h34 | h35 | h36 | h37 | h38 | h39 | h40 | h41 | h42 | h43 | h44=>(apply My.K1 <;> k_is))
  (case h45 | h46 | h47 | h48 | h49 | h50 | h51 | h52 | h53 | h54 | h55 | h56 | h57 | h58 | h59=>(apply My.K1 <;> k_is))
  (case h60 | h61 | h62 | h63=>(apply My.K1 <;> k_is))
  (case z_abs | z_all | z_any | z_bool | z_isinstance | z_len | z_list | z_max | z_range | z_reversed | z_set | z_sum | z_tuple | z_zip | gk_TILES | lk_TILES | lk_TILES_0 | lk_TILES_1 | lk_TILES_2 | lk_TILES_3 | gk_OTHER_STEPS | lk_OTHER_STEPS | lk_OTHER_STEPS_0 | lk_OTHER_STEPS_1 | lk_OTHER_STEPS_2 | lk_OTHER_STEPS_3 | lk_OTHER_STEPS_4 | lk_OTHER_STEPS_5 | lk_OTHER_STEPS_6 | lk_OTHER_STEPS_7 | lk_OTHER_STEPS_8 | lk_OTHER_STEPS_9=>k_is)
