import PyProof.Rows.All
import Wide.All
import OpenK.AllK
import Wide.FinOn
import Lean
import PyProof.EqAt
import PyProof.EqKinds
import PyProof.TupleCall
import PySem.Challenge.RW_easelroom_k90_spots_written_and_read
set_option Elab.async false
set_option linter.all false
set_option maxRecDepth 100000
set_option maxHeartbeats 0
local macro_rules | `(tactic| lia) => `(tactic| first | lia (splits := 9) | omega)
open Option renaming some→Dn,none→Go
open PySem.W renaming Frag→Tt,mg_of→Uj,Looks→U7,mg_none_of→U9,nsIn→Vc,findIn→Vd,keepIn→Vq,mroIn→Vt,clsIn→Wb,fnOf→WT,excIn→W8
open PySem renaming wpAny_bind→Tv,Value→Tw,Shared→Tz,Spec→TF,wpAny_pure→TV,starEach→T3,mainGlobals→T4,Program→T8,sizeLine→Ua,Around→Ug,NameKind→Ul,wpAny→Us,World→Uv,FuncData→Uw,model→Uz,Builtin→UW,wpAny_newObj_type→U5,cellsFrom→U6,mem_of_lookup→Ve,wpAny_mono→Vi,wpAny_field→Vp,builtinLookup_eq_fast→Vr,binaryOp→Vv,backTo→Vy,wpAny_Call_Name_kw→VJ,compareOp→VL,Str→VN,foldedSetIterable→V3,wpAny_holding→V5,wpAny_callSpecial?_slot→V6,wpAny_passesOwn→Wi,typeLookup_type→Wj,bootBuiltins→Wk,isSubtype_type→Wu,wpAny_call_entry→Wv,SetTable→Ww,boot_len→WX,wpAny_ite_split→W2,wpAny_attempt→W3,PassesOwn→W5,Paired→Xb,wpAny_truthy_bool→Xf,wpAny_of_eq→Xg,typeIs_str→Xh,wpAny_setField→Xj,wpAny_pyIter_revIter→Xo,behindInMarks→Xq,wpAny_specialOf→Xz,wpAny_execs_nil→XC,sliceBounds→XD,rawInt→XF,Keyword→XJ,swapsWith→XS,sizeLine_eq→X5,keywordEach→X6
open PySem.Heap renaming get?_push_of_some→TJ,lt_size→TY,get?_push_size→T9,get?_update_other→Ui,get?_update_self→U3,SameBut→Wt
open Nat renaming lt_of_lt_of_le→TQ,le_refl→T6,le_trans→Uc,ne_of_lt→Ud,lt_irrefl→Vl,lt_of_le_of_lt→V8,zero_le→Wh,ne_of_gt→W9,le_of_ble_eq_true→Xa,pow_le_pow_right→Xk,le_of_lt→Xx,beq→XH,le_succ→XR
open List renaming size_toArray→TX,mem_of_elem_eq_true→T5,length_map→Ub,getElem?_eq_getElem→Uk,lookup_cons→Um,getElem?_eq_some_iff→Uq,mem_cons→Ur,getElem?_map→Ut,mem_cons_of_mem→Uu,map_cons→Uy,mem_cons_self→UG,length_cons→UJ,mem_append_right→U0,replicate→U4,getElem?_append_right→U8,mem_singleton→Va,length_append→Vb,getElem?_append_left→Vg,all_eq_true→Vh,take_length→Vm,not_mem_nil→Vn,map_nil→Vw,append_assoc→Vx,getD_eq_getElem?_getD→Vz,range→VD,take_succ→VF,mem_of_getElem?→VP,mem_append→Wd,head?_cons→Wf,map_congr_left→Ws,getElem?_replicate→Wx,append_nil→Wy,reverse_cons→WY,singleton_append→W7,cons_append→Xc,mem_append_left→Xi,all_cons→Xl,nodup_cons→Xm,mem_map→Xr,map_map→Xu,all_map→Xv
open Option.some renaming inj→T7
open Bool renaming false_ne_true→Ue,and_eq_true→Uo,not_eq_true'→Vj,and_false→VG,not_eq_true→Wq,false_eq_true→Wz,eq_false_iff→W0,noConfusion→Xe,eq_iff_iff→Xn
open PySem.Str renaming length_append→Uh,ofString→Vo
open PyProof.Rows renaming slot_tuple_getitem→Ux,boot_isinstance→Vs,callWith_type1→V1,SortKind→W4,kindOf→Xp,Keyed→XQ,SortSt→X3,AllBare→X7
open PySem.SeqAt renaming EqAt→UL,ne_of_list_tuple→WR
open PySem.Obj renaming data_mapFields→Vf,isFreed_of_fields→Vk,mapSeq→XM
open PySem.NumText renaming digitsVal→Vu,AllDigits→Wc
open False renaming elim→VB
open PySem.StrLaws renaming sliceText→VH
open Ne renaming symm→VR
open Array renaming length_toList→V0
open Option renaming bind_some→V2,map_eq_some_iff→WL
open PySem.PassesOwn renaming never→V4
open PySem.Builtin.Slice renaming slicePlaces→V7
open Int renaming natAbs_natCast→V9,emod_lt_of_pos→Wa,gcd→WM,emod_nonneg→WQ,le_of_lt→Xy
open PySem.Builtin.Tuple renaming tupleExact→Wg
open PySem.Txt renaming startswith→Wn,split→Wo,join→WD
open PySem.SetTable renaming bits→Wr
open PySem.F renaming slot_str_join→WW
open PySem.Builtin.Str renaming strKind→W6
open PySem.Calls renaming evalArgs_plain→Xd
open ToString renaming toString→X4
namespace L2
open PySem PySem.Spec PyProof.Rows
abbrev Key:=Sum Int Str
def J8:Key->Tw->Bool
 | .inl k,v=>Value.isInt k v
 | .inr x,v=>Value.isStrOf x v
def Rx (w:Uv):Key->Int
 | .inl k=>hashInt k
 | .inr x=>hashStr w x
theorem bf:∀ {k:Key} {v:Tw},J8 k v=true->(∃ i t,k=Sum.inl i/\v=Value.int i t)\/(∃ x t,k=Sum.inr x/\v=Value.str x t)
 | .inl i,v,h=>by
  obtain ⟨t,e⟩:=Value.isInt_shape (k:=i) (v:=v) h;exact .inl ⟨i,t,rfl,e⟩
 | .inr x,v,h=>by
  obtain ⟨t,e⟩:=Value.isStrOf_shape (x:=x) (v:=v) h;exact .inr ⟨x,t,rfl,e⟩
theorem Kr (a b:Int):decide ((Sum.inl a:Key)=Sum.inl b)=(a==b):=by
 by_cases e:a=b
 ·subst e;simp
 ·have h:¬ (Sum.inl a:Key)=Sum.inl b:=fun q=>e (Sum.inl.inj q)
  rw [decide_eq_false h];exact (beq_eq_false_iff_ne.mpr e).symm
theorem Jv (a b:Str):decide ((Sum.inr a:Key)=Sum.inr b)=decide (a=b):=by
 by_cases e:a=b
 ·subst e;simp
 ·have h:¬ (Sum.inr a:Key)=Sum.inr b:=fun q=>e (Sum.inr.inj q)
  rw [decide_eq_false h,decide_eq_false e]
theorem K6 (a:Int)(b:Str):decide ((Sum.inl a:Key)=Sum.inr b)=false:=decide_eq_false (fun q=>nomatch q)
theorem KC (a:Str)(b:Int):decide ((Sum.inr a:Key)=Sum.inl b)=false:=decide_eq_false (fun q=>nomatch q)
def pJ (prog:T8)(w:Uv):PySem.KeyKind prog w Key where
 is:=J8
 hash:=Rx w
 inj:=fun v a b ha hb=>by
  rcases bf ha with ⟨i,t,rfl,rfl⟩ | ⟨x,t,rfl,rfl⟩
  ·rcases bf hb with ⟨j,u,rfl,e⟩ | ⟨y,u,rfl,e⟩
   ·injection e with e1 _;rw [e1]
   ·exact nomatch e
  ·rcases bf hb with ⟨j,u,rfl,e⟩ | ⟨y,u,rfl,e⟩
   ·exact nomatch e
   ·injection e with e1 _;rw [e1]
 byValue:=fun k v h=>by
  rcases bf h with ⟨i,t,rfl,rfl⟩ | ⟨x,t,rfl,rfl⟩ <;> rfl
 pyHash:=fun hv h=>by
  rcases bf hv with ⟨i,t,rfl,rfl⟩ | ⟨x,t,rfl,rfl⟩
  ·exact wpAny_pyHash_int h
  ·exact wpAny_pyHash_str h
 eqBool:=fun hu hv h=>by
  rcases bf hu with ⟨i,t,rfl,rfl⟩ | ⟨x,t,rfl,rfl⟩
  ·rcases bf hv with ⟨j,u,rfl,rfl⟩ | ⟨y,u,rfl,rfl⟩
   ·rw [Kr] at h;exact wpAny_eqBool_int h
   ·rw [K6] at h;exact SeqAt.EqAt.int_str i t y u _ _ _ _ h
  ·rcases bf hv with ⟨j,u,rfl,rfl⟩ | ⟨y,u,rfl,rfl⟩
   ·rw [KC] at h;exact SeqAt.EqAt.str_int x t j u _ _ _ _ h
   ·rw [Jv] at h;exact wpAny_eqBool_str h
 «strs»:=fun k x t v h=>by
  rcases bf h with ⟨i,u,rfl,e⟩ | ⟨y,u,rfl,e⟩
  ·exact nomatch e
  ·injection e with e1 _
   subst e1;cases v <;> rfl
inductive V where
 | non | bl (b:Bool) | int (i:Int) | str (x:Str) | byt (b:Array UInt8) | flt (b:UInt64) | ref (a:Addr) | ty (n:String)
 deriving DecidableEq
def RelV:V->Tw->Prop
 | .non,u=>u=Value.none
 | .bl b,u=>u=Value.bool b
 | .int i,u=>∃ t,u=Value.int i t
 | .str x,u=>∃ t,u=Value.str x t
 | .byt b,u=>∃ t,u=Value.bytes b t
 | .flt b,u=>∃ t,u=Value.float b t
 | .ref a,u=>u=Value.ref a
 | .ty n,u=>u=Value.type n
abbrev Rj:List V->List Tw->Prop:=Xb RelV
theorem Rj.length {xs:List V}{us:List Tw}(r:Rj xs us):xs.length=us.length:=Paired.length r
theorem Rj.get:∀ {xs:List V} {us:List Tw} {i:Nat} {x:V},Rj xs us->xs[i]?=Dn x->∃ u,us[i]?=Dn u/\RelV x u
 | _,_,_,_,.nil,e=>by simp at e
 | _,_,0,_,.cons r _,e=>by simp at e;subst e;exact ⟨_,rfl,r⟩
 | _,_,i+1,x,.cons _ t,e=>by
  obtain ⟨u,h1,h2⟩:=Rj.get (i:=i) (x:=x) t (by simpa using e);exact ⟨u,by simpa using h1,h2⟩
theorem Rj.set {x:V}{u:Tw}(r:RelV x u):∀ {xs:List V} {us:List Tw} (i:Nat),Rj xs us->Rj (xs.set i x) (us.set i u)
 | _,_,_,.nil=>.nil
 | _,_,0,.cons _ t=>.cons r t
 | _,_,i+1,.cons q t=>.cons q (Rj.set r i t)
theorem Rj.append:∀ {xs ys:List V} {us ws:List Tw},Rj xs us->Rj ys ws->Rj (xs++ys) (us++ws)
 | _,_,_,_,.nil,s=>s
 | _,_,_,_,.cons r t,s=>.cons r (Rj.append t s)
theorem Rj.take:∀ {xs:List V} {us:List Tw} (n:Nat),Rj xs us->Rj (xs.take n) (us.take n)
 | _,_,0,_=>.nil
 | _,_,_+1,.nil=>.nil
 | _,_,n+1,.cons r t=>.cons r (Rj.take n t)
theorem Rj.drop:∀ {xs:List V} {us:List Tw} (n:Nat),Rj xs us->Rj (xs.drop n) (us.drop n)
 | _,_,0,r=>r
 | _,_,_+1,.nil=>.nil
 | _,_,n+1,.cons _ t=>Rj.drop n t
def Rf:Option V->Option Tw->Prop
 | some v,Dn u=>RelV v u
 | none,Go=>True
 | _,_=>False
def KV {κ : Type}:List (κ×V)->List (κ×Tw)->Prop:=Xb fun (p:κ×V) (q:κ×Tw)=>p.1=q.1/\RelV p.2 q.2
def kV:Key->V
 | .inl i=>.int i
 | .inr x=>.str x
inductive HO where
 | lst (xs:List V)
 | tup (xs:List V)
 | dK (kvs:List (Key×V)) | dT (kvs:List (List Key×V))
 | set (S:Int->Bool) (n:Nat)
 | ins (C dx:Addr) (fs:List (Str×V))
 | own (x:Addr)
 | xd (fs:List (Str×V))
 | met (f x:Addr)
 | rng (lo hi:Int)
 | frz (o:Obj) (u:HO)
 | tbl (ps:Array Tw)
 | ext (φ : Heap->Prop)
abbrev Hp:=Addr->Option HO
def kI (H:Hp)(a:Addr)(o:HO):Hp:=fun b=>if b=a then Dn o else H b
theorem aM {H:Hp}{a:Addr}{o:HO}:kI H a o a=Dn o:=by unfold kI;rw [if_pos rfl]
theorem aB {H:Hp}{a b:Addr}{o:HO}(h:b≠a):kI H a o b=H b:=by unfold kI;rw [if_neg h]
theorem aD {H:Hp}{a b:Addr}{o:HO}(h:H a=Dn o)(h':H b=Go):a≠b:=by
 intro e;subst e;rw [h] at h';cases h'
section
variable (P:T8)(w:Uv)
def Ak (h:Heap)(a:Addr)(items:Array Tw):Prop:=∃ o,h.get? a=Dn o/\o.cls=.type "tuple"/\(∃ n,o.data=.seq items n)/\o.dict=Go
theorem Ak.tup {h:Heap}{a:Addr}{items:Array Tw}(x:Ak h a items):IsTup h a items:=let ⟨o,ho,hc,hd,_⟩:=x;⟨o,ho,hc,hd⟩
theorem Ak.new (h:Heap)(items:Array Tw):Ak (h.push { cls:=.type "tuple",data:=.seq items }) h.objs.size items:=⟨_,T9 _ rfl,rfl,⟨_,rfl⟩,rfl⟩
def fG (H:Hp)(h:Heap)(a:Addr):HO->Prop
 | .lst xs=>xs.length<=Ua/\∃ (its:List Tw) (n:Nat),Rj xs its/\h.get? a=Dn { cls:=.type "list",data:=.seq its.toArray n }
 | .tup xs=>xs.length<=Ua/\∃ its:List Tw,Rj xs its/\Ak h a its.toArray
 | .dK kvs=>kvs.length<=Ua/\(a==sysModules)=false/\∃ vs,KV kvs vs/\h.DictOf (pJ P w) a vs
 | .dT kvs=>kvs.length<=Ua/\(a==sysModules)=false/\∃ xs:List (List Key×Addr×Tw),
   Xb (fun (p:List Key×V) (q:List Key×Addr×Tw)=>p.1=q.1/\H q.2.1=Dn (.tup (p.1.map kV))/\RelV p.2 q.2.2) kvs xs /\
   ∃ o es ep,h.get? a=Dn o/\o.ExactDict/\o.data=.dict es ep/\es.toList=xs.map (entryOfKey (tupleKind (pJ P w)))/\(xs.map (·.1)).Nodup
 | .set S n=>h.SetOf (intKind P w) a S n
 | .ins C dx fs=>H dx=Dn (.own a)/\fs.length<=1000/\dx≠a/\h.get? a=Dn (PySem.W.instObj C dx) /\
   ∃ mA,h.Ns1 dx mA/\(∀ f,Rf (fs.lookup f) (mA f))/\PySem.Within mA (fs.map (·.1))
 | .own _=>∃ o,h.get? a=Dn o
 | .xd fs=>∃ mA,h.Ns1 a mA/\∀ f,Rf (fs.lookup f) (mA f)
 | .rng lo hi=>∃ t u v,h.get? a=Dn { cls:=.type "range",data:=.fields #[.int lo t,.int hi u,.int 1 v] }
 | .frz o u=>h.get? a=Dn o/\fG H h a u
 | .tbl ps=>h.get? a=Dn { cls:=.none,data:=.fields ps }
 | .met f x=>h.get? a=Dn (PySem.W.methodObj (.ref f) (.ref x))
 | .ext φ=>φ h/\(∃ o,h.get? a=Dn o)/\∀ h1 h2:Heap,φ h1->(∀ o,h1.get? a=Dn o->h2.get? a=Dn o)->φ h2
def CR (H:Hp)(h:Heap):Prop:=∀ a o,H a=Dn o->fG P w H h a o
end
section
variable {P:T8}{w:Uv}{H H':Hp}{h h':Heap}{a:Addr}{o:HO}
theorem fG.lt (x:fG P w H h a o):a<h.objs.size:=by
 cases o with
 | lst xs=>obtain ⟨_,_,_,_,e⟩:=x;exact TY e
 | tup xs=>obtain ⟨_,_,_,p⟩:=x;exact p.tup.lt
 | dK kvs=>obtain ⟨_,_,_,_,o,_,_,e,_⟩:=x;exact TY e
 | dT kvs=>obtain ⟨_,_,_,_,o,_,_,e,_⟩:=x;exact TY e
 | set S n=>obtain ⟨o,_,_,_,e,_⟩:=x;exact TY e
 | ins C dx fs=>obtain ⟨_,_,_,e,_⟩:=x;exact TY e
 | own y=>obtain ⟨_,e⟩:=x;exact TY e
 | xd fs=>obtain ⟨_,⟨_,_,_,e,_⟩,_⟩:=x;exact TY e
 | rng lo hi=>obtain ⟨_,_,_,e⟩:=x;exact TY e
 | frz ob u=>obtain ⟨e,_⟩:=x;exact TY e
 | tbl ps=>exact TY (show h.get? a=Dn _ from x)
 | met f y=>exact TY (show h.get? a=Dn _ from x)
 | ext φ=>obtain ⟨_,⟨_,e⟩,_⟩:=x;exact TY e
theorem Paired.mapP {α β : Type}{F G:α->β->Prop}:∀ {l₁ : List α} {l₂ : List β},Xb F l₁ l₂->(∀ a b,F a b->G a b)->Xb G l₁ l₂
 | _,_,.nil,_=>.nil
 | _,_,.cons r t,f=>.cons (f _ _ r) (Paired.mapP t f)
theorem fG.stay (x:fG P w H h a o)(k:∀ b u,(b=a\/H b=Dn (.own a))->h.get? b=Dn u->h'.get? b=Dn u)
  (ho:∀ b,H b=Dn (.own a)->H' b=Dn (.own a)) (ht:∀ b xs,H b=Dn (.tup xs)->H' b=Dn (.tup xs)):fG P w H' h' a o:=by
 induction o with
 | lst xs=>obtain ⟨z,its,n,r,e⟩:=x;exact ⟨z,its,n,r,k _ _ (.inl rfl) e⟩
 | tup xs=>obtain ⟨z,its,r,ob,e,c⟩:=x;exact ⟨z,its,r,ob,k _ _ (.inl rfl) e,c⟩
 | dK kvs=>obtain ⟨z,y,vs,r,ob,es,ep,e,c⟩:=x;exact ⟨z,y,vs,r,ob,es,ep,k _ _ (.inl rfl) e,c⟩
 | dT kvs=>
  obtain ⟨z,y,xs,r,ob,es,ep,e,c⟩:=x;exact ⟨z,y,xs,Paired.mapP r fun p q z=>⟨z.1,ht _ _ z.2.1,z.2.2⟩,ob,es,ep,k _ _ (.inl rfl) e,c⟩
 | set S n=>obtain ⟨ob,es,ep,t,e,c⟩:=x;exact ⟨ob,es,ep,t,k _ _ (.inl rfl) e,c⟩
 | ins C dx fs=>
  obtain ⟨d,z,ne,e,mA,⟨od,es,ep,e2,c⟩,r⟩:=x;exact ⟨ho _ d,z,ne,k _ _ (.inl rfl) e,mA,⟨od,es,ep,k _ _ (.inr d) e2,c⟩,r⟩
 | own y=>obtain ⟨ob,e⟩:=x;exact ⟨ob,k _ _ (.inl rfl) e⟩
 | xd fs=>obtain ⟨mA,⟨od,es,ep,e,c⟩,r⟩:=x;exact ⟨mA,⟨od,es,ep,k _ _ (.inl rfl) e,c⟩,r⟩
 | rng lo hi=>obtain ⟨t,u,v,e⟩:=x;exact ⟨t,u,v,k _ _ (.inl rfl) e⟩
 | frz ob u ih=>obtain ⟨e,q⟩:=x;exact ⟨k _ _ (.inl rfl) e,ih q⟩
 | tbl ps=>
  have e:h.get? a=Dn { cls:=.none,data:=.fields ps }:=x;show h'.get? a=Dn { cls:=.none,data:=.fields ps };exact k a _ (.inl rfl) e
 | met f y=>
  have e:h.get? a=Dn (PySem.W.methodObj (.ref f) (.ref y)):=x;show h'.get? a=Dn (PySem.W.methodObj (.ref f) (.ref y));exact k a _ (.inl rfl) e
 | ext φ=>obtain ⟨p,⟨o,e⟩,st⟩:=x;exact ⟨st _ _ p fun o q=>k _ _ (.inl rfl) q,⟨o,k _ _ (.inl rfl) e⟩,st⟩
theorem CR.lt (x:CR P w H h)(e:H a=Dn o):a<h.objs.size:=(x a o e).lt
theorem CR.fresh (x:CR P w H h)(e:h.objs.size<=a):H a=Go:=by
 cases q:H a with
 | none=>rfl
 | some u=>exact absurd (TQ (x.lt q) e) (Vl _)
theorem CR.kept (x:CR P w H h)(k:∀ b u,h.get? b=Dn u->h'.get? b=Dn u):CR P w H h':=fun a o e=>
 (x a o e).stay (fun b u _ q=>k b u q) (fun _ q=>q) fun _ _ q=>q
theorem CR.laid (x:CR P w H h)(k:∀ b u,h.get? b=Dn u->h'.get? b=Dn u)(hp:h.objs.size<=a)(new:fG P w (kI H a o) h' a o):CR P w (kI H a o) h':=fun b u e=>by
 have hn:=x.fresh hp;by_cases hb:b=a
 ·subst hb;rw [aM] at e;cases e;exact new
 ·rw [aB hb] at e;exact (x b u e).stay (fun c v _ q=>k c v q) (fun c q=>by rw [aB (aD q hn)];exact q) fun c xs q=>by rw [aB (aD q hn)];exact q
end
def Rd (H:Hp)(a:Addr)(u:HO):Prop:=H a=Dn u\/∃ o,H a=Dn (.frz o u)
theorem Rd.ok {P:T8}{w:Uv}{H:Hp}{h:Heap}{a:Addr}{u:HO}(r:Rd H a u)(x:CR P w H h):fG P w H h a u:=by
 rcases r with r | ⟨o,r⟩
 ·exact x a u r
 ·obtain ⟨_,q⟩:=x a _ r;exact q
def Mut:Option HO->Prop
 | some (.lst _)=>True
 | some (.dK _)=>True
 | some (.dT _)=>True
 | some (.set _ _)=>True
 | some (.ins _ _ _)=>True
 | some (.ext _)=>True
 | _=>False
section
variable {P:T8}{w:Uv}{H:Hp}{h h':Heap}{x e:Addr}{o':HO}
theorem CR.write (ok:CR P w H h)(mu:Mut (H x))(he:e=x\/H e=Dn (.own x))(k:∀ b u,b≠e->h.get? b=Dn u->h'.get? b=Dn u)(heo:∃ u,h'.get? e=Dn u)
  (new:fG P w (kI H x o') h' x o'):CR P w (kI H x o') h':=fun b u q=>by
 have nown:∀ c y,H c=Dn (.own y)->c≠x:=fun c y r z=>by subst z;rw [r] at mu;exact mu
 have ntup:∀ c xs,H c=Dn (.tup xs)->c≠x:=fun c xs r z=>by subst z;rw [r] at mu;exact mu
 by_cases hb:b=x
 ·subst hb;rw [aM] at q;cases q;exact new
 ·rw [aB hb] at q;by_cases hbe:b=e
  ·have q':H b=Dn (.own x):=by
    rcases he with z | z
    ·exact absurd (hbe.trans z) hb
    ·rw [hbe];exact z
   rw [q] at q';cases q';obtain ⟨v,hv⟩:=heo;exact ⟨v,by rw [hbe];exact hv⟩
  ·refine (ok b u q).stay (fun c v hc r=>k c v ?_ r) (fun c r=>by rw [aB (nown c b r)];exact r) fun c xs r=>by rw [aB (ntup c xs r)];exact r
   rcases hc with rfl | hc
   ·exact hbe
   ·rintro rfl;rcases he with z | z
    ·exact nown c b hc z
    ·rw [hc] at z;cases z;exact hb rfl
end
structure Un (fs ex:List Addr) (H H':Hp) (h h':Heap):Prop where
 keep:∀ b o,h.get? b=Dn o->H b=Go->b∉fs->b∉ex->h'.get? b=Dn o
 slot:∀ b o,h.get? b=Dn o->H b=Go->b∈fs->b∉ex->∃ sl,h'.get? b=Dn { o with slots:=sl }
 free:∀ b o,h.get? b=Dn o->H b=Go->b∉ex->H' b=Go
 there:∀ b o,h.get? b=Dn o->b∉ex->∃ o',h'.get? b=Dn o'
 tups:∀ b xs,H b=Dn (.tup xs)->H' b=Dn (.tup xs)
 frzs:∀ b o u,H b=Dn (.frz o u)->H' b=Dn (.frz o u)
 tbls:∀ b ps,H b=Dn (.tbl ps)->∃ more,H' b=Dn (.tbl (ps++more))
section
variable {fs fs' ex ex':List Addr}{H H1 H2:Hp}{h h1 h2 h':Heap}{a x e:Addr}{o:HO}
theorem Un.any (u:Un fs ex H H1 h h1){b:Addr}{ob:Obj}(q:h.get? b=Dn ob)(n:H b=Go)(hx:b∉ex):∃ sl,h1.get? b=Dn { ob with slots:=sl }:=by
 by_cases hb:b∈fs
 ·exact u.slot b ob q n hb hx
 ·exact ⟨ob.slots,u.keep b ob q n hb hx⟩
theorem Un.kept (k:∀ b u,h.get? b=Dn u->h'.get? b=Dn u):Un fs ex H H h h':=
 ⟨fun b ob q _ _ _=>k b ob q,fun b ob q _ _ _=>⟨ob.slots,k b ob q⟩,fun _ _ _ n _=>n,fun b ob q _=>⟨ob,k b ob q⟩,fun _ _ q=>q,fun _ _ _ q=>q,fun _ ps q=>⟨#[],by rw [q];simp⟩⟩
theorem Un.refl:Un fs ex H H h h:=Un.kept fun _ _ q=>q
theorem Un.laid (k:∀ b u,h.get? b=Dn u->h'.get? b=Dn u)(hp:h.objs.size<=a)(hn:H a=Go):Un fs ex H (kI H a o) h h' where
 keep:=fun b u q _ _ _=>k b u q
 slot:=fun b u q _ _ _=>⟨u.slots,k b u q⟩
 free:=fun b u q n _=>by rw [aB (Ud (TQ (TY q) hp))];exact n
 there:=fun b u q _=>⟨u,k b u q⟩
 tups:=fun b xs q=>by rw [aB (aD q hn)];exact q
 frzs:=fun b u xs q=>by rw [aB (aD q hn)];exact q
 tbls:=fun b ps q=>⟨#[],by rw [aB (aD q hn),q];simp⟩
theorem Un.write (mu:Mut (H x))(he:e=x\/H e=Dn (.own x))(k:∀ b u,b≠e->h.get? b=Dn u->h'.get? b=Dn u)(heo:∃ u,h'.get? e=Dn u):Un fs ex H (kI H x o) h h':=by
 have hx:∀ b,H b=Go->b≠x:=fun b n z=>by subst z;rw [n] at mu;exact mu
 have hb:∀ b,H b=Go->b≠e:=fun b n z=>by
  subst z;rcases he with r | r
  ·exact hx b n r
  ·rw [n] at r;cases r
 have hm:∀ b u,H b=Dn u->¬ Mut (Dn u)->b≠x:=fun b u q nm z=>by subst z;rw [q] at mu;exact nm mu
 refine ⟨fun b u q n _ _=>k b u (hb b n) q,fun b u q n _ _=>⟨u.slots,k b u (hb b n) q⟩,fun b u q n _=>by rw [aB (hx b n)];exact n,fun b u q _=>?_,
  fun b xs q=>by rw [aB (hm b _ q fun z=>z)];exact q,fun b u xs q=>by rw [aB (hm b _ q fun z=>z)];exact q,fun b ps q=>⟨#[],by rw [aB (hm b _ q fun z=>z),q];simp⟩⟩
 by_cases hbe:b=e
 ·subst hbe;exact heo
 ·exact ⟨u,k b u hbe q⟩
end
def trk (h:Heap)(H:Hp):List Addr:=(VD h.objs.size).filter fun a=>(H a).isSome
def zM (h:Heap)(H:Hp):Heap:=PySem.W.hideAll h (trk h H)
theorem vd (h:Heap)(H:Hp):(zM h H).objs.size=h.objs.size:=PySem.W.hideAll_size _ _
theorem zR {h:Heap}{H:Hp}{b:Addr}{o:Obj}(e:h.get? b=Dn o)(n:H b=Go):(zM h H).get? b=Dn o:=
 PySem.W.hideAll_get _ e fun hm=>by
  have q:(H b).isSome=true:=(List.mem_filter.mp hm).2;rw [n] at q;simp at q
theorem zaN {h:Heap}{H:Hp}{b:Addr}{o:Obj}(e:(zM h H).get? b=Dn o):h.get? b=Dn o/\H b=Go:=by
 have e':h.get? b=Dn o:=PySem.W.of_hideAll (trk h H) e;refine ⟨e',?_⟩;cases q:H b with
 | none=>rfl
 | some x=>
  have hm:b∈trk h H:=List.mem_filter.mpr ⟨List.mem_range.mpr (TY e'),by simp [q]⟩;have z:(zM h H).get? b=Go:=PySem.W.hideAll_none (trk h H) hm;rw [z] at e;cases e
def zaP (g h:Heap)(L:Addr):List (Addr×Obj):=(VD h.objs.size).filterMap fun a=>if a=L\/(g.get? a).isSome=true then Go else (h.get? a).map fun o=>(a,o)
def rest (g h:Heap)(L d:Addr):List (Addr×Obj):=(zaP g h L).filter fun p=>decide (p.1≠d)
structure Mod (K:Tt) (mg:Str->Option Tw) (base:Heap):Prop where
 kin:K.In base
 glob:base.Ns T4 mg
 blt:∃ mb,base.Ns builtinsNs mb/\∀ x:Str,x ≠ "__name__"->mb x=Wk x
 nolimit:base.NoLimit
structure Cx where
 prog:T8
 w:Uv
 K:Tt
 mg:Str->Option Tw
 base:Heap
 A:Ug
 N:List Str
 s₀ : Tz
 H₀ : Hp
 env:Env
 outer:List Env
 stack:List Env
 ex:List Addr
 fn:Str->Bool
 calm:Bool
 pn:List (Addr×Obj)
 xe:Tw->Tz->Prop
def frs (l:List Env):List Addr:=l.filterMap (·.frame)
abbrev Cx.fs (X:Cx):List Addr:=frs X.outer
def Vis (sc:Scope)(x:Str):Prop:=sc.names.lookup x=Dn .local\/sc.names.lookup x=Dn .cell\/sc.names.lookup x=Dn .free
def Loc (sc:Scope)(x:Str):Prop:=sc.names.lookup x=Dn .local\/sc.names.lookup x=Dn .cell
def Look (env:Env)(h:Heap)(m:Str->Option Tw)(x:Str)(u:Tw):Prop:=
 (env.kindOf x=Dn .local/\m x=Dn u)\/((env.kindOf x=Dn .cell\/env.kindOf x=Dn .free)/\∃ c,env.cells.lookup x=Dn c/\h.IsCell c (Dn u))
def Still (H:Hp)(v:Tw):Prop:=∃ (a:Addr) (o:Obj) (u:HO) (vs:Array Tw),v=.ref a/\H a=Dn (.frz o u)/\o.data=.fields vs/\vs[2]?=Dn .none
def Quiet (A:Ug)(H:Hp):Prop:=∀ v,A.handled=Dn v->Still H v
structure Cx.Ok (X:Cx):Prop where
 mod:Mod X.K X.mg X.base
 kind:X.env.scope.kind=.function
 glob:X.env.globals=T4
 blt:X.env.builtins=builtinsNs
 above:X.s₀.heap.objs.size<=X.env.locals
 inj:∀ x y c,X.env.cells.lookup x=Dn c->X.env.cells.lookup y=Dn c->x=y
 has:∀ x,(X.env.kindOf x=Dn .cell\/X.env.kindOf x=Dn .free)->∃ c,X.env.cells.lookup x=Dn c
 cab:∀ x c,X.fn x=true->X.env.cells.lookup x=Dn c->X.s₀.heap.objs.size<=c
 hd:X.calm=true->X.A.handled=Go
 qt:Quiet X.A X.H₀
 frames:X.A.frames=Dn X.stack
 stk:X.stack=X.outer\/(X.stack=X.env::X.outer/\X.env.frame=Dn X.env.locals)
 exf:∀ b∈X.ex,b≠X.env.locals/\∀ x c,X.env.cells.lookup x=Dn c->c≠b
 bs:∀ b o,X.base.get? b=Dn o->X.s₀.heap.get? b=Dn o/\X.H₀ b=Go
 bsz:X.base.objs.size<=X.s₀.heap.objs.size
 noex:∀ b o,X.base.get? b=Dn o->b∉X.ex
 exfs:∀ b∈X.ex,b∉X.fs
 funs:X.s₀.heap.FunFrames X.base X.outer
 frf:∀ b∈X.fs,X.H₀ b=Go
structure Mk (X:Cx) (pins:List (Addr×Obj)) (Z : List (Option V)) (H:Hp) (s:Tz):Prop where
 ok:X.Ok
 os:s.os=X.s₀.os
 bare:X7 s.gens
 base:Un X.fs X.ex X.H₀ H X.s₀.heap s.heap
 loc:∃ m,s.heap.Ns X.env.locals m/\∀ (i:Nat) (x:Str) (v:V),X.N[i]?=Dn x->Z[i]?=Dn (Dn v)->Vis X.env.scope x->∃ u,RelV v u/\Look X.env s.heap m x u
 cell:∀ x c,X.env.cells.lookup x=Dn c->∃ v,s.heap.IsCell c v
 free:H X.env.locals=Go
 freeC:∀ x c,X.env.cells.lookup x=Dn c->H c=Go
 pin:∀ p∈X.pn++pins,s.heap.get? p.1=Dn p.2/\H p.1=Go/\p.1≠X.env.locals/\p.1∉X.fs/\∀ v,p.2.data≠.cell v
 hok:CR X.prog X.w H s.heap
 len:Z.length=X.N.length
section
variable {X:Cx}{pins:List (Addr×Obj)}{Z : List (Option V)}{H H':Hp}{s:Tz}{h':Heap}
theorem Cx.Ok.nofr (ok:X.Ok){b:Addr}{o:Obj}(e:X.base.get? b=Dn o):b∉X.fs:=fun hb=>by
 have:=(ok.funs.mem hb).1
 rw [e] at this;cases this
theorem Mk.bs (I:Mk X pins Z H s):∀ b o,X.base.get? b=Dn o->s.heap.get? b=Dn o/\H b=Go:=fun b o e=>
 ⟨I.base.keep b o (I.ok.bs b o e).1 (I.ok.bs b o e).2 (I.ok.nofr e) (I.ok.noex b o e),I.base.free b o (I.ok.bs b o e).1 (I.ok.bs b o e).2 (I.ok.noex b o e)⟩
theorem Mk.qt0 (I:Mk X pins Z H s):Quiet X.A H:=fun v e=>let ⟨a,o,u,vs,h1,h2,h3⟩:=I.ok.qt v e;⟨a,o,u,vs,h1,I.base.frzs a o u h2,h3⟩
theorem Mk.bk (I:Mk X pins Z H s):∀ b o,X.base.get? b=Dn o->s.heap.get? b=Dn o:=fun b o e=>(I.bs b o e).1
theorem Mk.mod (I:Mk X pins Z H s):Mod X.K X.mg X.base:=I.ok.mod
theorem Mk.kIn (I:Mk X pins Z H s):X.K.In s.heap:=I.ok.mod.kin.keeps I.bk
theorem Mk.lt (I:Mk X pins Z H s):X.env.locals<s.heap.objs.size:=let ⟨_,hn,_⟩:=I.loc;hn.lt
theorem Mk.sz (I:Mk X pins Z H s):X.s₀.heap.objs.size<=s.heap.objs.size:=Uc I.ok.above (Xx I.lt)
theorem Mk.nofs (I:Mk X pins Z H s){a:Addr}(h:s.heap.objs.size<=a):a∉X.fs:=fun hb=>by
 obtain ⟨_,o,ho,_⟩:=I.ok.funs.mem hb;exact absurd (TQ (TY ho)<|Uc I.sz h)<|Vl _
theorem Mk.cne (I:Mk X pins Z H s):∀ x c,X.env.cells.lookup x=Dn c->c≠X.env.locals:=fun x c e z=>by
 obtain ⟨v,o,ho,hd⟩:=I.cell x c e;obtain ⟨m,⟨o',es,ep,ho',hd',_⟩,_⟩:=I.loc;rw [z,ho'] at ho;cases ho;rw [hd'] at hd;cases hd
theorem Mk.funs (I:Mk X pins Z H s):s.heap.FunFrames X.base X.outer:=by
 have all:∀ (l:List Env),(∀ b∈frs l,b∈X.fs)->X.s₀.heap.FunFrames X.base l->s.heap.FunFrames X.base l:=by
  intro l;induction l with
  | nil=>intro _ _;trivial
  | cons env r ih=>
   intro hs hl;obtain ⟨hk,⟨L,o,hf,hn,ho,hd⟩,hr⟩:=hl;have hL:L∈X.fs:=hs L (by unfold frs;rw [List.filterMap_cons,hf];exact UG);obtain ⟨sl,e⟩:=I.base.slot L o ho (I.ok.frf L hL) hL fun z=>I.ok.exfs L z hL
   exact ⟨hk,⟨L,_,hf,hn,e,hd⟩,ih (fun b hb=>hs b (by unfold frs;rw [List.filterMap_cons,hf];exact Uu _ hb)) hr⟩
 exact all X.outer (fun _ hb=>hb) I.ok.funs
theorem Mk.stack (I:Mk X pins Z H s):s.heap.FunFrames X.base X.stack:=by
 rcases I.ok.stk with e | ⟨e,hf⟩
 ·rw [e];exact I.funs
 ·rw [e];obtain ⟨m,hn,_⟩:=I.loc;refine .cons (by rw [I.ok.kind];decide) hf hn ?_ I.funs;exact Heap.get?_none_of_le<|Uc I.ok.bsz I.ok.above
theorem Mk.stkSub (I:Mk X pins Z H s):∀ b∈frs X.stack,b∈X.env.locals::X.fs:=fun b hb=>by
 rcases I.ok.stk with e | ⟨e,hf⟩
 ·rw [e] at hb;exact Uu _ hb
 ·rw [e] at hb;unfold frs at hb;rw [List.filterMap_cons,hf] at hb;exact hb
theorem Mk.stkFree (I:Mk X pins Z H s):∀ b∈frs X.stack,H b=Go:=fun b hb=>by
 rcases Ur.mp (I.stkSub b hb) with e | hb
 ·rw [e];exact I.free
 ·obtain ⟨_,o,ho,_⟩:=I.ok.funs.mem hb;exact I.base.free b o ho (I.ok.frf b hb) fun z=>I.ok.exfs b z hb
theorem Mk.stepG {g':Array GenState}{t':Nat}{d':Drawn}{ch:List Addr}(I:Mk X pins Z H s)
  (hch:∀ b∈ch,(b∈X.ex\/X.s₀.heap.get? b=Go)/\b≠X.env.locals/\(∀ x c,X.env.cells.lookup x=Dn c->c≠b)/\∀ p∈X.pn++pins,p.1≠b)
  (keep:∀ b o,b≠X.env.locals->b∉X.fs->b∉ch->s.heap.get? b=Dn o->H b=Go->h'.get? b=Dn o)
  (slot:∀ b o,b≠X.env.locals->b∈X.fs->b∉ch->s.heap.get? b=Dn o->H b=Go->∃ sl,h'.get? b=Dn { o with slots:=sl }) (free:∀ b o,b∉ch->s.heap.get? b=Dn o->H b=Go->H' b=Go)
  (there:∀ b o,b∉ch->s.heap.get? b=Dn o->∃ o',h'.get? b=Dn o')
  (tups:∀ b xs,H b=Dn (.tup xs)->H' b=Dn (.tup xs)) (frzs:∀ b o u,H b=Dn (.frz o u)->H' b=Dn (.frz o u)) (tbls:∀ b ps,H b=Dn (.tbl ps)->∃ more,H' b=Dn (.tbl (ps++more)))
  (ns:∀ m,s.heap.Ns X.env.locals m->h'.Ns X.env.locals m) (hok:CR X.prog X.w H' h') (hg:X7 g') :
  Mk X pins Z H' { s with heap:=h',gens:=g',drawn:=d',toks:=t' }:=by
 have neL:∀ b o,X.s₀.heap.get? b=Dn o->b≠X.env.locals:=fun b o e=>Ud (TQ (TY e) I.ok.above)
 have neC:∀ b o,X.s₀.heap.get? b=Dn o->b∉X.ex->b∉ch:=fun b o e hx hb=>by
  rcases (hch b hb).1 with z | z
  ·exact hx z
  ·rw [z] at e;cases e
 have cellK:∀ x c,X.env.cells.lookup x=Dn c->∀ v,s.heap.IsCell c v->h'.IsCell c v:=fun x c e v ⟨o,ho,hd⟩=>by
  have nch:c∉ch:=fun z=>(hch c z).2.2.1 x c e rfl
  by_cases hc:c∈X.fs
  ·obtain ⟨sl,q⟩:=slot c o (I.cne x c e) hc nch ho (I.freeC x c e);exact ⟨_,q,hd⟩
  ·exact ⟨o,keep c o (I.cne x c e) hc nch ho<|I.freeC x c e,hd⟩
 refine ⟨I.ok,I.os,hg,⟨fun b o e n hb hx=>?_,fun b o e n hb hx=>?_,fun b o e n hx=>?_,fun b o e hx=>?_,fun b xs e=>tups b xs<|I.base.tups b xs e,fun b o xs e=>frzs b o xs<|I.base.frzs b o xs e,fun b ps e=>?_⟩,?_,fun x c e=>?_,?_,fun x c e=>?_,fun p hp=>?_,hok,I.len⟩
 ·exact keep b o (neL b o e) hb (neC b o e hx) (I.base.keep b o e n hb hx)<|I.base.free b o e n hx
 ·obtain ⟨sl,e1⟩:=I.base.slot b o e n hb hx;obtain ⟨sl',e2⟩:=slot b _ (neL b o e) hb (neC b o e hx) e1 (I.base.free b o e n hx);exact ⟨sl',e2⟩
 ·obtain ⟨o',e1⟩:=I.base.there b o e hx;exact free b o' (neC b o e hx) e1<|I.base.free b o e n hx
 ·obtain ⟨o',e1⟩:=I.base.there b o e hx;exact there b o' (neC b o e hx) e1
 ·obtain ⟨m1,e1⟩:=I.base.tbls b ps e;obtain ⟨m2,e2⟩:=tbls b _ e1;exact ⟨m1++m2,by rw [e2,Array.append_assoc]⟩
 ·obtain ⟨m,hn,hl⟩:=I.loc;refine ⟨m,ns m hn,fun i x v e1 e2 e3=>?_⟩;obtain ⟨u,r,l⟩:=hl i x v e1 e2 e3;refine ⟨u,r,?_⟩;rcases l with l | ⟨k,c,e,z⟩
  ·exact .inl l
  ·exact .inr ⟨k,c,e,cellK x c e _ z⟩
 ·obtain ⟨v,z⟩:=I.cell x c e;exact ⟨v,cellK x c e v z⟩
 ·obtain ⟨m,⟨o,_,_,ho,_⟩,_⟩:=I.loc;exact free _ o (fun z=>(hch _ z).2.1 rfl) ho I.free
 ·obtain ⟨v,o,ho,hd⟩:=I.cell x c e;exact free c o (fun z=>(hch c z).2.2.1 x c e rfl) ho<|I.freeC x c e
 ·obtain ⟨e,n,ne,nf,d⟩:=I.pin p hp;have nch:p.1∉ch:=fun z=>(hch p.1 z).2.2.2 p hp rfl
  exact ⟨keep p.1 p.2 ne nf nch e n,free p.1 p.2 nch e n,ne,nf,d⟩
theorem Mk.step {g':Array GenState}{t':Nat}{d':Drawn}{ch:List Addr}(I:Mk X pins Z H s)
  (hch:∀ b∈ch,(b∈X.ex\/X.s₀.heap.objs.size<=b)/\b≠X.env.locals/\(∀ x c,X.env.cells.lookup x=Dn c->c≠b)/\∀ p∈X.pn++pins,p.1≠b)
  (keep:∀ b o,b≠X.env.locals->b∉X.fs->b∉ch->s.heap.get? b=Dn o->H b=Go->h'.get? b=Dn o)
  (slot:∀ b o,b≠X.env.locals->b∈X.fs->b∉ch->s.heap.get? b=Dn o->H b=Go->∃ sl,h'.get? b=Dn { o with slots:=sl }) (free:∀ b o,b∉ch->s.heap.get? b=Dn o->H b=Go->H' b=Go)
  (there:∀ b o,b∉ch->s.heap.get? b=Dn o->∃ o',h'.get? b=Dn o')
  (tups:∀ b xs,H b=Dn (.tup xs)->H' b=Dn (.tup xs)) (frzs:∀ b o u,H b=Dn (.frz o u)->H' b=Dn (.frz o u)) (tbls:∀ b ps,H b=Dn (.tbl ps)->∃ more,H' b=Dn (.tbl (ps++more)))
  (ns:∀ m,s.heap.Ns X.env.locals m->h'.Ns X.env.locals m) (hok:CR X.prog X.w H' h') (hg:X7 g') :
  Mk X pins Z H' { s with heap:=h',gens:=g',drawn:=d',toks:=t' }:=
 I.stepG (ch:=ch) (fun b z=>⟨(hch b z).1.imp id fun q=>Heap.get?_none_of_le q,(hch b z).2⟩) keep slot free there tups frzs tbls ns hok hg
theorem Mk.un {t':Nat}(I:Mk X pins Z H s)(u:Un X.fs [] H H' s.heap h')(hok:CR X.prog X.w H' h'):Mk X pins Z H' { s with heap:=h',toks:=t' }:=by
 obtain ⟨m,⟨o,es,ep,ho,r⟩,_⟩:=id I.loc;obtain ⟨sl,hL⟩:=u.any ho I.free (by simp);exact I.step (g':=s.gens) (d':=s.drawn) (ch:=[]) (fun _ z=>nomatch z) (fun b o _ hb _ e n=>u.keep b o e n hb (by simp)) (fun b o _ hb _ e n=>u.slot b o e n hb (by simp)) (fun b o _ e n=>u.free b o e n (by simp)) (fun b o _ e=>u.there b o e (by simp)) u.tups u.frzs u.tbls (fun m' hm=>by
  obtain ⟨o',es',ep',ho',r'⟩:=hm;rw [ho] at ho';cases ho';exact ⟨_,es',ep',hL,r'⟩) hok I.bare
theorem Mk.call {g':Array GenState}{t':Nat}{d':Drawn}{ch:List Addr}(I:Mk X pins Z H s)(u:Un (frs X.stack) ch H H' s.heap h')(hok:CR X.prog X.w H' h')(hg:X7 g')
  (hch:∀ b∈ch,(b∈X.ex\/X.s₀.heap.objs.size<=b)/\b≠X.env.locals/\(∀ x c,X.env.cells.lookup x=Dn c->c≠b)/\∀ p∈X.pn++pins,p.1≠b) :
  Mk X pins Z H' { s with heap:=h',gens:=g',drawn:=d',toks:=t' }:=by
 obtain ⟨m,⟨o,es,ep,ho,r⟩,_⟩:=id I.loc;obtain ⟨sl,hL⟩:=u.any ho I.free fun z=>(hch _ z).2.1 rfl
 exact I.step (ch:=ch) hch (fun b o hL hb hc e n=>u.keep b o e n (fun z=>(Ur.mp (I.stkSub b z)).elim hL hb) hc) (fun b o _ _ hc e n=>u.any e n hc) (fun b o hc e n=>u.free b o e n hc) (fun b o hc e=>u.there b o e hc) u.tups u.frzs u.tbls (fun m' hm=>by
  obtain ⟨o',es',ep',ho',r'⟩:=hm;rw [ho] at ho';cases ho';exact ⟨_,es',ep',hL,r'⟩) hok hg
theorem Mk.turned {t':Nat}{it:Addr}(I:Mk X pins Z H s)(k:∀ b o,b≠it->s.heap.get? b=Dn o->h'.get? b=Dn o)(hn:H it=Go)(hL:it≠X.env.locals)
  (h1:it∈X.ex\/X.s₀.heap.objs.size<=it) (h2:∀ x c,X.env.cells.lookup x=Dn c->c≠it) (h3:∀ p∈X.pn++pins,p.1≠it):Mk X pins Z H { s with heap:=h',toks:=t' }:=by
 have nit:∀ b u,H b=Dn u->b≠it:=fun b u e z=>by rw [z,hn] at e;cases e
 refine I.step (g':=s.gens) (d':=s.drawn) (ch:=[it]) (fun b hb=>?_) (fun b o _ _ hc e _=>k b o (fun z=>hc<|by simp [z]) e) (fun b o _ _ hc e _=>⟨o.slots,k b o (fun z=>hc<|by simp [z]) e⟩) (fun _ _ _ _ n=>n)
  (fun b o hc e=>⟨o,k b o (fun z=>hc (by simp [z])) e⟩) (fun _ _ e=>e) (fun _ _ _ e=>e) (fun b ps e=>⟨#[],by rw [e];simp⟩) (fun m hm=>?_) (fun b u e=>?_) I.bare
 ·have e:b=it:=by simpa using hb
  subst e;exact ⟨h1,hL,h2,h3⟩
 ·obtain ⟨o,es,ep,ho,r⟩:=hm;exact ⟨o,es,ep,k _ o (VR hL) ho,r⟩
 ·refine (I.hok b u e).stay (fun c v hc q=>k c v ?_ q) (fun _ q=>q) fun _ _ q=>q;rcases hc with z | z
  ·rw [z];exact nit b u e
  ·exact nit c _ z
theorem Mk.tok (I:Mk X pins Z H s)(t:Nat):Mk X pins Z H { s with toks:=t }:=I.un (h':=s.heap) (t':=t) Un.refl I.hok
theorem Mk.kept {t':Nat}(I:Mk X pins Z H s)(k:∀ b u,s.heap.get? b=Dn u->h'.get? b=Dn u):Mk X pins Z H { s with heap:=h',toks:=t' }:=I.un (Un.kept k) (I.hok.kept k)
theorem Mk.laid {a:Addr}{o:HO}{t':Nat}(I:Mk X pins Z H s)(k:∀ b u,s.heap.get? b=Dn u->h'.get? b=Dn u)(hp:s.heap.objs.size<=a)(new:fG X.prog X.w (kI H a o) h' a o) :
  Mk X pins Z (kI H a o) { s with heap:=h',toks:=t' }:=I.un (Un.laid k hp (I.hok.fresh hp)) (I.hok.laid k hp new)
theorem Mk.write {x e:Addr}{o:HO}{t':Nat}(I:Mk X pins Z H s)(mu:Mut (H x))(he:e=x\/H e=Dn (.own x))(k:∀ b u,b≠e->s.heap.get? b=Dn u->h'.get? b=Dn u)(heo:∃ u,h'.get? e=Dn u)
  (new:fG X.prog X.w (kI H x o) h' x o):Mk X pins Z (kI H x o) { s with heap:=h',toks:=t' }:=I.un (Un.write mu he k heo) (I.hok.write mu he k heo new)
theorem Mk.weak {Z':List (Option V)}(I:Mk X pins Z H s)(hl:Z'.length = Z.length)(w:∀ (i:Nat) v,Z'[i]?=Dn (Dn v)->Z[i]?=Dn (Dn v)):Mk X pins Z' H s:=
 ⟨I.ok,I.os,I.bare,I.base,let ⟨m,hn,hl'⟩:=I.loc;⟨m,hn,fun i x v e1 e2 e3=>hl' i x v e1 (w i v e2) e3⟩,I.cell,I.free,I.freeC,I.pin,I.hok,hl.trans I.len⟩
theorem Mk.pins_of {pins':List (Addr×Obj)}(I:Mk X pins Z H s)(h:∀ p∈pins',s.heap.get? p.1=Dn p.2/\H p.1=Go/\p.1≠X.env.locals/\p.1∉X.fs/\∀ v,p.2.data≠.cell v):Mk X pins' Z H s:=
 ⟨I.ok,I.os,I.bare,I.base,I.loc,I.cell,I.free,I.freeC,fun p hp=>(Wd.mp hp).elim (fun z=>I.pin p (Xi _ z)) (h p),I.hok,I.len⟩
theorem qL {N:List Str}(hN:N.Nodup){i j:Nat}{x:Str}(a:N[i]?=Dn x)(b:N[j]?=Dn x):i=j:=by
 obtain ⟨h1,e1⟩:=Uq.mp a;obtain ⟨h2,e2⟩:=Uq.mp b;exact (List.getElem_inj hN).mp (e1.trans e2.symm)
theorem oh {M:Model}{A:Ug}{E:Tw->Tz->Prop}{i:Nat}{x:Str}{v:V}{u:Tw}{Q:Unit->Tz->Prop}(I:Mk X pins Z H s)(hN:X.N.Nodup)(hi:X.N[i]?=Dn x)(hx:Loc X.env.scope x)(r:RelV v u)
  (h:∀ s',Mk X pins (Z.set i (Dn v)) H s'->(∃ a,Wt a s.heap s'.heap/\(a=X.env.locals\/X.env.cells.lookup x=Dn a))->Q () s') (hf:X.fn x=true\/X.env.scope.names.lookup x=Dn .local:=by first | exact .inl rfl | exact .inr rfl | assumption):Us M A (storeName X.env x u) Q E s:=by
 obtain ⟨m,hn,hl⟩:=id I.loc;have hcls:(X.env.scope.kind==.class||(X.env.scope.kind==.module&&X.env.locals != X.env.globals))=false:=by rw [I.ok.kind];rfl
 have hiZ : i < Z.length:=by rw [I.len];exact (Uq.mp hi).1
 have cne:=I.cne;have tracked:∀ {a:Addr} {h':Heap},(∃ o,s.heap.get? a=Dn o/\H a=Go)->Wt a s.heap h'->CR X.prog X.w H h':=fun {a h'} ha hs b ob e=>by
  obtain ⟨_,_,hfree⟩:=ha;refine (I.hok b ob e).stay (fun c w' hc q=>(hs.2 c ?_).trans q) (fun _ q=>q) fun _ _ q=>q;rintro rfl;rcases hc with rfl | hc
  ·rw [hfree] at e;cases e
  ·rw [hfree] at hc;cases hc
 rcases hx with hk | hk
 ·refine wpAny_storeName_local hk hn (fun h' hn' hs=>?_) hcls;obtain ⟨oL,_,_,hoL,_⟩:=id hn;refine h _ ⟨I.ok,I.os,I.bare,⟨fun b o e n hb hx=>?_,fun b o e n hb hx=>?_,I.base.free,fun b o e hx=>?_,I.base.tups,I.base.frzs,I.base.tbls⟩,⟨_,hn',fun j y v' e1 e2 e3=>?_⟩,fun y c e=>?_,I.free,I.freeC,fun p hp=>?_,tracked ⟨oL,hoL,I.free⟩ hs,by simpa using I.len⟩ ⟨_,hs,.inl rfl⟩
  ·exact (hs.2 b<|Ud<|TQ (TY e) I.ok.above).trans (I.base.keep b o e n hb hx)
  ·obtain ⟨sl,e1⟩:=I.base.slot b o e n hb hx;exact ⟨sl,(hs.2 b<|Ud<|TQ (TY e) I.ok.above).trans e1⟩
  ·obtain ⟨o',e1⟩:=I.base.there b o e hx;exact ⟨o',(hs.2 b<|Ud<|TQ (TY e) I.ok.above).trans e1⟩
  ·by_cases hj:j=i
   ·subst hj;rw [hi] at e1;cases e1;rw [List.getElem?_set_self hiZ] at e2;cases e2;exact ⟨u,r,.inl ⟨hk,by simp⟩⟩
   ·rw [List.getElem?_set_ne (VR hj)] at e2;obtain ⟨u',r',q⟩:=hl j y v' e1 e2 e3;refine ⟨u',r',?_⟩;rcases q with ⟨k,e⟩ | ⟨k,c,e,z⟩
    ·refine .inl ⟨k,?_⟩;have:y≠x:=fun e=>hj (qL hN e1 (e ▸ hi))
     simp [this,e]
    ·exact .inr ⟨k,c,e,z.sameBut hs<|cne y c e⟩
  ·obtain ⟨w',z⟩:=I.cell y c e;exact ⟨w',z.sameBut hs<|cne y c e⟩
  ·obtain ⟨e,n,ne,nf,d⟩:=I.pin p hp;exact ⟨(hs.2 p.1 ne).trans e,n,ne,nf,d⟩
 ·have hfn:X.fn x=true:=by
   rcases hf with z | z
   ·exact z
   ·rw [z] at hk;cases hk
  obtain ⟨c,hc⟩:=I.ok.has x (.inl hk);obtain ⟨w',z⟩:=I.cell x c hc;refine wpAny_storeName_cell I.ok.kind hk hc z<|fun h' hc' hs=>?_
  obtain ⟨oc,hoc,hocd⟩:=id z;refine h { s with heap:=h' } ⟨I.ok,I.os,I.bare,⟨fun b o e n hb hx=>?_,fun b o e n hb hx=>?_,I.base.free,fun b o e hx=>?_,I.base.tups,I.base.frzs,I.base.tbls⟩,⟨m,hn.sameBut hs<|VR<|cne x c hc,fun j y v' e1 e2 e3=>?_⟩,fun y c' e=>?_,I.free,I.freeC,fun p hp=>?_,tracked ⟨oc,hoc,I.freeC x c hc⟩ hs,by simpa using I.len⟩ ⟨c,hs,.inr hc⟩
  ·exact (hs.2 b<|Ud<|TQ (TY e)<|I.ok.cab x c hfn hc).trans (I.base.keep b o e n hb hx)
  ·obtain ⟨sl,e1⟩:=I.base.slot b o e n hb hx;exact ⟨sl,(hs.2 b<|Ud<|TQ (TY e)<|I.ok.cab x c hfn hc).trans e1⟩
  ·obtain ⟨o',e1⟩:=I.base.there b o e hx;exact ⟨o',(hs.2 b<|Ud<|TQ (TY e)<|I.ok.cab x c hfn hc).trans e1⟩
  ·by_cases hj:j=i
   ·subst hj;rw [hi] at e1;cases e1;rw [List.getElem?_set_self hiZ] at e2;cases e2;exact ⟨u,r,.inr ⟨.inl hk,c,hc,hc'⟩⟩
   ·rw [List.getElem?_set_ne (VR hj)] at e2;obtain ⟨u',r',q⟩:=hl j y v' e1 e2 e3;refine ⟨u',r',?_⟩;rcases q with q | ⟨k,c',e,z'⟩
    ·exact .inl q
    ·refine .inr ⟨k,c',e,z'.sameBut hs ?_⟩;rintro rfl;exact hj<|qL hN e1<|I.ok.inj _ _ _ e hc ▸ hi
  ·by_cases hcc:c'=c
   ·subst hcc;exact ⟨_,hc'⟩
   ·obtain ⟨w2,z2⟩:=I.cell y c' e;exact ⟨w2,z2.sameBut hs hcc⟩
  ·obtain ⟨e,n,ne,nf,d⟩:=I.pin p hp;refine ⟨(hs.2 p.1 ?_).trans e,n,ne,nf,d⟩;intro q;rw [q,hoc] at e;have q':oc=p.2:=T7 e;exact d w' (by rw [<-q'];exact hocd)
theorem gK {M:Model}{A:Ug}{E:Tw->Tz->Prop}{i:Nat}{x:Str}{v:V}{u:Tw}{Q:Unit->Tz->Prop}(I:Mk X pins Z H s)(hN:X.N.Nodup)(hi:X.N[i]?=Dn x)(hx:Loc X.env.scope x)(r:RelV v u)
  (h:∀ s',Mk X pins (Z.set i (Dn v)) H s'->Q () s') (hf:X.fn x=true\/X.env.scope.names.lookup x=Dn .local:=by first | exact .inl rfl | exact .inr rfl | assumption):Us M A (storeName X.env x u) Q E s:=
 oh I hN hi hx r (fun s' I' _=>h s' I') hf
theorem Mk.call' {s':Tz}{ch:List Addr}(I:Mk X pins Z H s)(ho:s'.os=s.os)(u:Un (frs X.stack) ch H H' s.heap s'.heap)(hok:CR X.prog X.w H' s'.heap)(hg:X7 s'.gens)
  (hch:∀ b∈ch,(b∈X.ex\/X.s₀.heap.objs.size<=b)/\b≠X.env.locals/\(∀ x c,X.env.cells.lookup x=Dn c->c≠b)/\∀ p∈X.pn++pins,p.1≠b):Mk X pins Z H' s':=by
 obtain ⟨h',g',d',t',o'⟩:=s';have e:o'=s.os:=ho;subst e;exact I.call (g':=g') (t':=t') (d':=d') u hok hg hch
end
abbrev XK:=Tw->Option Addr->Hp->Prop
abbrev St:=List (Option V)
abbrev VK:=V->Hp->Prop
abbrev TE:=St->Hp->VK->Prop
abbrev TT:=St->Hp->(Bool->Hp->Prop)->Prop
abbrev TA:=St->Hp->(List V->Hp->Prop)->Prop
structure Ends where
 nx:St->Hp->Prop
 rt:VK
 bk:St->Hp->Prop:=fun _ _=>False
 ct:St->Hp->Prop:=fun _ _=>False
abbrev TS:=Ends->St->Hp->Prop
def EP (X:Cx)(pins:List (Addr×Obj))(Z : St)(Q:VK)(u:Tw)(s':Tz):Prop:=∃ v H',Mk X pins Z H' s'/\RelV v u/\Q v H'
def TP (X:Cx)(pins:List (Addr×Obj))(Z : St)(Q:Bool->Hp->Prop)(b:Bool)(s':Tz):Prop:=∃ H',Mk X pins Z H' s'/\Q b H'
def zal (X:Cx)(pins:List (Addr×Obj))(Z : St)(Q:List V->Hp->Prop)(us:List Tw)(s':Tz):Prop:=∃ vs H',Mk X pins Z H' s'/\Rj vs us/\Q vs H'
def SP (X:Cx)(pins:List (Addr×Obj))(D:Ends)(f:Flow)(s':Tz):Prop:=
 match f with
 | .next=>∃ Z' H',Mk X pins Z' H' s'/\D.nx Z' H'
 | .brk=>∃ Z' H',Mk X pins Z' H' s'/\D.bk Z' H'
 | .cont=>∃ Z' H',Mk X pins Z' H' s'/\D.ct Z' H'
 | .ret u=>∃ v Z' H',Mk X pins Z' H' s'/\RelV v u/\D.rt v H'
def PE (X:Cx)(e:Expr)(t:TE):Prop:=
 ∀ (pins:List (Addr×Obj)) (s:Tz) (Z : St) (H:Hp) (Q:VK),Mk X pins Z H s->t Z H Q->Us (Uz X.prog X.w) X.A (eval e X.env) (EP X pins Z Q) X.xe s
def PT (X:Cx)(e:Expr)(t:TT):Prop:=
 ∀ (pins:List (Addr×Obj)) (s:Tz) (Z : St) (H:Hp) (Q:Bool->Hp->Prop),Mk X pins Z H s->t Z H Q->Us (Uz X.prog X.w) X.A (isTrue e X.env (eval e X.env)) (TP X pins Z Q) X.xe s
def PW (X:Cx)(e:Expr)(t:TT):Prop:=
 ∀ (whole:Sem Tw) (pins:List (Addr×Obj)) (s:Tz) (Z : St) (H:Hp) (Q:Bool->Hp->Prop),Mk X pins Z H s->t Z H Q->Us (Uz X.prog X.w) X.A (isTrue e X.env whole) (TP X pins Z Q) X.xe s
theorem PW.pt {X:Cx}{e:Expr}{t:TT}(h:PW X e t):PT X e t:=h _
def PA (X:Cx)(es:List Expr)(t:TA):Prop:=
 ∀ (pos:Pos) (pins:List (Addr×Obj)) (s:Tz) (Z : St) (H:Hp) (Q:List V->Hp->Prop),Mk X pins Z H s->t Z H Q->Us (Uz X.prog X.w) X.A (spliced (Vy pos (T3 es X.env))) (zal X pins Z Q) X.xe s
def PS (X:Cx)(st:Stmt)(t:TS):Prop:=
 ∀ (pins:List (Addr×Obj)) (s:Tz) (Z : St) (H:Hp) (D:Ends),Mk X pins Z H s->t D Z H->Us (Uz X.prog X.w) X.A (exec st X.env) (SP X pins D) X.xe s
def DY (X:Cx)(st:List Stmt)(t:TS):Prop:=
 ∀ (pins:List (Addr×Obj)) (s:Tz) (Z : St) (H:Hp) (D:Ends),Mk X pins Z H s->t D Z H->Us (Uz X.prog X.w) X.A (execs st X.env) (SP X pins D) X.xe s
theorem AP {α : Type}{t:Sem α}{Q Q':α->Tz->Prop}{M:Model}{A:Ug}{E:Tw->Tz->Prop}{s:Tz}(h:Us M A t Q E s)(hQ:∀ a s,Q a s->Q' a s):Us M A t Q' E s:=Vi h hQ fun _ _ x=>x
section
variable {X:Cx}
def Qd (i:Nat):TE:=fun Z H Q=>∃ v,Z[i]?=Dn (Dn v)/\Q v H
def tC (v:V):TE:=fun _ H Q=>Q v H
theorem Ij {i:Nat}{x:Str}{pos:Pos}(hN:X.N[i]?=Dn x)(hv:Vis X.env.scope x)(hd:(x==("__debug__" : Str))=false:=by decide)(hcd:(x==("__classdict__" : Str))=false:=by decide):PE X (.Name x pos) (Qd i):=by
 intro pins s Z H Q I h;obtain ⟨v,e,h⟩:=h;obtain ⟨m,hn,hl⟩:=I.loc;obtain ⟨u,r,l⟩:=hl i x v hN e hv;have fin:EP X pins Z Q u s:=⟨v,H,I,r,h⟩
 rcases l with ⟨hk,hm⟩ | ⟨hk,c,hc,hcell⟩
 ·exact wpAny_Name (wpAny_loadName_local I.ok.kind hk hn hm fin) hd
 ·rcases hk with hk | hk
  ·exact wpAny_Name (wpAny_loadName_cell I.ok.kind hk hc hcell fin) hd
  ·exact wpAny_Name (wpAny_loadName_free I.ok.kind hk hc hcell fin hcd) hd
theorem J5 {i j pos}:PE X (.Constant (.int i) j pos) (tC (.int i)):=fun _ _ _ H _ I h=>wpAny_Constant_int ⟨.int i,H,I.tok _,⟨_,rfl⟩,h⟩
theorem Oz {b j pos}:PE X (.Constant (.bool b) j pos) (tC (.bl b)):=fun _ _ _ H _ I h=>Constant_bool ⟨.bl b,H,I,rfl,h⟩
theorem Iw {j pos}:PE X (.Constant .none j pos) (tC .non):=fun _ _ _ H _ I h=>Constant_none ⟨.non,H,I,rfl,h⟩
theorem JB {x j pos}:PE X (.Constant (.str x) j pos) (tC (.str x)):=fun _ _ _ H _ I h=>Calls.Constant_str ⟨.str x,H,I.tok _,⟨_,rfl⟩,h⟩
def Gl (X:Cx)(x:Str):Prop:=X.env.kindOf x=Dn .globalImplicit
theorem jF {E:Tw->Tz->Prop}{pins:List (Addr×Obj)}{s:Tz}{Z : St}{H:Hp}{x:Str}{u:Tw}{pos:Pos}{Q:Tw->Tz->Prop}(I:Mk X pins Z H s)(hg:Gl X x)(hm:X.mg x=Dn u)(h:Q u s)
  (hd:(x==("__debug__" : Str))=false:=by decide):Us (Uz X.prog X.w) X.A (eval (.Name x pos) X.env) Q E s:=
 Calls.Name_function_global I.ok.kind hg (Calls.loadGlobal_global (by rw [I.ok.glob];exact I.mod.glob.keeps I.bk) hm h) hd
theorem kj {E:Tw->Tz->Prop}{pins:List (Addr×Obj)}{s:Tz}{Z : St}{H:Hp}{x:Str}{u:Tw}{pos:Pos}{Q:Tw->Tz->Prop}(I:Mk X pins Z H s)(hg:Gl X x)(hm:X.mg x=Go)(hv:Wk x=Dn u)(h:Q u s)
  (hn:x ≠ "__name__":=by decide) (hd:(x==("__debug__" : Str))=false:=by decide):Us (Uz X.prog X.w) X.A (eval (.Name x pos) X.env) Q E s:=by
 obtain ⟨mb,h1,h2⟩:=I.mod.blt;exact Calls.Name_function_global I.ok.kind hg (Calls.loadGlobal_builtin (by rw [I.ok.glob];exact I.mod.glob.keeps I.bk) hm (by rw [I.ok.blt];exact h1.keeps I.bk) ((h2 x hn).trans hv) h) hd
theorem iD {x:Str}{v:V}{u:Tw}{pos:Pos}(hg:Gl X x)(hm:X.mg x=Dn u)(r:RelV v u)(hd:(x==("__debug__" : Str))=false:=by decide):PE X (.Name x pos) (tC v):=
 fun _ _ _ H _ I h=>jF I hg hm ⟨v,H,I,r,h⟩ hd
theorem dM {x:Str}{v:V}{u:Tw}{pos:Pos}(hg:Gl X x)(hm:X.mg x=Go)(hv:Wk x=Dn u)(r:RelV v u)(hn:x ≠ "__name__":=by decide)(hd:(x==("__debug__" : Str))=false:=by decide):PE X (.Name x pos) (tC v):=
 fun _ _ _ H _ I h=>kj I hg hm hv ⟨v,H,I,r,h⟩ hn hd
variable {a b:Expr}{ta tb:TE}{pos:Pos}
variable {tA tB':TT}{rest:List Expr}
def tOr (t u:TT):TT:=fun Z H Q=>t Z H fun c H1=>if c=true then Q true H1 else u Z H1 Q
def RX (t:TT):TT:=fun Z H Q=>t Z H fun c H1=>Q (!c) H1
theorem KJ (ha:PT X a tA):PW X (.BoolOp .Or [a] pos) tA:=by
 intro wh pins s Z H Q I h;refine isTrue_or<|AP (ha pins s Z H Q I h) fun c s1 e=>?_
 cases c with
 | false=>exact isTrue_or_nil e
 | true=>exact e
theorem Qm (ha:PT X a tA)(hb:PW X (.BoolOp .Or (b::rest) pos) tB'):PW X (.BoolOp .Or (a::b::rest) pos) (tOr tA tB'):=by
 intro wh pins s Z H Q I h;refine isTrue_or<|AP (ha pins s Z H _ I h) fun c s1 ⟨H1,I1,q1⟩=>?_
 cases c with
 | true=>exact ⟨H1,I1,q1⟩
 | false=>exact hb wh pins s1 Z H1 Q I1 q1
theorem JV (ha:PT X a tA):PT X (.UnaryOp .Not a pos) (RX tA):=by
 intro pins s Z H Q I h;exact isTrue_not<|ha pins s Z H (fun c H1=>Q (!c) H1) I h
def Pr (ta tb:TE):TE:=fun Z H Q=>ta Z H fun x H1=>∃ c,x=.bl c/\if c=true then tb Z H1 Q else Q (.bl false) H1
def QB (ta:TE):TE:=fun Z H Q=>ta Z H fun x H1=>∃ c,x=.bl c/\Q (.bl (!c)) H1
theorem JG {op}{t:TE}(h:PE X a t):PE X (.BoolOp op [a] pos) t:=fun pins s Z H Q I hw=>BoolOp_one (h pins s Z H Q I hw)
theorem Lw (ha:PE X a ta)(hb:PE X (.BoolOp .And (b::rest) pos) tb):PE X (.BoolOp .And (a::b::rest) pos) (Pr ta tb):=by
 intro pins s Z H Q I h;refine BoolOp_and<|AP (ha pins s Z H _ I h) fun v s1 ⟨x,H1,I1,r1,q1⟩=>?_
 obtain ⟨c,rfl,q1⟩:=q1;cases r1;refine Xf ?_;cases c with
 | true=>exact hb pins s1 Z H1 Q I1 q1
 | false=>exact ⟨.bl false,H1,I1,rfl,q1⟩
theorem Jm (ha:PE X a ta):PE X (.UnaryOp .Not a pos) (QB ta):=by
 intro pins s Z H Q I h;refine UnaryOp_<|AP (ha pins s Z H _ I h) fun v s1 ⟨x,H1,I1,r1,q1⟩=>?_
 obtain ⟨c,rfl,q1⟩:=q1;cases r1;exact not_of<|Xf ⟨.bl<|!c,H1,I1,rfl,q1⟩
def tIf (t:TT)(ta tb:TE):TE:=fun Z H Q=>t Z H fun c H1=>if c=true then ta Z H1 Q else tb Z H1 Q
theorem zam {c:Expr}(hc:PT X c tA)(ha:PE X a ta)(hb:PE X b tb):PE X (.IfExp c a b pos) (tIf tA ta tb):=by
 intro pins s Z H Q I h;refine wpAny_IfExp<|AP (hc pins s Z H _ I h) fun d s1 ⟨H1,I1,q1⟩=>?_
 cases d with
 | true=>exact ha pins s1 Z H1 Q I1 q1
 | false=>exact hb pins s1 Z H1 Q I1 q1
end
def Am (K:Tt)(H:Hp)(a:Addr)(xs:List V):Prop:=
 Rd H a (.lst xs) \/
  ∃ (o:Obj) (its:Array Tw) (n:Nat),K.lookup a=Dn o/\o.cls=.type "list"/\o.dict=Go/\o.data=.seq its n/\its.size<=Ua/\Rj xs its.toList
def CG (K:Tt)(H:Hp)(a:Addr)(xs:List V):Prop:=
 Rd H a (.tup xs) \/
  ∃ (o:Obj) (its:Array Tw) (n:Nat),K.lookup a=Dn o/\o.cls=.type "tuple"/\o.data=.seq its n/\its.size<=Ua/\Rj xs its.toList/\o.dict=Go
def Sd:Tw->Option V
 | .none=>Dn .non
 | .bool b=>Dn (.bl b)
 | .int i _=>Dn (.int i)
 | .str x _=>Dn (.str x)
 | .bytes b _=>Dn (.byt b)
 | .float b _=>Dn (.flt b)
 | .ref a=>Dn (.ref a)
 | .type n=>Dn (.ty n)
 | _=>Go
theorem RelV.abs {x:V}{u:Tw}(r:RelV x u):Sd u=Dn x:=by
 cases x with
 | non=>cases r;rfl
 | bl _=>cases r;rfl
 | int _=>obtain ⟨t,rfl⟩:=r;rfl
 | str _=>obtain ⟨t,rfl⟩:=r;rfl
 | byt _=>obtain ⟨t,rfl⟩:=r;rfl
 | flt _=>obtain ⟨t,rfl⟩:=r;rfl
 | ref _=>cases r;rfl
 | ty _=>cases r;rfl
theorem RelV.inj {x y:V}{u:Tw}(r:RelV x u)(q:RelV y u):x=y:=T7 (r.abs.symm.trans q.abs)
theorem Rj.inj:∀ {xs ys:List V} {us:List Tw},Rj xs us->Rj ys us->xs=ys
 | _,_,_,.nil,.nil=>rfl
 | _,_,_,.cons r t,.cons r' t'=>by rw [r.inj r',Rj.inj t t']
section
variable {X:Cx}{pins:List (Addr×Obj)}{Z : St}{H:Hp}{s:Tz}{a:Addr}{xs ys:List V}
theorem Am.of {K:Tt}(h:H a=Dn (.lst xs)):Am K H a xs:=.inl (.inl h)
theorem CG.of {K:Tt}(h:H a=Dn (.tup xs)):CG K H a xs:=.inl (.inl h)
theorem Mk.list (I:Mk X pins Z H s)(h:Am X.K H a xs):∃ its:List Tw,Rj xs its/\PlainL s.heap a its.toArray/\xs.length<=Ua:=by
 rcases h with h | ⟨o,its,n,hk,hc,hd,hs,hz,r⟩
 ·obtain ⟨z,its,n,r,e⟩:=h.ok I.hok;exact ⟨its,r,⟨_,n,e,rfl,rfl,rfl⟩,z⟩
 ·refine ⟨its.toList,r,⟨o,n,I.kIn a o hk,hc,hd,by simpa using hs⟩,?_⟩;have e:=r.length;simp only [V0] at e;lia
theorem Mk.tupO (I:Mk X pins Z H s)(h:CG X.K H a xs):∃ its:List Tw,Rj xs its/\Ak s.heap a its.toArray/\xs.length<=Ua:=by
 rcases h with h | ⟨o,its,n,hk,hc,hs,hz,r,hd⟩
 ·obtain ⟨z,its,r,p⟩:=h.ok I.hok;exact ⟨its,r,p,z⟩
 ·refine ⟨its.toList,r,⟨o,I.kIn a o hk,hc,⟨n,by simpa using hs⟩,hd⟩,?_⟩;have e:=r.length;simp only [V0] at e;lia
theorem Mk.tuple (I:Mk X pins Z H s)(h:CG X.K H a xs):∃ its:List Tw,Rj xs its/\IsTup s.heap a its.toArray/\xs.length<=Ua:=let ⟨its,r,p,z⟩:=I.tupO h;⟨its,r,p.tup,z⟩
theorem Mk.list_inj (I:Mk X pins Z H s)(h:Am X.K H a xs)(h':Am X.K H a ys):xs=ys:=by
 obtain ⟨its,r,⟨o,n,e,_,_,d⟩,_⟩:=I.list h;obtain ⟨its',r',⟨o',n',e',_,_,d'⟩,_⟩:=I.list h';rw [e] at e';cases e';rw [d] at d';injection d' with d1 _
 have:its=its':=by simpa using congrArg Array.toList d1
 subst this;exact r.inj r'
theorem Mk.tuple_inj (I:Mk X pins Z H s)(h:CG X.K H a xs)(h':CG X.K H a ys):xs=ys:=by
 obtain ⟨its,r,⟨o,e,_,n,d⟩,_⟩:=I.tuple h;obtain ⟨its',r',⟨o',e',_,n',d'⟩,_⟩:=I.tuple h';rw [e] at e';cases e';rw [d] at d';injection d' with d1 _
 have:its=its':=by simpa using congrArg Array.toList d1
 subst this;exact r.inj r'
end
abbrev Cx.wish (X:Cx)(E:Tw->Tz->Prop):Cx:={ X with xe:=E }
abbrev Cx.nox (X:Cx):Cx:=X.wish fun _ _=>False
theorem Cx.Ok.wish {X:Cx}(ok:X.Ok)(E:Tw->Tz->Prop):(X.wish E).Ok:=
 ⟨ok.mod,ok.kind,ok.glob,ok.blt,ok.above,ok.inj,ok.has,ok.cab,ok.hd,ok.qt,ok.frames,ok.stk,ok.exf,ok.bs,ok.bsz,ok.noex,ok.exfs,ok.funs,ok.frf⟩
theorem Cx.Ok.unwish {X:Cx}{E:Tw->Tz->Prop}(ok:(X.wish E).Ok):X.Ok:=
 ⟨ok.mod,ok.kind,ok.glob,ok.blt,ok.above,ok.inj,ok.has,ok.cab,ok.hd,ok.qt,ok.frames,ok.stk,ok.exf,ok.bs,ok.bsz,ok.noex,ok.exfs,ok.funs,ok.frf⟩
section
variable {X:Cx}{pins:List (Addr×Obj)}{Z : St}{H:Hp}{s:Tz}{E:Tw->Tz->Prop}
theorem Mk.wish (I:Mk X pins Z H s)(E:Tw->Tz->Prop):Mk (X.wish E) pins Z H s:=⟨I.ok.wish E,I.os,I.bare,I.base,I.loc,I.cell,I.free,I.freeC,I.pin,I.hok,I.len⟩
theorem Mk.unwish (I:Mk (X.wish E) pins Z H s):Mk X pins Z H s:=⟨I.ok.unwish,I.os,I.bare,I.base,I.loc,I.cell,I.free,I.freeC,I.pin,I.hok,I.len⟩
theorem SP.unwish {D:Ends}{f:Flow}{s':Tz}(h:SP (X.wish E) pins D f s'):SP X pins D f s':=by
 cases f with
 | next=>obtain ⟨Z',H',I,q⟩:=h;exact ⟨Z',H',I.unwish,q⟩
 | brk=>obtain ⟨Z',H',I,q⟩:=h;exact ⟨Z',H',I.unwish,q⟩
 | cont=>obtain ⟨Z',H',I,q⟩:=h;exact ⟨Z',H',I.unwish,q⟩
 | ret u=>obtain ⟨v,Z',H',I,r,q⟩:=h;exact ⟨v,Z',H',I.unwish,r,q⟩
theorem DY.nox {st:List Stmt}{t:TS}(h:DY X.nox st t):DY X st t:=fun pins s Z H D I hw=>
 Vi (h pins s Z H D (I.wish _) hw) (fun _ _ q=>q.unwish) fun _ _ z=>VB z
end
section
variable {X:Cx}{st:Stmt}{rest:List Stmt}{t u:TS}{e:Expr}{te:TE}{pos:Pos}
def Nx:TS:=fun D Z H=>D.nx Z H
def Tj (t u:TS):TS:=fun D Z H=>t { D with nx:=u D } Z H
theorem zbc:DY X [] Nx:=fun _ _ Z H _ I h=>XC ⟨Z,H,I,h⟩
theorem qR (h1:PS X st t)(h2:DY X rest u):DY X (st::rest) (Tj t u):=by
 intro pins s Z H D I h;refine wpAny_execs_cons<|AP (h1 pins s Z H { D with nx:=u D } I h) fun f s1 q=>?_
 cases f with
 | next=>
  obtain ⟨Z',H',I',q⟩:=q;exact h2 pins s1 Z' H' D I' q
 | ret v=>exact q
 | brk=>exact q
 | cont=>exact q
theorem wD (h1:PS X st t):DY X [st] t:=by
 intro pins s Z H D I h;refine wpAny_execs_cons<|AP (h1 pins s Z H D I h) fun f s1 q=>?_
 cases f with
 | next=>exact XC q
 | ret v=>exact q
 | brk=>exact q
 | cont=>exact q
theorem Mk.quiet {pins:List (Addr×Obj)}{Z : St}{H:Hp}{s:Tz}(I:Mk X pins Z H s):interactive X.env=false:=by simp [interactive,I.ok.kind]
def OJ (te:TE):TS:=fun D Z H=>te Z H fun _ H1=>D.nx Z H1
theorem wB (he:PE X e te)(hs:XS e Go pos.line X.env=pure false:=by rfl):PS X (.Expr e pos) (OJ te):=by
 intro pins s Z H D I h;exact wpAny_Expr_any (AP (he pins s Z H _ I h) fun v s1 ⟨x,H1,I1,r1,q1⟩=>⟨Z,H1,I1,q1⟩) I.quiet hs
def RD (te:TE):TS:=fun D Z H=>te Z H D.rt
theorem Ma (he:PE X e te):PS X (.Return (Dn e) pos) (RD te):=by
 intro pins s Z H D I h;exact wpAny_Return_some<|AP (he pins s Z H _ I h) fun v s1 ⟨x,H1,I1,r1,q1⟩=>⟨x,Z,H1,I1,r1,q1⟩
def SQ (c:TT)(t u:TS):TS:=fun D Z H=>c Z H fun b H1=>if b=true then t D Z H1 else u D Z H1
theorem Mh {c:Expr}{a b:List Stmt}{tc:TT}(hc:PT X c tc)(ha:DY X a t)(hb:DY X b u):PS X (.If c a b pos) (SQ tc t u):=by
 intro pins s Z H D I h;refine wpAny_If<|AP (hc pins s Z H _ I h) fun d s1 ⟨H1,I1,q1⟩=>?_
 cases d with
 | true=>exact ha pins s1 Z H1 D I1 q1
 | false=>exact hb pins s1 Z H1 D I1 q1
def Hv:TS:=fun _ _ _=>False
theorem yS:PS X st Hv:=fun _ _ _ _ _ _ h=>h.elim
end
abbrev TG:=V->St->Hp->(St->Hp->Prop)->Prop
def PG (X:Cx)(target:Expr)(t:TG):Prop:=
 ∀ (pins:List (Addr×Obj)) (s:Tz) (Z : St) (H:Hp) (v:V) (u:Tw) (Q:St->Hp->Prop),Mk X pins Z H s->RelV v u->t v Z H Q ->
  Us (Uz X.prog X.w) X.A (assign target X.env u) (fun _ s'=>∃ Z' H',Mk X pins Z' H' s'/\Q Z' H') X.xe s
abbrev Ii:=V->V->V->Hp->(Hp->Prop)->Prop
def O7 (X:Cx)(t:Ii):Prop:=
 ∀ (pins:List (Addr×Obj)) (s:Tz) (Z : St) (H:Hp) (o i v:V) (ov iv u:Tw) (Q:Hp->Prop),Mk X pins Z H s->RelV o ov->RelV i iv->RelV v u->t o i v H Q ->
  Us (Uz X.prog X.w) X.A (setItem ov iv u) (fun _ s'=>∃ H',Mk X pins Z H' s'/\Q H') X.xe s
section
variable {X:Cx}{pos:Pos}
def vO (i:Nat):TG:=fun v Z H Q=>Q (Z.set i (Dn v)) H
theorem jH {i:Nat}{x:Str}(hN:X.N.Nodup)(hi:X.N[i]?=Dn x)(hx:Loc X.env.scope x)(hf:X.fn x=true\/X.env.scope.names.lookup x=Dn .local:=by first | exact .inl rfl | exact .inr rfl | assumption):PG X (.Name x pos) (vO i):=by
 intro pins s Z H v u Q I r h;exact wpAny_assign_Name<|gK I hN hi hx r (fun s' I'=>⟨_,H,I',h⟩) hf
def RB (to ti:TE)(t:Ii):TG:=fun v Z H Q=>to Z H fun o H1=>ti Z H1 fun i H2=>t o i v H2 fun H3=>Q Z H3
theorem Ho {o i:Expr}{to ti:TE}{t:Ii}(ho:PE X o to)(hi:PE X i ti)(hs:O7 X t)
  (ha:∀ v,assign (.Subscript o i pos) X.env v=(do
   let ov <-holding [v] (eval o X.env)
   let iv <-holding [v,ov] (eval i X.env)
   standAt pos
   holding [v,ov,iv] (setItem ov iv v)
   release [v,ov,iv] []):=by intro _;rfl):PG X (.Subscript o i pos) (RB to ti t):=by
 intro pins s Z H v u Q I r h;rw [ha];refine Tv<|V5<|AP (ho pins s Z H _ I h) fun ov s1 ⟨x,H1,I1,r1,q1⟩=>?_
 refine Tv<|V5<|AP (hi pins s1 Z H1 _ I1 q1) fun iv s2 ⟨y,H2,I2,r2,q2⟩=>?_
 refine Tv<|wpAny_standAt<|Tv<|V5<|AP (hs pins s2 Z H2 x y v ov iv u _ I2 r1 r2 r q2) fun _ s3 ⟨H3,I3,q3⟩=>?_
 exact wpAny_release ⟨Z,H3,I3,q3⟩
def Le (te:TE)(g:TG):TS:=fun D Z H=>te Z H fun x H1=>g x Z H1 D.nx
theorem Ly {tg e:Expr}{te:TE}{g:TG}(he:PE X e te)(hg:PG X tg g)(hs:swapsWithSole [tg] e pos.line X.env=pure false:=by rfl)(hw:swappedStores [tg] e X.env=pure Go:=by rfl)
  (h1:(assignEach [tg] X.env).map (·.2)=[assign tg X.env]:=by rfl):PS X (.Assign [tg] e pos) (Le te g):=by
 intro pins s Z H D I h;refine wpAny_Assign_stores (AP (he pins s Z H _ I h) fun v s1 ⟨x,H1,I1,r1,q1⟩=>?_) hs hw;rw [h1];exact AP (hg pins s1 Z H1 x v _ I1 r1 q1) fun _ s2 q=>q
theorem Mp {i:Nat}{x:Str}{e:Expr}{te:TE}{pos':Pos}(hN:X.N.Nodup)(hi:X.N[i]?=Dn x)(hx:Loc X.env.scope x)(he:PE X e te)(hs:XS e (Dn (.Name x pos')) pos.line X.env=pure false:=by rfl)(hf:X.fn x=true\/X.env.scope.names.lookup x=Dn .local:=by first | exact .inl rfl | exact .inr rfl | assumption) :
  PS X (.Assign [.Name x pos'] e pos) (Le te (vO i)):=by
 intro pins s Z H D I h;refine wpAny_Assign_Name (AP (he pins s Z H _ I h) fun v s1 ⟨y,H1,I1,r1,q1⟩=>?_) hs;exact gK I1 hN hi hx r1 (fun s2 I2=>⟨_,H1,I2,q1⟩) hf
def Q6 (i j:Nat)(ta:TA):TS:=fun D Z H=>ta Z H fun vs H1=>∃ v w,vs=[v,w]/\D.nx ((Z.set i (Dn v)).set j (Dn w)) H1
theorem Hs {i j:Nat}{x y:Str}{a b:Expr}{ta:TA}{px py pt:Pos}{kt k2 pt2}(hc:X.calm=true)(hN:X.N.Nodup)(hi:X.N[i]?=Dn x)(hj:X.N[j]?=Dn y)(hij:i≠j)
  (hx:X.env.scope.names.lookup x=Dn .local) (hy:X.env.scope.names.lookup y=Dn .local) (ha:PA X [a,b] ta)
  (hw:swappedStores [.Tuple [.Name x px,.Name y py] kt pt] (.Tuple [a,b] k2 pt2) X.env=pure (Dn [x,y]))
  (hs:swapsWithSole [.Tuple [.Name x px,.Name y py] kt pt] (.Tuple [a,b] k2 pt2) pos.line X.env=pure false:=by rfl) :
  PS X (.Assign [.Tuple [.Name x px,.Name y py] kt pt] (.Tuple [a,b] k2 pt2) pos) (Q6 i j ta):=by
 intro pins s Z H D I h;rw [exec_Assign_arm];refine Tv<|wpAny_standAt ?_
 rw [hs];refine Tv<|TV ?_
 rw [if_neg (by decide)];refine Tv<|Tuple_<|AP (ha _ pins s Z H _ I h) fun us s1 ⟨vs,H1,I1,r1,q1⟩=>?_
 obtain ⟨v,w,e1,q1⟩:=q1;subst e1;obtain ⟨u1,u2,rfl,rv,rw'⟩:∃ u1 u2,us=[u1,u2]/\RelV v u1/\RelV w u2:=by
  cases r1 with
  | cons p q=>
   cases q with
   | cons p' q'=>
    cases q'
    exact ⟨_,_,rfl,p,p'⟩
 refine U5 ?_ (by show 2<=Ua;decide);have I2:Mk X pins Z H1 { s1 with heap:=s1.heap.push { cls:=.type "tuple",data:=.seq [u1,u2].toArray } }:=I1.kept (t':=s1.toks) fun b o e=>TJ _ e
 rw [hw];refine Tv<|TV ?_
 show Us (Uz X.prog X.w) X.A (do rule "assign.swapped-stores";let items <-unpackItems (.ref s1.heap.objs.size) 2 Go;assignInOrder [fun v=>bindName X.env y v,fun v=>bindName X.env x v] items.reverse;pure Flow.next) _ _ _;refine Tv<|wpAny_rule<|Tv<|unpackItems_tuple (items:=#[u1,u2]) (I.ok.hd hc) (IsTup.new s1.heap _) fun h' hx'=>?_
 have I3:=I2.kept (h':=h') (t':=s1.toks) fun b o e=>hx' b o (Ud (TY e)) e
 show Us _ _ (assignInOrder [fun v=>bindName X.env y v,fun v=>bindName X.env x v] [u2,u1] >>= fun _=>pure Flow.next) _ _ _;refine Tv<|assignInOrder_cons<|wpAny_bindName<|gK I3 hN hj (.inl hy) rw' (fun s2 I4=>?_)<|.inr hy
 refine assignInOrder_cons<|wpAny_bindName<|gK I4 hN hi (.inl hx) rv (fun s3 I5=>assignInOrder_nil<|TV ?_)<|.inr hx
 rw [List.set_comm _ _ (VR hij)] at I5;exact ⟨_,H1,I5,q1⟩
def Hr (c:TT)(tb:TS):TS:=fun D Z H=>∃ W:Nat->St->Hp->Prop,(∃ m,W m Z H)/\∀ m Z H,W m Z H ->
 c Z H fun b H1=>if b=true then ∃ N:St->Hp->Prop,(∀ Z' H',N Z' H'->∃ m',m'<m/\W m' Z' H')/\tb { D with nx:=N,ct:=N,bk:=D.nx } Z H1 else D.nx Z H1
theorem yE {c:Expr}{body:List Stmt}{tc:TT}{tb:TS}(hp:W5 (Uz X.prog X.w) X.A X.env X.xe)(hc:PT X c tc)(hb:DY X body tb):PS X (.While c body [] pos) (Hr tc tb):=by
 intro pins s Z H D I h;obtain ⟨W,⟨m0,w0⟩,turn⟩:=h;refine wpAny_While<|codeAny_whileLoop (fun n s'=>∃ Z' H',Mk X pins Z' H' s'/\W n Z' H') ?_ m0 ⟨Z,H,I,w0⟩
 rintro n s1 ⟨Z1,H1,I1,w1⟩;refine Wi hp<|AP (hc pins s1 Z1 H1 _ I1<|turn n Z1 H1 w1) fun b s2 ⟨H2,I2,q2⟩=>?_
 cases b with
 | true=>
  obtain ⟨N,hN,q2⟩:=q2;rw [if_pos rfl];refine Wi hp<|AP (hb pins s2 Z1 H2 _ I2 q2) fun f s3 q3=>?_
  cases f with
  | next=>
   obtain ⟨Z3,H3,I3,n3⟩:=q3;obtain ⟨m',hm,w3⟩:=hN Z3 H3 n3;exact ⟨m',hm,Z3,H3,I3,w3⟩
  | cont=>
   obtain ⟨Z3,H3,I3,n3⟩:=q3;obtain ⟨m',hm,w3⟩:=hN Z3 H3 n3;exact ⟨m',hm,Z3,H3,I3,w3⟩
  | brk=>exact q3
  | ret v=>exact q3
 | false=>
  rw [if_neg Ue];exact XC ⟨Z1,H2,I2,q2⟩
end
theorem lM:entryFor table "proto.unchain" = Dn UW.«proto.unchain»:=entryFor_of_tree (by kernel_rfl)
def pX (A:Ug)(h:Heap):Prop:=∀ v,A.handled=Dn v->∃ (a:Addr) (o:Obj) (vs:Array Tw),v=.ref a/\h.get? a=Dn o/\o.data=.fields vs/\vs[2]?=Dn .none
theorem tV {A:Ug}{P:T8}{w:Uv}{H:Hp}{h:Heap}(q:Quiet A H)(x:CR P w H h):pX A h:=fun v e=>by
 obtain ⟨a,o,u,vs,h1,h2,h3,h4⟩:=q v e;exact ⟨a,o,vs,h1,(x a _ h2).1,h3,h4⟩
theorem sU {α : Type}{prog:T8}{w:Uv}{A:Ug}{E:Tw->Tz->Prop}{s:Tz}{e:Addr}{oe:Obj}{ws:Array Tw}{Q:α->Tz->Prop}(hq:pX A s.heap)(he:s.heap.get? e=Dn oe)(hd:oe.data=.fields ws)(hz:2<ws.size)(hne:∀ v,A.handled=Dn v->v≠.ref e)
  (h:∀ h',(∀ b,b≠e->h'.get? b=s.heap.get? b)->(∃ o',h'.get? e=Dn o'/\o'.cls=oe.cls)->E (.ref e) { s with heap:=h' }):Us (Uz prog w) A (raiseNew (.ref e):Sem α) Q E s:=by
 unfold raiseNew;refine Tv<|wpAny_handled ?_
 cases hh:A.handled with
 | none=>
  dsimp only;refine Tv<|TV<|wpAny_throw ?_
  exact h s.heap (fun _ _=>rfl) ⟨oe,he,rfl⟩
 | some v=>
  obtain ⟨a,o,vs,rfl,ho,hdo,h2⟩:=hq v hh;dsimp only;have ne:(Value.ref a != Value.ref e)=true:=by
   have:=hne _ hh
   simp only [bne_iff_ne,ne_eq];exact this
  rw [if_pos ne];refine Tv<|V5<|wpAny_runValue<|codeAny_builtin lM ?_
  unfold UW.«proto.unchain»;dsimp only;refine Tv<|Vp ho hdo h2 ?_
  rw [if_pos (show (Value.none==Value.none)=true from rfl)];refine Tv<|TV<|TV ?_
  dsimp only;refine Tv ?_;unfold updateField;refine Tv<|wpAny_load he ?_
  rw [hd];dsimp only;rw [if_pos hz];refine wpAny_update he<|wpAny_throw ?_
  have hd3:=Vf hd (·.setIfInBounds 2 (Value.ref a));exact h _ (fun b hb=>Ui _ _<|VR hb) ⟨_,U3 _ he<|Vk hd3,Obj.cls_mapFields _ _⟩
theorem wN {prog:T8}{w:Uv}{A:Ug}{E:Tw->Tz->Prop}{s:Tz}{it:Addr}{x left step:Int}{Q:Option Tw->Tz->Prop}(hh:pX A s.heap)(hit:IsRangeIter s.heap it x left step)(hleft:left<=0)
  (hQ:∀ h',Heap.ExtBut it s.heap h'->Q Go { s with heap:=h' }):Us (Uz prog w) A (pyNext (.ref it)) Q E s:=by
 have hT:s.TypeIs (.ref it) "range_iterator":=⟨_,hit,rfl⟩
 unfold pyNext;refine Tv (W3 (V6 (name:=Vo "__next__") hT F.slot_range_iterator_next
  (Wv F.slot_range_iterator_next hT F.entry_range_iterator_next ?_ (F.args_range_iterator_next_1 _))))
 show Us _ _ (field (.ref it) 0 >>= _) _ _ s;refine Tv<|Vp hit rfl (x:=XF x) rfl ?_
 show Us _ _ (field (.ref it) 1 >>= _) _ _ s;refine Tv<|Vp hit rfl (x:=XF left) rfl ?_
 show Us _ _ (field (.ref it) 2 >>= _) _ _ s;refine Tv<|Vp hit rfl (x:=XF step) rfl ?_
 show Us _ _ (if left<=0 then _ else _) _ _ s;rw [if_pos hleft];refine Tv<|wpAny_rule ?_
 refine Tv ?_;show Us _ _ (newExc (.type "StopIteration") [] >>= _) _ _ _;refine Tv ?_;simp only [newExc,newTuple];refine Tv<|U5 ?_<|by size_fits
 refine Tv (m:=firstArgMember _ _)<|Xg (a:=Value.none) (by first | rfl | (simp only [firstArgMember];rfl)) ?_
 refine U5 ?_<|by size_fits
 refine sU (A:=A.in1) (fun v e=>?_) (T9 _ rfl) rfl (by simp;lia) (fun v e=>?_) fun h' h1 ⟨o',h2,h3⟩=>?_
 ·obtain ⟨a,o,vs,r1,r2,r3⟩:=hh v e;exact ⟨a,o,vs,r1,TJ _<|TJ _ r2,r3⟩
 ·obtain ⟨a,o,vs,r1,r2,r3⟩:=hh v e;rw [r1];intro q;have q:a=_:=Value.ref.inj q;have:=TY r2
  rw [q] at this;exact absurd this<|Nat.not_lt.mpr<|by simp [Heap.push]
 refine Tv<|wpAny_isInstance (T := "StopIteration") (b:=true) ⟨_,h2,h3⟩ isSubtype_stop ?_
 refine TV<|hQ _ fun b o hb e=>?_
 rw [h1 b ?_]
 ·exact TJ _<|TJ _ e
 ·have:=TY e
  exact Ud<|TQ this<|by simp [Heap.push]
structure It where
 go:Nat->Hp->Prop
 yld:Nat->Hp->V->Hp->Prop
 stop:Nat->Hp->Prop
 cm:Bool
def uz (X:Cx)(pins:List (Addr×Obj))(H:Hp)(b:Addr):Prop:=
 H b=Go/\b≠X.env.locals/\b∉X.fs/\(b∈X.ex\/X.s₀.heap.objs.size<=b)/\(∀ x c,X.env.cells.lookup x=Dn c->c≠b)/\∀ p∈X.pn++pins,p.1≠b
theorem Mk.fpOk {X:Cx}{pins:List (Addr×Obj)}{Z : St}{H H':Hp}{s:Tz}{b:Addr}(I:Mk X pins Z H s)(hb:s.heap.objs.size<=b)(hn:H' b=Go):uz X pins H' b:=by
 refine ⟨hn,W9<|TQ I.lt hb,I.nofs hb,.inr<|Uc I.sz hb,fun x c e z=>?_,fun p hp z=>?_⟩
 ·obtain ⟨v,q⟩:=I.cell x c e;exact absurd (TQ q.lt (by rw [z];exact hb))<|Vl _
 ·exact absurd (TQ (TY (I.pin p hp).1) (by rw [z];exact hb))<|Vl _
structure Turn (P:T8) (w:Uv) (K:Tt) (tg:Expr) (J:It) (fp:List Addr) (it:Addr) (tn:Nat->Heap->Prop):Prop where
 mem:it∈fp
 obj:∀ i h,tn i h->∀ b∈fp,∃ o,h.get? b=Dn o/\∀ v,o.data≠.cell v
 keep:∀ i h h',tn i h->(∀ b∈fp,∀ o,h.get? b=Dn o->h'.get? b=Dn o)->tn i h'
 item:∀ (X:Cx),X.prog=P->X.w=w->X.K=K->(J.cm=true->X.calm=true)->∀ (i:Nat) (pins:List (Addr×Obj)) (s:Tz) (Z : St) (H:Hp) (E:Tw->Tz->Prop),Mk X pins Z H s->(∀ b∈fp,uz X pins H b)->tn i s.heap->J.go i H ->
  Us (Uz P w) X.A (pyNext (.ref it)) (fun r s1=>∃ u,r=Dn u /\
   Us (Uz P w) X.A (letOwnedTupleGo tg (.ref it) u) (fun _ s2=>∃ x H',Mk X pins Z H' s2/\RelV x u/\J.yld i H x H'/\tn (i+1) s2.heap/\∀ b∈fp,H' b=Go) E s1) E s
 done:∀ (X:Cx),X.prog=P->X.w=w->X.K=K->(J.cm=true->X.calm=true)->∀ (i:Nat) (pins:List (Addr×Obj)) (s:Tz) (Z : St) (H:Hp) (E:Tw->Tz->Prop),Mk X pins Z H s->(∀ b∈fp,uz X pins H b)->tn i s.heap->J.stop i H ->
  Us (Uz P w) X.A (pyNext (.ref it)) (fun r s1=>r=Go/\Mk X pins Z H s1) E s
 self:∀ (A:Ug) (i:Nat) (s:Tz) (Q:Tw->Tz->Prop) (E:Tw->Tz->Prop),tn i s.heap->Q (.ref it) s->Us (Uz P w) A (pyIter (.ref it)) Q E s
abbrev TI:=St->Hp->(It->Hp->Prop)->Prop
def PIE (X:Cx)(pins:List (Addr×Obj))(Z : St)(tg:Expr)(R:It->Hp->Prop)(itv:Tw)(s2:Tz):Prop:=
 ∃ (it:Addr) (fp:List Addr) (tn:Nat->Heap->Prop) (J:It) (H':Hp),itv=.ref it/\Mk X pins Z H' s2/\Turn X.prog X.w X.K tg J fp it tn/\tn 0 s2.heap/\(∀ b∈fp,uz X pins H' b)/\R J H'
def PI (X:Cx)(tg iter:Expr)(wi:TI):Prop:=
 ∀ (pins:List (Addr×Obj)) (s:Tz) (Z : St) (H:Hp) (R:It->Hp->Prop),Mk X pins Z H s->wi Z H R ->
  Us (Uz X.prog X.w) X.A (eval iter X.env) (fun v s1=>Us (Uz X.prog X.w) X.A (pyIter v) (PIE X pins Z tg R) X.xe s1) X.xe s
theorem qp {M:Model}{A:Ug}{E:Tw->Tz->Prop}{s:Tz}{tg:Expr}{it:Addr}{u:Tw}{o:Obj}{n:String}{vs:Array Tw}{Q:Unit->Tz->Prop}(ho:s.heap.get? it=Dn o)(hc:o.cls=.type n)(hd:o.data=.fields vs)
    (hn:["enumerate", "zip", "dict_itemiterator", "dict_reverseitemiterator", "odict_iterator", "itertools.zip_longest", "itertools.pairwise"].contains n=false) (hQ:Q () s):Us M A (letOwnedTupleGo tg (.ref it) u) Q E s:=by
  unfold letOwnedTupleGo;cases tg <;> first
    | exact TV hQ
    | (cases u <;> first
        | exact TV hQ
        | (refine Tv (wpAny_load ho ?_)
           rw [hc,hd];show Us M A (if (["enumerate", "zip", "dict_itemiterator", "dict_reverseitemiterator", "odict_iterator", "itertools.zip_longest", "itertools.pairwise"].contains n&&vs[0]?==Dn (XF _))=true then _ else _) Q E s;rw [if_neg (by intro h;rw [hn,Bool.false_and] at h;cases h)];exact TV hQ))
def Itl (K:Tt)(a:Addr):It:=
 ⟨fun i H=>∃ xs x,Am K H a xs/\xs[i]?=Dn x,fun i H x H'=>H'=H/\∀ xs,Am K H a xs->xs[i]?=Dn x,fun i H=>∃ xs,Am K H a xs/\xs.length<=i,true⟩
def Itt (K:Tt)(a:Addr):It:=
 ⟨fun i H=>∃ xs x,CG K H a xs/\xs[i]?=Dn x,fun i H x H'=>H'=H/\∀ xs,CG K H a xs->xs[i]?=Dn x,fun i H=>∃ xs,CG K H a xs/\xs.length<=i,true⟩
def Itr (lo:Int)(n:Nat):It:=⟨fun i _=>i<n,fun i H x H'=>H'=H/\x=.int (lo+i),fun i _=>n<=i,false⟩
theorem xG {P:T8}{w:Uv}{K:Tt}{tg:Expr}(a it:Addr):Turn P w K tg (Itl K a) [it] it (fun i h=>h.IsListIter it a i) where
 mem:=by simp
 obj:=fun i h st b hb=>by
  have e:b=it:=by simpa using hb
  subst e;obtain ⟨o,e,c,d⟩:=st;exact ⟨o,e,fun v z=>by rw [d] at z;cases z⟩
 keep:=fun i h h' st k=>st.at fun o e=>k it (by simp) o e
 item:=by
  intro X hP hw hK hc i pins s Z H E I hf st hg;subst hP hw hK;obtain ⟨xs,x,hq,hx⟩:=hg;obtain ⟨its,rv,p,hz⟩:=I.list hq;obtain ⟨u,hu,ru⟩:=rv.get hx;obtain ⟨f0,f1,f2,f3,f4,f5⟩:=hf it (by simp);refine wpAny_pyNext_list_item st p.isList (x:=u) (by simpa using hu) fun h' st' sb=>?_;have I1:Mk X pins Z H { s with heap:=h' }:=I.turned (t':=s.toks) (fun b o hb e=>(sb.2 b hb).trans e) f0 f1 f3 f4 f5;obtain ⟨o,e,c,d⟩:=id st';exact ⟨u,rfl,qp (s:={ s with heap:=h' }) e c d (by decide) ⟨x,H,I1,ru,⟨rfl,fun ys hy=>by rw [I.list_inj hy hq];exact hx⟩,st',fun b hb=>(hf b hb).1⟩⟩
 done:=by
  intro X hP hw hK hc i pins s Z H E I hf st hg;subst hP hw hK;obtain ⟨xs,hq,hx⟩:=hg;obtain ⟨its,rv,p,hz⟩:=I.list hq;obtain ⟨f0,f1,f2,f3,f4,f5⟩:=hf it (by simp);have hl:=rv.length;exact wpAny_pyNext_list_end (I.ok.hd<|hc rfl) st p.isList (by simp;lia) fun h' eb=>⟨rfl,I.turned (t':=s.toks) (fun b o hb e=>eb b o hb e) f0 f1 f3 f4 f5⟩
 self:=fun _ _ _ _ _ st h=>wpAny_pyIter_listiter st h
theorem tY {P:T8}{w:Uv}{K:Tt}{tg:Expr}(a it:Addr):Turn P w K tg (Itt K a) [it] it (fun i h=>h.IsTupleIter it a i) where
 mem:=by simp
 obj:=fun i h st b hb=>by
  have e:b=it:=by simpa using hb
  subst e;obtain ⟨o,e,c,d⟩:=st;exact ⟨o,e,fun v z=>by rw [d] at z;cases z⟩
 keep:=fun i h h' st k=>st.at fun o e=>k it (by simp) o e
 item:=by
  intro X hP hw hK hc i pins s Z H E I hf st hg;subst hP hw hK;obtain ⟨xs,x,hq,hx⟩:=hg;obtain ⟨its,rv,p,hz⟩:=I.tuple hq;obtain ⟨u,hu,ru⟩:=rv.get hx;obtain ⟨f0,f1,f2,f3,f4,f5⟩:=hf it (by simp);refine wpAny_pyNext_tuple_item st (show s.heap.IsTuple a its.toArray from p) (x:=u) (by simpa using hu) fun h' st' sb=>?_;have I1:Mk X pins Z H { s with heap:=h' }:=I.turned (t':=s.toks) (fun b o hb e=>(sb.2 b hb).trans e) f0 f1 f3 f4 f5;obtain ⟨o,e,c,d⟩:=id st';exact ⟨u,rfl,qp (s:={ s with heap:=h' }) e c d (by decide) ⟨x,H,I1,ru,⟨rfl,fun ys hy=>by rw [I.tuple_inj hy hq];exact hx⟩,st',fun b hb=>(hf b hb).1⟩⟩
 done:=by
  intro X hP hw hK hc i pins s Z H E I hf st hg;subst hP hw hK;obtain ⟨xs,hq,hx⟩:=hg;obtain ⟨its,rv,p,hz⟩:=I.tuple hq;obtain ⟨f0,f1,f2,f3,f4,f5⟩:=hf it (by simp);have hl:=rv.length;exact wpAny_pyNext_tuple_end (I.ok.hd<|hc rfl) st (show s.heap.IsTuple a its.toArray from p) (by simp;lia) fun h' eb=>⟨rfl,I.turned (t':=s.toks) (fun b o hb e=>eb b o hb e) f0 f1 f3 f4 f5⟩
 self:=fun _ _ _ _ _ st h=>wpAny_pyIter_tupleiter st h
theorem ug {P:T8}{w:Uv}{K:Tt}{tg:Expr}(it:Addr)(lo:Int)(n:Nat):Turn P w K tg (Itr lo n) [it] it (fun i h=>IsRangeIter h it (lo+(i:Nat)*1) ((n:Int) - (i:Nat)) 1) where
 mem:=by simp
 obj:=fun i h st b hb=>by
  have e:b=it:=by simpa using hb
  subst e;exact ⟨_,st,fun v z=>by
   have z':Data.fields _=Data.cell v:=z;cases z'⟩
 keep:=fun i h h' st k=>k it (by simp) _ st
 item:=by
  intro X hP hw hK hc i pins s Z H E I hf st hg;subst hP hw hK;obtain ⟨f0,f1,f2,f3,f4,f5⟩:=hf it (by simp);refine wpAny_pyNext_range_item st (by have:i<n:=hg;lia) fun h' st' kk=>?_;have I1:Mk X pins Z H { s with heap:=h',toks:=s.toks+1 }:=I.turned (fun b o hb e=>(kk.2 b hb).trans e) f0 f1 f3 f4 f5;have st2:IsRangeIter h' it (lo+((i+1:Nat):Int)*1) ((n:Int) - ((i+1:Nat):Int)) 1:=by
   have e1:lo+((i+1:Nat):Int)*1=lo+((i:Nat):Int)*1+1:=by lia
   have e2:(n:Int) - ((i+1:Nat):Int)=(n:Int) - ((i:Nat):Int) - 1:=by lia
   rw [e1,e2];exact st'
  refine ⟨_,rfl,qp (s:={ s with heap:=h',toks:=s.toks+1 }) (n := "range_iterator") st' rfl rfl (by decide) ⟨.int<|lo+i,H,I1,⟨s.toks,?_⟩,⟨rfl,rfl⟩,st2,fun b hb=>(hf b hb).1⟩⟩;rw [Int.mul_one]
 done:=by
  intro X hP hw hK hc i pins s Z H E I hf st hg;subst hP hw hK;obtain ⟨f0,f1,f2,f3,f4,f5⟩:=hf it (by simp);exact wN (tV I.qt0 I.hok) st (by have:n<=i:=hg;lia) fun h' eb=>⟨rfl,I.turned (t':=s.toks) (fun b o hb e=>eb b o hb e) f0 f1 f3 f4 f5⟩
 self:=fun _ _ _ _ _ st h=>wpAny_pyIter_rangeiter st h
section
variable {X:Cx}{tg:Expr}
theorem zP {pins:List (Addr×Obj)}{Z : St}{H:Hp}{s:Tz}{R:It->Hp->Prop}{E:Tw->Tz->Prop}{lo hi:Int}{t u v:Tok}{tk:Nat}(I:Mk X pins Z H s)(h1:-(2^62)<=lo)(h2:lo<2^62)(h3:-(2^62)<=hi)(h4:hi<2^62)
  (q:R (Itr lo (hi - lo).toNat) H):Us (Uz X.prog X.w) X.A (pyIter (.ref s.heap.objs.size)) (PIE X pins Z tg R) E { s with heap:=s.heap.push { cls:=.type "range",data:=.fields #[.int lo t,.int hi u,.int 1 v] },toks:=tk }:=by
 refine wpAny_pyIter_range (IsRange.new ..) (small_one h1 h2 h3 h4) ?_;have I1:Mk X pins Z H { s with heap:=s.heap.push { cls:=.type "range",data:=.fields #[.int lo t,.int hi u,.int 1 v] },toks:=tk }:=I.kept fun b o e=>TJ _ e
 refine ⟨(s.heap.push { cls:=.type "range",data:=.fields #[.int lo t,.int hi u,.int 1 v] }).objs.size,[(s.heap.push { cls:=.type "range",data:=.fields #[.int lo t,.int hi u,.int 1 v] }).objs.size],_,_,H,rfl,
  I1.kept (t':=tk) fun b o e=>TJ _ e,ug _ lo (hi - lo).toNat,?_,fun b hb=>?_,q⟩
 ·have e1:lo+((0:Nat):Int)*1=lo:=by simp
  have e2:(((hi - lo).toNat:Nat):Int) - ((0:Nat):Int)=Builtin.Range.rangeSize lo hi 1:=by rw [rangeSize_one];split <;> lia
  show IsRangeIter _ _ (lo+((0:Nat):Int)*1) ((((hi - lo).toNat:Nat):Int) - ((0:Nat):Int)) 1;rw [e1,e2];exact T9 _ rfl
 ·have e:b=(s.heap.push { cls:=.type "range",data:=.fields #[.int lo t,.int hi u,.int 1 v] }).objs.size:=by simpa using hb
  subst e;exact I1.fpOk (T6 _)<|I1.hok.fresh<|T6 _
def Qy (ta:TA):TI:=fun Z H R=>ta Z H fun vs H1=>∃ j:Int,vs=[.int j]/\-(2^62)<=j/\j<2^62/\R (Itr 0 j.toNat) H1
theorem wM {a:Expr}{ta:TA}{p pos:Pos}(hg:Gl X "range")(hm:X.mg "range" = Go)(ha:PA X [a] ta)(hs:T3 [a] X.env=[(false,eval a X.env)]:=by rfl):PI X tg (.Call (.Name "range" p) [a] [] pos) (Qy ta):=by
 intro pins s Z H R I h;refine Call_<|kj I hg hm boot_range<|V1 (AP (ha pos pins s Z H _ I h) fun us s1 ⟨vs,H1,I1,r1,q1⟩=>?_) hs rfl
 obtain ⟨j,e,q1,q2,q⟩:=q1;subst e;cases r1 with
 | cons r rr=>
  cases rr;obtain ⟨t,rfl⟩:=r;exact call_range_1<|zP I1 (by lia) (by lia) q1 q2<|by simpa using q
def RG (wi:TI)(g:TG)(tb:TS):TS:=fun D Z H=>wi Z H fun J H1=>∃ W:Nat->Nat->St->Hp->Prop,(∃ m,W 0 m Z H1)/\∀ i m Z H,W i m Z H ->
 (J.stop i H/\D.nx Z H)\/(J.go i H/\∃ N:St->Hp->Prop,(∀ Z' H',N Z' H'->∃ m',m'<m/\W (i+1) m' Z' H')/\∀ x H',J.yld i H x H'->g x Z H' fun Z2 H2=>tb { D with nx:=N,ct:=N,bk:=D.nx } Z2 H2)
def oA (fp:List Addr)(h:Heap):List (Addr×Obj):=fp.filterMap fun b=>(h.get? b).map fun o=>(b,o)
theorem fu {fp:List Addr}{h:Heap}{b:Addr}{o:Obj}(hb:b∈fp)(e:h.get? b=Dn o):(b,o)∈oA fp h:=List.mem_filterMap.mpr ⟨b,hb,by rw [e];rfl⟩
theorem uL {fp:List Addr}{h:Heap}{p:Addr×Obj}(hp:p∈oA fp h):p.1∈fp/\h.get? p.1=Dn p.2:=by
 obtain ⟨b,hb,e⟩:=List.mem_filterMap.mp hp;cases q:h.get? b with
 | none=>rw [q] at e;cases e
 | some o=>
  rw [q] at e;have e':(b,o)=p:=T7 e;subst e';exact ⟨hb,q⟩
theorem Mk.pinned {pins:List (Addr×Obj)}{Z : St}{H:Hp}{s:Tz}{fp:List Addr}(I:Mk X pins Z H s)(hf:∀ b∈fp,uz X pins H b)(ho:∀ b∈fp,∃ o,s.heap.get? b=Dn o/\∀ v,o.data≠.cell v):Mk X (pins++oA fp s.heap) Z H s:=
 I.pins_of fun p hp=>(Wd.mp hp).elim (fun z=>I.pin p (U0 _ z)) fun z=>by
  obtain ⟨hb,e⟩:=uL z;obtain ⟨f0,f1,f2,_⟩:=hf p.1 hb;obtain ⟨o,e',d⟩:=ho p.1 hb;rw [e] at e';cases e';exact ⟨e,f0,f1,f2,d⟩
theorem Mk.unpinned {pins pl:List (Addr×Obj)}{Z : St}{H:Hp}{s:Tz}(I:Mk X (pins++pl) Z H s):Mk X pins Z H s:=I.pins_of fun p hp=>I.pin p (U0 _ (Xi _ hp))
theorem Lx {iter:Expr}{body:List Stmt}{wi:TI}{g:TG}{tb:TS}{pos:Pos}(hp:W5 (Uz X.prog X.w) X.A X.env X.xe)(hc:X.calm=true)(hi:PI X tg iter wi)(hg:PG X tg g)(hb:DY X body tb)
  (hs:∀ x,V3 iter X.env x=pure x:=by intro _;rfl):PS X (.For tg iter body [] pos) (RG wi g tb):=by
 intro pins s Z H D I h;refine wpAny_For (AP (hi pins s Z H _ I h) fun v s1 h1=>AP h1 fun itv s2 h2=>?_) hs;obtain ⟨it,fp,tn,J,H2,e,I2,T,st2,f2,W,⟨m0,w0⟩,turn⟩:=h2;subst e
 -- what stays true of the iterator's objects through the loop
 have stat:∀ {H':Hp},(∀ b∈fp,H' b=Go)->∀ b∈fp,uz X pins H' b:=fun hn b hb=>⟨hn b hb,(f2 b hb).2⟩
 refine codeAny_forLoop_any (fun n s'=>∃ i Z' H',Mk X pins Z' H' s'/\tn i s'.heap/\(∀ b∈fp,H' b=Go)/\W i n Z' H') ?_ m0 ⟨0,Z,H2,I2,st2,fun b hb=>(f2 b hb).1,w0⟩;rintro n s3 ⟨i,Z3,H3,I3,st3,fr3,w3⟩;rcases turn i n Z3 H3 w3 with ⟨stop,qn⟩ | ⟨go,N,hN,step⟩
 ·refine Wi hp<|AP (T.done X rfl rfl rfl (fun _=>hc) i pins s3 Z3 H3 X.xe I3 (stat fr3) st3 stop) fun r s4 ⟨hr,I4⟩=>?_
  subst hr;exact XC ⟨Z3,H3,I4,qn⟩
 ·refine Wi hp<|AP (T.item X rfl rfl rfl (fun _=>hc) i pins s3 Z3 H3 X.xe I3 (stat fr3) st3 go) fun r s4 ⟨u,hr,h4⟩=>?_
  subst hr;refine Wi hp<|AP h4 fun _ s5 ⟨x,H5,I5,r5,y5,st5,fr5⟩=>?_
  have I5':=I5.pinned (stat fr5) (T.obj _ _ st5);refine Wi hp<|AP (hg _ s5 Z3 H5 x u _ I5' r5<|step x H5 y5) fun _ s6 ⟨Z6,H6,I6,q6⟩=>?_
  refine Wi hp<|AP (hb _ s6 Z6 H6 _ I6 q6) fun f s7 q7=>?_
  have again:∀ {Z7:St} {H7:Hp},Mk X (pins++oA fp s5.heap) Z7 H7 s7->N Z7 H7->∃ m,m<n/\∃ i Z' H',Mk X pins Z' H' s7/\tn i s7.heap/\(∀ b∈fp,H' b=Go)/\W i m Z' H':=fun {Z7 H7} I7 n7=>by
   obtain ⟨m',hm,w7⟩:=hN Z7 H7 n7;refine ⟨m',hm,i+1,Z7,H7,I7.unpinned,T.keep _ _ _ st5 fun b hb o e=>(I7.pin (b,o)<|U0 _<|U0 _<|fu hb e).1,fun b hb=>?_,w7⟩;obtain ⟨o,e,d⟩:=T.obj _ _ st5 b hb;exact (I7.pin (b,o)<|U0 _<|U0 _<|fu hb e).2.1
  cases f with
  | next=>obtain ⟨Z7,H7,I7,n7⟩:=q7;exact again I7 n7
  | cont=>obtain ⟨Z7,H7,I7,n7⟩:=q7;exact again I7 n7
  | brk=>obtain ⟨Z7,H7,I7,q7⟩:=q7;exact ⟨Z7,H7,I7.unpinned,q7⟩
  | ret v=>obtain ⟨x7,Z7,H7,I7,r7,q7⟩:=q7;exact ⟨x7,Z7,H7,I7.unpinned,r7,q7⟩
end
abbrev R2:=V->V->Hp->VK->Prop
def CQ (X:Cx)(f:Tw->Tw->Sem Tw)(r:R2):Prop:=
 ∀ (pins:List (Addr×Obj)) (s:Tz) (Z : St) (H:Hp) (x y:V) (v u:Tw) (Q:VK),Mk X pins Z H s->RelV x v->RelV y u->r x y H Q ->
  Us (Uz X.prog X.w) X.A (f v u) (EP X pins Z Q) X.xe s
def UnR (X:Cx)(f:Tw->Sem Tw)(r:V->Hp->VK->Prop):Prop:=
 ∀ (pins:List (Addr×Obj)) (s:Tz) (Z : St) (H:Hp) (x:V) (v:Tw) (Q:VK),Mk X pins Z H s->RelV x v->r x H Q ->
  Us (Uz X.prog X.w) X.A (f v) (EP X pins Z Q) X.xe s
def cW (X:Cx)(f:Tw)(r:List V->Hp->VK->Prop):Prop:=
 ∀ (pins:List (Addr×Obj)) (s:Tz) (Z : St) (H:Hp) (xs:List V) (us:List Tw) (Q:VK),Mk X pins Z H s->Rj xs us->r xs H Q ->
  Us (Uz X.prog X.w) X.A (call f us) (EP X pins Z Q) X.xe s
def R8 (X:Cx)(r:V->Hp->(Bool->Hp->Prop)->Prop):Prop:=
 ∀ (pins:List (Addr×Obj)) (s:Tz) (Z : St) (H:Hp) (x:V) (v:Tw) (Q:Bool->Hp->Prop),Mk X pins Z H s->RelV x v->r x H Q ->
  Us (Uz X.prog X.w) X.A (truthy v) (TP X pins Z Q) X.xe s
def tOp (r:R2)(ta tb:TE):TE:=fun Z H Q=>ta Z H fun x H1=>tb Z H1 fun y H2=>r x y H2 Q
def tUn (r:V->Hp->VK->Prop)(ta:TE):TE:=fun Z H Q=>ta Z H fun x H1=>r x H1 Q
def rI (C:Int->Int->Prop)(g:Int->Int->V):R2:=fun x y H Q=>∃ i j,x=.int i/\y=.int j/\C i j/\Q (g i j) H
def rI0 (g:Int->Int->V):R2:=fun x y H Q=>∃ i j,x=.int i/\y=.int j/\Q (g i j) H
def rU (g:Int->V):V->Hp->VK->Prop:=fun x H Q=>∃ i,x=.int i/\Q (g i) H
section
variable {X:Cx}{a b c:Expr}{ta tb tc:TE}{pos:Pos}
theorem Ni (ha:PE X a ta)(hb:PE X b tb){pins:List (Addr×Obj)}{s:Tz}{Z : St}{H:Hp}{R:V->V->Hp->Prop}(I:Mk X pins Z H s)
  (h:ta Z H fun x H1=>tb Z H1 fun y H2=>R x y H2) {Q:Tw->Tz->Prop} {f:Tw->Tw->Sem Tw}
  (hf:∀ v u s2 x y H2,Mk X pins Z H2 s2->RelV x v->RelV y u->R x y H2->Us (Uz X.prog X.w) X.A (f v u) Q X.xe s2) :
  Us (Uz X.prog X.w) X.A (eval a X.env) (fun v s₁=>Us (Uz X.prog X.w) X.A (eval b X.env) (fun u s₂=>Us (Uz X.prog X.w) X.A (f v u) Q X.xe s₂) X.xe s₁) X.xe s:=by
 refine AP (ha pins s Z H _ I h) fun v s1 ⟨x,H1,I1,r1,q1⟩=>?_;refine AP (hb pins s1 Z H1 _ I1 q1) fun u s2 ⟨y,H2,I2,r2,q2⟩=>?_;exact hf v u s2 x y H2 I2 r1 r2 q2
theorem Np {op:Operator}{r:R2}(ho:CQ X (Vv op) r)(ha:PE X a ta)(hb:PE X b tb):PE X (.BinOp a op b pos) (tOp r ta tb):=by
 intro pins s Z H Q I h;exact wpAny_BinOp<|Ni ha hb I h fun v u s2 x y H2 I2 rx ry q=>ho pins s2 Z H2 x y v u Q I2 rx ry q
theorem Qs {op:UnaryOp}{r:V->Hp->VK->Prop}(ho:UnR X (unaryOp op) r)(ha:PE X a ta):PE X (.UnaryOp op a pos) (tUn r ta):=by
 intro pins s Z H Q I h;exact UnaryOp_<|AP (ha pins s Z H _ I h) fun v s1 ⟨x,H1,I1,r1,q1⟩=>ho pins s1 Z H1 x v Q I1 r1 q1
theorem opI {f:Tw->Tw->Sem Tw}{C:Int->Int->Prop}{g:Int->Int->Int}
  (rule:∀ (i j:Int) (t u:Tok) (s:Tz) (Q:Tw->Tz->Prop) (E:Tw->Tz->Prop),C i j->Q (.int (g i j) s.toks) { s with toks:=s.toks+1 }->Us (Uz X.prog X.w) X.A (f (.int i t) (.int j u)) Q E s) :
  CQ X f (rI C fun i j=>.int (g i j)):=by
 intro pins s Z H x y v u Q I rx ry h;obtain ⟨i,j,rfl,rfl,hc,q⟩:=h;obtain ⟨t,rfl⟩:=rx;obtain ⟨t',rfl⟩:=ry;exact rule i j t t' s _ _ hc ⟨.int<|g i j,H,I.tok _,⟨_,rfl⟩,q⟩
theorem Rn {f:Tw->Tw->Sem Tw}{g:Int->Int->Int}
  (rule:∀ (i j:Int) (t u:Tok) (s:Tz) (Q:Tw->Tz->Prop) (E:Tw->Tz->Prop),Q (.int (g i j) s.toks) { s with toks:=s.toks+1 }->Us (Uz X.prog X.w) X.A (f (.int i t) (.int j u)) Q E s) :
  CQ X f (rI0 fun i j=>.int (g i j)):=by
 intro pins s Z H x y v u Q I rx ry h;obtain ⟨i,j,rfl,rfl,q⟩:=h;obtain ⟨t,rfl⟩:=rx;obtain ⟨t',rfl⟩:=ry;exact rule i j t t' s _ _ ⟨.int<|g i j,H,I.tok _,⟨_,rfl⟩,q⟩
theorem Ot {f:Tw->Tw->Sem Tw}{g:Int->Int->Bool}
  (rule:∀ (i j:Int) (t u:Tok) (s:Tz) (Q:Tw->Tz->Prop) (E:Tw->Tz->Prop),Q (.bool (g i j)) s->Us (Uz X.prog X.w) X.A (f (.int i t) (.int j u)) Q E s) :
  CQ X f (rI0 fun i j=>.bl (g i j)):=by
 intro pins s Z H x y v u Q I rx ry h;obtain ⟨i,j,rfl,rfl,q⟩:=h;obtain ⟨t,rfl⟩:=rx;obtain ⟨t',rfl⟩:=ry;exact rule i j t t' s _ _ ⟨.bl<|g i j,H,I,rfl,q⟩
def Ny (i j:Int):Prop:=0<=j/\j<=1000000/\i.natAbs<2^64
theorem JM:CQ X (Vv .Add) (rI0 fun i j=>.int (i+j)):=Rn fun _ _ _ _ _ _ _ q=>add_int q
theorem Lh:CQ X (Vv .Sub) (rI0 fun i j=>.int (i - j)):=Rn fun _ _ _ _ _ _ _ q=>sub_int q
theorem zay:CQ X (Vv .Mod) (rI (fun _ j=>j≠0) fun i j=>.int (i.fmod j)):=opI fun _ _ _ _ _ _ _ hc q=>mod_int' hc q
theorem HJ:CQ X (Vv .Pow) (rI Ny fun i j=>.int (i^j.toNat)):=opI fun _ _ _ _ _ _ _ hc q=>pow_int_small hc.1 hc.2.1 hc.2.2 q
theorem unI {f:Tw->Sem Tw}{g:Int->Int}
  (rule:∀ (i:Int) (t:Tok) (s:Tz) (Q:Tw->Tz->Prop) (E:Tw->Tz->Prop),Q (.int (g i) s.toks) { s with toks:=s.toks+1 }->Us (Uz X.prog X.w) X.A (f (.int i t)) Q E s) :
  UnR X f (rU fun i=>.int (g i)):=by
 intro pins s Z H x v Q I rx h;obtain ⟨i,rfl,q⟩:=h;obtain ⟨t,rfl⟩:=rx;exact rule i t s _ _ ⟨.int<|g i,H,I.tok _,⟨_,rfl⟩,q⟩
theorem Lg:UnR X (unaryOp .USub) (rU fun i=>.int (-i)):=unI fun _ _ _ _ _ q=>neg_int q
theorem BK {pins:List (Addr×Obj)}{Z : St}{H:Hp}{s:Tz}{Q:VK}{k k':Bool}(I:Mk X pins Z H s)(q:Q (.bl k) H)(e:k=k'):EP X pins Z Q (.bool k') s:=by
 subst e;exact ⟨.bl k,H,I,rfl,q⟩
theorem Ql:CQ X (VL .Lt) (rI0 fun i j=>.bl (decide (i<j))):=Ot fun _ _ _ _ _ _ _ q=>lt_int q
theorem Ng:CQ X (VL .Gt) (rI0 fun i j=>.bl (decide (j<i))):=Ot fun _ _ _ _ _ _ _ q=>gt_int q
theorem Ov:CQ X (VL .GtE) (rI0 fun i j=>.bl (decide (j<=i))):=Ot fun _ _ _ _ _ _ _ q=>ge_int q
theorem CQ.or {f:Tw->Tw->Sem Tw}{r r':R2}(h:CQ X f r)(h':CQ X f r'):CQ X f (fun x y H Q=>r x y H Q\/r' x y H Q):=by
 intro pins s Z H x y v u Q I rx ry q;rcases q with q | q
 ·exact h pins s Z H x y v u Q I rx ry q
 ·exact h' pins s Z H x y v u Q I rx ry q
theorem bG (b:Expr){op:CmpOp}(h:op≠.In:=by decide)(h2:op≠.NotIn:=by decide):Xq op b=false:=by
 have e1:(op==CmpOp.In)=false:=by cases op <;> first | rfl | exact absurd rfl h
 have e2:(op==CmpOp.NotIn)=false:=by cases op <;> first | rfl | exact absurd rfl h2
 cases b <;> simp [Xq,e1,e2]
theorem Fw {op:CmpOp}{r:R2}(ho:CQ X (VL op) r)(ha:PE X a ta)(hb:PE X b tb)(hm:Xq op b=false):PE X (.Compare a [op] [b] pos) (tOp r ta tb):=by
 intro pins s Z H Q I h;exact wpAny_Compare1 (Ni ha hb I h fun v u s2 x y H2 I2 rx ry q=>ho pins s2 Z H2 x y v u Q I2 rx ry q) hm
def Nh (t:TE):TT:=fun Z H Q=>t Z H fun x H'=>∃ k,x=.bl k/\Q k H'
theorem FQ {op:CmpOp}{r:R2}(ho:CQ X (VL op) r)(ha:PE X a ta)(hb:PE X b tb)(hm:Xq op b=false):PT X (.Compare a [op] [b] pos) (Nh (tOp r ta tb)):=by
 intro pins s Z H Q I h;refine wpAny_isTrue_Compare1 (AP (ha pins s Z H _ I h) fun v s1 ⟨x,H1,I1,r1,q1⟩=>AP (hb pins s1 Z H1 _ I1 q1) fun u s2 ⟨y,H2,I2,r2,q2⟩=>
  AP (ho pins s2 Z H2 x y v u _ I2 r1 r2 q2) fun c s3 ⟨z,H3,I3,r3,k,e,q3⟩=>?_) hm
 subst e;cases r3;exact Xf ⟨H3,I3,q3⟩
def QM (K:Tt)(x:V)(H:Hp)(k:Bool):Prop:=
 match x with
 | .non=>k=false
 | .bl b=>k=b
 | .int i=>k=(i != 0)
 | .str y=>y.length<=Ua/\k=((y.length:Int) != 0)
 | .byt y=>y.size<=Ua/\k=((y.size:Int) != 0)
 | .ref p=>(∃ xs,Am K H p xs/\k = !xs.isEmpty)\/(∃ xs,CG K H p xs/\k = !xs.isEmpty)\/∃ kvs,H p=Dn (.dK kvs)/\k = !kvs.isEmpty
 | _=>False
theorem tL {κ : Type}{kvs:List (κ×V)}{vs:List (κ×Tw)}(r:KV kvs vs):(!vs.isEmpty) = !kvs.isEmpty:=by
 cases r <;> rfl
theorem lu {xs:List V}{its:List Tw}(r:Rj xs its):(!its.toArray.isEmpty) = !xs.isEmpty:=by
 cases r <;> simp
theorem gP:(Ua:Nat)<2^63:=by rw [X5];decide
theorem K4:R8 X (fun x H Q=>∃ k,QM X.K x H k/\Q k H):=by
 intro pins s Z H x v Q I rx h;obtain ⟨k,e,q⟩:=h;have hl:=gP;have hs:Ua=16777216:=X5;cases x with
 | non=>
  cases rx;have e':k=false:=e;subst e';exact truthy_none ⟨H,I,q⟩
 | bl b=>
  cases rx;have e':k=b:=e;subst e';exact Xf ⟨H,I,q⟩
 | int i=>
  obtain ⟨t,rfl⟩:=rx;have e':k=(i != 0):=e;subst e';exact PySem.P.truthy_int ⟨H,I,q⟩
 | str y=>
  obtain ⟨t,rfl⟩:=rx;obtain ⟨hy,e'⟩:y.length<=Ua/\k=((y.length:Int) != 0):=e;subst e';exact PySem.P.truthy_str (by lia) ⟨H,I.tok _,q⟩
 | byt y=>
  obtain ⟨t,rfl⟩:=rx;obtain ⟨hy,e'⟩:y.size<=Ua/\k=((y.size:Int) != 0):=e;subst e';exact PySem.W.truthy_bytes (by lia) ⟨H,I.tok _,q⟩
 | ref p=>
  cases rx;have e':(∃ xs,Am X.K H p xs/\k = !xs.isEmpty)\/(∃ xs,CG X.K H p xs/\k = !xs.isEmpty)\/∃ kvs,H p=Dn (.dK kvs)/\k = !kvs.isEmpty:=e
  rcases e' with ⟨xs,hx,e'⟩ | ⟨xs,hx,e'⟩ | ⟨kvs,hx,e'⟩
  ·subst e';obtain ⟨its,r,pl,hz⟩:=I.list hx;have hlen:=r.length;exact wpAny_truthy_list pl.isList (by simp only [TX];lia) ⟨H,I.tok _,by rw [lu r];exact q⟩
  ·subst e';obtain ⟨its,r,pl,hz⟩:=I.tuple hx;have hlen:=r.length;exact truthy_tuple pl (by simp only [TX];lia) ⟨H,I.tok _,by rw [lu r];exact q⟩
  ·subst e';obtain ⟨hz,hS,vs,r,m⟩:kvs.length<=Ua/\(p==sysModules)=false/\∃ vs,KV kvs vs/\s.heap.DictOf (pJ X.prog X.w) p vs:=I.hok p _ hx
   have hlen:kvs.length=vs.length:=Paired.length r;exact wpAny_truthy_dict hS m (by lia) ⟨H,I.tok _,by rw [tL r];exact q⟩
 | _=>exact (show False from e).elim
theorem zc (ha:PE X a ta)(he:∀ whole,isTrue a X.env whole=(do let v <-whole;standAt a.pos;holding [v] (truthy v))) :
  PT X a (fun Z H Q=>ta Z H fun x H'=>∃ k,QM X.K x H' k/\Q k H'):=by
 intro pins s Z H Q I h;exact isTrue_plain (AP (ha pins s Z H _ I h) fun v s1 ⟨x,H1,I1,r1,q1⟩=>K4 pins s1 Z H1 x v Q I1 r1 q1)<|he _
theorem vals1 {x:V}{us:List Tw}(r:Rj [x] us):∃ u,us=[u]/\RelV x u:=by
 cases r with
 | cons r1 r2=>cases r2;exact ⟨_,rfl,r1⟩
theorem vals2 {x y:V}{us:List Tw}(r:Rj [x,y] us):∃ u w',us=[u,w']/\RelV x u/\RelV y w':=by
 cases r with
 | cons r1 r2=>
  cases r2 with
  | cons r3 r4=>cases r4;exact ⟨_,_,rfl,r1,r3⟩
theorem zW:cW X (.builtin "abs") (fun xs H Q=>∃ i,xs=[.int i]/\Q (.int (if i<0 then -i else i)) H):=by
 intro pins s Z H xs us Q I r h;obtain ⟨i,rfl,q⟩:=h;obtain ⟨u,rfl,t,rfl⟩:=vals1 r;exact call_abs_int fun u tk=>⟨.int<|if i<0 then -i else i,H,I.tok _,⟨_,rfl⟩,q⟩
theorem yp:cW X (.type "int") (fun xs H Q=>(∃ i,xs=[.int i]/\Q (.int i) H)\/∃ k,xs=[.bl k]/\Q (.int (if k then 1 else 0)) H):=by
 intro pins s Z H xs us Q I r h;rcases h with ⟨i,rfl,q⟩ | ⟨k,rfl,q⟩
 ·obtain ⟨u,rfl,t,rfl⟩:=vals1 r;exact call_int_int ⟨.int i,H,I,⟨_,rfl⟩,q⟩
 ·obtain ⟨u,rfl,r1⟩:=vals1 r;cases r1;exact call_int_bool ⟨.int<|if k then 1 else 0,H,I.tok _,⟨_,rfl⟩,q⟩
theorem m7:cW X (.type "str") (fun xs H Q=>∃ i,xs=[.int i]/\i.natAbs.log2<1920/\Q (.str (X4 i)) H):=by
 intro pins s Z H xs us Q I r h;obtain ⟨i,rfl,hz,q⟩:=h;obtain ⟨u,rfl,t,rfl⟩:=vals1 r;exact PySem.P.str_of_int hz ⟨.str _,H,I.tok _,⟨_,rfl⟩,q⟩
end
structure zah (h:Heap) (x dx C:Addr) (mA:Str->Option Tw):Prop where
 obj:h.get? x=Dn (PySem.W.instObj C dx)
 ns:h.Ns1 dx mA
 ne:dx≠x
section
variable {prog:T8}{w:Uv}{A:Ug}{E:Tw->Tz->Prop}{s:Tz}{K:Tt}{x dx C f:Addr}{mA:Str->Option Tw}{name:Str}{v:Tw}
end
section
variable {P:T8}{w:Uv}{H H':Hp}{h h':Heap}{a C dx:Addr}{fs fs':List (Str×V)}
end
structure Cls (K:Tt) (C:Addr):Prop where
 pg:PySem.W.plainGet K C Str.empty=true
 hd:PySem.W.hasDictIn K C=true
 po:PySem.W.plainOver K C=true
 sa:Vd K (.ref C) "__setattr__" = Dn (Dn (.builtin "object.__setattr__"))
structure Con (K:Tt) (C:Addr) (f:Str) (v:V) (u:Tw):Prop where
 at_:Vd K (.ref C) f=Dn (Dn u)
 rel:RelV v u
 get:PySem.W.specialIn K u "__get__" = Dn Go
 cp:PySem.W.copiedNames.contains f=false
structure Meth (K:Tt) (C:Addr) (m:Str) (f:Addr):Prop where
 at_:Vd K (.ref C) m=Dn (Dn (.ref f))
 fn:PySem.W.isFn K (.ref f)=true
 kp:Vq K (.ref f)=true
section
variable {X:Cx}{pins:List (Addr×Obj)}{Z : St}{H:Hp}{s:Tz}{a C dx:Addr}{fs:List (Str×V)}{f:Str}{v:V}{A:Ug}{E:Tw->Tz->Prop}
end
section
variable {X:Cx}{o e value:Expr}{f:Str}{pos pos' tpos:Pos}{ta tv:TE}
end
section
variable {X:Cx}{pins:List (Addr×Obj)}{Z : St}{H:Hp}{s:Tz}{A:Ug}{E:Tw->Tz->Prop}{Q:Tw->Tz->Prop}{c:Tw}{b:Bool}
inductive xq (K:Tt) (H:Hp):V->Tw->Prop where
 | non:xq K H .non (.type "NoneType")
 | bl (x:Bool):xq K H (.bl x) (.type "bool")
 | int (i:Int):xq K H (.int i) (.type "int")
 | str (x:Str):xq K H (.str x) (.type "str")
 | flt (x:UInt64):xq K H (.flt x) (.type "float")
 | lst {a:Addr} {xs:List V} (e:H a=Dn (.lst xs)):xq K H (.ref a) (.type "list")
 | frz {a:Addr} {o:Obj} {xs:List V} (e:H a=Dn (.frz o (.lst xs))):xq K H (.ref a) (.type "list")
 | tup {a:Addr} {xs:List V} (e:H a=Dn (.tup xs)):xq K H (.ref a) (.type "tuple")
 | dK {a:Addr} {kvs:List (Key×V)} (e:H a=Dn (.dK kvs)):xq K H (.ref a) (.type "dict")
 | dT {a:Addr} {kvs:List (List Key×V)} (e:H a=Dn (.dT kvs)):xq K H (.ref a) (.type "dict")
 | ins {a C dx:Addr} {fs:List (Str×V)} (e:H a=Dn (.ins C dx fs)) (cl:Cls K C) (ha:Vd K (.ref C) "__class__" = Dn (Dn (.builtin "object.__class__")))
   (hn:PySem.W.specialIn K (.builtin "object.__class__") "__get__" = Dn (Dn (.builtin "getset_descriptor.__get__"))) (htk:PySem.W.takesIn K (.builtin "object.__class__")=Dn true)
   (hm:Vt K C (.type "object")=Dn true):xq K H (.ref a) (.ref C)
end
structure gO (k:Nat) (A:Ug):Prop where
 hd:9<=k->A.handled=Go
 dp:A.depth+3*k+5<recursionLimit
 un:A.units+16*k+200<cLine
theorem gO.mono {j k:Nat}{A:Ug}(r:gO k A)(h:j<=k):gO j A:=⟨fun z=>r.hd (Uc z h),by have:=r.dp;lia,by have:=r.un;lia⟩
theorem gO.deeper {k:Nat}{A:Ug}(r:gO (k+1) A)(env:Env):gO k (A.deeper env):=
 ⟨fun z=>r.hd (Nat.le_succ_of_le z),by have:=r.dp;show A.depth+1+3*k+5<_;lia,by have:=r.un;show A.units+3+16*k+200<_;lia⟩
theorem gO.calm {k:Nat}{A:Ug}(r:gO k A)(h:9<=k):A.handled.isNone=true:=by rw [r.hd h];rfl
theorem gO.depth {k:Nat}{A:Ug}(r:gO k A):A.depth<recursionLimit:=by have:=r.dp;lia
theorem gO.units {k:Nat}{A:Ug}(r:gO k A):A.units+64<cLine:=by have:=r.un;lia
def Ro:TA:=fun _ H Q=>Q [] H
def Oa (ta:TE)(tr:TA):TA:=fun Z H Q=>ta Z H fun x H1=>tr Z H1 fun xs H2=>Q (x::xs) H2
section
variable {X:Cx}{e:Expr}{es:List Expr}{te:TE}{t:TA}{pos:Pos}
theorem rZ:PA X [] Ro:=fun _ _ _ _ H Q I h=>Calls.spliced_nil ⟨[],H,I,.nil,h⟩
theorem iM (ha:PE X e te)(hr:PA X es t)(hs:T3 (e::es) X.env=(false,eval e X.env)::T3 es X.env:=by rfl):PA X (e::es) (Oa te t):=by
 intro pos pins s Z H Q I h;rw [hs];show Us _ _ (spliced ((false,eval e X.env)::Vy pos (T3 es X.env))) _ _ s;refine Calls.spliced_cons<|AP (ha pins s Z H _ I h) fun u s1 ⟨x,H1,I1,r1,q1⟩=>?_
 exact AP (hr pos pins s1 Z H1 _ I1 q1) fun us s2 ⟨xs,H2,I2,r2,q2⟩=>⟨x::xs,H2,I2,.cons r1 r2,q2⟩
def Td (t:TA):TE:=fun Z H Q=>t Z H fun xs H1=>xs.length<=Ua/\∀ p,H1 p=Go->Q (.ref p) (kI H1 p (.tup xs))
def Rq (t:TA):TE:=fun Z H Q=>t Z H fun xs H1=>xs.length<=Ua/\∀ p,H1 p=Go->Q (.ref p) (kI H1 p (.lst xs))
theorem Bo {x1}(h:PA X es t):PE X (.Tuple es x1 pos) (Td t):=by
 intro pins s Z H Q I hq;refine wpAny_Tuple_spliced<|AP (h pos pins s Z H _ I hq) fun us s1 ⟨xs,H1,I1,r,z,q⟩=>⟨by rw [<-r.length];exact z,?_⟩
 have hf:H1 s1.heap.objs.size=Go:=I1.hok.fresh (T6 _);refine ⟨.ref s1.heap.objs.size,kI H1 s1.heap.objs.size<|.tup xs,I1.laid (t':=s1.toks) (fun b u e=>TJ _ e) (T6 _) ?_,rfl,q _ hf⟩;exact ⟨z,us,r,⟨_,T9 _ rfl,rfl,⟨_,rfl⟩,rfl⟩⟩
theorem BX (h:PA X es t):PE X (.List es pos) (Rq t):=by
 intro pins s Z H Q I hq;refine wpAny_List_spliced<|AP (h pos pins s Z H _ I hq) fun us s1 ⟨xs,H1,I1,r,z,q⟩=>⟨by rw [<-r.length];exact z,?_⟩
 have hf:H1 s1.heap.objs.size=Go:=I1.hok.fresh (T6 _);refine ⟨.ref s1.heap.objs.size,kI H1 s1.heap.objs.size<|.lst xs,I1.laid (t':=s1.toks) (fun b u e=>TJ _ e) (T6 _) ?_,rfl,q _ hf⟩;exact ⟨z,us,0,r,T9 _ rfl⟩
end
abbrev Sp:=List V->Hp->VK->XK->Prop
abbrev Dl:=List Env->Hp->Tz->XK->Tw->Tz->Prop
structure M5 (P:T8) (w:Uv) (K:Tt) (mg:Str->Option Tw) (base:Heap) (A:Ug) (outer:List Env) (s:Tz) (H:Hp):Prop where
 frames:A.frames=Dn outer
 mod:Mod K mg base
 bs:∀ b o,base.get? b=Dn o->s.heap.get? b=Dn o/\H b=Go
 bsz:base.objs.size<=s.heap.objs.size
 funs:s.heap.FunFrames base outer
 frf:∀ b∈frs outer,H b=Go
 hok:CR P w H s.heap
 bare:X7 s.gens
 qt:Quiet A H
def CE (outer:List Env)(P:T8)(w:Uv)(H:Hp)(s:Tz)(Q:VK)(u:Tw)(s':Tz):Prop:=
 ∃ v H',s'.os=s.os/\X7 s'.gens/\Un (frs outer) [] H H' s.heap s'.heap/\CR P w H' s'.heap/\RelV v u/\Q v H'
def zaA (CX:Dl)(outer:List Env)(P:T8)(w:Uv)(H:Hp)(s:Tz)(Q:VK)(E:XK)(r:Result)(s':Tz):Prop:=
 match r with
 | .ok (.ret u)=>CE outer P w H s Q u s'
 | .ok _=>False
 | .error e=>CX outer H s E e s'
structure cH (P:T8) (w:Uv) (K:Tt) (mg:Str->Option Tw) (base:Heap) (CX:Dl) (k:Nat) (f:Addr) (fd:Uw) (ps:List Str) (sp:Sp):Prop where
 len:∀ vs H Q E,sp vs H Q E->vs.length=ps.length
 run:∀ (A:Ug) (outer:List Env) (s:Tz) (H:Hp) (args:Args) (us:List Tw) (vs:List V) (Q:VK) (E:XK),gO k A->M5 P w K mg base A outer s H->BindsTo s fd args (ps.zip us)->Rj vs us->sp vs H Q E ->
  codeAny (Uz P w) A (.call (.ref f) args) (zaA CX outer P w H s Q E) s
theorem cH.mono {P:T8}{w:Uv}{K:Tt}{mg:Str->Option Tw}{base:Heap}{CX:Dl}{j k:Nat}{f:Addr}{fd:Uw}{ps:List Str}{sp:Sp}(F:cH P w K mg base CX j f fd ps sp)(h:j<=k) :
  cH P w K mg base CX k f fd ps sp:=⟨F.len,fun A outer s H args us vs Q E hr=>F.run A outer s H args us vs Q E (hr.mono h)⟩
theorem cH.imp {P:T8}{w:Uv}{K:Tt}{mg:Str->Option Tw}{base:Heap}{CX:Dl}{k:Nat}{f:Addr}{fd:Uw}{ps:List Str}{sp sp':Sp}(F:cH P w K mg base CX k f fd ps sp)
  (h:∀ vs H Q E,sp' vs H Q E->sp vs H Q E):cH P w K mg base CX k f fd ps sp':=
 ⟨fun vs H Q E q=>F.len vs H Q E (h _ _ _ _ q),fun A outer s H args us vs Q E hr he hb hv hs=>F.run A outer s H args us vs Q E hr he hb hv (h _ _ _ _ hs)⟩
section
variable {X:Cx}{pins:List (Addr×Obj)}{Z : St}{H:Hp}{s s':Tz}
theorem Mk.env0 (I:Mk X pins Z H s):M5 X.prog X.w X.K X.mg X.base X.A X.stack s H:=
 ⟨I.ok.frames,I.ok.mod,I.bs,Uc I.ok.bsz I.sz,I.stack,I.stkFree,I.hok,I.bare,I.qt0⟩
theorem Mk.after {Q:VK}{u:Tw}(I:Mk X pins Z H s)(h:CE X.stack X.prog X.w H s Q u s'):EP X pins Z Q u s':=by
 obtain ⟨v,H',os,bare,un,hok,r,q⟩:=h;obtain ⟨hh,g,d,t,os'⟩:=s';obtain rfl:os'=s.os:=os;exact ⟨v,H',I.call (h':=hh) (g':=g) (d':=d) (t':=t) (ch:=[]) un hok bare<|fun b z=>absurd z<|by simp,r,q⟩
end
def Ef (sp:Sp)(dvs:List V)(E:XK)(t:TA):TE:=fun Z H Q=>t Z H fun vs H1=>sp (vs++dvs) H1 Q E
def Binds (K:Tt)(fd:Uw)(ps:List Str)(ds:List Tw):Prop:=
 ∀ (s:Tz) (us:List Tw),K.In s.heap->(us++ds).length=ps.length->BindsTo s fd ⟨us,[]⟩ (ps.zip (us++ds))
theorem Binds.all {K:Tt}{fd:Uw}{ps:List Str}(h:∀ us:List Tw,us.length=ps.length->bindArgs fd ⟨us,[]⟩=pure (ps.zip us)):Binds K fd ps []:=fun s us _ hl=>by
 rw [Wy] at hl |-
 exact .of_eq<|h us hl
def Passes (CX:Dl)(X:Cx)(E:XK):Prop:=∀ (pins:List (Addr×Obj)) (Z : St) (H:Hp) (s:Tz) (e:Tw) (s':Tz),Mk X pins Z H s->CX X.stack H s E e s'->X.xe e s'
section
variable {X:Cx}{CX:Dl}{k:Nat}{f C:Addr}{fd:Uw}{ps:List Str}{sp:Sp}{dvs:List V}{ds:List Tw}{E:XK}{x m:Str}{p pos apos:Pos}{e o:Expr}{es:List Expr}{ta:TE}{t:TA}
theorem Bu {pins:List (Addr×Obj)}{Z : St}{H:Hp}{s:Tz}{Q:VK}{us:List Tw}{vs:List V}(F:cH X.prog X.w X.K X.mg X.base CX k f fd ps sp)(hr:gO k X.A)(hb:Binds X.K fd ps ds)(hd:Rj dvs ds)(hx:Passes CX X E)
  (I:Mk X pins Z H s) (r:Rj vs us) (h:sp (vs++dvs) H Q E):Us (Uz X.prog X.w) X.A (call (.ref f) us) (EP X pins Z Q) X.xe s:=by
 have r2:Rj (vs++dvs) (us++ds):=r.append hd;have hl:(us++ds).length=ps.length:=by rw [<-r2.length];exact F.len _ _ _ _ h
 refine wpAny_call<|codeAny_mono (F.run X.A X.stack s H ⟨us,[]⟩ (us++ds) (vs++dvs) Q E hr I.env0 (hb s us I.kIn hl) r2 h) fun r s' hq=>?_
 cases r with
 | error e=>exact hx pins Z H s e s' I hq
 | ok fl=>
  cases fl with
  | ret u=>exact I.after hq
  | next=>exact VB hq
  | brk=>exact VB hq
  | cont=>exact VB hq
theorem zaZ (F:cH X.prog X.w X.K X.mg X.base CX k f fd ps sp)(hr:gO k X.A)(hg:Gl X x)(hm:X.mg x=Dn (.ref f))(hk:Vq X.K (.ref f)=true)(hb:Binds X.K fd ps ds)(hd:Rj dvs ds)(hx:Passes CX X E)
  (ha:PA X (e::es) t) (hdb:(x==("__debug__" : Str))=false:=by decide) (he:T3 (e::es) X.env=(false,eval e X.env)::T3 es X.env:=by rfl) (hpl:(Vy pos (T3 es X.env)).any (·.1)=false:=by rfl) :
  PE X (.Call (.Name x p) (e::es) [] pos) (Ef sp dvs E t):=by
 intro pins s Z H Q I h;refine VJ<|jF I hg hm ?_ hdb
 refine PySem.W.callWith_K (h₀:=X.base) I.ok.mod.kin hk (AP (ha pos pins s Z H _ I h) fun us s1 ⟨vs,H1,I1,r,q⟩=>⟨I1.kIn,?_⟩) he hpl;exact Bu F hr hb hd hx I1 r q
theorem zj (F:cH X.prog X.w X.K X.mg X.base CX k f fd ps sp)(hr:gO k X.A)(hg:Gl X x)(hm:X.mg x=Dn (.ref f))(hk:Vq X.K (.ref f)=true)(hb:Binds X.K fd ps ds)(hd:Rj dvs ds)(hx:Passes CX X E)
  (hdb:(x==("__debug__" : Str))=false:=by decide):PE X (.Call (.Name x p) [] [] pos) (Ef sp dvs E Ro):=by
 intro pins s Z H Q I h;refine VJ<|jF I hg hm ?_ hdb
 exact PySem.W.callWith_K0 I.kIn hk<|Bu (us:=[]) F hr hb hd hx I .nil h
structure zad (K:Tt) (C f:Addr):Prop where
 makes:PySem.W.makesIn K C=true
 init:Vd K (.ref C) "__init__" = Dn (Dn (.ref f))
 fn:PySem.W.isFn K (.ref f)=true
 kp:Vq K (.ref C)=true
end
section
variable {X:Cx}{CX:Dl}{k:Nat}{f C:Addr}{fd:Uw}{ps ks:List Str}{sp:Sp}{E:XK}{x m:Str}{p pos apos kpos:Pos}{e o:Expr}{es:List Expr}{kws:List XJ}{te ta:TE}{t tk:TA}{nm:Option Str}
structure zaf (K:Tt) (fd:Uw) (ps ks:List Str) (g:List Tw->List Tw->List Tw) (gV:List V->List V->List V):Prop where
 to:∀ (s:Tz) (us ws:List Tw),K.In s.heap->(g us ws).length=ps.length->BindsTo s fd ⟨us,ks.zip ws⟩ (ps.zip (g us ws))
 rel:∀ {vs:List V} {us:List Tw} {zs:List V} {ws:List Tw},Rj vs us->Rj zs ws->Rj (gV vs zs) (g us ws)
variable {g:List Tw->List Tw->List Tw}{gV:List V->List V->List V}
end
structure aO (N P:List Str) (sc:Scope):Prop where
 kind:sc.kind=.function
 co:sc.isCoroutine=false
 gen:sc.isGenerator=false
 nd:N.Nodup
 pre:N.take P.length=P
 par:∀ x∈P,sc.names.lookup x=Dn .local\/sc.names.lookup x=Dn .cell
 nofree:∀ y∈sc.names,y.2≠.free
theorem nP {Xp:Str->Option Ul}{x:Str}:∀ {binds:List (Str×Tw)} {m:Str->Option Tw},(∀ v,(x,v)∉binds)->bindL Xp binds m x=m x
 | [],_,_=>rfl
 | (n,v)::r,m,h=>by
  unfold bindL;rw [nP fun w hw=>h w (Uu _ hw)];split
  ·have:x≠n:=by rintro rfl;exact h v UG
   simp [this]
  ·rfl
theorem oR {Xp:Str->Option Ul}{x:Str}:∀ {binds:List (Str×Tw)} {m:Str->Option Tw},(∀ v,(x,v)∉binds)->bindC Xp binds m x=m x
 | [],_,_=>rfl
 | (n,v)::r,m,h=>by
  unfold bindC;rw [oR fun w hw=>h w (Uu _ hw)];split
  ·rfl
  ·have:x≠n:=by rintro rfl;exact h v UG
   simp [this]
theorem nU {Xp:Str->Option Ul}{x:Str}{v:Tw}:∀ {P:List Str} {vs:List Tw} {i:Nat} {m:Str->Option Tw},P.Nodup->P[i]?=Dn x->vs[i]?=Dn v->Xp x=Dn .local ->
  bindL Xp (P.zip vs) m x=Dn v
 | [],_,_,_,_,h,_,_=>by simp at h
 | _::_,[],_,_,_,_,h,_=>by simp at h
 | p::P,w::vs,0,m,nd,h1,h2,hk=>by
  simp at h1 h2;subst h1;subst h2;show bindL Xp ((p,w)::P.zip vs) m p=_;unfold bindL;rw [nP fun v hv=>(Xm.mp nd).1 (List.of_mem_zip hv).1,if_pos hk];simp
 | p::P,w::vs,i+1,m,nd,h1,h2,hk=>by
  show bindL Xp ((p,w)::P.zip vs) m x=_;unfold bindL;exact nU (i:=i) (Xm.mp nd).2 (by simpa using h1) (by simpa using h2) hk
theorem nY {Xp:Str->Option Ul}{x:Str}{v:Tw}:∀ {P:List Str} {vs:List Tw} {i:Nat} {m:Str->Option Tw},P.Nodup->P[i]?=Dn x->vs[i]?=Dn v->Xp x≠Dn .local ->
  bindC Xp (P.zip vs) m x=Dn v
 | [],_,_,_,_,h,_,_=>by simp at h
 | _::_,[],_,_,_,_,h,_=>by simp at h
 | p::P,w::vs,0,m,nd,h1,h2,hk=>by
  simp at h1 h2;subst h1;subst h2;show bindC Xp ((p,w)::P.zip vs) m p=_;unfold bindC;rw [oR fun v hv=>(Xm.mp nd).1 (List.of_mem_zip hv).1,if_neg hk];simp
 | p::P,w::vs,i+1,m,nd,h1,h2,hk=>by
  show bindC Xp ((p,w)::P.zip vs) m x=_;unfold bindC;exact nY (i:=i) (Xm.mp nd).2 (by simpa using h1) (by simpa using h2) hk
def start (N:List Str)(vs:List V):St:=vs.map Dn++U4 (N.length - vs.length) Go
def Bm (CX:Dl)(P:T8)(w:Uv)(K:Tt)(mg:Str->Option Tw)(base:Heap)(N:List Str)(qual:Str)(scope:Scope)(f:Addr)(cd:Tw)(A:Ug)(outer:List Env)(s:Tz)(H:Hp)(E:XK):Cx where
 prog:=P
 w:=w
 K:=K
 mg:=mg
 base:=base
 A:=A.deeper (envOfC qual scope s.heap.objs.size f cd)
 N:=N
 s₀:=s
 H₀:=H
 env:=envOfC qual scope s.heap.objs.size f cd
 outer:=outer
 stack:=envOfC qual scope s.heap.objs.size f cd::outer
 ex:=[]
 calm:=A.handled.isNone
 fn:=fun _=>true
 pn:=[]
 xe:=fun e s'=>Us (Uz P w) (A.deeper (envOfC qual scope s.heap.objs.size f cd)) (leaving (envOfC qual scope s.heap.objs.size f cd) e) (fun _ s''=>CX outer H s E e s'') (fun e' s''=>CX outer H s E e' s'') s'
theorem sy {sc:Scope}{n:Nat}{x:Str}(h:sc.names.lookup x=Dn .cell):∃ c,(U6 n sc.names []).lookup x=Dn c:=by
 have q:=PySem.W.cellsFrom_some sc.names n [] (.inl h);exact Option.isSome_iff_exists.mp q
theorem xr {CX:Dl}{P:T8}{w:Uv}{K:Tt}{mg:Str->Option Tw}{base:Heap}{N ps:List Str}{qual:Str}{scope:Scope}{f:Addr}{cd:Tw}{A:Ug}{outer:List Env}{s s1:Tz}{H:Hp}{E:XK}{us:List Tw}{vs:List V}
  (S:aO N ps scope) (e0:M5 P w K mg base A outer s H) (hl:vs.length=ps.length) (r:Rj vs us)
  (x:InCallC s s.heap.objs.size (bindL (envOfC qual scope s.heap.objs.size f cd).kindOf (ps.zip us) fun _=>Go) (U6 (s.heap.objs.size+1) scope.names []) (bindC (envOfC qual scope s.heap.objs.size f cd).kindOf (ps.zip us) fun _=>Go) s1) :
  Mk (Bm CX P w K mg base N qual scope f cd A outer s H E) [] (start N vs) H s1:=by
 have hpl:ps.length<=N.length:=by have:=congrArg List.length S.pre;rw [List.length_take] at this;lia
 obtain ⟨h1,tk,rfl,hk⟩:=x.done;have noA:∀ b:Addr,b∉(Bm CX P w K mg base N qual scope f cd A outer s H E).ex:=fun b z=>absurd (show b∈([]:List Addr) from z) (by simp)
 refine ⟨⟨e0.mod,S.kind,rfl,rfl,T6 _,fun y z c h1 h2=>?_,fun y hy=>?_,fun y c _ h=>?_,fun z=>Option.isNone_iff_eq_none.mp (show A.handled.isNone=true from z),e0.qt,Around.frames_deeper e0.frames,.inr ⟨rfl,rfl⟩,fun b z=>absurd z (noA b),e0.bs,e0.bsz,fun b _ _=>noA b,fun b z=>absurd z (noA b),e0.funs,e0.frf⟩,
  rfl,e0.bare,Un.kept hk,⟨_,x.toInCall.ns,fun i y v h1 h2 h3=>?_⟩,fun y c h=>⟨_,x.cell y c h⟩,e0.hok.fresh (T6 _),fun y c h=>?_,fun p hp=>absurd (show p∈([]:List (Addr×Obj)) from hp) (by simp),e0.hok.kept hk,?_⟩
 ·exact name_of_addr x.apart (Ve h1)<|Ve h2
 ·have hy:scope.names.lookup y=Dn .cell\/scope.names.lookup y=Dn .free:=hy;rcases hy with hy | hy
  ·exact sy hy
  ·exact absurd rfl<|S.nofree _<|Ve hy
 ·exact Xx<|x.above y c<|Ve h
 ·have hi:i<vs.length:=by
   unfold start at h2;by_cases hi:i<vs.length
   ·exact hi
   ·rw [U8 (by simpa using hi)] at h2;rw [Wx] at h2;split at h2 <;> cases h2
  have ha:vs[i]?=Dn v:=by
   unfold start at h2;rw [Vg (by simpa using hi),Ut] at h2;cases e:vs[i]? with
   | none=>rw [e] at h2;cases h2
   | some a=>rw [e] at h2;cases h2;rfl
  obtain ⟨u,hu,rv⟩:=r.get ha;have hp:ps[i]?=Dn y:=by
   rw [<-S.pre,List.getElem?_take_of_lt (by lia)];exact h1
  have ndP:ps.Nodup:=by rw [<-S.pre];exact S.nd.sublist (List.take_sublist _ _)
  refine ⟨u,rv,?_⟩;rcases S.par y (VP hp) with k | k
  ·exact .inl ⟨k,nU ndP hp hu k⟩
  ·obtain ⟨c,e⟩:=sy (n:=s.heap.objs.size+1) k;refine .inr ⟨.inl k,c,e,?_⟩;have q:=x.cell y c e;rw [nY ndP hp hu (by show scope.names.lookup y≠_;rw [k];decide)] at q;exact q
 ·exact e0.hok.fresh<|Xx<|x.above y c<|Ve h
 ·unfold start;show _=N.length;rw [Vb,Ub,List.length_replicate];lia
theorem LC {CX:Dl}{P:T8}{w:Uv}{K:Tt}{mg:Str->Option Tw}{base:Heap}{k:Nat}{f:Addr}{name qual:Str}{params:Arguments}{body:List Stmt}{scope:Scope}{dV kV doc pm cdv ct oc:Tw}{an od:Option Addr}
  {osl:Array (Option Tw)} {N ps:List Str} {sp:Sp} (lk:K.lookup f=Dn ⟨oc,od,.func (WT name qual params body scope dV kV doc pm an cdv ct),osl⟩) (hcd:PySem.W.codeIn K cdv qual=true) (S:aO N ps scope)
  (len:∀ vs H Q E,sp vs H Q E->vs.length=ps.length)
  (hbody:∀ (A:Ug) (outer:List Env) (s:Tz) (H:Hp) (vs:List V) (Q:VK) (E:XK),gO k (A.deeper (envOfC qual scope s.heap.objs.size f cdv))->sp vs H Q E ->
   ∃ t,DY (Bm CX P w K mg base N qual scope f cdv A outer s H E) body t/\t { nx:=fun _ H'=>Q .non H',rt:=Q } (start N vs) H) :
  cH P w K mg base CX (k+1) f (WT name qual params body scope dV kV doc pm an cdv ct) ps sp:=by
 refine ⟨len,fun A outer s H args us vs Q E hr e0 hb r hsp=>?_⟩;have hl:=len _ _ _ _ hsp;have KX:K.In s.heap:=e0.mod.kin.keeps fun b o e=>(e0.bs b o e).1
 have lim:s.heap.NoLimit:=e0.mod.nolimit.keeps fun b o e=>(e0.bs b o e).1
 have hkind:∀ y∈ps.zip us,scope.names.lookup y.1=Dn .local\/(scope.names.lookup y.1=Dn .cell/\((U6 (s.heap.objs.size+1) scope.names []).lookup y.1).isSome=true):=fun ⟨n,v⟩ hy=>by
  rcases S.par n (List.of_mem_zip hy).1 with q | q
  ·exact .inl q
  ·exact .inr ⟨q,PySem.W.cellsFrom_some _ _ _<|.inl q⟩
 refine codeAny_call_function hr.depth (KX _ _ lk) rfl S.co S.gen rfl (PySem.W.codeRec_of KX hcd)<|hb _ _ _ _ ?_
 refine wpAny_newFunctionEnv_cells S.kind hkind fun env he s1 x=>?_;subst he;refine ⟨lim.keeps x.toInCall.keep,codeAny_func ?_⟩;obtain ⟨t,ht,hq⟩:=hbody A outer s H vs Q E (hr.deeper _) hsp;have I:Mk (Bm CX P w K mg base N qual scope f cdv A outer s H E) [] (start N vs) H s1:=xr S e0 hl r x;refine Vi (ht [] s1 (start N vs) H _ I hq) (fun fl s' hs=>?_) fun e s' hs=>hs;have fin:∀ {Z':St} {H':Hp} {v:V} {u:Tw},Mk (Bm CX P w K mg base N qual scope f cdv A outer s H E) [] Z' H' s'->RelV v u->Q v H'->CE outer P w H s Q u s':=
  fun {Z' H' v u} J rv q=>⟨v,H',J.os,J.bare,J.base,J.hok,rv,q⟩
 cases fl with
 | ret u=>
  obtain ⟨v,Z',H',J,rv,q⟩:=hs;exact fin J rv q
 | next=>
  obtain ⟨Z',H',J,q⟩:=hs;exact fin (v:=V.non) (u:=Value.none) J rfl q
 | brk=>
  obtain ⟨_,_,_,q⟩:=hs;exact VB q
 | cont=>
  obtain ⟨_,_,_,q⟩:=hs;exact VB q
section
variable {X:Cx}{x:Str}{p pos:Pos}{e:Expr}{es:List Expr}{t:TA}{id T:String}{r:List V->Hp->VK->Prop}
def tCB (r:List V->Hp->VK->Prop)(t:TA):TE:=fun Z H Q=>t Z H fun vs H1=>r vs H1 Q
theorem lX (hc:cW X (.builtin id) r)(hg:Gl X x)(hm:X.mg x=Go)(hv:Wk x=Dn (.builtin id))(ha:PA X (e::es) t)(hn:x ≠ "__name__":=by decide)(hdb:(x==("__debug__" : Str))=false:=by decide)
  (he:T3 (e::es) X.env=(false,eval e X.env)::T3 es X.env:=by rfl) (hpl:(Vy pos (T3 es X.env)).any (·.1)=false:=by rfl):PE X (.Call (.Name x p) (e::es) [] pos) (tCB r t):=by
 intro pins s Z H Q I h;refine VJ<|kj I hg hm hv ?_ hn hdb
 exact PyProof.Rows.callWith_builtin1 (AP (ha pos pins s Z H _ I h) fun us s1 ⟨vs,H1,I1,r1,q1⟩=>hc pins s1 Z H1 vs us Q I1 r1 q1) he hpl
theorem wI (hc:cW X (.type T) r)(hg:Gl X x)(hm:X.mg x=Go)(hv:Wk x=Dn (.type T))(ha:PA X (e::es) t)(hn:x ≠ "__name__":=by decide)(hdb:(x==("__debug__" : Str))=false:=by decide)
  (he:T3 (e::es) X.env=(false,eval e X.env)::T3 es X.env:=by rfl) (hpl:(Vy pos (T3 es X.env)).any (·.1)=false:=by rfl):PE X (.Call (.Name x p) (e::es) [] pos) (tCB r t):=by
 intro pins s Z H Q I h;refine VJ<|kj I hg hm hv ?_ hn hdb
 exact V1 (AP (ha pos pins s Z H _ I h) fun us s1 ⟨vs,H1,I1,r1,q1⟩=>hc pins s1 Z H1 vs us Q I1 r1 q1) he hpl
end
end L2
namespace HT
open PySem PyProof.Rows
section
open PySem.SeqAt
open PySem.AutoSeq1 (wpAny_loadPart')
open PySem.MeetsSeq PySem.MeetsSeq2 PySem.MeetsSeq3
end
section
variable {prog:T8}{w:Uv}{A:Ug}{E:Tw->Tz->Prop}{s:Tz}
theorem CN {t b:Addr}{vs ws:List Tw}{Q:Tw->Tz->Prop}(ht:IsTup s.heap t vs.toArray)(hb:IsTup s.heap b ws.toArray)(hv:vs≠[])
  (h1:ws=[]->Q (.ref t) s) (h2:ws≠[]->Q (.ref s.heap.objs.size) { s with heap:=s.heap.push { cls:=.type "tuple",data:=.seq (vs++ws).toArray } })
  (hsz:vs.length+ws.length<=Ua):Us (Uz prog w) A (Vv .Add (.ref t) (.ref b)) Q E s:=by
 obtain ⟨⟨cls,dd,data,sl⟩,ho,hc,n,hd⟩:=id ht;obtain ⟨⟨cls2,dd2,data2,sl2⟩,ho2,hc2,n2,hd2⟩:=id hb;simp only at hc hd hc2 hd2;subst hc hd hc2 hd2;have e:vs.toArray++ws.toArray=(vs++ws).toArray:=by simp
 by_cases hw:ws=[]
 ·exact concat_meets ⟨_,ho,rfl⟩ ⟨_,ho2,rfl⟩ noFill_tuple_add seq_tuple_add PySem.F.slot_tuple_add PySem.F.entry_tuple_add (PySem.F.args_tuple_add_2 _ _)
   (tuple_addW1 t b vs.toArray ws.toArray n n2 dd dd2 sl sl2 (by simpa using hv) (by simp [hw])) ⟨ho,ho2,h1 hw⟩
 ·refine concat_meets ⟨_,ho,rfl⟩ ⟨_,ho2,rfl⟩ noFill_tuple_add seq_tuple_add PySem.F.slot_tuple_add PySem.F.entry_tuple_add (PySem.F.args_tuple_add_2 _ _)
   (tuple_addW2 t b vs.toArray ws.toArray n n2 dd dd2 sl sl2 (by simpa using hv) (by simpa using hw) (by rw [TX,TX];exact hsz)) ⟨ho,ho2,?_⟩
  rw [e];exact h2 hw
def sIx (n d:Nat):Option Int->Nat
 | none=>d
 | some v=>if v<0 then (v+(n:Int)).toNat else min v.toNat n
theorem Jd (n d:Nat)(hd:d<=n)(o:Option Int):sIx n d o<=n:=by
 cases o with
 | none=>exact hd
 | some v=>
  show (if v<0 then (v+(n:Int)).toNat else min v.toNat n)<=n;by_cases hv:v<0
  ·rw [if_pos hv];lia
  ·rw [if_neg hv];exact Nat.min_le_right _ _
theorem wW (v:Int)(n d:Nat):(if v<0 then max (v+(n:Int)) 0 else min v (n:Int))=((sIx n d (Dn v):Nat):Int):=by
 show (if v<0 then max (v+(n:Int)) 0 else min v (n:Int))=(((if v<0 then (v+(n:Int)).toNat else min v.toNat n):Nat):Int);by_cases hv:v<0
 ·simp only [if_pos hv];lia
 ·simp only [if_neg hv];lia
theorem tW (lo hi:Option Int)(n:Nat):Builtin.Slice.sliceAdjust lo hi 1 (n:Int)=(((sIx n 0 lo:Nat):Int),((sIx n n hi:Nat):Int)):=by
 have h1:¬ ((1:Int)<0):=by lia
 unfold Builtin.Slice.sliceAdjust;simp only [h1,if_false];refine Prod.ext ?_ ?_
 ·cases lo with
  | none=>rfl
  | some v=>exact wW v n 0
 ·cases hi with
  | none=>rfl
  | some v=>exact wW v n n
theorem tB (i j:Nat):V7 (i:Int) (j:Int) 1=j - i:=by
 unfold V7;have h1:(1:Int)>0:=by lia
 simp only [h1,if_true,Int.ediv_one];split <;> lia
theorem lA {v:Tw}{o:Option Int}{Q:Option Int->Tz->Prop}(p:IsPart v o)(h:Q o s):Us (Uz prog w) A (Builtin.Slice.slicePartIndex v) Q E s:=by
 cases p with
 | none=>exact slicePart_none h
 | int i t=>exact slicePart_int h
theorem dX {sl:Addr}{vl vu:Tw}{lo hi:Option Int}{n:Nat}{Q:Int×Int×Nat->Tz->Prop}(hs:s.heap.IsSliceOf sl vl vu .none)(pl:IsPart vl lo)(pu:IsPart vu hi)
  (h:Q (((sIx n 0 lo:Nat):Int),1,sIx n n hi - sIx n 0 lo) s):Us (Uz prog w) A (Builtin.Slice.sliceApplied (.ref sl) (pure (n:Int))) Q E s:=by
 obtain ⟨os,hos,hcs,hds⟩:=id hs;unfold Builtin.Slice.sliceApplied Builtin.Slice.sliceFields;refine Tv<|Tv<|Vp hos hds (x:=vl) rfl<|Tv<|Vp hos hds (x:=vu) rfl<|Tv<|Vp hos hds (x:=.none) rfl<|TV ?_
 refine Tv<|slicePart_none ?_
 show Us _ _ (if ((1:Int)==0)=true then _ else _) _ _ s;rw [if_neg (by decide)];refine Tv<|lA pl<|Tv<|lA pu<|Tv<|TV ?_
 show Us _ _ (match Builtin.Slice.sliceAdjust lo hi 1 (n:Int) with | (lo,hi)=>pure (lo,(1:Int),V7 lo hi 1)) _ _ s;rw [tW lo hi n];show Us _ _ (pure (((sIx n 0 lo:Nat):Int),(1:Int),V7 ((sIx n 0 lo:Nat):Int) ((sIx n n hi:Nat):Int) 1)) _ _ s;rw [tB];exact TV h
theorem yN (xs:Array Tw)(i k:Nat):((VD k).filterMap fun (m:Nat)=>xs[((i:Int)+(m:Int)*1).toNat]?).toArray=((xs.toList.drop i).take k).toArray:=by
 have e:(fun (m:Nat)=>xs[((i:Int)+(m:Int)*1).toNat]?)=fun m=>xs[i+m]?:=by
  funext m;have:((i:Int)+(m:Int)*1).toNat=i+m:=by lia
  rw [this]
 rw [e];have:=pick_run xs i k
 rw [List.filterMap_map] at this;have e2:((fun x=>xs[x]?) ∘ fun x=>i+x)=fun m=>xs[i+m]?:=rfl
 rw [e2] at this;rw [this]
theorem iR {t sl:Addr}{items:Array Tw}{vl vu:Tw}{lo hi:Option Int}{Q:Tw->Tz->Prop}(ht:IsTup s.heap t items)(hs:s.heap.IsSliceOf sl vl vu .none)(pl:IsPart vl lo)(pu:IsPart vu hi)
  (hw:¬ (sIx items.size 0 lo=0/\sIx items.size items.size hi=items.size))
  (h:Q (.ref s.heap.objs.size) { s with heap:=s.heap.push { cls:=.type "tuple",data:=.seq ((items.toList.drop (sIx items.size 0 lo)).take (sIx items.size items.size hi - sIx items.size 0 lo)).toArray } })
  (hsz:items.size<=Ua):Us (Uz prog w) A (getItem (.ref t) (.ref sl)) Q E s:=by
 have htake:sizeOk (.seq ((items.toList.drop (sIx items.size 0 lo)).take (sIx items.size items.size hi - sIx items.size 0 lo)).toArray):=by
  show ((items.toList.drop (sIx items.size 0 lo)).take (sIx items.size items.size hi - sIx items.size 0 lo)).toArray.size<=Ua;rw [TX,List.length_take,List.length_drop,V0];lia
 have hj:sIx items.size items.size hi<=items.size:=Jd _ _ (T6 _) hi;obtain ⟨os,hos,hcs,hds⟩:=id hs;have hTs:s.TypeIs (.ref sl) "slice":=⟨os,hos,hcs⟩
 unfold getItem;try with_reducible refine V5 ?_
 first | refine Tv (TV ?_) | skip
 refine Tv<|wpAny_sequenceKey ht.typeIs (by decide) ?_
 refine Tv (V6 (name:=Vo "__getitem__") ht.typeIs Ux
  (Wv Ux ht.typeIs entry_tuple_getitem ?_ (args_tuple_getitem _ _)))
 show Us _ _ (Builtin.Tuple.tupleItemsOf (.ref t) >>= _) _ _ s;refine Tv<|tupleItemsOf_ ht ?_
 refine Tv<|wpAny_typeOf hTs ?_
 rw [if_pos (by decide)];refine Tv<|dX hs pl pu ?_
 have hno:¬ ((((sIx items.size 0 lo:Nat):Int)==0&&(1:Int)==1&&(sIx items.size items.size hi - sIx items.size 0 lo)==items.size)=true):=by
  intro q;rw [Uo,Uo] at q;have q1:((sIx items.size 0 lo:Nat):Int)=0:=eq_of_beq q.1.1;have q2:sIx items.size items.size hi - sIx items.size 0 lo=items.size:=eq_of_beq q.2;exact hw ⟨by lia,by lia⟩
 show Us _ _ (if (((sIx items.size 0 lo:Nat):Int)==0&&(1:Int)==1&&(sIx items.size items.size hi - sIx items.size 0 lo)==items.size)=true then _ else _) _ _ s;rw [if_neg hno,yN];first
  | exact Tv (m:=Wg _) (U5 (TV ⟨_,rfl,TV h⟩) htake)
  | exact Tv (m:=Wg _) (U5 (Tv (TV (TV ⟨_,rfl,TV h⟩))) htake)
  | exact Tv (Tv (m:=Wg _) (U5 (TV (TV ⟨_,rfl,TV h⟩)) htake))
  | exact Tv (Tv (m:=Wg _) (U5 (TV ⟨_,rfl,TV h⟩) htake))
end
end HT
namespace L2
open PySem PySem.Spec PyProof.Rows
abbrev TO:=St->Hp->(Option Int->Hp->Prop)->Prop
def PO (X:Cx)(e:Option Expr)(t:TO):Prop:=
 ∀ (pins:List (Addr×Obj)) (s:Tz) (Z : St) (H:Hp) (Q:Option Int->Hp->Prop),Mk X pins Z H s->t Z H Q ->
  Us (Uz X.prog X.w) X.A (evalPart e X.env) (fun u s'=>∃ o H',Mk X pins Z H' s'/\IsPart u o/\Q o H') X.xe s
def zaC:TO:=fun _ H Q=>Q Go H
def Nf (t:TE):TO:=fun Z H Q=>t Z H fun x H1=>∃ i,x=.int i/\Q (Dn i) H1
section
variable {X:Cx}{e:Expr}{te:TE}{lo hi:Option Expr}{tl th:TO}{pos p2:Pos}
theorem Gu:PO X Go zaC:=by
 intro pins s Z H Q I h;rw [evalPart_none];exact TV ⟨Go,H,I,.none,h⟩
theorem Fo (h:PE X e te):PO X (Dn e) (Nf te):=by
 intro pins s Z H Q I hw;rw [evalPart_some];refine AP (h pins s Z H _ I hw) fun u s1 ⟨x,H1,I1,r1,q1⟩=>?_;obtain ⟨i,rfl,q⟩:=q1;obtain ⟨t,rfl⟩:=r1;exact ⟨Dn i,H1,I1,.int i t,q⟩
def Ds (X:Cx)(r:V->Option Int->Option Int->Hp->VK->Prop):Prop:=
 ∀ (pins:List (Addr×Obj)) (s:Tz) (Z : St) (H:Hp) (x:V) (v vl vu:Tw) (lo hi:Option Int) (sl:Addr) (Q:VK),Mk X pins Z H s->RelV x v->s.heap.IsSliceOf sl vl vu .none->IsPart vl lo->IsPart vu hi->r x lo hi H Q ->
  ∃ T id,typeLookup (.type T) "__getitem__" = pure (Dn (.builtin id))/\s.TypeIs v T/\Us (Uz X.prog X.w) X.A (getItem v (.ref sl)) (EP X pins Z Q) X.xe s
theorem Ds.or {r r':V->Option Int->Option Int->Hp->VK->Prop}(h:Ds X r)(h':Ds X r'):Ds X (fun x lo hi H Q=>r x lo hi H Q\/r' x lo hi H Q):=by
 intro pins s Z H x v vl vu lo hi sl Q I rx hs pl pu q;rcases q with q | q
 ·exact h pins s Z H x v vl vu lo hi sl Q I rx hs pl pu q
 ·exact h' pins s Z H x v vl vu lo hi sl Q I rx hs pl pu q
def tSl (r:V->Option Int->Option Int->Hp->VK->Prop)(te:TE)(tl th:TO):TE:=fun Z H Q=>te Z H fun x H1=>tl Z H1 fun l H2=>th Z H2 fun u H3=>r x l u H3 Q
theorem rO {r:V->Option Int->Option Int->Hp->VK->Prop}(hr:Ds X r)(he:PE X e te)(hl:PO X lo tl)(hu:PO X hi th):PE X (.Subscript e (.Slice lo hi Go p2) pos) (tSl r te tl th):=by
 intro pins s Z H Q I h;refine Subscript_<|AP (he pins s Z H _ I h) fun v s1 ⟨x,H1,I1,r1,q1⟩=>?_
 refine wpAny_Slice<|AP (hl pins s1 Z H1 _ I1 q1) fun vl s2 ⟨l,H2,I2,pl,q2⟩=>AP (hu pins s2 Z H2 _ I2 q2) fun vu s3 ⟨u,H3,I3,pu,q3⟩=>?_
 rw [evalPart_none];refine TV ?_;have I4:Mk X pins Z H3 { s3 with heap:=s3.heap.push { cls:=.type "slice",data:=.fields #[vl,vu,.none] } }:=I3.kept (t':=s3.toks) fun b ob q=>TJ _ q
 obtain ⟨T,id,hT,ht,hg⟩:=hr pins { s3 with heap:=s3.heap.push { cls:=.type "slice",data:=.fields #[vl,vu,.none] } } Z H3 x v vl vu l u s3.heap.objs.size Q I4 r1 (Heap.IsSliceOf.new ..) pl pu q3;show Us (Uz X.prog X.w) X.A (subscriptTail e (.Slice lo hi Go p2) v (.ref s3.heap.objs.size)) (EP X pins Z Q) X.xe { s3 with heap:=s3.heap.push { cls:=.type "slice",data:=.fields #[vl,vu,.none] } };exact tail_any (ops:=[.ref s3.heap.objs.size,v]) ht hT hg<|by with_unfolding_all rfl
def yR (xs:List V)(lo hi:Option Int):List V:=(xs.drop (HT.sIx xs.length 0 lo)).take (HT.sIx xs.length xs.length hi - HT.sIx xs.length 0 lo)
theorem jJ (xs:List V)(lo hi:Option Int):(yR xs lo hi).length<=xs.length:=by
 unfold yR;rw [List.length_take,List.length_drop];lia
def RP (K:Tt):V->Option Int->Option Int->Hp->VK->Prop:=fun x lo hi H Q=>∃ a xs,x=.ref a/\CG K H a xs /\
 ¬ (HT.sIx xs.length 0 lo=0/\HT.sIx xs.length xs.length hi=xs.length)/\∀ p,H p=Go->Q (.ref p) (kI H p (.tup (yR xs lo hi)))
theorem Jo:Ds X (RP X.K):=by
 intro pins s Z H x v vl vu lo hi sl Q I rx hs pl pu h;obtain ⟨a,xs,rfl,hx,hw,q⟩:=h;cases rx;obtain ⟨its,r,ht,hz⟩:=I.tuple hx;have hlen:its.toArray.size=xs.length:=by rw [TX];exact r.length.symm
 refine ⟨"tuple",_,Ux.lookup,ht.typeIs,?_⟩;refine HT.iR ht hs pl pu (by rw [hlen];exact hw) ?_ (by rw [hlen];exact hz);rw [hlen];refine ⟨.ref s.heap.objs.size,_,I.laid (t':=s.toks) (o:=.tup (yR xs lo hi)) (fun b ob q=>TJ _ q) (T6 _) ?_,rfl,q _<|I.hok.fresh<|T6 _⟩;exact ⟨Uc (jJ xs lo hi) hz,_,(r.drop<|HT.sIx xs.length 0 lo).take (HT.sIx xs.length xs.length hi - HT.sIx xs.length 0 lo),Ak.new _ _⟩
def Ph (K:Tt):R2:=fun x y H Q=>∃ a b xs ys,x=.ref a/\y=.ref b/\CG K H a xs/\CG K H b ys/\xs≠[]/\xs.length+ys.length<=Ua /\
 (ys=[]->Q (.ref a) H)/\(ys≠[]->∀ p,H p=Go->Q (.ref p) (kI H p (.tup (xs++ys))))
theorem Rj.nil_iff {xs:List V}{us:List Tw}(r:Rj xs us):us=[]↔xs=[]:=by
 cases r with
 | nil=>simp
 | cons _ _=>simp
theorem zaR:CQ X (Vv .Add) (Ph X.K):=by
 intro pins s Z H x y v u Q I rx ry h;obtain ⟨a,b,xs,ys,rfl,rfl,ha,hb,hx,hz,q1,q2⟩:=h;cases rx;cases ry;obtain ⟨its,r1,p1,_⟩:=I.tuple ha;obtain ⟨its2,r2,p2,_⟩:=I.tuple hb;refine HT.CN p1 p2 (fun z=>hx<|r1.nil_iff.mp z) (fun z=>⟨.ref a,H,I,rfl,q1<|r2.nil_iff.mp z⟩) (fun z=>?_) (by rw [<-r1.length,<-r2.length];exact hz);refine ⟨.ref s.heap.objs.size,_,I.laid (t':=s.toks) (o:=.tup (xs++ys)) (fun b ob q=>TJ _ q) (T6 _) ?_,rfl,q2 (fun w=>z<|r2.nil_iff.mpr w) _<|I.hok.fresh<|T6 _⟩;exact ⟨by rw [Vb];exact hz,_,r1.append r2,Ak.new _ _⟩
end
def Dj (n:Nat)(i:Int):Option Nat:=if 0<=i then (if i<n then Dn i.toNat else Go) else if -(n:Int)<=i then Dn (i+n).toNat else Go
def DW {α : Type}(xs:List α)(i:Int):Option α:=(Dj xs.length i).bind fun j=>xs[j]?
theorem wZ {n:Nat}{i:Int}{j:Nat}(h:Dj n i=Dn j):seqIndex? i n=Dn j/\j<n/\-(n:Int)<=i/\i<n:=by
 unfold Dj at h;by_cases h0:0<=i
 ·rw [if_pos h0] at h;by_cases h1:i<n
  ·rw [if_pos h1] at h;have e:i.toNat=j:=T7 h;exact ⟨by rw [seqIndex_of h0 h1,e],by lia,by lia,h1⟩
  ·rw [if_neg h1] at h;cases h
 ·rw [if_neg h0] at h;by_cases h1:-(n:Int)<=i
  ·rw [if_pos h1] at h;have e:(i+n).toNat=j:=T7 h;exact ⟨by rw [seqIndex_neg (by lia) h1,e],by lia,h1,by lia⟩
  ·rw [if_neg h1] at h;cases h
theorem qy {α : Type}{xs:List α}{i:Int}{v:α}(h:DW xs i=Dn v):∃ j,seqIndex? i xs.length=Dn j/\xs[j]?=Dn v/\j<xs.length/\-(xs.length:Int)<=i/\i<xs.length:=by
 unfold DW at h;cases e:Dj xs.length i with
 | none=>rw [e] at h;cases h
 | some j=>
  rw [e] at h;obtain ⟨h1,h2,h3,h4⟩:=wZ e;exact ⟨j,h1,h,h2,h3,h4⟩
theorem xM {α : Type}{xs:List α}{j:Nat}{v:α}(h:xs[j]?=Dn v):DW xs (j:Int)=Dn v:=by
 have hj:j<xs.length:=(Uq.mp h).1;have e:Dj xs.length (j:Int)=Dn j:=by
  unfold Dj;rw [if_pos (by lia),if_pos (by lia)];simp
 unfold DW;rw [e];exact h
theorem zar {α : Type}(xs:List α)(v:α):DW (xs++[v]) (-1)=Dn v:=by
 have hl:(xs++[v]).length=xs.length+1:=by simp
 have e:Dj (xs++[v]).length (-1)=Dn xs.length:=by
  unfold Dj;rw [hl,if_neg (by decide),if_pos (by lia)];congr 1
  lia
 unfold DW;rw [e];show (xs++[v])[xs.length]?=Dn v;simp
def uV (b:Expr):Prop:=∀ o i,subscripted b false o i=operate [o,i] (getItem o i)
def Eb (X:Cx)(r:R2):Prop:=
 ∀ (value slice:Expr) (pins:List (Addr×Obj)) (s:Tz) (Z : St) (H:Hp) (x y:V) (v u:Tw) (Q:VK),Mk X pins Z H s->RelV x v->RelV y u->r x y H Q ->
  subscripted slice false v u=operate [v,u] (getItem v u)->Us (Uz X.prog X.w) X.A (subscriptTail value slice v u) (EP X pins Z Q) X.xe s
def MtR (X:Cx)(id:String)(r:V->List V->Hp->VK->Prop):Prop:=
 ∀ (pins:List (Addr×Obj)) (s:Tz) (Z : St) (H:Hp) (x:V) (xs:List V) (v:Tw) (us:List Tw) (Q:VK),Mk X pins Z H s->RelV x v->Rj xs us->r x xs H Q ->
  Us (Uz X.prog X.w) X.A (call (.builtin id) (v::us)) (EP X pins Z Q) X.xe s
section
variable {X:Cx}{a b:Expr}{ta tb:TE}{pos:Pos}
theorem Eb.or {r r':R2}(h:Eb X r)(h':Eb X r'):Eb X (fun x y H Q=>r x y H Q\/r' x y H Q):=by
 intro value slice pins s Z H x y v u Q I rx ry q hs;rcases q with q | q
 ·exact h value slice pins s Z H x y v u Q I rx ry q hs
 ·exact h' value slice pins s Z H x y v u Q I rx ry q hs
theorem Ob {r:R2}(hr:Eb X r)(ha:PE X a ta)(hb:PE X b tb)(hs:uV b):PE X (.Subscript a b pos) (tOp r ta tb):=by
 intro pins s Z H Q I h;exact Subscript_<|Ni ha hb I h fun v u s2 x y H2 I2 rx ry q=>hr a b pins s2 Z H2 x y v u Q I2 rx ry q<|hs _ _
def Q8 (K:Tt):R2:=fun x y H Q=>∃ p xs i v,x=.ref p/\y=.int i/\Am K H p xs/\DW xs i=Dn v/\Q v H
def QZ (K:Tt):R2:=fun x y H Q=>∃ p xs i v,x=.ref p/\y=.int i/\CG K H p xs/\DW xs i=Dn v/\Q v H
def Q0:R2:=fun x y H Q=>∃ z i c,x=.str z/\y=.int i/\z.length<=Ua/\DW z.cps.toList i=Dn c/\Q (.str ⟨#[c]⟩) H
theorem Fz:Eb X (Q8 X.K):=by
 intro value slice pins s Z H x y v u Q I rx ry h hs;obtain ⟨p,xs,i,z,rfl,rfl,hq,he,q⟩:=h;cases rx;obtain ⟨t,rfl⟩:=ry;obtain ⟨its,r,pl,hz⟩:=I.list hq;obtain ⟨j,h1,h2,h3,h4,h5⟩:=qy he;obtain ⟨w,ew,rw'⟩:=r.get h2;have hl:=r.length;have hn:=gP;have fin:EP X pins Z Q w s:=⟨z,H,I,rw',q⟩
 by_cases h0:0<=i
 ·have hj:i.toNat=j:=by
   rw [seqIndex_of h0 h5] at h1;exact T7 h1
  exact item_listR pl.isList h0 (by lia) (by rw [hj];simpa using ew) fin hs
 ·have hj:(i+(its.toArray.size:Int)).toNat=j:=by
   rw [seqIndex_neg (by lia) h4] at h1;rw [TX,<-hl];exact T7 h1
  exact subscriptTail_builtinR (x:=w) pl.isList.typeIs slot_list_getitem.lookup
   (wpAny_getItem_list_neg (Q:=fun r s'=>r=w/\EP X pins Z Q r s') pl.isList (by lia) (by rw [TX] <;> lia) (by lia) (by rw [hj];simpa using ew) ⟨rfl,fin⟩) hs
theorem Jb:Eb X (QZ X.K):=by
 intro value slice pins s Z H x y v u Q I rx ry h hs;obtain ⟨p,xs,i,z,rfl,rfl,hq,he,q⟩:=h;cases rx;obtain ⟨t,rfl⟩:=ry;obtain ⟨its,r,pl,hz⟩:=I.tuple hq;obtain ⟨j,h1,h2,h3,h4,h5⟩:=qy he;obtain ⟨w,ew,rw'⟩:=r.get h2;have hl:=r.length;have hn:=gP;have fin:EP X pins Z Q w s:=⟨z,H,I,rw',q⟩
 exact subscriptTail_builtinR (x:=w) pl.typeIs slot_tuple_getitem.lookup
  (getItem_tuple (j:=j) (Q:=fun r s'=>r=w/\EP X pins Z Q r s') pl (by lia) (by lia) (by rw [TX,<-hl];exact h1) (by simpa using ew) ⟨rfl,fin⟩) hs
theorem Hz:Eb X Q0:=by
 intro value slice pins s Z H x y v u Q I rx ry h hs;obtain ⟨z,i,c,rfl,rfl,hz,he,q⟩:=h;obtain ⟨t,rfl⟩:=rx;obtain ⟨t',rfl⟩:=ry;obtain ⟨j,h1,h2,h3,h4,h5⟩:=qy he;have hl:z.cps.toList.length=z.length:=by simp [Str.length]
 rw [hl] at h1 h4 h5;have hn:=gP;exact tail_any (Xh s z t) slot_str_getitem.lookup (getItem_str (c:=c) (by
  have e1:decide (i < -(2^63:Int))=false:=decide_eq_false (by lia);have e2:decide (i>=2^63)=false:=decide_eq_false (by lia);rw [e1,e2,Bool.or_false]) (by rw [h1];simpa using h2) ⟨.str ⟨#[c]⟩,H,I.tok _,⟨_,rfl⟩,q⟩) hs
def rIx (K:Tt):R2:=fun x y H Q=>Q8 K x y H Q\/QZ K x y H Q\/Q0 x y H Q
theorem HN:Eb X (rIx X.K):=Fz.or (Jb.or Hz)
theorem tu (its:List Tw)(n j:Nat)(u:Tw):XM (·.setIfInBounds j u) { cls:=.type "list",data:=.seq its.toArray n } = { cls:=.type "list",data:=.seq (its.set j u).toArray n }:=by
 simp [XM]
theorem Mk.lst {pins:List (Addr×Obj)}{Z : St}{H:Hp}{s:Tz}{p:Addr}{xs:List V}(I:Mk X pins Z H s)(h:H p=Dn (.lst xs)) :
  ∃ (its:List Tw) (n:Nat),Rj xs its/\s.heap.get? p=Dn { cls:=.type "list",data:=.seq its.toArray n }/\xs.length<=Ua:=by
 obtain ⟨z,its,n,r,e⟩:=I.hok p _ h;exact ⟨its,n,r,e,z⟩
theorem Mk.lstUpd {pins:List (Addr×Obj)}{Z : St}{H:Hp}{s:Tz}{p:Addr}{xs ys:List V}{its its':List Tw}{n n':Nat}{f:Obj->Obj}(I:Mk X pins Z H s)(h:H p=Dn (.lst xs))
  (ho:s.heap.get? p=Dn { cls:=.type "list",data:=.seq its.toArray n }) (hf:f { cls:=.type "list",data:=.seq its.toArray n } = { cls:=.type "list",data:=.seq its'.toArray n' }) (r:Rj ys its') (hz:ys.length<=Ua) (t:Nat) :
  Mk X pins Z (kI H p (.lst ys)) { s with heap:=s.heap.update p f,toks:=t }:=by
 have e:(s.heap.update p f).get? p=Dn { cls:=.type "list",data:=.seq its'.toArray n' }:=by
  rw [U3 f ho (by rw [hf] <;> rfl),hf]
 refine I.write (x:=p) (e:=p) (by rw [h];trivial) (.inl rfl) (fun b u hb q=>(Ui _ _<|VR hb).trans q) ⟨_,e⟩ ?_;exact ⟨hz,its',n',r,e⟩
def Li:V->V->V->Hp->(Hp->Prop)->Prop:=fun o i v H Q=>∃ p xs k j,o=.ref p/\i=.int k/\H p=Dn (.lst xs)/\Dj xs.length k=Dn j/\Q (kI H p (.lst (xs.set j v)))
theorem set_list:O7 X Li:=by
 intro pins s Z H o i v ov iv u Q I ro ri rv h;obtain ⟨p,xs,k,j,rfl,rfl,hp,hj,q⟩:=h;cases ro;obtain ⟨t,rfl⟩:=ri;obtain ⟨its,n,r,ho,hz⟩:=I.lst hp;obtain ⟨h1,h2,h3,h4⟩:=wZ hj;have hl:=r.length;have hn:=gP;have I':Mk X pins Z (kI H p (.lst (xs.set j v))) { s with heap:=s.heap.update p (XM (·.setIfInBounds j u)) }:=
  I.lstUpd hp ho (tu its n j u) (r.set rv j) (by rw [List.length_set];exact hz) s.toks
 by_cases h0:0<=k
 ·have hk:k.toNat=j:=by
   rw [seqIndex_of h0 h4] at h1;exact T7 h1
  exact PySem.W.ki_setAt ho h0 (by lia) (by rw [TX,<-hl];exact h4) (by rw [hk];exact ⟨_,I',q⟩)
 ·have hk:(k+(its.toArray.size:Int)).toNat=j:=by
   rw [seqIndex_neg (by lia) h3] at h1;rw [TX,<-hl];exact T7 h1
  exact PySem.W.ki_setBack ho (by lia) (by rw [TX,<-hl];exact h3) (by lia) (by rw [hk];exact ⟨_,I',q⟩)
theorem nj (lo hi:Option Int)(n:Nat):(XD lo hi Go n).1=((HT.sIx n 0 lo:Nat):Int)/\(XD lo hi Go n).2.1=((HT.sIx n n hi:Nat):Int)/\(XD lo hi Go n).2.2=1:=by
 refine ⟨?_,?_,rfl⟩
 ·cases lo with
  | none=>simp [XD,HT.sIx]
  | some i=>
   simp only [XD,HT.sIx,Option.getD_none,show (1:Int)>0 by decide,if_true];by_cases h:i<0
   ·simp only [h,if_true] <;> lia
   ·simp only [h,if_false] <;> lia
 ·cases hi with
  | none=>simp [XD,HT.sIx]
  | some i=>
   simp only [XD,HT.sIx,Option.getD_none,show (1:Int)>0 by decide,if_true];by_cases h:i<0
   ·simp only [h,if_true] <;> lia
   ·simp only [h,if_false] <;> lia
theorem lG (its:List Tw)(lo hi:Option Int):slicePick its.toArray lo hi Go=((its.drop (HT.sIx its.length 0 lo)).take (HT.sIx its.length its.length hi - HT.sIx its.length 0 lo)).toArray:=by
 obtain ⟨h1,h2,h3⟩:=nj lo hi its.toArray.size;unfold slicePick;rw [h1,h2,h3];simp only [sliceRange_one,pick_run,TX] <;> rfl
def Sv (K:Tt):V->Option Int->Option Int->Hp->VK->Prop:=fun x lo hi H Q=>∃ a xs,x=.ref a/\Am K H a xs/\∀ p,H p=Go->Q (.ref p) (kI H p (.lst (yR xs lo hi)))
theorem GP:Ds X (Sv X.K):=by
 intro pins s Z H x v vl vu lo hi sl Q I rx hs pl pu h;obtain ⟨a,xs,rfl,hx,q⟩:=h;cases rx;obtain ⟨its,r,ht,hz⟩:=I.list hx;have hlen:=r.length;refine ⟨"list",_,slot_list_getitem.lookup,ht.isList.typeIs,?_⟩;refine wpAny_getItem_list_slice ht.isList hs pl pu .none (by simp) ?_ (by rw [TX] <;> lia);rw [lG,<-hlen];refine ⟨.ref s.heap.objs.size,_,I.laid (t':=s.toks) (o:=.lst (yR xs lo hi)) (fun b ob q=>TJ _ q) (T6 _) ?_,rfl,q _<|I.hok.fresh<|T6 _⟩;exact ⟨Uc (jJ xs lo hi) hz,_,0,(r.drop<|HT.sIx xs.length 0 lo).take (HT.sIx xs.length xs.length hi - HT.sIx xs.length 0 lo),T9 _ rfl⟩
def yr:V->Bool
 | .non=>true
 | .bl _=>true
 | .int _=>true
 | .str _=>true
 | _=>false
def eqV:V->V->Bool
 | .non,.non=>true
 | .bl a,.bl b=>a==b
 | .bl a,.int b=>(if a then 1 else 0)==b
 | .int a,.bl b=>a==(if b then 1 else 0)
 | .int a,.int b=>a==b
 | .str a,.str b=>a==b
 | _,_=>false
theorem Ju {A:Ug}{s:Tz}{y x:V}{u v:Tw}(ry:RelV y u)(rx:RelV x v)(fy:yr y=true)(fx:yr x=true):UL A s u v (eqV y x):=by
 cases y with
 | non=>
  cases ry;cases x with
  | non=>cases rx;exact SeqAt.EqAt.same _
  | bl b=>cases rx;exact SeqAt.EqAt.none_bool b
  | int b=>obtain ⟨t,rfl⟩:=rx;exact SeqAt.EqAt.none_int b t
  | str b=>obtain ⟨t,rfl⟩:=rx;exact SeqAt.EqAt.none_str b t
  | _=>exact absurd (show false=true from fx) Ue
 | bl a=>
  cases ry;cases x with
  | non=>cases rx;exact SeqAt.EqAt.bool_none a
  | bl b=>cases rx;exact SeqAt.EqAt.bool_bool a b
  | int b=>obtain ⟨t,rfl⟩:=rx;exact SeqAt.EqAt.bool_int a b t
  | str b=>obtain ⟨t,rfl⟩:=rx;exact SeqAt.EqAt.bool_str a b t
  | _=>exact absurd (show false=true from fx) Ue
 | int a=>
  obtain ⟨t',rfl⟩:=ry;cases x with
  | non=>cases rx;exact SeqAt.EqAt.int_none a t'
  | bl b=>cases rx;exact SeqAt.EqAt.int_bool a t' b
  | int b=>obtain ⟨t,rfl⟩:=rx;exact SeqAt.EqAt.int_int a t' b t
  | str b=>obtain ⟨t,rfl⟩:=rx;exact SeqAt.EqAt.int_str a t' b t
  | _=>exact absurd (show false=true from fx) Ue
 | str a=>
  obtain ⟨t',rfl⟩:=ry;cases x with
  | non=>cases rx;exact SeqAt.EqAt.str_none a t'
  | bl b=>cases rx;exact SeqAt.EqAt.str_bool a t' b
  | int b=>obtain ⟨t,rfl⟩:=rx;exact SeqAt.EqAt.str_int a t' b t
  | str b=>obtain ⟨t,rfl⟩:=rx;exact SeqAt.EqAt.str_str a t' b t
  | _=>exact absurd (show false=true from fx) Ue
 | _=>exact absurd (show false=true from fy) Ue
theorem pC:cW X (.builtin "len") (fun xs H Q=>∃ p ys,xs=[.ref p]/\(Am X.K H p ys\/CG X.K H p ys)/\Q (.int ys.length) H):=by
 intro pins s Z H xs us Q I r h;obtain ⟨p,ys,rfl,hq,q⟩:=h;obtain ⟨u,rfl,rx⟩:=vals1 r;cases rx;have hn:=gP;rcases hq with hq | hq
 ·obtain ⟨its,r',pl,hz⟩:=I.list hq;have hlen:=r'.length;exact Calls.call_len_list pl.isList (by simp only [TX] <;> lia) ⟨.int ys.length,H,I.tok _,⟨s.toks+1,by rw [TX,hlen]⟩,q⟩
 ·obtain ⟨its,r',pl,hz⟩:=I.tuple hq;have hlen:=r'.length;exact len_tuple pl (by simp only [TX] <;> lia) ⟨.int ys.length,H,I.tok _,⟨s.toks+1,by rw [TX,hlen]⟩,q⟩
theorem cW.or {f:Tw}{r r':List V->Hp->VK->Prop}(h:cW X f r)(h':cW X f r'):cW X f (fun xs H Q=>r xs H Q\/r' xs H Q):=by
 intro pins s Z H xs us Q I rs q;rcases q with q | q
 ·exact h pins s Z H xs us Q I rs q
 ·exact h' pins s Z H xs us Q I rs q
theorem mK:cW X (.type "tuple") (fun xs H Q=>∃ p ys,xs=[.ref p]/\((Am X.K H p ys/\∀ l,H l=Go->Q (.ref l) (kI H l (.tup ys)))\/(CG X.K H p ys/\Q (.ref p) H))):=by
 intro pins s Z H xs us Q I r h;obtain ⟨p,ys,rfl,h⟩:=h;obtain ⟨u,rfl,rx⟩:=vals1 r;cases rx;rcases h with ⟨hq,q⟩ | ⟨hq,q⟩
 ·obtain ⟨its,r',pl,hz⟩:=I.list hq;have hlen:=r'.length;refine call_tuple_list pl.isList (fun h' kp=>?_) (by simp only [TX] <;> lia);have I1:Mk X pins Z H { s with heap:=h' }:=I.kept (t':=s.toks) kp;have I2:Mk X pins Z (kI H h'.objs.size (.tup ys)) { s with heap:=h'.push { cls:=.type "tuple",data:=.seq its.toArray } }:=
   I1.laid (t':=s.toks) (fun b o e=>TJ _ e) (T6 _) (show fG X.prog X.w _ _ _ (.tup ys) from ⟨hz,its,r',Ak.new _ _⟩)
  exact ⟨.ref h'.objs.size,_,I2,rfl,q _<|I1.hok.fresh<|T6 _⟩
 ·obtain ⟨its,r',pl,hz⟩:=I.tuple hq;exact call_tuple_same pl ⟨.ref p,H,I,rfl,q⟩
def tyV (K:Tt)(T:String)(x:V)(H:Hp):Prop:=match x with
 | .str _=>T = "str"
 | .int _=>T = "int"
 | .ref p=>(T = "list"/\∃ xs,Am K H p xs)\/(T = "tuple"/\∃ o,K.lookup p=Dn o/\o.cls=.type "tuple"/\o.dict=Go) \/
   (T = "dict"/\((∃ kvs,H p=Dn (.dK kvs))\/∃ kvs,H p=Dn (.dT kvs)))\/(T = "set"/\∃ S n,H p=Dn (.set S n))
 | _=>False
theorem Hx {pins:List (Addr×Obj)}{Z : St}{H:Hp}{s:Tz}{T:String}{x:V}{v:Tw}(I:Mk X pins Z H s)(r:RelV x v)(ty:tyV X.K T x H) :
  s.TypeIs v T/\∀ a,v=.ref a->∃ ob,s.heap.get? a=Dn ob/\ob.dict=Go:=by
 cases x with
 | str z=>
  obtain ⟨t,rfl⟩:=r;cases (show T = "str" from ty)
  exact ⟨Xh s z t,fun _ e=>nomatch e⟩
 | int i=>
  obtain ⟨t,rfl⟩:=r;cases (show T = "int" from ty)
  exact ⟨typeIs_int s i t,fun _ e=>nomatch e⟩
 | ref p=>
  cases r;rcases ty with ⟨rfl,xs,hq⟩ | ⟨rfl,o,hk,hc,hd⟩ | ⟨rfl,hk⟩ | ⟨rfl,S,n,hk⟩
  ·obtain ⟨its,_,pl,_⟩:=I.list hq;refine ⟨pl.isList.typeIs,fun a e=>?_⟩;cases e;obtain ⟨o,n,e,c,hd,_⟩:=pl;exact ⟨o,e,hd⟩
  ·refine ⟨⟨o,I.kIn p o hk,hc⟩,fun a e=>?_⟩;cases e;exact ⟨o,I.kIn _ o hk,hd⟩
  ·have z:∃ o,s.heap.get? p=Dn o/\o.ExactDict:=by
    rcases hk with ⟨kvs,hk⟩ | ⟨kvs,hk⟩
    ·obtain ⟨_,_,_,_,o,_,_,e,ex,_⟩:=I.hok p _ hk;exact ⟨o,e,ex⟩
    ·obtain ⟨_,_,_,_,o,_,_,e,ex,_⟩:=I.hok p _ hk;exact ⟨o,e,ex⟩
   obtain ⟨o,e,ex⟩:=z;refine ⟨⟨o,e,ex.1⟩,fun a e2=>?_⟩;cases e2;exact ⟨o,e,ex.2.1⟩
  ·obtain ⟨o,_,_,_,e,ex,_⟩:=I.hok p _ hk;refine ⟨⟨o,e,ex.1⟩,fun a e2=>?_⟩;cases e2;exact ⟨o,e,ex.2.1⟩
 | _=>exact VB ty
def tBM (K:Tt)(T:String)(r:V->List V->Hp->VK->Prop)(to:TE)(t:TA):TE:=fun Z H Q=>to Z H fun x H1=>tyV K T x H1/\t Z H1 fun xs H2=>r x xs H2 Q
variable {o e:Expr}{es:List Expr}{to:TE}{t:TA}{name:Str}{apos cpos:Pos}{T id:String}{r:V->List V->Hp->VK->Prop}
theorem OD (pa:PlainAttrs T)(slot:Slot T name id)(hty:typeOf (.builtin id)=pure (.type "method_descriptor"))(hm:MtR X id r)(ho:PE X o to)(ha:PA X (e::es) t)
  (hbase:attributeBase o name X.env (eval o X.env)=eval o X.env:=by rfl)
  (hfew:((Vy cpos (T3 (e::es) X.env)).all (fun x=>!x.1)&&(backToKw cpos (X6 [] X.env)).all (fun x=>x.1.isSome)
   && decide ((e::es).length+([]:List XJ).length+(if ([]:List XJ).isEmpty then 0 else 1)<30))=true:=by rfl)
  (hline:(apos.endLine==cpos.line)=true:=by rfl) (hs:T3 (e::es) X.env=(false,eval e X.env)::T3 es X.env:=by rfl) (hplain:(Vy cpos (T3 es X.env)).any (·.1)=false:=by rfl) :
  PE X (.Call (.Attribute o name apos) (e::es) [] cpos) (tBM X.K T r to t):=by
 intro pins s Z H Q I h;refine wpAny_Call_method_late hbase hfew hline rfl<|AP (ho pins s Z H _ I h) fun v s1 ⟨x,H1,I1,r1,ty,q1⟩=>?_
 obtain ⟨h1,h2⟩:=Hx I1 r1 ty;refine ⟨T,id,pa,slot,hty,h1,h2,?_⟩;have hA:=ha cpos pins s1 Z H1 _ I1 q1;rw [hs] at hA |-
 refine Calls.callWith_builtin (by show (false||(Vy cpos<|T3 es X.env).any (·.1))=false;rw [hplain] <;> rfl)<|Xd ?_
 exact AP hA fun us s2 ⟨vs,H2,I2,r2,q2⟩=>hm pins s2 Z H2 x vs v us Q I2 r1 r2 q2
/- xs.append(e), list.index on a module's tuple .. are MtR facts of 06m -/
end
def MtM (X:Cx)(id:String)(r:V->List V->Hp->VK->Prop):Prop:=
 ∀ (pins:List (Addr×Obj)) (s:Tz) (Z : St) (H:Hp) (x:V) (xs:List V) (v:Tw) (us:List Tw) (Q:VK),Mk X pins Z H s->RelV x v->Rj xs us->r x xs H Q ->
  Us (Uz X.prog X.w) X.A (call (.builtin id) (v::us)) (EP X pins Z Q) X.xe s
theorem Rj.one:∀ {x:V} {us:List Tw},Rj [x] us->∃ u,us=[u]/\RelV x u
 | _,_,.cons r .nil=>⟨_,rfl,r⟩
section
variable {X:Cx}{pins:List (Addr×Obj)}{Z : St}{H:Hp}{s:Tz}{l b:Addr}{xs ys zs:List V}
theorem Mk.lset {its its':List Tw}{n:Nat}{f:Array Tw->Array Tw}{t':Nat}(I:Mk X pins Z H s)(hH:H l=Dn (.lst xs))
  (e:s.heap.get? l=Dn { cls:=.type "list",data:=.seq its.toArray n }) (hf:f its.toArray=its'.toArray) (hv:Rj ys its') (hz:ys.length<=Ua) :
  Mk X pins Z (kI H l (.lst ys)) { s with heap:=s.heap.update l (XM f),toks:=t' }:=by
 have q:=PySem.IsL.update e f;rw [hf] at q;refine I.write (x:=l) (e:=l) (by rw [hH];exact trivial) (.inl rfl) (fun b' u hb hu=>(Ui s.heap (XM f)<|VR hb).trans hu) ⟨_,q⟩ ?_;exact ⟨hz,its',_,hv,q⟩
theorem Mk.lnew {its:List Tw}{t':Nat}(I:Mk X pins Z H s)(hv:Rj ys its)(hz:ys.length<=Ua) :
  Mk X pins Z (kI H s.heap.objs.size (.lst ys)) { s with heap:=s.heap.push { cls:=.type "list",data:=.seq its.toArray },toks:=t' }:=
 I.laid (fun _ _ q=>TJ _ q) (T6 _) ⟨hz,its,0,hv,T9 _ rfl⟩
theorem Mk.fresh (I:Mk X pins Z H s):H s.heap.objs.size=Go:=I.hok.fresh (T6 _)
theorem Mk.lstM (I:Mk X pins Z H s)(hH:H l=Dn (.lst xs)):xs.length<=Ua/\∃ (its:List Tw) (n:Nat),Rj xs its/\xs.length=its.length/\s.heap.get? l=Dn { cls:=.type "list",data:=.seq its.toArray n }:=by
 obtain ⟨z,its,n,r,e⟩:=I.hok l _ hH;exact ⟨z,its,n,r,r.length,e⟩
end
section
variable {X:Cx}
def uM:V->List V->Hp->VK->Prop:=fun x vs H Q=>∃ l xs y,x=.ref l/\vs=[y]/\H l=Dn (.lst xs)/\xs.length<Ua/\Q .non (kI H l (.lst (xs++[y])))
theorem oE:MtM X "list.append" uM:=by
 intro pins s Z H x vs v us Q I rx rv h;obtain ⟨l,xs,y,rfl,rfl,hH,hz,q⟩:=h;cases rx;obtain ⟨u,rfl,ru⟩:=rv.one;obtain ⟨z,its,n,r,hl,e⟩:=I.lstM hH;refine call_meets F.slot_list_append ⟨_,e,rfl⟩ F.entry_list_append (F.args_list_append_2 _ _) (PySem.list_append l its.toArray n u (by rw [TX];lia)) ⟨e,?_⟩;refine ⟨.non,_,I.lset (its':=its++[u]) hH e (by simp) (r.append<|.cons ru .nil) ?_,rfl,q⟩;rw [Vb,List.length_singleton];lia
def SJ:R2:=fun x y H Q=>∃ l b xs zs,x=.ref l/\y=.ref b/\H l=Dn (.lst xs)/\H b=Dn (.lst zs)/\xs.length+zs.length<=Ua/\∀ p,H p=Go->Q (.ref p) (kI H p (.lst (xs++zs)))
theorem Jw:CQ X (Vv .Add) SJ:=by
 intro pins s Z H x y v u Q I rx ry h;obtain ⟨l,b,xs,zs,rfl,rfl,hH,hB,hz,q⟩:=h;cases rx;cases ry;obtain ⟨z,its,n,r,hl,e⟩:=I.lstM hH;obtain ⟨z2,its2,n2,r2,hl2,e2⟩:=I.lstM hB;refine PySem.P.add_list e e2 ?_ (by rw [TX,TX];lia);have ea:its.toArray++its2.toArray=(its++its2).toArray:=by simp
 rw [ea];exact ⟨.ref _,_,I.lnew (t':=s.toks) (r.append r2) (by rw [Vb];lia),rfl,q _ I.fresh⟩
end
section
variable {prog:T8}{w:Uv}{A:Ug}{E:Tw->Tz->Prop}{s:Tz}
end
section
variable {X:Cx}
end
end L2
namespace Att
open PySem PySem.W PySem.Calls PyProof.Rows
theorem jN {P:Params}{h:Heap}:∀ (ns:List Int) (vs:List Tw),WellAll P h vs (ns.map WData.int)->IntsAre vs ns:=by
 intro ns;induction ns with
 | nil=>
  intro vs w;rw [Vw] at w;cases w;exact .nil
 | cons n ns ih=>
  intro vs w;rw [Uy] at w;cases w with
  | cons a b=>
   cases a;exact .cons _ _<|ih _ b
theorem xJ {l:OpenLaw}{n:Nat}(hn:l.most=Dn n){P:Params}{h:Heap}{args:List WData}{vals:List Tw}
  (hpre:l.row.toRowW.claim.pre args=true) (hwl:WellAll P h vals args) :
  ∃ a vs ns,vals=[Value.ref a]/\args=[WData.list (ns.map WData.int)]/\h.get? a=Dn { cls:=.type "list",data:=.seq vs.toArray }/\IntsAre vs ns/\ns.length<=n:=by
 have hsh:WShape.hasAll [] args [.list .int]=true:=(pre_splitW hpre).1;have hc:l.pre.holds [] { args:=args }=true:=(pre_splitW hpre).2;obtain ⟨d,r,rfl,h1,h2⟩:=hasAllW_cons hsh;obtain rfl:=hasAllW_nil h2;obtain ⟨xs,rfl,h3⟩:=hasW_list h1;obtain ⟨ns,rfl⟩:=items_int h3;have hlen:ns.length<=n:=by
  unfold OpenLaw.pre at hc;have h4:(WTm.not (.lt (.lit (.int (n:Int))) (.len (.arg 0)))).holds [] { args:=[.list (ns.map .int)] }=true:=by
   have h4:=(holds_andW hc).1;rw [hn] at h4;exact h4
  have h5:=condW_of h4 (w_not (w_lt w_lit (w_len_list (w_arg rfl))));rw [Ub] at h5;refine Nat.le_of_not_lt fun q=>?_;have q':(n:Int)<((ns.length:Nat):Int):=by lia
  first
   | (rw [decide_eq_true q'] at h5;exact absurd h5 (by decide))
   | (simp at h5;lia)
 cases hwl with
 | cons w1 w2=>
  cases w2;cases w1 with
  | list ho hall=>exact ⟨_,_,ns,rfl,rfl,ho,jN ns _ hall,hlen⟩
theorem u5 (l:OpenLaw)(args:List WData):l.row.toRowW.claim.post args (.bool true) args=true:=
 postW_of (r:=l.row.toRowW) (X:=(true==true))
  (show WShape.has [] (.bool true) .bool=true by first | rfl | decide | simp [WShape.has,WShape.arms,WShape.armsAll])
  (show (WTm.eq .res (.lit (.bool true))).value [] { args:=args,res:=Dn (.bool true),after:=args }=Dn (.bool (true==true)) from w_eq_bool (w_res rfl) w_lit) rfl
theorem qb {l:OpenLaw}{n:Nat}{q:T8}{loose:List Str}{XP:(Str->Option Tw)->Heap->Prop}{YP:Uv->Heap->Prop}{d:DefRec}
  (hn:l.most=Dn n) (hdf:d.params.defaults=[])
  (call:∀ (w:Uv) (s₀ s₁ : Tz) (mg mb:Str->Option Tw) (fa:Addr) (o:Obj) (pm cd doc:Tw) (a:Addr) (vs:List Tw) (ns:List Int),
   Ground q loose [] XP w s₀ mg mb s₁.heap->YP w s₁.heap ->
   s₁.heap.get? fa=Dn o->o.data=.func (docDef d.name d.params d.body d.scope pm cd doc)->s₁.heap.CodeRec cd d.name->mg d.name=Dn (.ref fa) ->
   s₁.heap.get? a=Dn { cls:=.type "list",data:=.seq vs.toArray }->IntsAre vs ns->ns.length<=n->s₁.gens = #[] ->
   codeAny (Uz l.prog w) callerA (.call (.ref fa) ⟨[.ref a],[]⟩) (fun r s'=>r=.ok (.ret (.bool true))/\OldK s₁.heap s'.heap/\s'.os=s₁.os/\X7 s'.gens) s₁) :
  WalkO q loose XP YP l.row.toRowW d [] (fun f vs=>PySem.call f vs):=by
 intro w s₀ s₁ mg mb G Y fa o pm cd doc dV kV ho hd hcd hD hmg hg args vals as hpre hlay hrd hwl hlo;obtain rfl:dV=.none:=Dflts.none hD hdf;obtain rfl:kV=.none:=Dflts.noKw hD;obtain ⟨a,vs,ns,rfl,rfl,hobj,hints,hlen⟩:=xJ hn hpre hwl;refine enter_call<|codeAny_mono (call w s₀ s₁ mg mb fa o pm cd doc a vs ns G Y ho (fd_plain hd) hcd hmg hobj hints hlen hg) fun r s' hq=>?_
 obtain ⟨rfl,h2,h3,h4⟩:=hq;exact ⟨.inl ⟨.bool true,.bool true,[],rfl,fun _=>rfl,.bool true,u5 l _,fun _=>⟨List.Pairwise.nil,fun _ hm=>(nomatch hm)⟩⟩,h2,h3,h4⟩
section
variable {prog:T8}{w:Uv}{A:Ug}{E:Tw->Tz->Prop}{s:Tz}{K:Frag}
def ledger (h:Heap)(L d:Addr):List (Addr×Obj):=(VD h.objs.size).filterMap fun a=>if a=L\/a=d then Go else (h.get? a).map fun o=>(a,o)
end
end Att
namespace L2
open PySem PySem.Spec PyProof.Rows
theorem oU:∀ {vs:List Tw} {ns:List Int},IntsAre vs ns->Rj (ns.map V.int) vs
 | _,_,.nil=>.nil
 | _,_,.cons n t h=>.cons ⟨t,rfl⟩ (oU h)
def Only (H:Hp):Prop:=∀ b,H b=Go\/∃ o xs,H b=Dn (.frz o (.lst xs))
theorem z6 {P:T8}{w:Uv}{K:Tt}{mg mb:Str->Option Tw}{CX:Dl}{k:Nat}{fa a:Addr}{fd:Uw}{x:Str}{sp:Sp}{s₁ : Tz}{vs:List Tw}{ns:List Int}
  (KX:K.In s₁.heap) (hns:s₁.heap.Ns T4 mg) (hb:s₁.heap.Ns builtinsNs mb) (hbb:∀ x:Str,x ≠ "__name__"->mb x=Wk x) (hlim:s₁.heap.NoLimit) (hg:s₁.gens = #[])
  (ha:s₁.heap.get? a=Dn { cls:=.type "list",data:=.seq vs.toArray }) (hi:IntsAre vs ns) (hl:ns.length<=Ua) (hr:gO k callerA)
  (F:∀ base:Heap,K.In base->base.Ns T4 mg->cH P w K mg base CX k fa fd [x] sp) (hbind:∀ (s:Tz) (u:Tw),BindsTo s fd ⟨[u],[]⟩ [(x,u)])
  (hsp:∀ H:Hp,Only H->Am K H a (ns.map V.int)->sp [.ref a] H (fun v _=>v=.bl true) fun _ _ _=>False)
  (hCX:∀ H e s',CX [] H s₁ (fun _ _ _=>False) e s'->False) :
  codeAny (Uz P w) callerA (.call (.ref fa) ⟨[.ref a],[]⟩) (fun r s'=>r=.ok (.ret (.bool true))/\OldK s₁.heap s'.heap/\s'.os=s₁.os/\X7 s'.gens) s₁:=by
 have rv:=oU hi;have lenV:=hi.length
 -- from an abstract heap in which nothing but the script may be tracked
 have core:∀ H:Hp,Only H->Am K H a (ns.map V.int)->CR P w H s₁.heap->(∀ b,H b≠Go->b=a)->(H a≠Go->K.lookup a=Go) ->
   codeAny (Uz P w) callerA (.call (.ref fa) ⟨[.ref a],[]⟩) (fun r s'=>r=.ok (.ret (.bool true))/\OldK s₁.heap s'.heap/\s'.os=s₁.os/\X7 s'.gens) s₁:=by
  intro H hO hS hok hA hK;have base_of:∀ {b:Addr} {o:Obj},s₁.heap.get? b=Dn o->H b=Go->(zM s₁.heap H).get? b=Dn o:=fun e n=>zR e n
  have noA:∀ {b:Addr} {o:Obj} {es:Array DictEntry} {ep:Nat},s₁.heap.get? b=Dn o->o.data=.dict es ep->H b=Go:=fun {b o es ep} e d=>by
   cases q:H b with
   | none=>rfl
   | some u=>
    have e':b=a:=hA b (by rw [q];simp);subst e';rw [ha] at e;cases e;have d':Data.seq vs.toArray _=Data.dict es ep:=d;cases d'
  have nsK:∀ {b:Addr} {m:Str->Option Tw},s₁.heap.Ns b m->(zM s₁.heap H).Ns b m:=fun {b m} ⟨o,es,ep,e,d,r⟩=>⟨o,es,ep,base_of e (noA e d),d,r⟩
  have hKb:K.In (zM s₁.heap H):=fun b o e=>base_of (KX b o e) (by
   cases q:H b with
   | none=>rfl
   | some u=>
    have e':b=a:=hA b (by rw [q];simp);subst e';rw [hK (by rw [q];simp)] at e;cases e)
  have hM:Mod K mg (zM s₁.heap H):=⟨hKb,nsK hns,⟨mb,nsK hb,hbb⟩,let ⟨mc,h1,h2⟩:=hlim;⟨mc,nsK h1,h2⟩⟩
  have e0:M5 P w K mg (zM s₁.heap H) callerA [] s₁ H:=⟨rfl,hM,fun b o e=>zaN e,Nat.le_of_eq (vd _ _),trivial,fun b hb=>absurd (show b∈([]:List Addr) from hb) (by simp),hok,.of_eq hg,fun v e=>(nomatch e)⟩
  refine codeAny_mono ((F _ hKb<|nsK hns).run callerA [] s₁ H ⟨[.ref a],[]⟩ [.ref a] [.ref a] _ _ hr e0 (hbind s₁<|.ref a) (.cons rfl .nil) (hsp H hO hS)) fun r s' h=>?_;cases r with
  | error e=>exact (hCX H e s' h).elim
  | ok fl=>
   cases fl with
   | next=>exact VB h
   | brk=>exact VB h
   | cont=>exact VB h
   | ret u=>
    obtain ⟨v,H',os,bare,un,hok',r',q⟩:=h;have q':v=.bl true:=q;subst q';obtain rfl:u=Value.bool true:=r';refine ⟨rfl,OldK.of_keep fun b o e=>?_,os,bare⟩;cases q:H b with
    | none=>exact un.keep b o e q (by intro z;exact absurd (show b∈([]:List Addr) from z) (by simp)) (by simp)
    | some u=>
     rcases hO b with z | ⟨ob,xs,z⟩
     ·rw [q] at z;cases z
     ·have z2:=un.frzs b ob _ z;obtain ⟨e1,_⟩:=hok b _ z;obtain ⟨e2,_⟩:=hok' b _ z2;rw [e] at e1;cases e1;exact e2
 cases hk:K.lookup a with
 | some o=>
  -- the script is one of the module's own objects
  have e:=KX a o hk;rw [ha] at e;cases e;refine core (fun _=>Go) (fun _=>.inl rfl) (.inr ⟨_,vs.toArray,_,hk,rfl,rfl,rfl,by rw [TX,lenV];exact hl,by simpa using rv⟩) (fun b u z=>by have z':(Go:Option HO)=Dn u:=z;cases z') (fun b z=>absurd rfl z) fun z=>absurd rfl z
 | none=>
  refine core (fun b=>if b=a then Dn (.frz { cls:=.type "list",data:=.seq vs.toArray } (.lst<|ns.map V.int)) else Go) (fun b=>?_) (.inl<|.inr ⟨{ cls:=.type "list",data:=.seq vs.toArray },if_pos rfl⟩) (fun b u z=>?_) (fun b z=>?_) fun _=>hk
  ·by_cases hb:b=a
   ·exact .inr ⟨_,_,if_pos hb⟩
   ·exact .inl<|if_neg hb
  ·by_cases hb:b=a
   ·have z':=(if_pos hb).symm.trans z;cases z'
    subst hb;exact ⟨ha,by rw [Ub];exact hl,vs,_,rv,ha⟩
   ·have z':=(if_neg hb).symm.trans z;cases z'
  ·by_cases hb:b=a
   ·exact hb
   ·exact absurd (if_neg hb) z
theorem yg {l:PySem.W.OpenLaw}{n k:Nat}{q:T8}{loose:List Str}{XP:(Str->Option Tw)->Heap->Prop}{YP:Uv->Heap->Prop}{d:DefRec}{K:Params->Tt}{CX:Uv->Dl}{sp:Uv->Sp}{x:Str}
  (hn:l.most=Dn n) (hn2:n<=Ua) (hdf:d.params.defaults=[]) (hr:gO k callerA)
  (hY:∀ (w:Uv) (h:Heap),YP w h->(K w.params).In h)
  (F:∀ (w:Uv) (mg:Str->Option Tw) (fa:Addr) (h:Heap),(K w.params).In h->h.Ns T4 mg->mg d.name=Dn (.ref fa) ->
   ∃ fd:Uw,(∀ (s:Tz) (u:Tw),BindsTo s fd ⟨[u],[]⟩ [(x,u)]) /\
    ∀ base:Heap,(K w.params).In base->base.Ns T4 mg->cH l.prog w (K w.params) mg base (CX w) k fa fd [x] (sp w))
  (hsp:∀ (w:Uv) (H:Hp) (a:Addr) (ns:List Int),ns.length<=n->Only H->Am (K w.params) H a (ns.map V.int)->sp w [.ref a] H (fun v _=>v=.bl true) fun _ _ _=>False)
  (hCX:∀ (w:Uv) (H:Hp) (s:Tz) (e:Tw) (s':Tz),CX w [] H s (fun _ _ _=>False) e s'->False) :
  PySem.W.WalkO q loose XP YP l.row.toRowW d [] (fun f vs=>PySem.call f vs):=by
 refine Att.qb hn hdf fun w s₀ s₁ mg mb fa o pm cd doc a vs ns G Y ho hd hcd hmg hobj hints hlen hg=>?_;have KX:=hY w _ Y;obtain ⟨fd,hb,hF⟩:=F w mg fa _ KX G.T.g hmg;exact z6 KX G.T.g G.T.b G.T.builtins G.T.nolimit hg hobj hints (Uc hlen hn2) hr hF hb (fun H hO hS=>hsp w H a ns hlen hO hS) fun H e s'=>hCX w H s₁ e s'
end L2
/- THE LAST THEOREM (shape; LID, My.* are yours):
   My.Adr: a structure of the addresses that your layer names (classes,functions);My.Txt K t: a structure (Prop) of the equations over K;
   My.txt_mk:{K} {implicit addresses ..} (e1:nsIn K T4 "law" = Dn (Dn (.ref f))) (e2:K.lookup f=Dn ⟨oc,od,.func (fnOf "law" "law" params body scope dV kV doc pm an cdv ct),sl⟩) (e3:codeIn K cdv "law" = true) .. : ∃ t,My.Txt K t
theorem PySem.Challenge.cw_LID_holds : PySem.Challenge.rw_LID.Holds := by
 w_on;o_law;k_head;(case hw=>w_witness2)
 k_fill
 refine L2.yg (l:=PySem.Challenge.rw_LID) (n:=63) (k:=40) (x := "script") (CX:=fun w=>..) (sp:=fun _=>My.sp_law) rfl (by decide) rfl ⟨rfl,by decide,by decide⟩ (fun w h Y=>PySem.W.kIn_of Y) ?F ?S ?C
 case F=>
  intro w mg fa h KX G hmg;have T:∃ t,My.Txt (L2.KOf KX) t:=by
   dsimp only [L2.KOf]                          -- K must stand as «<heap const> w.params» for k_is;refine' My.txt_mk ?e1 ?e2 ?e3 ..
   (case e1=>PySem.W.k_is)                    -- in the order: a name -> its address -> its object -> its parts
   (case e2=>PySem.W.k_is)
   ..
  obtain ⟨t,T⟩:=T;have e0:=hmg.symm.trans (Uj KX G T.law);cases e0                                       -- fa is the law's own address
  exact ⟨_,fun s u=>.of_eq rfl,fun base kb nb=>My.law_fn T kb nb⟩     -- if «.of_eq rfl» comes too early: refine' ⟨_,?b,fun base kb nb=>My.law_fn T kb nb⟩;exact fun s u=>.of_eq rfl
 case S=>exact fun w H a ns hl hO hS=>..
 case C=>exact ..
(the tactic k_is has no namespace: write k_is) -/
namespace L2
open PySem PySem.Spec PyProof.Rows
def jU (s:Stmt):Arguments:=match s with
 | .FunctionDef _ a _ _ _ _ _ _ _ _=>a
 | _=>{ posonlyargs:=[],args:=[],vararg:=Go,kwonlyargs:=[],kw_defaults:=[],kwarg:=Go,defaults:=[] }
def d9 (s:Stmt):List Stmt:=match s with
 | .FunctionDef _ _ b _ _ _ _ _ _ _=>b
 | _=>[]
def aH (s:Stmt):Scope:=match s with
 | .FunctionDef _ _ _ _ _ _ sc _ _ _=>sc
 | _=>{ kind:=.function,names:=[],isGenerator:=false,isCoroutine:=false }
abbrev Ao:Dl:=fun _ _ _ _ _ _=>False
abbrev E0:XK:=fun _ _ _=>False
theorem Lp {X:Cx}:Passes Ao X E0:=fun _ _ _ _ _ _ _ h=>h.elim
structure CV (K:Tt) (x qual:Str) (st:Stmt) (f:Addr) (fd:Uw):Prop where
 ex:∃ (oc:Tw) (od:Option Addr) (kV doc pm:Tw) (an:Option Addr) (cdv ct:Tw) (osl:Array (Option Tw)),
  fd=WT x qual (jU st) (d9 st) (aH st) .none kV doc pm an cdv ct/\K.lookup f=Dn ⟨oc,od,.func fd,osl⟩/\PySem.W.codeIn K cdv qual=true
 kp:Vq K (.ref f)=true
section
variable {P:T8}{w:Uv}{K:Tt}{mg:Str->Option Tw}{base:Heap}
theorem CV.ok {x qual:Str}{st:Stmt}{f:Addr}{fd:Uw}{N ps:List Str}{k:Nat}{sp:Sp}(F:CV K x qual st f fd)(S:aO N ps (aH st))(len:∀ vs H Q E,sp vs H Q E->vs.length=ps.length)
  (hbody:∀ (cdv:Tw) (A:Ug) (outer:List Env) (s:Tz) (H:Hp) (vs:List V) (Q:VK) (E:XK),gO k (A.deeper (envOfC qual (aH st) s.heap.objs.size f cdv))->sp vs H Q E ->
   ∃ t,DY (Bm Ao P w K mg base N qual (aH st) f cdv A outer s H E).nox (d9 st) t/\t { nx:=fun _ H'=>Q .non H',rt:=Q } (start N vs) H):cH P w K mg base Ao (k+1) f fd ps sp:=by
 obtain ⟨oc,od,kV,doc,pm,an,cdv,ct,osl,rfl,lk,hcd⟩:=F.ex;refine LC lk hcd S len fun A outer s H vs Q E hr hsp=>?_;obtain ⟨t,h,q⟩:=hbody cdv A outer s H vs Q E hr hsp;exact ⟨t,h.nox,q⟩
theorem CV.binds {x qual:Str}{st:Stmt}{f:Addr}{fd:Uw}{ps:List Str}(F:CV K x qual st f fd)
  (h:∀ (kV doc pm:Tw) (an:Option Addr) (cdv ct:Tw) (us:List Tw),us.length=ps.length->bindArgs (WT x qual (jU st) (d9 st) (aH st) .none kV doc pm an cdv ct) ⟨us,[]⟩=pure (ps.zip us)):Binds K fd ps []:=by
 obtain ⟨oc,od,kV,doc,pm,an,cdv,ct,osl,rfl,lk,hcd⟩:=F.ex;exact .all<|h kV doc pm an cdv ct
theorem bR {x qual:Str}{st:Stmt}{f:Addr}{oc:Tw}{od an:Option Addr}{osl:Array (Option Tw)}{kV doc pm cdv ct:Tw}(l:K.lookup f=Dn ⟨oc,od,.func (WT x qual (jU st) (d9 st) (aH st) .none kV doc pm an cdv ct),osl⟩)
  (c:PySem.W.codeIn K cdv qual=true) (k:Vq K (.ref f)=true):CV K x qual st f (WT x qual (jU st) (d9 st) (aH st) .none kV doc pm an cdv ct):=⟨⟨oc,od,kV,doc,pm,an,cdv,ct,osl,rfl,l,c⟩,k⟩
end
section
variable {X:Cx}
theorem pv (i:Nat){x:Str}{pos:Pos}(hN:X.N[i]?=Dn x:=by rfl)(hv:Vis X.env.scope x:=by first | exact Or.inl rfl | exact Or.inr (Or.inl rfl) | exact Or.inr (Or.inr rfl))(hd:(x==("__debug__" : Str))=false:=by decide)
  (hcd:(x==("__classdict__" : Str))=false:=by decide):PE X (.Name x pos) (Qd i):=Ij hN hv hd hcd
end
def Gd (env:Env):List (Str×Ul)->List (Str×Addr)->List (Str×Addr)
 | [],cs=>cs
 | (n,k)::r,cs=>Gd env r (if (k==NameKind.free)=true then (n,(env.cells.lookup n).getD 0)::cs else cs)
def Bf (scope:Scope)(env:Env):List (Str×Addr):=Gd env scope.names []
theorem lH {env:Env}{p:Str×Addr}:∀ (l:List (Str×Ul)) (cs:List (Str×Addr)),p∈Gd env l cs->p∈cs\/((p.1,NameKind.free)∈l/\p.2=(env.cells.lookup p.1).getD 0)
 | [],cs,h=>.inl h
 | (n,k)::r,cs,h=>by
  rcases lH r _ h with h | ⟨h1,h2⟩
  ·by_cases hk:(k==NameKind.free)=true
   ·rw [if_pos hk] at h;rcases Ur.mp h with rfl | h
    ·have e:k=NameKind.free:=by simpa using hk
     subst e;exact .inr ⟨UG,rfl⟩
    ·exact .inl h
   ·rw [if_neg hk] at h;exact .inl h
  ·exact .inr ⟨Uu _ h1,h2⟩
theorem qH {env:Env}{x:Str}:∀ (l:List (Str×Ul)) (cs:List (Str×Addr)),((x,NameKind.free)∈l\/∃ c,(x,c)∈cs)->∃ c,(x,c)∈Gd env l cs
 | [],cs,h=>by
  rcases h with h | h
  ·exact absurd h<|by simp
  ·exact h
 | (n,k)::r,cs,h=>by
  refine qH r _ ?_;rcases h with h | ⟨c,h⟩
  ·rcases Ur.mp h with e | h
   ·injection e with e1 e2
    subst e1;subst e2;exact .inr ⟨_,by rw [if_pos<|by rfl];exact UG⟩
   ·exact .inl h
  ·refine .inr ⟨c,?_⟩;by_cases hk:(k==NameKind.free)=true
   ·rw [if_pos hk];exact Uu _ h
   ·rw [if_neg hk];exact h
theorem dB {x:Str}{c:Addr}:∀ {l:List (Str×Addr)},(x,c)∈l->∃ c',l.lookup x=Dn c'
 | [],h=>absurd h (by simp)
 | (n,d)::r,h=>by
  by_cases e:x=n
  ·subst e;exact ⟨d,by simp [Um]⟩
  ·rcases Ur.mp h with q | q
   ·injection q with q1 _
    exact absurd q1 e
   ·obtain ⟨c',h'⟩:=dB q;refine ⟨c',?_⟩;have e':(x==n)=false:=beq_eq_false_iff_ne.mpr e;rw [Um,e'];exact h'
theorem uI {scope:Scope}{env:Env}(h:∀ y∈scope.names,y.2=NameKind.free->∃ c,env.cells.lookup y.1=Dn c):closureFor scope env=pure (Bf scope env):=by
 unfold closureFor Bf;have key:∀ (l:List (Str×Ul)) (cs:List (Str×Addr)),(∀ y∈l,y.2=NameKind.free->∃ c,env.cells.lookup y.1=Dn c) ->
   (forIn l cs (fun (x:Str×Ul) (cs:List (Str×Addr))=>(if (x.2==NameKind.free)=true then cellOf env x.1 >>= fun c=>pure (ForInStep.yield ((x.1,c)::cs)) else pure (ForInStep.yield cs):Sem (ForInStep (List (Str×Addr))))))=pure (Gd env l cs):=by
  intro l;induction l with
  | nil=>intro cs _;rfl
  | cons x r ih=>
   intro cs hl;obtain ⟨n,k⟩:=x;rw [List.forIn_cons];have hr:∀ y∈r,y.2=NameKind.free->∃ c,env.cells.lookup y.1=Dn c:=fun y hy=>hl y (Uu _ hy)
   by_cases hk:(k==NameKind.free)=true
   ·obtain ⟨c,hc⟩:=hl (n,k) UG (by simpa using hk);have hc':env.cells.lookup n=Dn c:=hc;have e1:cellOf env n=pure c:=by unfold cellOf;rw [hc']
    simp only [hk,if_true,e1,pure_bind];rw [ih _ hr];simp only [Gd,hk,if_true,hc',Option.getD_some]
   ·simp only [hk,if_false,pure_bind,Wz];rw [ih _ hr];simp only [Gd,hk,if_false,Wz]
 have q:=key scope.names [] h
 simpa using q
theorem d7 {y:Str}{c:Addr}:∀ {names:List (Str×Ul)} {n:Nat} {acc:List (Str×Addr)},(y,c)∈U6 n names acc↔(y,c)∈acc\/(y,c)∈U6 n names []
 | [],n,acc=>by simp [U6]
 | (name,kind)::r,n,acc=>by
  unfold U6;split
  ·rw [d7 (acc:=(name,n)::acc),d7 (acc:=[(name,n)])];simp only [Ur,Vn,or_false];exact ⟨fun h=>h.elim (fun h=>h.elim (fun h=>.inr<|.inl h) .inl) fun h=>.inr<|.inr h,fun h=>h.elim (fun h=>.inl<|.inr h) fun h=>h.elim (fun h=>.inl<|.inl h) .inr⟩
  ·exact d7
theorem pZ {y:Str}{c:Addr}:∀ {names:List (Str×Ul)} {n:Nat},(y,c)∈U6 n names []->(y,NameKind.cell)∈names
 | [],n,h=>by simp [U6] at h
 | (name,kind)::r,n,h=>by
  unfold U6 at h;split at h
  ·rename_i hk;rcases d7.mp h with q | q
   ·have hk':kind=.cell:=by simpa using hk
    simp only [Ur,Vn,or_false,Prod.mk.injEq] at q;rw [q.1,hk'];exact UG
   ·exact Uu _<|pZ q
  ·exact Uu _<|pZ h
theorem uY {y:Str}:∀ {names:List (Str×Ul)} {n:Nat},(y,NameKind.cell)∈names->∃ c,(y,c)∈U6 n names []
 | [],n,h=>by simp at h
 | (name,kind)::r,n,h=>by
  unfold U6;rcases Ur.mp h with q | q
  ·cases q;rw [if_pos (by rfl)];exact ⟨n,d7.mpr<|.inl UG⟩
  ·split
   ·obtain ⟨c,hc⟩:=uY (n:=n+1) q;exact ⟨c,d7.mpr<|.inr hc⟩
   ·exact uY q
theorem HD {h:Heap}{names:List (Str×Ul)}{y:Str}{c:Addr}(e:(y,c)∈U6 h.objs.size names []):(pushCells h names).IsCell c Go/\h.objs.size<=c:=
 (cellsFrom_ok names h h.objs.size [] ⟨fun _ _ z=>by simp at z,List.Pairwise.nil⟩ (T6 _)).empty y c e
theorem zT {n:Nat}{names:List (Str×Ul)}{y z:Str}{c:Addr}(e:(y,c)∈U6 n names [])(e':(z,c)∈U6 n names []):y=z:=by
 have key:∀ (k:Nat),∃ h:Heap,h.objs.size=k:=fun k=>by
  induction k with
  | zero=>exact ⟨{ (default:Heap) with objs:=#[] },rfl⟩
  | succ k ih=>
   obtain ⟨h,e⟩:=ih;exact ⟨h.push { cls:=.type "cell",data:=.cell Go },by rw [Heap.size_push,e]⟩
 obtain ⟨h,rfl⟩:=key n;exact name_of_addr (cellsFrom_ok names h h.objs.size [] ⟨fun _ _ z=>by simp at z,List.Pairwise.nil⟩<|T6 _).apart e e'
theorem uF {M:Model}{A:Ug}{E:Tw->Tz->Prop}{s:Tz}{scope:Scope}{globals:Addr}{closure:List (Str×Addr)}{qual:Str}{func:Option Addr}{code:Tw}{ar:Env}{builtins:Addr}{Q:Env->Tz->Prop}
  (hQ:Q { scope:=scope,locals:=s.heap.objs.size,globals:=globals,cells:=U6 (s.heap.objs.size+1) scope.names closure,qual:=qual,func:=func,code:=ar.code,frame:=ar.frame,builtins:=ar.builtins } { s with heap:=pushCells (s.heap.push { cls:=.type "dict",data:=.dict #[] }) scope.names }) :
  Us M A (newFunctionEnv scope globals closure [] qual func code (Dn ar) builtins) Q E s:=by
 simp only [newFunctionEnv,Option.isSome_some,if_true];refine Tv<|wpAny_alloc ?_
 refine Tv<|wpAny_layCells _ (fun name kind cells=>by cases hkc:kind==NameKind.cell <;> simp [hkc]) _ _ _ _ ?_
 rw [show ({ s with heap:=s.heap.push { cls:=.type "dict",data:=.dict #[] } }:Tz).heap.objs.size=s.heap.objs.size+1 from Heap.size_push ..];rw [List.forIn_nil];exact Tv<|TV<|TV hQ
def blk (X:Cx)(scope:Scope)(N':List Str)(C:Addr)(s:Tz)(H:Hp)(ex:List Addr):Cx where
 prog:=X.prog
 w:=X.w
 K:=X.K
 mg:=X.mg
 base:=X.base
 A:=X.A
 N:=N'
 s₀:=s
 H₀:=H
 env:=compEnvC scope (U6 (C+1) scope.names (Bf scope X.env)) C X.env
 outer:=X.stack
 stack:=X.stack
 ex:=ex
 fn:=fun y=>decide (scope.names.lookup y=Dn .cell)
 calm:=X.calm
 pn:=[]
 xe:=fun _ _=>False
structure fU (X:Cx) (scope:Scope) (x:List Str) (ix:List Nat):Prop where
 kind:scope.kind=.function
 own:∀ y∈x,scope.names.lookup y=Dn .local\/scope.names.lookup y=Dn .cell
 names:∀ y∈scope.names,scope.names.lookup y.1=Dn y.2
 free:∀ y∈scope.names,y.2=.free->X.env.scope.names.lookup y.1=Dn .cell\/X.env.scope.names.lookup y.1=Dn .free
 ixs:∀ i∈ix,scope.names.lookup (X.N.getD i "")=Dn .free
 nd:(x++ix.map fun i=>X.N.getD i "").Nodup
def qQ:List Str->Bool
 | []=>true
 | x::r=>!(r.contains x)&&qQ r
def Rb (sc:Scope)(N:List Str)(scope:Scope)(x:List Str)(ix:List Nat):Bool:=
 decide (scope.kind=.function)&&x.all (fun y=>decide (scope.names.lookup y=Dn .local)||decide (scope.names.lookup y=Dn .cell)) &&
 scope.names.all (fun y=>decide (scope.names.lookup y.1=Dn y.2)) &&
 scope.names.all (fun y=>!decide (y.2=.free)||decide (sc.names.lookup y.1=Dn .cell)||decide (sc.names.lookup y.1=Dn .free)) &&
 ix.all (fun i=>decide (scope.names.lookup (N.getD i "")=Dn .free))&&qQ (x++ix.map fun i=>N.getD i "")
theorem oX:∀ {l:List Str},qQ l=true->l.Nodup
 | [],_=>List.nodup_nil
 | x::r,h=>by
  unfold qQ at h;rw [Uo] at h;refine Xm.mpr ⟨fun hm=>?_,oX h.2⟩;have:r.contains x=true:=List.contains_iff_mem.mpr hm
  rw [this] at h;exact absurd h.1<|by decide
theorem bN {X:Cx}{scope:Scope}{x:List Str}{ix:List Nat}(h:Rb X.env.scope X.N scope x ix=true):fU X scope x ix:=by
 unfold Rb at h;simp only [Uo,Vh,decide_eq_true_eq,Bool.or_eq_true,Vj,decide_eq_false_iff_not] at h;obtain ⟨⟨⟨⟨⟨h1,h3⟩,h4⟩,h5⟩,h6⟩,h7⟩:=h;refine ⟨h1,fun y hy=>h3 y hy,fun y hy=>h4 y hy,fun y hy hk=>?_,fun i hi=>h6 i hi,oX h7⟩
 ·rcases h5 y hy with (q | q) | q
  ·exact absurd hk q
  ·exact .inl q
  ·exact .inr q
def uf (ix:List Nat)(Z : St):St:=ix.map fun i=>(Z[i]?).getD Go
abbrev d8 (X:Cx)(x:List Str)(ix:List Nat):List Str:=x++ix.map fun i=>X.N.getD i ""
theorem cR {scope:Scope}{env:Env}{x:Str}:∀ {names:List (Str×Ul)} {k:Ul},
  (names.map fun (p:Str×Ul)=>if (p.2==NameKind.free&&env.scope.kind==.function&&env.kindOf p.1==Dn .cell)=true then (p.1,NameKind.cell) else (p.1,p.2)).lookup x=Dn k ->
  names.lookup x=Dn k\/(k=.cell/\names.lookup x=Dn .free)
 | [],k,h=>by simp at h
 | (n,k')::r,k,h=>by
  rw [Uy] at h;cases hx:x==n with
  | true=>
   by_cases hc:(k'==NameKind.free&&env.scope.kind==.function&&env.kindOf n==Dn .cell)=true
   ·rw [if_pos hc] at h;simp only [Um,hx] at h;have hk:k'=.free:=by
     have:=(Bool.and_eq_true_iff.mp (Bool.and_eq_true_iff.mp hc).1).1
     simpa using this
    subst hk;cases h;exact .inr ⟨rfl,by simp [Um,hx]⟩
   ·rw [if_neg hc] at h;simp only [Um,hx] at h;cases h;exact .inl<|by simp [Um,hx]
  | false=>
   have h':(r.map fun (p:Str×Ul)=>if (p.2==NameKind.free&&env.scope.kind==.function&&env.kindOf p.1==Dn .cell)=true then (p.1,NameKind.cell) else (p.1,p.2)).lookup x=Dn k:=by
    by_cases hc:(k'==NameKind.free&&env.scope.kind==.function&&env.kindOf n==Dn .cell)=true
    ·rw [if_pos hc] at h;simpa only [Um,hx] using h
    ·rw [if_neg hc] at h;simpa only [Um,hx] using h
   rcases cR (scope:=scope) (env:=env) h' with q | ⟨q1,q2⟩
   ·exact .inl<|by simpa only [Um,hx] using q
   ·exact .inr ⟨q1,by simpa only [Um,hx] using q2⟩
theorem iZ {env:Env}{x:Str}:∀ {names:List (Str×Ul)},names.lookup x=Dn .free ->
  (names.map fun (p:Str×Ul)=>if (p.2==NameKind.free&&env.scope.kind==.function&&env.kindOf p.1==Dn .cell)=true then (p.1,NameKind.cell) else (p.1,p.2)).lookup x=Dn .cell \/
  (names.map fun (p:Str×Ul)=>if (p.2==NameKind.free&&env.scope.kind==.function&&env.kindOf p.1==Dn .cell)=true then (p.1,NameKind.cell) else (p.1,p.2)).lookup x=Dn .free
 | [],h=>by simp at h
 | (n,k')::r,h=>by
  rw [Uy];cases hx:x==n with
  | true=>
   simp only [Um,hx] at h;cases h;by_cases hc:(NameKind.free==NameKind.free&&env.scope.kind==.function&&env.kindOf n==Dn .cell)=true
   ·rw [if_pos hc];exact .inl (by simp [Um,hx])
   ·rw [if_neg hc];exact .inr (by simp [Um,hx])
  | false=>
   have h':r.lookup x=Dn .free:=by simpa only [Um,hx] using h
   have ih:=iZ (env:=env) h';by_cases hc:(k'==NameKind.free&&env.scope.kind==.function&&env.kindOf n==Dn .cell)=true
   ·rw [if_pos hc];simpa only [Um,hx] using ih
   ·rw [if_neg hc];simpa only [Um,hx] using ih
theorem iY {env:Env}{x:Str}:∀ {names:List (Str×Ul)},names.lookup x=Dn .cell ->
  (names.map fun (p:Str×Ul)=>if (p.2==NameKind.free&&env.scope.kind==.function&&env.kindOf p.1==Dn .cell)=true then (p.1,NameKind.cell) else (p.1,p.2)).lookup x=Dn .cell
 | [],h=>by simp at h
 | (n,k')::r,h=>by
  rw [Uy];cases hx:x==n with
  | true=>
   simp only [Um,hx] at h;cases h;rw [if_neg (by simp)];simp [Um,hx]
  | false=>
   have ih:=iY (env:=env) (show r.lookup x=Dn .cell by simpa only [Um,hx] using h);split
   ·simpa only [Um,hx] using ih
   ·simpa only [Um,hx] using ih
section
variable {X:Cx}{pins:List (Addr×Obj)}{Z : St}{H:Hp}{s:Tz}{scope:Scope}{x:List Str}{ix:List Nat}{C:Addr}{fp:List Addr}
theorem Hu (B:fU X scope x ix){y:Str}(hy:y∈x):Loc (relabel scope X.env) y/\(decide (scope.names.lookup y=Dn .cell)=true\/(relabel scope X.env).names.lookup y=Dn .local):=by
 rcases B.own y hy with q | q
 ·have:=lookup_relabel_local (env:=X.env) q
  exact ⟨.inl this,.inr this⟩
 ·exact ⟨.inr<|iY (env:=X.env) q,.inl<|decide_eq_true q⟩
theorem mF (I:Mk X pins Z H s)(B:fU X scope x ix):∀ y∈scope.names,y.2=NameKind.free->∃ c,X.env.cells.lookup y.1=Dn c:=fun y hy hk=>I.ok.has y.1 (B.free y hy hk)
theorem Ji (I:Mk X pins Z H s)(B:fU X scope x ix){y:Str}{c:Addr}(h:(y,c)∈Bf scope X.env):X.env.cells.lookup y=Dn c:=by
 rcases lH scope.names [] h with q | ⟨q1,q2⟩
 ·exact absurd q<|by simp
 ·obtain ⟨c',e⟩:=mF I B _ q1 rfl;have e':X.env.cells.lookup y=Dn c':=e;have q2':c=(X.env.cells.lookup y).getD 0:=q2;rw [e',Option.getD_some] at q2';rw [e',q2']
theorem iU (I:Mk X pins Z H s)(B:fU X scope x ix){y:Str}{c:Addr}(h:(U6 (C+1) scope.names (Bf scope X.env)).lookup y=Dn c):X.env.cells.lookup y=Dn c\/(y,c)∈U6 (C+1) scope.names []:=
 (d7.mp (Ve h)).imp_left (Ji I B)
theorem v7 {n:Nat}{names:List (Str×Ul)}{y:Str}{c:Addr}(e:(y,c)∈U6 n names []):n<=c:=by
 have key:∀ (names:List (Str×Ul)) (n:Nat),(y,c)∈U6 n names []->n<=c:=by
  intro names;induction names with
  | nil=>intro n h;simp [U6] at h
  | cons a r ih=>
   intro n h;obtain ⟨name,kind⟩:=a;unfold U6 at h;split at h
   ·rcases d7.mp h with q | q
    ·simp only [Ur,Vn,or_false,Prod.mk.injEq] at q;exact Nat.le_of_eq q.2.symm
    ·exact Uc (XR n)<|ih (n+1) q
   ·exact ih n h
 exact key names n e
theorem Gb (B:fU X scope x ix){y:Str}{c:Addr}(hf:scope.names.lookup y=Dn .free)(h:(y,c)∈U6 (C+1) scope.names []):False:=by
 have:=B.names _ (pZ h)
 simp only at this;rw [hf] at this;cases this
theorem rA {y:Str}(h:scope.names.lookup y=Dn .free\/scope.names.lookup y=Dn .cell):∃ c,(U6 (C+1) scope.names (Bf scope X.env)).lookup y=Dn c:=by
 rcases h with h | h
 ·obtain ⟨c,hc⟩:=qH (env:=X.env) scope.names [] (.inl (Ve h));exact dB<|d7.mpr<|.inl hc
 ·obtain ⟨c,hc⟩:=uY (n:=C+1) (Ve h);exact dB<|d7.mpr<|.inr hc
theorem Jc (I:Mk X pins Z H s)(B:fU X scope x ix)(hC:s.heap.objs.size<=C)(hf:∀ b∈fp,uz X pins H b)(ho:∀ b∈fp,∃ o,s.heap.get? b=Dn o) :
  (blk X scope (d8 X x ix) C s H fp).Ok where
 mod:=I.ok.mod
 kind:=B.kind
 glob:=I.ok.glob
 blt:=I.ok.blt
 above:=hC
 inj:=fun y z c h1 h2=>by
  have far:∀ {y z:Str},X.env.cells.lookup y=Dn c->(z,c)∈U6 (C+1) scope.names []->False:=fun {y z} e q=>by
   obtain ⟨v,w⟩:=I.cell y c e;exact absurd (TQ w.lt<|Uc (Uc hC<|XR C)<|v7 q)<|Vl _
  rcases iU I B h1 with q1 | q1
  ·rcases iU I B h2 with q2 | q2
   ·exact I.ok.inj y z c q1 q2
   ·exact (far q1 q2).elim
  ·rcases iU I B h2 with q2 | q2
   ·exact (far q2 q1).elim
   ·exact zT q1 q2
 has:=fun y hy=>by
  have hy':(relabel scope X.env).names.lookup y=Dn .cell\/(relabel scope X.env).names.lookup y=Dn .free:=hy;rcases hy' with q | q
  ·rcases cR (scope:=scope) (env:=X.env) q with r | ⟨_,r⟩
   ·exact rA<|.inr r
   ·exact rA<|.inl r
  ·rcases cR (scope:=scope) (env:=X.env) q with r | ⟨r,_⟩
   ·exact rA<|.inl r
   ·cases r
 cab:=fun y c hf h=>by
  have hf':scope.names.lookup y=Dn .cell:=of_decide_eq_true hf;rcases d7.mp (Ve h) with q | q
  ·rcases lH scope.names [] q with q | ⟨q1,_⟩
   ·exact absurd q<|by simp
   ·have:=B.names _ q1
    simp only at this;rw [hf'] at this;cases this
  ·exact Uc (Uc hC<|XR C)<|v7 q
 hd:=I.ok.hd
 qt:=I.qt0
 frames:=I.ok.frames
 stk:=.inl rfl
 exf:=fun b hb=>by
  obtain ⟨o,e⟩:=ho b hb;refine ⟨Ud<|TQ (TY e) hC,fun y c h=>?_⟩;rcases iU I B h with q | q
  ·exact (hf b hb).2.2.2.2.1 y c q
  ·intro z;rw [z] at q;exact absurd (TQ (TY e)<|Uc (Uc hC<|XR C)<|v7 q)<|Vl _
 bs:=I.bs
 bsz:=Uc I.ok.bsz I.sz
 noex:=fun b o e hb=>by
  rcases (hf b hb).2.2.2.1 with q | q
  ·exact I.ok.noex b o e q
  ·exact absurd (TQ (TY e)<|Uc I.ok.bsz q)<|Vl _
 exfs:=fun b hb z=>by
  obtain ⟨_,h1,h2,_⟩:=hf b hb;rcases Ur.mp (I.stkSub b z) with e | e
  ·exact h1 e
  ·exact h2 e
 funs:=I.stack
 frf:=I.stkFree
theorem Gp {D:Addr}{h1:Heap}{tk:Nat}{m:Str->Option Tw}(I:Mk X pins Z H s)(B:fU X scope x ix)(ok:(blk X scope (d8 X x ix) C s H fp).Ok)
  (hD:D=s.heap.objs.size) (k:∀ b o,s.heap.get? b=Dn o->h1.get? b=Dn o) (hl:h1.get? D=Dn { cls:=.type "list",data:=.seq #[] }) (hns:h1.Ns C m) (hCD:C≠D) (hC:s.heap.objs.size<=C) (hce:∀ y c,(y,c)∈U6 (C+1) scope.names []->h1.IsCell c Go) :
  Mk (blk X scope (d8 X x ix) C s H fp) [] (U4 x.length Go++uf ix Z) (kI H D (.lst [])) { s with heap:=h1,toks:=tk } where
 ok:=ok
 os:=rfl
 bare:=I.bare
 base:=Un.laid k (by rw [hD];exact T6 _) (I.hok.fresh (by rw [hD];exact T6 _))
 loc:=by
  refine ⟨m,hns,fun i y v e1 e2 e3=>?_⟩;by_cases hix:i<x.length
  ·rw [Vg (by simpa using hix),Wx,if_pos hix] at e2;cases e2
  ·rw [U8 (by simpa using hix),List.length_replicate] at e2;have e1':(ix.map fun i=>X.N.getD i "")[i - x.length]?=Dn y:=by
    have z:(x++ix.map fun i=>X.N.getD i "")[i]?=Dn y:=e1
    rwa [U8 (by simpa using hix)] at z
   generalize i - x.length=j at e1' e2;unfold uf at e2;rw [Ut] at e1' e2;cases hj:ix[j]? with
   | none=>rw [hj] at e2;cases e2
   | some i'=>
    rw [hj] at e1' e2;simp only [Option.map_some,Option.some.injEq] at e1' e2;have hi:Z[i']?=Dn (Dn v):=by
     cases q:Z[i']? with
     | none=>rw [q] at e2;cases e2
     | some z=>rw [q] at e2;exact congrArg Dn e2
    have hlt:i'<X.N.length:=by
     have:=(Uq.mp hi).1
     rw [I.len] at this;exact this
    have hn:X.N[i']?=Dn y:=by
     rw [Vz,Uk hlt,Option.getD_some] at e1';rw [Uk hlt,e1']
    have hfree:scope.names.lookup y=Dn .free:=by
     have:=B.ixs i' (VP hj)
     rw [e1'] at this;exact this
    have kx:=B.free _ (Ve hfree) rfl;have vis:Vis X.env.scope y:=by
     rcases kx with q | q
     ·exact .inr<|.inl q
     ·exact .inr<|.inr q
    obtain ⟨m',_,hl'⟩:=I.loc;obtain ⟨u,r,lk⟩:=hl' i' y v hn hi vis;refine ⟨u,r,?_⟩;rcases lk with ⟨q,_⟩ | ⟨_,c,hc,hcell⟩
    ·have q':X.env.scope.names.lookup y=Dn .local:=q;rcases kx with z | z <;> (rw [q'] at z;cases z)
    ·obtain ⟨c',hc'⟩:=rA (X:=X) (C:=C) (.inl hfree);have e:=(iU I B hc').resolve_right fun z=>Gb B hfree z
     rw [hc] at e;cases e;refine .inr ⟨iZ (env:=X.env) hfree,c,hc',?_⟩;obtain ⟨o,ho,hd⟩:=hcell;exact ⟨o,k c o ho,hd⟩
 cell:=fun y c h=>by
  rcases iU I B h with q | q
  ·obtain ⟨v,o,ho,hd⟩:=I.cell y c q;exact ⟨v,o,k c o ho,hd⟩
  ·exact ⟨Go,hce y c q⟩
 free:=by
  show kI H D (.lst []) C=Go;rw [aB hCD];exact I.hok.fresh hC
 freeC:=fun y c h=>by
  show kI H D (.lst []) c=Go;rcases iU I B h with q | q
  ·obtain ⟨v,o,ho,hd⟩:=I.cell y c q;rw [aB (by rw [hD];exact Ud (TY ho))];exact I.freeC y c q
  ·have g:s.heap.objs.size<c:=TQ (Nat.lt_succ_of_le hC) (v7 q);rw [aB (by rw [hD];exact W9 g)];exact I.hok.fresh<|Xx g
 pin:=fun p hp=>absurd (show p∈([]:List (Addr×Obj)) from hp) (by simp)
 hok:=I.hok.laid k (by rw [hD];exact T6 _) ⟨Wh _,[],0,.nil,hl⟩
 len:=by
  show (U4 x.length Go++uf ix Z).length=(d8 X x ix).length;simp [uf]
theorem vZ {Z':St}{H':Hp}{s':Tz}{h':Heap}{p':List (Addr×Obj)}(I:Mk X pins Z H s)(hC:s.heap.objs.size<=C)(hf:∀ b∈fp,uz X pins H b)(J:Mk (blk X scope (d8 X x ix) C s H fp) p' Z' H' s')
  (hs:Wt C s'.heap h'):Mk X pins Z H' { s' with heap:=h' }:=by
 have I1:Mk X pins Z H' s':=I.call' (ch:=fp) J.os J.base J.hok J.bare fun b hb=>⟨(hf b hb).2.2.2.1,(hf b hb).2.1,(hf b hb).2.2.2.2.1,(hf b hb).2.2.2.2.2⟩
 refine I1.turned (it:=C) (t':=s'.toks) (fun b o hb e=>(hs.2 b hb).trans e) J.free (W9<|TQ I.lt hC) (.inr<|Uc I.sz hC) (fun y c e z=>?_)<|fun p hp z=>?_
 ·obtain ⟨v,q⟩:=I.cell y c e;exact absurd (TQ q.lt (by rw [z];exact hC))<|Vl _
 ·exact absurd (TQ (TY (I.pin p hp).1) (by rw [z];exact hC))<|Vl _
end
def Hh (X:Cx)(ifs:List Expr)(t:TT):Prop:=
 ∀ (pins:List (Addr×Obj)) (s:Tz) (Z : St) (H:Hp) (Q:Bool->Hp->Prop),Mk X pins Z H s->t Z H Q ->
  Us (Uz X.prog X.w) X.A (forIn ifs true fun c r=>if r=true then do let ok <-isTrue c X.env (eval c X.env);pure (ForInStep.yield ok) else pure (ForInStep.yield r)) (TP X pins Z Q) X.xe s
def S7:TT:=fun _ H Q=>Q true H
theorem zax {X:Cx}:Hh X [] S7:=fun _ _ _ H _ I h=>TV ⟨H,I,h⟩
theorem zba {X:Cx}{c:Expr}{t:TT}(h:PT X c t):Hh X [c] t:=fun pins s Z H Q I hq=>by
 rw [List.forIn_cons];refine Tv ?_;rw [if_pos rfl];refine Tv<|AP (h pins s Z H Q I hq) fun b s1 q=>TV ?_
 exact TV q
def Nm (n:Nat)(own:V->Hp->List V->Prop)(ix:List Nat)(tt:TT)(te:TE)(Z : St)(Q:VK)(J:It)(H1:Hp)(D:Addr):Prop:=∃ W:Nat->Nat->List V->Hp->Prop,(∃ m,W 0 m [] (kI H1 D (.lst [])))/\∀ i m ys H,W i m ys H->H D=Dn (.lst ys) ->
 (J.stop i H/\Q (.ref D) H)\/(J.go i H/\ys.length<Ua/\∀ x H',J.yld i H x H'->∃ vs,own x H' vs/\vs.length=n/\tt (vs.map Dn++uf ix Z) H' fun b H2=>
  if b=true then te (vs.map Dn++uf ix Z) H2 (fun v H3=>H3 D=Dn (.lst ys)/\∃ m',m'<m/\W (i+1) m' (ys++[v]) (kI H3 D (.lst (ys++[v]))))
  else H2 D=Dn (.lst ys)/\∃ m',m'<m/\W (i+1) m' ys H2)
def wLC (n:Nat)(own:V->Hp->List V->Prop)(ix:List Nat)(tt:TT)(te:TE)(Z : St)(Q:VK)(J:It)(H1:Hp):Prop:=∀ D,H1 D=Go->Nm n own ix tt te Z Q J H1 D
def tLC (n:Nat)(own:V->Hp->List V->Prop)(ix:List Nat)(wi:TI)(tt:TT)(te:TE):TE:=fun Z H Q=>wi Z H fun J H1=>wLC n own ix tt te Z Q J H1
def Dh (n:Nat)(own:V->Hp->List V->Prop):TG:=fun v Z H N=>∃ vs,own v H vs/\vs.length=n/\N (vs.map Dn++Z.drop n) H
theorem v8 {P:T8}{w:Uv}{A:Ug}{R:Result->Tz->Prop}{s:Tz}{elt target iter:Expr}{ifs:List Expr}{scope:Scope}{pos:Pos}{it acc:Tw}{env:Env}(Iv:Nat->Tz->Prop)
  (turn:∀ n s,Iv n s->Us (Uz P w) A (pyNext it) (fun r s₁=>match r with
   | none=>R (.ok .next) s₁
   | some v=>Us (Uz P w) A (letOwnedTupleGo target it v) (fun _ t₁=>Us (Uz P w) A (assign target env v) (fun _ s₂=>
     Us (Uz P w) A (forIn ifs true fun c r=>if r=true then do let ok <-isTrue c env (eval c env);pure (ForInStep.yield ok) else pure (ForInStep.yield r)) (fun ok s₃=>
      if ok=true then Us (Uz P w) A (eval elt env) (fun x s₄=>
       Us (Uz P w) A (call (.builtin "list.append") [acc,x]) (fun _ s₅=>∃ m,m<n/\Iv m s₅) (notedBy (Uz P w) A env fun e s'=>R (.error e) s') s₄) (notedBy (Uz P w) A env fun e s'=>R (.error e) s') s₃
      else ∃ m,m<n/\Iv m s₃) (notedBy (Uz P w) A env fun e s'=>R (.error e) s') s₂) (notedBy (Uz P w) A env fun e s'=>R (.error e) s') t₁) (notedBy (Uz P w) A env fun e s'=>R (.error e) s') s₁) (notedBy (Uz P w) A env fun e s'=>R (.error e) s') s)
  (n:Nat) (h:Iv n s):codeAny (Uz P w) A (.compLoop (.ListComp elt [⟨target,iter,ifs,0⟩] scope pos) 0 it acc env) R s:=by
 refine codeAny_loop rfl Iv (fun n s hI=>?_) n h;show Us _ A ((compTurn (.ListComp elt [⟨target,iter,ifs,0⟩] scope pos) 0 it acc env).onRaise (fun x=>do noteFrame x env;theTreesLotGoes x)) _ _ s;refine wpAny_noted ?_;rw [compTurn_list];refine Tv<|wpAny_standAt<|Tv<|Vi (turn n s hI) (fun r s₁ k₁=>?_) fun _ _ z=>z
 cases r with
 | none=>exact TV k₁
 | some v=>
  refine Tv<|Vi k₁ (fun _ t₁ k₂=>Tv<|Vi k₂ (fun _ s₂ k₃=>Tv<|Vi k₃ (fun ok s₃ k₄=>?_) fun _ _ z=>z) fun _ _ z=>z) fun _ _ z=>z
  cases ok with
  | false=>exact TV ⟨rfl,k₄⟩
  | true=>exact Tv (Tv (Vi k₄ (fun x s₄ k₅=>Tv (Vi k₅ (fun _ s₅ k₆=>TV (TV ⟨rfl,k₆⟩)) fun _ _ z=>z)) fun _ _ z=>z))
section
variable {X:Cx}{scope:Scope}{x:List Str}{ix:List Nat}{elt iter tg:Expr}{ifs:List Expr}{px pos:Pos}{wi:TI}{tt:TT}{te:TE}{own:V->Hp->List V->Prop}
theorem vY {pins:List (Addr×Obj)}{Z : St}{s₂ : Tz}{H2:Hp}{it:Addr}{fp:List Addr}{tn:Nat->Heap->Prop}{J:It}{Q:VK}{E:Tw->Tz->Prop}{RR:Tw->Addr->Result->Tz->Prop}
  (hc:J.cm=true->X.calm=true) (B:fU X scope x ix) (hg:∀ C s H fp,PG (blk X scope (d8 X x ix) C s H fp) tg (Dh x.length own)) (ht:∀ C s H fp,Hh (blk X scope (d8 X x ix) C s H fp) ifs tt) (he:∀ C s H fp,PE (blk X scope (d8 X x ix) C s H fp) elt te)
  (I2:Mk X pins Z H2 s₂) (T:Turn X.prog X.w X.K tg J fp it tn) (st2:tn 0 s₂.heap) (f2:∀ b∈fp,uz X pins H2 b) (hq:wLC x.length own ix tt te Z Q J H2)
  (hRR:∀ D C s' Z' H' p',s₂.heap.objs.size<=C->Mk (blk X scope (d8 X x ix) C s₂ H2 fp) p' Z' H' s'->Q (.ref D) H'->RR (.ref D) C (.ok .next) s') :
  Us (Uz X.prog X.w) X.A (newList []) (fun acc s₃=>Us (Uz X.prog X.w) X.A (newFunctionEnv scope X.env.globals (Bf scope X.env) [] X.env.qual Go .none (Dn X.env)) (fun cenv s₄=>
   codeAny (Uz X.prog X.w) X.A (.compStart (.ListComp elt [⟨tg,iter,ifs,0⟩] scope pos) 0 (.ref it) acc { cenv with scope:=relabel scope X.env }) (RR acc cenv.locals) s₄) E s₃) E s₂:=by
 refine U5<|uF ?_
 dsimp only;generalize hH2:s₂.heap.push { cls:=.type "list",dict:=Go,data:=.seq ([]:List Tw).toArray }=HH;generalize hh1:pushCells (HH.push { cls:=.type "dict",data:=.dict #[] }) scope.names=h₁;have hns₁ : h₁.Ns HH.objs.size (fun _=>Go):=by
  obtain ⟨o,es,ep,ho,r⟩:=Heap.Ns.new HH (.type "dict");exact ⟨o,es,ep,by rw [<-hh1];exact pushCells_keeps _ _ _ _ ho,r⟩
 have hkeep:∀ b o,HH.get? b=Dn o->h₁.get? b=Dn o:=fun b o e=>by rw [<-hh1];exact pushCells_keeps _ _ _ _ (TJ _ e)
 have hce:∀ y c,(y,c)∈U6 (HH.objs.size+1) scope.names []->h₁.IsCell c Go:=fun y c e=>by
  rw [<-hh1];exact (HD (h:=HH.push { cls:=.type "dict",data:=.dict #[] }) (by rw [Heap.size_push];exact e)).1
 have hC:HH.objs.size=s₂.heap.objs.size+1:=by rw [<-hH2,Heap.size_push]
 have hDC:s₂.heap.objs.size≠HH.objs.size:=by rw [hC];exact Ud (Nat.lt_succ_self _)
 have hCle:s₂.heap.objs.size<=HH.objs.size:=by rw [hC];exact XR _
 have old:∀ b o,s₂.heap.get? b=Dn o->h₁.get? b=Dn o:=fun b o e=>hkeep b o (hH2 ▸ TJ _ e)
 have hacc:h₁.get? s₂.heap.objs.size=Dn { cls:=.type "list",data:=.seq #[] }:=hkeep _ _ (hH2 ▸ T9 _ rfl);have hob:∀ b∈fp,∃ o,s₂.heap.get? b=Dn o:=fun b hb=>let ⟨o,e,_⟩:=T.obj 0 _ st2 b hb;⟨o,e⟩
 have ok:=Jc (C:=HH.objs.size) I2 B hCle f2 hob;obtain ⟨W,⟨m0,w0⟩,turn⟩:=hq s₂.heap.objs.size (I2.hok.fresh (T6 _))
 -- the iterator's records, in the block
 have stat:∀ {H':Hp},(∀ b∈fp,H' b=Go)->∀ b∈fp,uz (blk X scope (d8 X x ix) HH.objs.size s₂ H2 fp) [] H' b:=fun {H'} hn b hb=>by
  obtain ⟨o,e⟩:=hob b hb;obtain ⟨_,g1,g2,g3,g4,g5⟩:=f2 b hb;refine ⟨hn b hb,Ud<|TQ (TY e) hCle,fun z=>?_,.inl hb,fun y c h=>?_,fun p hp=>absurd (show p∈([]:List (Addr×Obj)) from hp)<|by simp⟩
  ·rcases Ur.mp (I2.stkSub b z) with q | q
   ·exact g1 q
   ·exact g2 q
  ·rcases iU I2 B h with q | q
   ·exact g4 y c q
   ·intro z;rw [z] at q;exact absurd (TQ (TY e)<|Uc (Uc hCle<|XR _)<|v7 q)<|Vl _
 have loop:∀ s₃ : Tz,s₃ = { s₂ with heap:=h₁ } ->
   codeAny (Uz X.prog X.w) X.A (.compLoop (.ListComp elt [⟨tg,iter,ifs,0⟩] scope pos) 0 (.ref it) (.ref s₂.heap.objs.size) (compEnvC scope (U6 (HH.objs.size+1) scope.names (Bf scope X.env)) HH.objs.size X.env))
    (RR (.ref s₂.heap.objs.size) HH.objs.size) s₃:=by
  rintro s₃ rfl;have J0:=Gp (fp:=fp) (C:=HH.objs.size) (tk:=s₂.toks) I2 B ok rfl old hacc hns₁ (VR hDC) hCle hce;have fr0:∀ b∈fp,kI H2 s₂.heap.objs.size (.lst []) b=Go:=fun b hb=>by
   obtain ⟨o,e⟩:=hob b hb;rw [aB (Ud (TY e))];exact (f2 b hb).1
  refine v8 (fun k s'=>∃ i ys H',Mk (blk X scope (d8 X x ix) HH.objs.size s₂ H2 fp) [] (U4 x.length Go++uf ix Z) H' s'/\tn i s'.heap/\(∀ b∈fp,H' b=Go)/\H' s₂.heap.objs.size=Dn (.lst ys)/\W i k ys H') ?_ m0
   ⟨0,[],_,J0,T.keep 0 _ _ st2 (fun b _ o e=>old b o e),fr0,aM,w0⟩
  rintro n s₄ ⟨i,ys,H4,I4,st4,fr4,hD4,w4⟩;rcases turn i n ys H4 w4 hD4 with ⟨stop,qn⟩ | ⟨go,hz,step⟩
  ·refine AP (T.done (blk X scope (d8 X x ix) HH.objs.size s₂ H2 fp) rfl rfl rfl hc i [] s₄ _ H4 _ I4 (stat fr4) st4 stop) fun r s5 ⟨hr,I5⟩=>?_;subst hr;exact hRR _ _ s5 _ H4 [] hCle I5 qn
  ·refine AP (T.item (blk X scope (d8 X x ix) HH.objs.size s₂ H2 fp) rfl rfl rfl hc i [] s₄ _ H4 _ I4 (stat fr4) st4 go) fun r s5 ⟨u,hr,h5⟩=>?_;subst hr;refine Vi h5 (fun _ s6 ⟨xv,H6,I6,r6,y6,st6,fr6⟩=>?_) fun _ _ z=>z;have I6':=I6.pinned (stat fr6) (T.obj _ _ st6);obtain ⟨vs,hov,hvl,q7⟩:=step xv H6 y6;have fgt:∀ {Z9:St} {H9:Hp} {s9:Tz} {p9:List (Addr×Obj)},Z9.length=x.length->Mk (blk X scope (d8 X x ix) HH.objs.size s₂ H2 fp) p9 (Z9++uf ix Z) H9 s9->Mk (blk X scope (d8 X x ix) HH.objs.size s₂ H2 fp) p9 (U4 x.length Go++uf ix Z) H9 s9:=fun {Z9 H9 s9 p9} hl I9=>
    I9.weak (by simp [hl]) fun k v e=>by
     by_cases hk:k<x.length
     ·rw [Vg (by simpa using hk),Wx,if_pos hk] at e;cases e
     ·rw [U8 (by simpa using hk),List.length_replicate] at e;rw [U8 (by rw [hl];lia),hl];exact e
   refine Vi (hg _ _ _ _ _ s6 _ H6 xv u (fun Z9 H9=>Z9=vs.map Dn++(U4 x.length (Go:Option V)++uf ix Z).drop x.length/\H9=H6) I6' r6 ⟨vs,hov,hvl,rfl,rfl⟩) (fun _ s7 ⟨Z7,H7,I7,e7,e8⟩=>?_) fun _ _ z=>z.elim;subst e7 e8;rw [List.drop_left' (by simp)] at I7;have hml:(vs.map Dn).length=x.length:=by rw [Ub];exact hvl
   refine Vi (ht _ _ _ _ _ s7 _ H7 _ I7 q7) (fun b s8 ⟨H8,I8,q8⟩=>?_) fun _ _ z=>z.elim;have pinned:∀ {H9:Hp} {s9:Tz} {Z9:St},Mk (blk X scope (d8 X x ix) HH.objs.size s₂ H2 fp) ([]++oA fp s6.heap) Z9 H9 s9->tn (i+1) s9.heap/\∀ b∈fp,H9 b=Go:=fun {H9 s9 Z9} I9=>by
    refine ⟨T.keep _ _ _ st6 fun b hb o e=>(I9.pin (b,o)<|U0 _<|U0 _<|fu hb e).1,fun b hb=>?_⟩;obtain ⟨o,e,d⟩:=T.obj _ _ st6 b hb;exact (I9.pin (b,o)<|U0 _<|U0 _<|fu hb e).2.1
   cases b with
   | false=>
    rw [if_neg Ue] at q8 |-
    obtain ⟨hD8,m',hm,w8⟩:=q8;obtain ⟨t8,f8⟩:=pinned I8;exact ⟨m',hm,i+1,ys,H8,fgt hml I8.unpinned,t8,f8,hD8,w8⟩
   | true=>
    rw [if_pos rfl] at q8 |-
    refine Vi (he _ _ _ _ _ s8 _ H8 _ I8 q8) (fun u9 s9 ⟨v9,H9,I9,r9,hD9,m',hm,w9⟩=>?_) fun _ _ z=>z.elim;refine Vi (oE (X:=blk X scope (d8 X x ix) HH.objs.size s₂ H2 fp) _ s9 _ H9 (.ref s₂.heap.objs.size) [v9] _ [u9] (fun _ H'=>H'=kI H9 s₂.heap.objs.size (.lst<|ys++[v9])) I9 rfl (.cons r9 .nil) ⟨_,ys,v9,rfl,rfl,hD9,hz,rfl⟩) (fun _ s10 ⟨_,H10,I10,_,e10⟩=>?_) fun _ _ z=>z.elim;subst e10;obtain ⟨t10,f10⟩:=pinned I10;exact ⟨m',hm,i+1,ys++[v9],_,fgt hml I10.unpinned,t10,f10,aM,w9⟩
 exact codeAny_compStart_list (loop _ rfl)<|T.self _ 0 _ _ _ (T.keep 0 _ _ st2<|fun b _ o e=>old b o e)<|loop _ rfl
theorem Qn (ix:List Nat)(hc:X.calm=true)(B:fU X scope x ix)(hg:∀ C s H fp,PG (blk X scope (d8 X x ix) C s H fp) tg (Dh x.length own))(hi:PI X tg iter wi)(ht:∀ C s H fp,Hh (blk X scope (d8 X x ix) C s H fp) ifs tt)(he:∀ C s H fp,PE (blk X scope (d8 X x ix) C s H fp) elt te)
  (hs:∀ v,V3 iter X.env v=pure v:=by intro _;rfl):PE X (.ListComp elt [⟨tg,iter,ifs,0⟩] scope pos) (tLC x.length own ix wi tt te):=by
 intro pins s Z H Q I h;rw [eval_ListComp];refine wpAny_comprehension_free (use:=Go) rfl hs (uI<|mF I B) B.kind (fun y hy hk=>by rw [B.names y hy,hk]) ?_;refine AP (hi pins s Z H _ I h) fun v s1 h1=>AP h1 fun itv s2 h2=>?_;obtain ⟨it,fp,tn,J,H2,e,I2,T,st2,f2,hq⟩:=h2;subst e;refine vY (RR:=fun acc C=>compPost (Uz X.prog X.w) X.A X.xe Go (EP X pins Z Q) acc C) (fun _=>hc) B hg ht he I2 T st2 f2 hq fun D C s' Z' H' p' hC I' q'=>?_;obtain ⟨m,hn,_⟩:=I'.loc;exact ⟨m,hn,fun h' hs'=>⟨.ref D,H',vZ I2 hC f2 I' hs',rfl,q'⟩⟩
theorem Kp (ix:List Nat){i:Nat}{y:Str}{py spos:Pos}(hN:X.N.Nodup)(hi':X.N[i]?=Dn y)(hy:Loc X.env.scope y)(hc:X.calm=true)(B:fU X scope x ix)(hg:∀ C s H fp,PG (blk X scope (d8 X x ix) C s H fp) tg (Dh x.length own))(hi:PI X tg iter wi)
  (ht:∀ C s H fp,Hh (blk X scope (d8 X x ix) C s H fp) ifs tt) (he:∀ C s H fp,PE (blk X scope (d8 X x ix) C s H fp) elt te)
  (hsw:XS (.ListComp elt [⟨tg,iter,ifs,0⟩] scope pos) (Dn (.Name y py)) spos.line X.env=pure true:=by rfl)
  (hf:X.fn y=true\/X.env.scope.names.lookup y=Dn .local:=by first | exact .inl rfl | exact .inr rfl | assumption)
  (hs:∀ v,V3 iter X.env v=pure v:=by intro _;rfl):PS X (.Assign [.Name y py] (.ListComp elt [⟨tg,iter,ifs,0⟩] scope pos) spos) (Le (tLC x.length own ix wi tt te) (vO i)):=by
 intro pins s Z H D I h;rw [exec_Assign_Name_used _ _ _ _ hsw];refine Tv<|wpAny_standAt<|Tv ?_
 show Us _ X.A (do let _ <-comprehension (.ListComp elt [⟨tg,iter,ifs,0⟩] scope pos) scope X.env _ (newList []) false (eval iter X.env) (Dn (assign (.Name y py) X.env))) _ _ s;refine Tv<|Vi (wpAny_comprehension_free (use:=Dn (assign (.Name y py) X.env)) (Q:=fun _ s'=>SP X pins D .next s') rfl hs (uI<|mF I B) B.kind (fun y hy hk=>by rw [B.names y hy,hk]) ?_) (fun _ s' hq=>TV<|TV hq) fun _ _ e=>e
 refine AP (hi pins s Z H _ I h) fun v s1 h1=>AP h1 fun itv s2 h2=>?_;obtain ⟨it,fp,tn,J,H2,e,I2,T,st2,f2,hq⟩:=h2;subst e;refine vY (RR:=fun acc C=>compPost (Uz X.prog X.w) X.A X.xe (Dn<|assign (.Name y py) X.env) (fun _ s'=>SP X pins D .next s') acc C) (fun _=>hc) B hg ht he I2 T st2 f2 hq fun D' C s' Z' H' p' hC I' q'=>?_;obtain ⟨m,hn,_⟩:=I'.loc;have I3:Mk X pins Z H' s':=vZ (h':=s'.heap) I2 hC f2 I' (.refl ..);show Us _ X.A (assign (.Name y py) X.env (.ref D')) _ _ s';have cneC:∀ z c,X.env.cells.lookup z=Dn c->c≠C:=fun z c e q=>by
  obtain ⟨v,w⟩:=I2.cell z c e;exact absurd (TQ w.lt (by rw [q];exact hC))<|Vl _
 have lneC:X.env.locals≠C:=Ud (TQ I2.lt hC);refine wpAny_assign_Name<|oh (v:=.ref D') I3 hN hi' hy rfl (fun s'' I'' hsb=>?_) hf
 obtain ⟨a,hsb,ha⟩:=hsb;have haC:C≠a:=by
  rcases ha with rfl | ha
  ·exact VR lneC
  ·exact VR<|cneC _ _ ha
 refine ⟨m,hn.sameBut hsb haC,fun h' hs'=>⟨_,H',?_,q'⟩⟩;refine I''.turned (it:=C) (t':=s''.toks) (fun b o hb e=>(hs'.2 b hb).trans e) I'.free (VR lneC) (.inr<|Uc I2.sz hC) cneC<|fun p hp z=>?_
 exact absurd (TQ (TY (I2.pin p hp).1) (by rw [z];exact hC))<|Vl _
end
def Sm (n:Nat)(i:Int):Prop:=i.natAbs<2^n
theorem Sm.bits {n:Nat}{i:Int}(h:Sm n i):Builtin.Int.intBits i<=n:=by
 unfold Builtin.Int.intBits;by_cases e:i=0
 ·subst e;exact Wh _
 ·have e':(i==0)=false:=beq_eq_false_iff_ne.mpr e;rw [e'];have h0:i.natAbs≠0:=by lia
  have:=(Nat.log2_lt h0).mpr h
  simp only [Wz,if_false];lia
theorem Sm.mono {m n:Nat}{i:Int}(h:Sm m i)(hmn:m<=n):Sm n i:=TQ h (Xk (by decide) hmn)
theorem Sm.mul {m n:Nat}{i j:Int}(h:Sm m i)(h':Sm n j):Sm (m+n) (i*j):=by
 unfold Sm at *;rw [Int.natAbs_mul,Nat.pow_add];by_cases e:j.natAbs=0
 ·rw [e,Nat.mul_zero];exact Nat.mul_pos (Nat.pow_pos<|by decide)<|Nat.pow_pos<|by decide
 ·exact TQ (Nat.mul_lt_mul_of_pos_right h<|Nat.pos_of_ne_zero e)<|Nat.mul_le_mul_left _<|Xx h'
theorem Sm.add {m n:Nat}{i j:Int}(h:Sm m i)(h':Sm n j):Sm (max m n+1) (i+j):=by
 have h1:=h.mono (Nat.le_max_left m n);have h2:=h'.mono (Nat.le_max_right m n);unfold Sm at *;rw [Nat.pow_succ];lia
theorem Sm.neg {n:Nat}{i:Int}(h:Sm n i):Sm n (-i):=by unfold Sm at *;rw [Int.natAbs_neg];exact h
theorem Sm.sub {m n:Nat}{i j:Int}(h:Sm m i)(h':Sm n j):Sm (max m n+1) (i - j):=by
 rw [Int.sub_eq_add_neg];exact h.add h'.neg
theorem Sm.zero {n:Nat}:Sm n 0:=Nat.pow_pos (by decide)
theorem Fg {n:Nat}{i:Int}(h1:-(2^n:Int)<i)(h2:i<(2^n:Int)):Sm n i:=by
 unfold Sm;have e:((2^n:Nat):Int)=(2:Int)^n:=by simp
 lia
def n8 (i j:Int):Prop:=∃ m n,m<=1000000/\n<=1000000/\Sm m i/\Sm n j
theorem n8.ok {i j:Int}(h:n8 i j):IntMulOk i j:=by
 obtain ⟨m,n,hm,hn,h1,h2⟩:=h;have e:(2:Nat)^20=1048576:=by decide
 exact .of_bits (by have:=h1.bits;lia) (by have:=h2.bits;lia)
def vg (_ j:Int):Prop:=j≠0/\∃ n,n<=8000/\Sm n j
theorem Fe {n:Nat}{j:Int}(hn:n<=8000)(h:Sm n j):j.natAbs.log2<9000:=by
 by_cases e:j.natAbs=0
 ·rw [e];decide
 ·have:=(Nat.log2_lt e).mpr h
  lia
section
variable {X:Cx}
theorem Fy:CQ X (Vv .Mult) (rI n8 fun i j=>.int (i*j)):=opI fun _ _ _ _ _ _ _ hc q=>mul_int q hc.ok
theorem yd:CQ X (Vv .FloorDiv) (rI vg fun i j=>.int (i.fdiv j)):=opI fun i j _ _ _ _ _ hc q=>by
 obtain ⟨h1,n,hn,h2⟩:=hc;exact floordiv_int h1 q<|.inl<|PyProof.noPylong_of_log2<|Fe hn h2
theorem nQ:∀ {bs:List Bool} {its:List Tw} {i:Nat} {v:Tw},Rj (bs.map V.bl) its->its[i]?=Dn v->∃ b,bs[i]?=Dn b/\v=.bool b
 | [],_,_,_,.nil,e=>by simp at e
 | b::bs,_,0,_,.cons r _,e=>by simp at e;subst e;exact ⟨b,rfl,r⟩
 | _::bs,_,i+1,v,.cons _ t,e=>by
  obtain ⟨b,h1,h2⟩:=nQ (i:=i) (v:=v) t (by simpa using e);exact ⟨b,by simpa using h1,h2⟩
theorem tG:∀ (bs:List Bool),((VD bs.length).all fun i=>(bs[i]?).getD true)=bs.all id:=fun bs=>by
 rw [Xn,Vh,Vh];constructor
 ·intro h b hb;obtain ⟨i,hi,rfl⟩:=List.mem_iff_getElem.mp hb;have:=h i (List.mem_range.mpr hi)
  simpa [hi] using this
 ·intro h i hi;have hi':=List.mem_range.mp hi;have:=h bs[i] (List.getElem_mem hi')
  simpa [hi'] using this
theorem u0 (hc:X.calm=true):cW X (.builtin "all") (fun xs H Q=>∃ (p:Addr) (bs:List Bool),xs=[.ref p]/\Am X.K H p (bs.map V.bl)/\Q (.bl (bs.all id)) H):=by
 intro pins s Z H xs us Q I r h;obtain ⟨p,bs,rfl,hS,q⟩:=h;obtain ⟨u,rfl,ru⟩:=vals1 r;cases ru;obtain ⟨its,rv,pl,hz⟩:=I.list hS;have hlen:its.length=bs.length:=by rw [<-rv.length,Ub]
 have hl:=pl.isList;have hlt:p<s.heap.objs.size:=by obtain ⟨_,e,_⟩:=hl;exact TY e
 refine call_all_walk<|wpAny_pyIter_list hl ?_
 refine ⟨s.heap.objs.size,[s.heap.objs.size,p],[s.heap.objs.size],its.toArray.size,_,_,fun i=>(bs[i]?).getD true,rfl,Walks.list (A:=X.A.in1) (I.ok.hd hc) _ p (Ud hlt) its.toArray,
  ⟨⟨_,T9 _ rfl,rfl,rfl⟩,hl.push _⟩,fun i v s' Q' E' hP hQ=>?_,fun h' tk hk=>?_⟩
 ·obtain ⟨b,e,rfl⟩:=nQ rv (by simpa using hP);simp only [e,Option.getD_some] at hQ;exact Xf hQ
 ·have e:((VD its.toArray.size).all fun i=>(bs[i]?).getD true)=bs.all id:=by
   rw [TX,hlen];exact tG bs
  rw [e];refine ⟨.bl<|bs.all id,H,I.kept (h':=h') (t':=tk)<|fun b x e=>?_,rfl,q⟩;exact hk b x (fun hm=>by rw [Va.mp hm] at e;exact Vl _ (TY e))<|TJ _ e
def QC (K:Tt)(H:Hp):V->String->Bool->Prop
 | .int _,T,b=>(T = "int"/\b=true)\/(T = "bool"/\b=false)\/(T = "tuple"/\b=false)\/(T = "list"/\b=false)
 | .bl _,T,b=>(T = "int"/\b=true)\/(T = "bool"/\b=true)\/(T = "tuple"/\b=false)\/(T = "list"/\b=false)
 | .str _,T,b=>(T = "int"/\b=false)\/(T = "bool"/\b=false)\/(T = "tuple"/\b=false)\/(T = "list"/\b=false)
 | .non,T,b=>(T = "int"/\b=false)\/(T = "bool"/\b=false)\/(T = "tuple"/\b=false)\/(T = "list"/\b=false)
 | .ref p,T,b=>(∃ xs,CG K H p xs/\((T = "int"/\b=false)\/(T = "bool"/\b=false)\/(T = "tuple"/\b=true)\/(T = "list"/\b=false))) \/
   (∃ xs,Am K H p xs/\((T = "int"/\b=false)\/(T = "bool"/\b=false)\/(T = "tuple"/\b=false)\/(T = "list"/\b=true)))
 | _,_,_=>False
theorem zO:cW X (.builtin "isinstance") (fun xs H Q=>∃ x T b,xs=[x,.ty T]/\QC X.K H x T b/\Q (.bl b) H):=by
 intro pins s Z H xs us Q I r h;obtain ⟨x,T,b,rfl,hi,q⟩:=h;obtain ⟨u,w',rfl,rx,ru⟩:=vals2 r;cases ru;have k0:EP X pins Z Q (.bool b) s:=⟨.bl b,H,I,rfl,q⟩
 have k1:EP X pins Z Q (.bool b) { s with toks:=s.toks+1 }:=⟨.bl b,H,I.tok _,rfl,q⟩
 cases x with
 | int i=>
  obtain ⟨t,rfl⟩:=rx;rcases hi with ⟨rfl,rfl⟩ | ⟨rfl,rfl⟩ | ⟨rfl,rfl⟩ | ⟨rfl,rfl⟩
  ·exact IsiPair.int_int k0
  ·exact IsiPair.int_bool k1
  ·exact IsiPair.int_tuple k1
  ·exact IsiPair.int_list k1
 | bl i=>
  cases rx;rcases hi with ⟨rfl,rfl⟩ | ⟨rfl,rfl⟩ | ⟨rfl,rfl⟩ | ⟨rfl,rfl⟩
  ·first | exact IsiPair.bool_int k0 | exact IsiPair.bool_int k1
  ·first | exact IsiPair.bool_bool k0 | exact IsiPair.bool_bool k1
  ·exact IsiPair.bool_tuple k1
  ·exact IsiPair.bool_list k1
 | str i=>
  obtain ⟨t,rfl⟩:=rx;rcases hi with ⟨rfl,rfl⟩ | ⟨rfl,rfl⟩ | ⟨rfl,rfl⟩ | ⟨rfl,rfl⟩
  ·exact IsiPair.str_int k1
  ·exact IsiPair.str_bool k1
  ·exact IsiPair.str_tuple k1
  ·exact IsiPair.str_list k1
 | non=>
  cases rx;rcases hi with ⟨rfl,rfl⟩ | ⟨rfl,rfl⟩ | ⟨rfl,rfl⟩ | ⟨rfl,rfl⟩
  ·exact IsiPair.NoneType_int k1
  ·exact IsiPair.NoneType_bool k1
  ·exact IsiPair.NoneType_tuple k1
  ·exact IsiPair.NoneType_list k1
 | ref p=>
  cases rx;rcases hi with ⟨xs,hS,hi⟩ | ⟨xs,hS,hi⟩
  ·obtain ⟨its,_,⟨o,e,c,_⟩,_⟩:=I.tuple hS;rcases hi with ⟨rfl,rfl⟩ | ⟨rfl,rfl⟩ | ⟨rfl,rfl⟩ | ⟨rfl,rfl⟩
   ·exact IsiPair.tuple_int e c k1
   ·exact IsiPair.tuple_bool e c k1
   ·exact IsiPair.tuple_tuple e c k0
   ·exact IsiPair.tuple_list e c k1
  ·obtain ⟨its,_,pl,_⟩:=I.list hS;obtain ⟨o,e,c,_⟩:=pl.isList;rcases hi with ⟨rfl,rfl⟩ | ⟨rfl,rfl⟩ | ⟨rfl,rfl⟩ | ⟨rfl,rfl⟩
   ·exact IsiPair.list_int e c k1
   ·exact IsiPair.list_bool e c k1
   ·exact IsiPair.list_tuple e c k1
   ·exact IsiPair.list_list e c k0
 | _=>exact (show False from hi).elim
end
inductive W where
 | non | bl (b:Bool) | int (i:Int) | str (x:Str) | ty (n:String) | tup (ws:List W) | lst (ws:List W) | loc (n:Nat) | kls (ws:List W) | exc (n:Str)
 | exa (n:Str) (ws:List W)
 | fnv (f:Addr) (i:Nat)
inductive Cell where
 | lst (ws:List W) | obj (C:Addr) (fs:List (Str×W)) | dct (kvs:List (Key×W))
 | dtt (kvs:List (List Int×W))
structure Gh where
 nx:Nat
 c:Nat->Option Cell
structure Mu where
 f:Nat->Option Addr
 hid:Addr->Prop
def Sq (K:Tt)(p:Addr)(xs:List V):Prop:=
 ∃ (o:Obj) (its:Array Tw) (n:Nat),K.lookup p=Dn o/\o.cls=.type "list"/\o.dict=Go/\o.data=.seq its n/\its.size<=Ua/\Rj xs its.toList
def Frz (H:Hp)(O : Mu)(p:Addr)(xs:List V):Prop:=H p=Dn (.lst xs)/\(∀ n,O.f n≠Dn p)/\¬ O.hid p
def Frk (K:Tt)(H:Hp)(p:Addr)(xs:List V):Prop:=(∃ o,H p=Dn (.frz o (.lst xs)))\/Sq K p xs
theorem Frz.sq {K:Tt}{H:Hp}{O : Mu}{p:Addr}{xs:List V}(h:Frz H O p xs):Am K H p xs:=.inl (.inl h.1)
theorem Frk.sq {K:Tt}{H:Hp}{p:Addr}{xs:List V}(h:Frk K H p xs):Am K H p xs:=by
 rcases h with h | h
 ·exact .inl<|.inr h
 ·exact .inr h
def Ed:List Tw:=[.type "ValueError",.type "Exception",.type "BaseException",.type "object"]
def mD (K:Tt)(C:Addr)(n:Str):Bool:=Vc K T4 n==Dn (Dn (.ref C))&&PySem.W.typeIn K (.ref C)==Dn (.type "type")&&match Wb K C with
 | some cd=>cd.name==n&&cd.mro.contains (.type "BaseException")
 | none=>false
def mJ (K:Tt)(C:Addr)(n:Str):Bool:=mD K C n&&(match Wb K C with
 | some cd=>(match cd.mro with
  | [.ref C',.ref R,a,b,c,d]=>C'==C&&[a,b,c,d]==Ed&&Vc K T4 "EaselError"==Dn (Dn (.ref R))&&(Wb K R).any (fun c=>c.name==("EaselError" : Str))
  | _=>false)
 | none=>false)&&Vd K (.ref C) "__getattribute__"==Dn (Dn (.builtin "BaseException.__getattribute__"))&&Vd K (.ref C) "__getattr__"==Dn Go&&Vd K (.ref C) "__class__"==Dn (Dn (.builtin "object.__class__"))&&PySem.W.specialIn K (.builtin "object.__class__") "__get__"==Dn (Dn (.builtin "getset_descriptor.__get__"))
 && PySem.W.takesIn K (.builtin "object.__class__")==Dn true
def wH (n:Str):List Str:=if n = "Apart" then ["word", "places"] else ["at"]
def Qj (K:Tt)(C:Addr)(n:Str):Bool:=mJ K C n&&PySem.W.hasDictIn K C&&(wH n).all fun f=>Vd K (.ref C) f==Dn Go
def Xoa (K:Tt)(o:Obj)(n:Str)(dd:Addr):Prop:=∃ C,o.cls=.ref C/\o.dict=Dn dd/\PySem.W.notCls o=true/\Qj K C n=true
def Xob (K:Tt)(o:Obj)(n:Str):Prop:=∃ C,o.cls=.ref C/\o.dict=Go/\PySem.W.notCls o=true/\mJ K C n=true
mutual
def JI (K:Tt)(H:Hp)(O : Mu):W->V->Prop
 | .non,v=>v=.non
 | .bl b,v=>v=.bl b
 | .int i,v=>v=.int i
 | .str x,v=>v=.str x
 | .ty n,v=>v=.ty n
 | .tup ws,v=>∃ p xs,v=.ref p/\CG K H p xs/\aG K H O ws xs
 | .lst ws,v=>∃ p xs,v=.ref p/\Frz H O p xs/\aG K H O ws xs
 | .kls ws,v=>∃ p xs,v=.ref p/\Frk K H p xs/\aG K H O ws xs
 | .loc n,v=>∃ p,v=.ref p/\O.f n=Dn p
 | .exc n,v=>∃ p o u,v=.ref p/\H p=Dn (.frz o u)/\Xob K o n
 | .exa n ws,v=>∃ p o u dd ns xs,v=.ref p/\H p=Dn (.frz o u)/\Xoa K o n dd/\H dd=Dn (.xd (List.zip ns xs))/\ns=wH n/\ns.length=xs.length/\aG K H O ws xs
 | .fnv f _,v=>v=.ref f
def aG (K:Tt)(H:Hp)(O : Mu):List W->List V->Prop
 | [],xs=>xs=[]
 | w::ws,xs=>∃ v vs,xs=v::vs/\JI K H O w v/\aG K H O ws vs
end
section
variable {K:Tt}{H H' H1 H2:Hp}{O O' O1 O2:Mu}{h h':Gh}{w:W}{ws:List W}{v:V}{xs:List V}
theorem aG.len:∀ {ws:List W} {xs:List V},aG K H O ws xs->ws.length=xs.length
 | [],xs,h=>by
  have e:xs=[]:=by rw [aG] at h;exact h
  rw [e];rfl
 | w::ws,xs,h=>by
  rw [aG] at h;obtain ⟨v,vs,e,_,h⟩:=h;rw [e,UJ,UJ,aG.len h]
theorem aG.get:∀ {ws:List W} {xs:List V} {i:Nat} {w:W},aG K H O ws xs->ws[i]?=Dn w->∃ v,xs[i]?=Dn v/\JI K H O w v
 | [],_,_,_,_,e=>by simp at e
 | a::ws,xs,0,w,h,e=>by
  rw [aG] at h;obtain ⟨v,vs,e1,r,_⟩:=h;simp at e;subst e;subst e1;exact ⟨v,rfl,r⟩
 | a::ws,xs,i+1,w,h,e=>by
  rw [aG] at h;obtain ⟨v,vs,e1,_,h⟩:=h;subst e1;obtain ⟨u,h1,h2⟩:=aG.get (i:=i) (w:=w) h (by simpa using e);exact ⟨u,by simpa using h1,h2⟩
theorem aG.nil:aG K H O [] []:=by rw [aG]
theorem aG.cons (r:JI K H O w v)(h:aG K H O ws xs):aG K H O (w::ws) (v::xs):=by
 rw [aG];exact ⟨v,xs,rfl,r,h⟩
theorem aG.append:∀ {ws:List W} {xs:List V} {us:List W} {ys:List V},aG K H O ws xs->aG K H O us ys->aG K H O (ws++us) (xs++ys)
 | [],xs,us,ys,h,g=>by
  rw [aG] at h;subst h;exact g
 | w::ws,xs,us,ys,h,g=>by
  rw [aG] at h;obtain ⟨v,vs,e,r,h⟩:=h;subst e;exact aG.cons r<|aG.append h g
theorem aG.one (r:JI K H O w v):aG K H O [w] [v]:=aG.cons r aG.nil
theorem aG.set (r:JI K H O w v):∀ {ws:List W} {xs:List V} (i:Nat),aG K H O ws xs->aG K H O (ws.set i w) (xs.set i v)
 | [],xs,i,h=>by rw [aG] at h;subst h;exact aG.nil
 | a::ws,xs,0,h=>by
  rw [aG] at h;obtain ⟨u,vs,e,_,h⟩:=h;subst e;exact aG.cons r h
 | a::ws,xs,i+1,h=>by
  rw [aG] at h;obtain ⟨u,vs,e,q,h⟩:=h;subst e;exact aG.cons q<|aG.set r i h
theorem aG.take:∀ {ws:List W} {xs:List V} (n:Nat),aG K H O ws xs->aG K H O (ws.take n) (xs.take n)
 | _,_,0,_=>by simp only [List.take_zero];exact aG.nil
 | [],xs,n+1,h=>by rw [aG] at h;subst h;exact aG.nil
 | a::ws,xs,n+1,h=>by
  rw [aG] at h;obtain ⟨u,vs,e,q,h⟩:=h;subst e;exact aG.cons q<|aG.take n h
theorem aG.drop:∀ {ws:List W} {xs:List V} (n:Nat),aG K H O ws xs->aG K H O (ws.drop n) (xs.drop n)
 | _,_,0,h=>h
 | [],xs,n+1,h=>by rw [aG] at h;subst h;exact aG.nil
 | a::ws,xs,n+1,h=>by
  rw [aG] at h;obtain ⟨u,vs,e,q,h⟩:=h;subst e;exact aG.drop n h
structure Ex0 (K:Tt) (H:Hp) (O : Mu) (H':Hp) (O':Mu):Prop where
 t:∀ p xs,CG K H p xs->CG K H' p xs
 l:∀ p xs,Frz H O p xs->Frz H' O' p xs
 k:∀ p xs,Frk K H p xs->Frk K H' p xs
 m:∀ n p,O.f n=Dn p->O'.f n=Dn p
 x:∀ p o u,H p=Dn (.frz o u)->H' p=Dn (.frz o u)
 y:∀ p fs,H p=Dn (.xd fs)->H' p=Dn (.xd fs)
structure Ex (K:Tt) (H:Hp) (O : Mu) (H':Hp) (O':Mu):Prop extends Ex0 K H O H' O' where
 o:∀ p u,O.hid p->H p=Dn u->O'.hid p/\H' p=Dn u
mutual
theorem JI.ex (e:Ex0 K H O H' O'):∀ {w:W} {v:V},JI K H O w v->JI K H' O' w v
 | .non,_,h=>by rw [JI] at h |-;exact h
 | .bl _,_,h=>by rw [JI] at h |-;exact h
 | .int _,_,h=>by rw [JI] at h |-;exact h
 | .str _,_,h=>by rw [JI] at h |-;exact h
 | .ty _,_,h=>by rw [JI] at h |-;exact h
 | .tup ws,_,h=>by
  rw [JI] at h |-
  obtain ⟨p,xs,e1,hs,hr⟩:=h;exact ⟨p,xs,e1,e.t _ _ hs,aG.ex e hr⟩
 | .lst ws,_,h=>by
  rw [JI] at h |-
  obtain ⟨p,xs,e1,hs,hr⟩:=h;exact ⟨p,xs,e1,e.l _ _ hs,aG.ex e hr⟩
 | .kls ws,_,h=>by
  rw [JI] at h |-
  obtain ⟨p,xs,e1,hs,hr⟩:=h;exact ⟨p,xs,e1,e.k _ _ hs,aG.ex e hr⟩
 | .loc n,_,h=>by
  rw [JI] at h |-
  obtain ⟨p,e1,hm⟩:=h;exact ⟨p,e1,e.m _ _ hm⟩
 | .exc n,_,h=>by
  rw [JI] at h |-
  obtain ⟨p,o,u,e1,hm,hx⟩:=h;exact ⟨p,o,u,e1,e.x _ _ _ hm,hx⟩
 | .exa n ws,_,h=>by
  rw [JI] at h |-
  obtain ⟨p,o,u,dd,ns,xs,e1,hm,hx,hd,e2,e3,hr⟩:=h;exact ⟨p,o,u,dd,ns,xs,e1,e.x _ _ _ hm,hx,e.y _ _ hd,e2,e3,aG.ex e hr⟩
 | .fnv _ _,_,h=>by rw [JI] at h |-;exact h
theorem aG.ex (e:Ex0 K H O H' O'):∀ {ws:List W} {xs:List V},aG K H O ws xs->aG K H' O' ws xs
 | [],_,h=>by rw [aG] at h |-;exact h
 | w::ws,_,h=>by
  rw [aG] at h |-
  obtain ⟨v,vs,e1,r,h⟩:=h;exact ⟨v,vs,e1,JI.ex e r,aG.ex e h⟩
end
structure Ah (K:Tt) (H:Hp) (O : Mu) (H':Hp) (O':Mu):Prop where
 r:∀ w v,JI K H O w v->JI K H' O' w v
 o:∀ p u,O.hid p->H p=Dn u->O'.hid p/\H' p=Dn u
theorem Ah.refl:Ah K H O H O:=⟨fun _ _ h=>h,fun _ _ h g=>⟨h,g⟩⟩
theorem Ah.trans (a:Ah K H O H1 O1)(b:Ah K H1 O1 H2 O2):Ah K H O H2 O2:=
 ⟨fun w v h=>b.r w v (a.r w v h),fun p u h g=>let ⟨h1,g1⟩:=a.o p u h g;b.o p u h1 g1⟩
theorem Ex.ext (e:Ex K H O H' O'):Ah K H O H' O':=⟨fun _ _ h=>JI.ex e.toEx0 h,e.o⟩
theorem Ah.s (e:Ah K H O H' O'):∀ {ws:List W} {xs:List V},aG K H O ws xs->aG K H' O' ws xs
 | [],_,h=>by rw [aG] at h |-;exact h
 | w::ws,_,h=>by
  rw [aG] at h |-
  obtain ⟨v,vs,e1,r,h⟩:=h;exact ⟨v,vs,e1,e.r _ _ r,Ah.s e h⟩
def Mw:Option HO->Prop
 | some (.lst _)=>True
 | some (.dK _)=>True
 | some (.ins _ _ _)=>True
 | some (.ext _)=>True
 | _=>False
def LQ {κ : Type}(K:Tt)(H:Hp)(O : Mu):List (κ×W)->List (κ×V)->Prop:=Xb fun (p:κ×W) (q:κ×V)=>p.1=q.1/\JI K H O p.2 q.2
def Rz (x:List Int×Addr×Tw):DictEntry:=⟨reduceHash (Builtin.Tuple.tupleHashOf (x.1.map hashInt)),.ref x.2.1,x.2.2⟩
def Ru (a:Addr)(xs:List (List Int×Addr×Tw))(h:Heap):Prop:=xs.length<=Ua/\(a==sysModules)=false/\(xs.map (·.1)).Nodup/\∃ o es ep,h.get? a=Dn o/\o.ExactDict/\o.data=.dict es ep/\es.toList=xs.map Rz
def lq (K:Tt)(H:Hp)(O : Mu)(p:Addr):Cell->Prop
 | .lst ws=>∃ xs,H p=Dn (.lst xs)/\aG K H O ws xs
 | .obj C fs=>∃ dx fvs,H p=Dn (.ins C dx fvs)/\LQ K H O fs fvs
 | .dct kvs=>∃ kvv,H p=Dn (.dK kvv)/\LQ K H O kvs kvv
 | .dtt kvs=>∃ xs vs,H p=Dn (.ext (Ru p xs))/\kvs.map (·.1)=xs.map (·.1)/\Rj vs (xs.map (·.2.2))/\aG K H O (kvs.map fun x=>W.tup (x.1.map W.int)) (xs.map fun x=>V.ref x.2.1)/\aG K H O (kvs.map (·.2)) vs
structure Tp (K:Tt) (O : Mu) (H:Hp) (h:Gh):Prop where
 inj:∀ m n p,O.f m=Dn p->O.f n=Dn p->m=n
 dom:∀ n p,O.f n=Dn p->n<h.nx
 trk:∀ n p,O.f n=Dn p->Mw (H p)
 cel:∀ n c,h.c n=Dn c->∃ p,O.f n=Dn p/\lq K H O p c
 hd:∀ p,O.hid p->(∃ xs,H p=Dn (.lst xs))/\∀ n,O.f n≠Dn p
theorem lq.ext {p:Addr}{c:Cell}(e:Ah K H O H' O')(hp:H' p=H p)(x:lq K H O p c):lq K H' O' p c:=by
 cases c with
 | lst ws=>obtain ⟨xs,a,b⟩:=x;exact ⟨xs,hp.trans a,e.s b⟩
 | obj C fs=>obtain ⟨dx,fvs,a,b⟩:=x;exact ⟨dx,fvs,hp.trans a,Paired.mapP b fun _ _ z=>⟨z.1,e.r _ _ z.2⟩⟩
 | dct kvs=>obtain ⟨kvv,a,b⟩:=x;exact ⟨kvv,hp.trans a,Paired.mapP b fun _ _ z=>⟨z.1,e.r _ _ z.2⟩⟩
 | dtt kvs=>obtain ⟨xs,vs,a,b,c,d,f⟩:=x;exact ⟨xs,vs,hp.trans a,b,c,e.s d,e.s f⟩
theorem Rd.laid {p q:Addr}{o u:HO}(hp:H p=Go)(r:Rd H q u):Rd (kI H p o) q u:=by
 have ne:q≠p:=by
  rcases r with r | ⟨_,r⟩
  ·exact aD r hp
  ·exact aD r hp
 unfold Rd;rw [aB ne];exact r
theorem Ex.laid {p:Addr}{o:HO}(hp:H p=Go):Ex K H O (kI H p o) O where
 t:=fun q xs h=>by
  rcases h with h | h
  ·exact .inl<|h.laid hp
  ·exact .inr h
 l:=fun q xs h=>⟨by rw [aB (aD h.1 hp)];exact h.1,h.2⟩
 k:=fun q xs h=>by
  rcases h with ⟨o',h⟩ | h
  ·exact .inl ⟨o',by rw [aB<|aD h hp];exact h⟩
  ·exact .inr h
 m:=fun _ _ h=>h
 x:=fun q o' u e=>by rw [aB (aD e hp)];exact e
 y:=fun q fs e=>by rw [aB (aD e hp)];exact e
 o:=fun q u z e=>⟨z,by rw [aB (aD e hp)];exact e⟩
theorem Tp.laid {p:Addr}{o:HO}(R:Tp K O H h)(hp:H p=Go):Tp K O (kI H p o) h where
 inj:=R.inj
 dom:=R.dom
 trk:=fun n q e=>by
  have:=R.trk n q e
  have ne:q≠p:=fun z=>by subst z;rw [hp] at this;exact this
  rw [aB ne];exact this
 cel:=fun n c e=>by
  obtain ⟨q,e1,x⟩:=R.cel n c e;have:=R.trk n q e1
  have ne:q≠p:=fun z=>by subst z;rw [hp] at this;exact this
  exact ⟨q,e1,x.ext (Ex.laid hp).ext (aB ne)⟩
 hd:=fun q z=>by
  obtain ⟨⟨xs,e⟩,g⟩:=R.hd q z;exact ⟨⟨xs,by rw [aB<|aD e hp];exact e⟩,g⟩
theorem JI.tupNew {p:Addr}(hp:H p=Go)(r:aG K H O ws xs):JI K (kI H p (.tup xs)) O (.tup ws) (.ref p):=by
 rw [JI];exact ⟨p,xs,rfl,CG.of aM,(Ex.laid hp).ext.s r⟩
theorem JI.lstNew {p:Addr}(R:Tp K O H h)(hp:H p=Go)(r:aG K H O ws xs):JI K (kI H p (.lst xs)) O (.lst ws) (.ref p):=by
 rw [JI];refine ⟨p,xs,rfl,⟨aM,fun n e=>?_,fun z=>?_⟩,(Ex.laid hp).ext.s r⟩
 ·have:=R.trk n p e
  rw [hp] at this;exact this
 ·obtain ⟨⟨xs,e⟩,_⟩:=R.hd p z;rw [hp] at e;cases e
def Mu.put (O : Mu)(n:Nat)(p:Addr):Mu:=⟨fun m=>if m=n then Dn p else O.f m,O.hid⟩
theorem Mu.put_same {n:Nat}{p:Addr}:(O.put n p).f n=Dn p:=by show (if n=n then Dn p else O.f n)=_;rw [if_pos rfl]
theorem Mu.put_ne {m n:Nat}{p:Addr}(e:m≠n):(O.put n p).f m = O.f m:=by show (if m=n then Dn p else O.f m)=_;rw [if_neg e]
def Gh.new (h:Gh)(c:Cell):Gh:=⟨h.nx+1,fun m=>if m=h.nx then Dn c else h.c m⟩
def Gh.set (h:Gh)(n:Nat)(c:Cell):Gh:=⟨h.nx,fun m=>if m=n then Dn c else h.c m⟩
theorem Tp.dead (R:Tp K O H h){n:Nat}(hn:h.nx<=n):O.f n=Go:=by
 cases e:O.f n with
 | none=>rfl
 | some p=>exact absurd (R.dom n p e) (by lia)
theorem Ex.newCell {p:Addr}{o:HO}(R:Tp K O H h)(hp:H p=Go):Ex K H O (kI H p o) (O.put h.nx p) where
 t:=fun q xs z=>(Ex.laid (O:=O) hp).t q xs z
 l:=fun q xs z=>by
  have nq:=aD z.1 hp;refine ⟨by rw [aB nq];exact z.1,fun n e=>?_,z.2.2⟩;by_cases hn:n=h.nx
  ·subst hn;rw [Mu.put_same] at e;exact nq (T7 e).symm
  ·rw [Mu.put_ne hn] at e;exact z.2.1 n e
 k:=fun q xs z=>(Ex.laid (O:=O) hp).k q xs z
 m:=fun n q e=>by
  have hn:n≠h.nx:=fun z=>by subst z;rw [R.dead (T6 _)] at e;cases e
  rw [Mu.put_ne hn];exact e
 x:=fun q o' u e=>by rw [aB (aD e hp)];exact e
 y:=fun q fs e=>by rw [aB (aD e hp)];exact e
 o:=fun q u z e=>⟨z,by rw [aB (aD e hp)];exact e⟩
theorem Tp.newCell {p:Addr}{o:HO}{c:Cell}(R:Tp K O H h)(hp:H p=Go)(mo:Mw (Dn o))(ck:lq K (kI H p o) (O.put h.nx p) p c):Tp K (O.put h.nx p) (kI H p o) (h.new c) where
 inj:=fun m n q em en=>by
  by_cases hm:m=h.nx
  ·by_cases hn:n=h.nx
   ·rw [hm,hn]
   ·rw [hm,Mu.put_same] at em;rw [Mu.put_ne hn] at en;have e:p=q:=T7 em;subst e;have:=R.trk n _ en
    rw [hp] at this;exact this.elim
  ·rw [Mu.put_ne hm] at em;by_cases hn:n=h.nx
   ·rw [hn,Mu.put_same] at en;have e:p=q:=T7 en;subst e;have:=R.trk m _ em
    rw [hp] at this;exact this.elim
   ·rw [Mu.put_ne hn] at en;exact R.inj m n q em en
 dom:=fun n q e=>by
  show n<h.nx+1;by_cases hn:n=h.nx
  ·lia
  ·rw [Mu.put_ne hn] at e;have:=R.dom n q e
   lia
 trk:=fun n q e=>by
  by_cases hn:n=h.nx
  ·rw [hn,Mu.put_same] at e;have e:p=q:=T7 e;subst e;rw [aM];exact mo
  ·rw [Mu.put_ne hn] at e;have:=R.trk n q e
   have ne:q≠p:=fun z=>by subst z;rw [hp] at this;exact this
   rw [aB ne];exact this
 cel:=fun n d e=>by
  have e:(if n=h.nx then Dn c else h.c n)=Dn d:=e;by_cases hn:n=h.nx
  ·rw [if_pos hn] at e;have e:c=d:=T7 e;subst e;exact ⟨p,by rw [hn,Mu.put_same],ck⟩
  ·rw [if_neg hn] at e;obtain ⟨q,e1,x⟩:=R.cel n d e;have:=R.trk n q e1
   have ne:q≠p:=fun z=>by subst z;rw [hp] at this;exact this
   exact ⟨q,by rw [Mu.put_ne hn];exact e1,x.ext (Ex.newCell R hp).ext (aB ne)⟩
 hd:=fun q z=>by
  obtain ⟨⟨xs,e⟩,g⟩:=R.hd q z;have ne:=aD e hp;refine ⟨⟨xs,by rw [aB ne];exact e⟩,fun n en=>?_⟩;by_cases hn:n=h.nx
  ·rw [hn,Mu.put_same] at en;exact ne (T7 en).symm
  ·rw [Mu.put_ne hn] at en;exact g n en
theorem Rd.kept {p q:Addr}{o u:HO}(mo:Mw (H p))(r:Rd H q u)(hn:q≠p):Rd (kI H p o) q u:=by
 unfold Rd;rw [aB hn];exact r
theorem Ex.write {n:Nat}{p:Addr}{o:HO}(R:Tp K O H h)(hn:O.f n=Dn p):Ex K H O (kI H p o) O where
 t:=fun q xs z=>by
  rcases z with z | z
  ·refine .inl<|z.kept (R.trk n p hn) fun e=>?_
   subst e;have:=R.trk n q hn
   rcases z with r | ⟨_,r⟩ <;> rw [r] at this <;> exact this
  ·exact .inr z
 l:=fun q xs z=>⟨by rw [aB (fun e=>z.2.1 n (by rw [e];exact hn))];exact z.1,z.2⟩
 k:=fun q xs z=>by
  rcases z with ⟨o',z⟩ | z
  ·refine .inl ⟨o',?_⟩;rw [aB (fun e=>?_)]
   ·exact z
   ·subst e;have:=R.trk n q hn
    rw [z] at this;exact this
  ·exact .inr z
 m:=fun _ _ e=>e
 x:=fun q o' u e=>by
  rw [aB (fun y=>?_)]
  ·exact e
  ·subst y;have:=R.trk n q hn
   rw [e] at this;exact this
 y:=fun q fs e=>by
  rw [aB (fun y=>?_)]
  ·exact e
  ·subst y;have:=R.trk n q hn
   rw [e] at this;exact this
 o:=fun q u z e=>⟨z,by rw [aB (fun y=>(R.hd q z).2 n (by rw [y];exact hn))];exact e⟩
theorem Tp.write {n:Nat}{p:Addr}{o:HO}{c:Cell}(R:Tp K O H h)(hn:O.f n=Dn p)(mo:Mw (Dn o))(ck:lq K (kI H p o) O p c):Tp K O (kI H p o) (h.set n c) where
 inj:=R.inj
 dom:=R.dom
 trk:=fun m q e=>by
  by_cases z:q=p
  ·subst z;rw [aM];exact mo
  ·rw [aB z];exact R.trk m q e
 cel:=fun m d e=>by
  have e:(if m=n then Dn c else h.c m)=Dn d:=e;by_cases hm:m=n
  ·rw [if_pos hm] at e;have e:c=d:=T7 e;subst e;exact ⟨p,by rw [hm];exact hn,ck⟩
  ·rw [if_neg hm] at e;obtain ⟨q,e1,x⟩:=R.cel m d e;have ne:q≠p:=fun z=>by subst z;exact hm (R.inj m n q e1 hn)
   exact ⟨q,e1,x.ext (Ex.write R hn).ext (aB ne)⟩
 hd:=fun q z=>by
  obtain ⟨⟨xs,e⟩,g⟩:=R.hd q z;exact ⟨⟨xs,by rw [aB<|fun y=>g n (by rw [y];exact hn)];exact e⟩,g⟩
mutual
def Lo (k:Nat):W->Prop
 | .tup ws=>Dp k ws
 | .lst ws=>Dp k ws
 | .kls ws=>Dp k ws
 | .exa _ ws=>Dp k ws
 | .loc n=>n<k
 | _=>True
def Dp (k:Nat):List W->Prop
 | []=>True
 | w::ws=>Lo k w/\Dp k ws
end
mutual
theorem JI.lo {k:Nat}(hd:∀ n p,O.f n=Dn p->n<k):∀ {w:W} {v:V},JI K H O w v->Lo k w
 | .non,_,_=>by rw [Lo] <;> first | trivial | (intros;contradiction)
 | .bl _,_,_=>by rw [Lo] <;> first | trivial | (intros;contradiction)
 | .int _,_,_=>by rw [Lo] <;> first | trivial | (intros;contradiction)
 | .str _,_,_=>by rw [Lo] <;> first | trivial | (intros;contradiction)
 | .ty _,_,_=>by rw [Lo] <;> first | trivial | (intros;contradiction)
 | .exc _,_,_=>by rw [Lo] <;> first | trivial | (intros;contradiction)
 | .fnv _ _,_,_=>by rw [Lo] <;> first | trivial | (intros;contradiction)
 | .exa _ ws,_,h=>by
  rw [JI] at h;obtain ⟨_,_,_,_,_,_,_,_,_,_,_,_,hr⟩:=h;rw [Lo];exact aG.lo hd hr
 | .tup ws,_,h=>by
  rw [JI] at h;obtain ⟨p,xs,_,_,hr⟩:=h;rw [Lo];exact aG.lo hd hr
 | .lst ws,_,h=>by
  rw [JI] at h;obtain ⟨p,xs,_,_,hr⟩:=h;rw [Lo];exact aG.lo hd hr
 | .kls ws,_,h=>by
  rw [JI] at h;obtain ⟨p,xs,_,_,hr⟩:=h;rw [Lo];exact aG.lo hd hr
 | .loc n,_,h=>by
  rw [JI] at h;obtain ⟨p,_,hm⟩:=h;rw [Lo];exact hd n p hm
theorem aG.lo {k:Nat}(hd:∀ n p,O.f n=Dn p->n<k):∀ {ws:List W} {xs:List V},aG K H O ws xs->Dp k ws
 | [],_,_=>by rw [Dp];trivial
 | w::ws,_,h=>by
  rw [aG] at h;obtain ⟨v,vs,_,r,h⟩:=h;rw [Dp];exact ⟨JI.lo hd r,aG.lo hd h⟩
end
def Mu.cut (O : Mu)(k:Nat):Mu:=⟨fun n=>if n<k then O.f n else Go,O.hid⟩
theorem Mu.cut_some {k n:Nat}{p:Addr}(e:(O.cut k).f n=Dn p):n<k/\O.f n=Dn p:=by
 have e:(if n<k then O.f n else Go)=Dn p:=e;by_cases hn:n<k
 ·rw [if_pos hn] at e;exact ⟨hn,e⟩
 ·rw [if_neg hn] at e;cases e
mutual
theorem JI.cut {k:Nat}:∀ {w:W} {v:V},JI K H O w v->Lo k w->JI K H (O.cut k) w v
 | .non,_,h,_=>by rw [JI] at h |-;exact h
 | .bl _,_,h,_=>by rw [JI] at h |-;exact h
 | .int _,_,h,_=>by rw [JI] at h |-;exact h
 | .str _,_,h,_=>by rw [JI] at h |-;exact h
 | .ty _,_,h,_=>by rw [JI] at h |-;exact h
 | .exc _,_,h,_=>by rw [JI] at h |-;exact h
 | .fnv _ _,_,h,_=>by rw [JI] at h |-;exact h
 | .exa _ ws,_,h,l=>by
  rw [JI] at h |-
  rw [Lo] at l;obtain ⟨p,o,u,dd,ns,xs,e1,hm,hx,hd,e2,e3,hr⟩:=h;exact ⟨p,o,u,dd,ns,xs,e1,hm,hx,hd,e2,e3,aG.cut hr l⟩
 | .tup ws,_,h,l=>by
  rw [JI] at h |-
  rw [Lo] at l;obtain ⟨p,xs,e1,hs,hr⟩:=h;exact ⟨p,xs,e1,hs,aG.cut hr l⟩
 | .lst ws,_,h,l=>by
  rw [JI] at h |-
  rw [Lo] at l;obtain ⟨p,xs,e1,hs,hr⟩:=h;exact ⟨p,xs,e1,⟨hs.1,fun n e=>hs.2.1 n (Mu.cut_some e).2,hs.2.2⟩,aG.cut hr l⟩
 | .kls ws,_,h,l=>by
  rw [JI] at h |-
  rw [Lo] at l;obtain ⟨p,xs,e1,hs,hr⟩:=h;exact ⟨p,xs,e1,hs,aG.cut hr l⟩
 | .loc n,_,h,l=>by
  rw [JI] at h |-
  rw [Lo] at l;obtain ⟨p,e1,hm⟩:=h;refine ⟨p,e1,?_⟩;show (if n<k then O.f n else Go)=Dn p;rw [if_pos l];exact hm
theorem aG.cut {k:Nat}:∀ {ws:List W} {xs:List V},aG K H O ws xs->Dp k ws->aG K H (O.cut k) ws xs
 | [],_,h,_=>by rw [aG] at h |-;exact h
 | w::ws,_,h,l=>by
  rw [aG] at h |-
  rw [Dp] at l;obtain ⟨v,vs,e1,r,h⟩:=h;exact ⟨v,vs,e1,JI.cut r l.1,aG.cut h l.2⟩
end
end
section
variable {K:Tt}{H H' H1 H2:Hp}{O O' O1 O2:Mu}{h h':Gh}{w:W}{ws:List W}{v:V}{xs ys:List V}{p:Addr}
def Mu.hide (O : Mu)(p:Addr):Mu:=⟨O.f,fun q=>q=p\/O.hid q⟩
def Mu.unhide (O : Mu)(p:Addr):Mu:=⟨O.f,fun q=>q≠p/\O.hid q⟩
structure yx (p:Addr) (K:Tt) (H:Hp) (O : Mu) (H':Hp) (O':Mu):Prop where
 r:∀ w v,JI K H O w v->JI K H' O' w v
 o:∀ q u,q≠p->O.hid q->H q=Dn u->O'.hid q/\H' q=Dn u
theorem Ah.x (a:Ah K H O H1 O1)(hp:¬ O.hid p)(b:yx p K H1 O1 H2 O2):Ah K H O H2 O2:=
 ⟨fun w v z=>b.r w v (a.r w v z),fun q u z e=>let ⟨z1,e1⟩:=a.o q u z e;b.o q u (fun y=>hp (by rw [<-y];exact z)) z1 e1⟩
theorem Ah.hide {o:HO}(hp:H p=Go):Ah K H O (kI H p o) (O.hide p):=Ex.ext {
 t:=fun q xs z=>(Ex.laid (O:=O) hp).t q xs z
 l:=fun q xs z=>by
  have nq:=aD z.1 hp;refine ⟨by rw [aB nq];exact z.1,z.2.1,fun y=>?_⟩;rcases y with y | y
  ·exact nq y
  ·exact z.2.2 y
 k:=fun q xs z=>(Ex.laid (O:=O) hp).k q xs z
 m:=fun _ _ e=>e
 x:=fun q o' u e=>by rw [aB (aD e hp)];exact e
 y:=fun q fs e=>by rw [aB (aD e hp)];exact e
 o:=fun q u z e=>⟨.inr z,by rw [aB (aD e hp)];exact e⟩ }
theorem Tp.nohid (R:Tp K O H h)(hp:H p=Go):¬ O.hid p:=fun z=>by
 obtain ⟨⟨xs,e⟩,_⟩:=R.hd p z;rw [hp] at e;cases e
theorem Tp.hide (R:Tp K O H h)(hp:H p=Go):Tp K (O.hide p) (kI H p (.lst xs)) h where
 inj:=R.inj
 dom:=R.dom
 trk:=(R.laid hp).trk
 cel:=fun n c e=>by
  obtain ⟨q,e1,x⟩:=R.cel n c e;have:=R.trk n q e1
  have ne:q≠p:=fun z=>by subst z;rw [hp] at this;exact this
  exact ⟨q,e1,x.ext (Ah.hide hp)<|aB ne⟩
 hd:=fun q z=>by
  rcases z with z | z
  ·subst z;refine ⟨⟨xs,aM⟩,fun n e=>?_⟩;have:=R.trk n q e
   rw [hp] at this;exact this
  ·exact (R.laid (o:=.lst xs) hp).hd q z
theorem Ex0.grow (R:Tp K O H h)(hp:O.hid p):Ex0 K H O (kI H p (.lst ys)) O where
 t:=fun q xs z=>by
  rcases z with z | z
  ·refine .inl ?_;unfold Rd;rw [aB (fun y=>?_)]
   ·exact z
   ·subst y;obtain ⟨⟨xs',e⟩,_⟩:=R.hd q hp;rcases z with r | ⟨_,r⟩ <;> rw [e] at r <;> cases r
  ·exact .inr z
 l:=fun q xs z=>⟨by rw [aB (fun y=>z.2.2 (by rw [y];exact hp))];exact z.1,z.2⟩
 k:=fun q xs z=>by
  rcases z with ⟨o',z⟩ | z
  ·refine .inl ⟨o',?_⟩;rw [aB (fun y=>?_)]
   ·exact z
   ·subst y;obtain ⟨⟨xs',e⟩,_⟩:=R.hd q hp;rw [e] at z;cases z
  ·exact .inr z
 m:=fun _ _ e=>e
 x:=fun q o' u e=>by
  rw [aB (fun y=>?_)]
  ·exact e
  ·subst y;obtain ⟨⟨xs',e'⟩,_⟩:=R.hd q hp;rw [e'] at e;cases e
 y:=fun q fs e=>by
  rw [aB (fun y=>?_)]
  ·exact e
  ·subst y;obtain ⟨⟨xs',e'⟩,_⟩:=R.hd q hp;rw [e'] at e;cases e
theorem yx.grow (R:Tp K O H h)(hp:O.hid p):yx p K H O (kI H p (.lst ys)) O:=
 ⟨fun _ _ z=>JI.ex (Ex0.grow R hp) z,fun q u ne z e=>⟨z,by rw [aB ne];exact e⟩⟩
theorem Tp.grow (R:Tp K O H h)(hp:O.hid p):Tp K O (kI H p (.lst ys)) h where
 inj:=R.inj
 dom:=R.dom
 trk:=fun n q e=>by
  have ne:q≠p:=fun z=>(R.hd p hp).2 n (by rw [<-z];exact e)
  rw [aB ne];exact R.trk n q e
 cel:=fun n c e=>by
  obtain ⟨q,e1,x⟩:=R.cel n c e;have ne:q≠p:=fun z=>(R.hd p hp).2 n (by rw [<-z];exact e1)
  refine ⟨q,e1,?_⟩;cases c with
  | lst ws=>obtain ⟨xs,a,b⟩:=x;exact ⟨xs,(aB ne).trans a,aG.ex (Ex0.grow R hp) b⟩
  | obj C fs=>obtain ⟨dx,fvs,a,b⟩:=x;exact ⟨dx,fvs,(aB ne).trans a,Paired.mapP b fun _ _ z=>⟨z.1,JI.ex (Ex0.grow R hp) z.2⟩⟩
  | dct kvs=>obtain ⟨kvv,a,b⟩:=x;exact ⟨kvv,(aB ne).trans a,Paired.mapP b fun _ _ z=>⟨z.1,JI.ex (Ex0.grow R hp) z.2⟩⟩
  | dtt kvs=>obtain ⟨xs,vs,a,b,c,d,f⟩:=x;exact ⟨xs,vs,(aB ne).trans a,b,c,aG.ex (Ex0.grow R hp) d,aG.ex (Ex0.grow R hp) f⟩
 hd:=fun q z=>by
  by_cases e:q=p
  ·subst e;exact ⟨⟨ys,aM⟩,(R.hd q hp).2⟩
  ·rw [aB e];exact R.hd q z
theorem Ex0.unhide:Ex0 K H O H (O.unhide p) where
 t:=fun _ _ z=>z
 l:=fun q xs z=>⟨z.1,z.2.1,fun y=>z.2.2 y.2⟩
 k:=fun _ _ z=>z
 m:=fun _ _ e=>e
 x:=fun _ _ _ e=>e
 y:=fun _ _ e=>e
theorem yx.unhide:yx p K H O H (O.unhide p):=⟨fun _ _ z=>JI.ex Ex0.unhide z,fun q u ne z e=>⟨⟨ne,z⟩,e⟩⟩
theorem Tp.unhide (R:Tp K O H h):Tp K (O.unhide p) H h where
 inj:=R.inj
 dom:=R.dom
 trk:=R.trk
 cel:=fun n c e=>by
  obtain ⟨q,e1,x⟩:=R.cel n c e;refine ⟨q,e1,?_⟩;cases c with
  | lst ws=>obtain ⟨xs,a,b⟩:=x;exact ⟨xs,a,aG.ex Ex0.unhide b⟩
  | obj C fs=>obtain ⟨dx,fvs,a,b⟩:=x;exact ⟨dx,fvs,a,Paired.mapP b fun _ _ z=>⟨z.1,JI.ex Ex0.unhide z.2⟩⟩
  | dct kvs=>obtain ⟨kvv,a,b⟩:=x;exact ⟨kvv,a,Paired.mapP b fun _ _ z=>⟨z.1,JI.ex Ex0.unhide z.2⟩⟩
  | dtt kvs=>obtain ⟨xs,vs,a,b,c,d,f⟩:=x;exact ⟨xs,vs,a,b,c,aG.ex Ex0.unhide d,aG.ex Ex0.unhide f⟩
 hd:=fun q z=>R.hd q z.2
theorem JI.built (R:Tp K O H h)(hp:O.hid p)(e:H p=Dn (.lst xs))(r:aG K H O ws xs):JI K H (O.unhide p) (.lst ws) (.ref p):=by
 rw [JI];exact ⟨p,xs,rfl,⟨e,(R.hd p hp).2,fun z=>z.1 rfl⟩,aG.ex Ex0.unhide r⟩
end
abbrev Sw:=List (Option W)
abbrev WK:=W->Gh->Prop
abbrev ME:=Sw->Gh->WK->Prop
abbrev MT:=Sw->Gh->(Bool->Gh->Prop)->Prop
abbrev MA:=Sw->Gh->(List W->Gh->Prop)->Prop
structure aX where
 nx:Sw->Gh->Prop
 rt:WK
 bk:Sw->Gh->Prop:=fun _ _=>False
 ct:Sw->Gh->Prop:=fun _ _=>False
abbrev MS:=aX->Sw->Gh->Prop
abbrev MG:=W->Sw->Gh->(Sw->Gh->Prop)->Prop
abbrev Du:=List W->Sw->Gh->(Sw->Gh->Prop)->Prop
structure Xw where
 cls:Str
 fs:List (Str×W)
abbrev Tq:=Xw->Gh->Prop
abbrev SX:=List W->Gh->WK->Tq->Prop
def EF:Tq:=fun _ _=>False
structure Slots (K:Tt) (H:Hp) (O : Mu) (Zw:Sw) (Z : St):Prop where
 len:Zw.length = Z.length
 get:∀ (i:Nat) (w:W),Zw[i]?=Dn (Dn w)->∃ v,Z[i]?=Dn (Dn v)/\JI K H O w v
inductive DQ (K:Tt) (H:Hp) (O : Mu) (Q:WK) (v:V) (H':Hp):Prop where
 | mk (O':Mu) (w:W) (h':Gh) (e:Ah K H O H' O') (R:Tp K O' H' h') (r:JI K H' O' w v) (q:Q w h'):DQ K H O Q v H'
inductive DB (K:Tt) (H:Hp) (O : Mu) (Q:Bool->Gh->Prop) (b:Bool) (H':Hp):Prop where
 | mk (O':Mu) (h':Gh) (e:Ah K H O H' O') (R:Tp K O' H' h') (q:Q b h'):DB K H O Q b H'
inductive DA (K:Tt) (H:Hp) (O : Mu) (Q:List W->Gh->Prop) (vs:List V) (H':Hp):Prop where
 | mk (O':Mu) (ws:List W) (h':Gh) (e:Ah K H O H' O') (R:Tp K O' H' h') (r:aG K H' O' ws vs) (q:Q ws h'):DA K H O Q vs H'
inductive DN (K:Tt) (H:Hp) (O : Mu) (N:Sw->Gh->Prop) (Z':St) (H':Hp):Prop where
 | mk (O':Mu) (Zw':Sw) (h':Gh) (e:Ah K H O H' O') (R:Tp K O' H' h') (S:Slots K H' O' Zw' Z') (q:N Zw' h'):DN K H O N Z' H'
section
variable {K:Tt}{H H' H1 H2:Hp}{O O' O1 O2:Mu}{h h' h1:Gh}{w:W}{v:V}{Z : St}{Zw:Sw}
theorem Slots.ext (S:Slots K H O Zw Z)(e:Ah K H O H' O'):Slots K H' O' Zw Z:=⟨S.len,fun i w q=>let ⟨v,a,b⟩:=S.get i w q;⟨v,a,e.r _ _ b⟩⟩
theorem Slots.set (S:Slots K H O Zw Z)(r:JI K H O w v)(i:Nat):Slots K H O (Zw.set i (Dn w)) (Z.set i (Dn v)):=by
 refine ⟨by rw [List.length_set,List.length_set,S.len],fun j u q=>?_⟩;rw [List.getElem?_set] at q |-
 by_cases hij:i=j
 ·rw [if_pos hij] at q |-
  by_cases hl:i < Zw.length
  ·rw [if_pos hl] at q;rw [if_pos (by rw [<-S.len];exact hl)];have e:w=u:=by injection q with q;injection q
   subst e;exact ⟨v,rfl,r⟩
  ·rw [if_neg hl] at q;cases q
 ·rw [if_neg hij] at q |-
  exact S.get j u q
theorem DQ.trans {Q:WK}(e:Ah K H O H1 O1)(q:DQ K H1 O1 Q v H'):DQ K H O Q v H':=let ⟨O',w,h',a,b,c,d⟩:=q;⟨O',w,h',e.trans a,b,c,d⟩
theorem DB.trans {Q:Bool->Gh->Prop}{b:Bool}(e:Ah K H O H1 O1)(q:DB K H1 O1 Q b H'):DB K H O Q b H':=let ⟨O',h',a,b,c⟩:=q;⟨O',h',e.trans a,b,c⟩
theorem DN.trans {N:Sw->Gh->Prop}{Z':St}(e:Ah K H O H1 O1)(q:DN K H1 O1 N Z' H'):DN K H O N Z' H':=let ⟨O',w,h',a,b,c,d⟩:=q;⟨O',w,h',e.trans a,b,c,d⟩
end
inductive tD (K:Tt) (m:ME) (Z : St) (H:Hp) (Q:VK):Prop where
 | mk (O : Mu) (h:Gh) (Zw:Sw) (Qw:WK) (R:Tp K O H h) (S:Slots K H O Zw Z) (x:m Zw h Qw) (k:∀ v H',DQ K H O Qw v H'->Q v H'):tD K m Z H Q
inductive tDT (K:Tt) (m:MT) (Z : St) (H:Hp) (Q:Bool->Hp->Prop):Prop where
 | mk (O : Mu) (h:Gh) (Zw:Sw) (Qw:Bool->Gh->Prop) (R:Tp K O H h) (S:Slots K H O Zw Z) (x:m Zw h Qw) (k:∀ b H',DB K H O Qw b H'->Q b H'):tDT K m Z H Q
inductive tDA (K:Tt) (m:MA) (Z : St) (H:Hp) (Q:List V->Hp->Prop):Prop where
 | mk (O : Mu) (h:Gh) (Zw:Sw) (Qw:List W->Gh->Prop) (R:Tp K O H h) (S:Slots K H O Zw Z) (x:m Zw h Qw) (k:∀ vs H',DA K H O Qw vs H'->Q vs H'):tDA K m Z H Q
inductive tDG (K:Tt) (g:MG) (v:V) (Z : St) (H:Hp) (N:St->Hp->Prop):Prop where
 | mk (O : Mu) (h:Gh) (Zw:Sw) (w:W) (Nw:Sw->Gh->Prop) (R:Tp K O H h) (S:Slots K H O Zw Z) (r:JI K H O w v) (x:g w Zw h Nw) (k:∀ Z' H',DN K H O Nw Z' H'->N Z' H'):tDG K g v Z H N
inductive Ry (K:Tt) (g:Du) (vs:List V) (Z : St) (H:Hp) (N:St->Hp->Prop):Prop where
 | mk (O : Mu) (h:Gh) (Zw:Sw) (ws:List W) (Nw:Sw->Gh->Prop) (R:Tp K O H h) (S:Slots K H O Zw Z) (r:aG K H O ws vs) (x:g ws Zw h Nw) (k:∀ Z' H',DN K H O Nw Z' H'->N Z' H'):Ry K g vs Z H N
structure nJ (K:Tt) (H:Hp) (O : Mu) (Dw:aX) (D:Ends):Prop where
 nx:∀ Z' H',DN K H O Dw.nx Z' H'->D.nx Z' H'
 rt:∀ v H',DQ K H O Dw.rt v H'->D.rt v H'
 bk:∀ Z' H',DN K H O Dw.bk Z' H'->D.bk Z' H'
 ct:∀ Z' H',DN K H O Dw.ct Z' H'->D.ct Z' H'
inductive tDS (K:Tt) (m:MS) (D:Ends) (Z : St) (H:Hp):Prop where
 | mk (O : Mu) (h:Gh) (Zw:Sw) (Dw:aX) (R:Tp K O H h) (S:Slots K H O Zw Z) (x:m Dw Zw h) (k:nJ K H O Dw D):tDS K m D Z H
theorem nJ.trans {K:Tt}{H H1:Hp}{O O1:Mu}{Dw:aX}{D:Ends}(k:nJ K H O Dw D)(e:Ah K H O H1 O1):nJ K H1 O1 Dw D:=
 ⟨fun _ _ q=>k.nx _ _ (q.trans e),fun _ _ q=>k.rt _ _ (q.trans e),fun _ _ q=>k.bk _ _ (q.trans e),fun _ _ q=>k.ct _ _ (q.trans e)⟩
section
variable {X:Cx}{e:Expr}{es:List Expr}{st:Stmt}{sts:List Stmt}
theorem PE.of {t t':TE}(h:PE X e t)(k:∀ Z H Q,t' Z H Q->t Z H Q):PE X e t':=fun pins s Z H Q I q=>h pins s Z H Q I (k Z H Q q)
theorem PT.of {t t':TT}(h:PT X e t)(k:∀ Z H Q,t' Z H Q->t Z H Q):PT X e t':=fun pins s Z H Q I q=>h pins s Z H Q I (k Z H Q q)
theorem PW.of {t t':TT}(h:PW X e t)(k:∀ Z H Q,t' Z H Q->t Z H Q):PW X e t':=fun wh pins s Z H Q I q=>h wh pins s Z H Q I (k Z H Q q)
theorem PA.of {t t':TA}(h:PA X es t)(k:∀ Z H Q,t' Z H Q->t Z H Q):PA X es t':=fun pos pins s Z H Q I q=>h pos pins s Z H Q I (k Z H Q q)
theorem PG.of {t t':TG}(h:PG X e t)(k:∀ v Z H Q,t' v Z H Q->t v Z H Q):PG X e t':=fun pins s Z H v u Q I r q=>h pins s Z H v u Q I r (k v Z H Q q)
theorem PS.of {t t':TS}(h:PS X st t)(k:∀ D Z H,t' D Z H->t D Z H):PS X st t':=fun pins s Z H D I q=>h pins s Z H D I (k D Z H q)
theorem DY.of {t t':TS}(h:DY X sts t)(k:∀ D Z H,t' D Z H->t D Z H):DY X sts t':=fun pins s Z H D I q=>h pins s Z H D I (k D Z H q)
end
abbrev DE (X:Cx)(e:Expr)(m:ME):Prop:=PE X e (tD X.K m)
abbrev DT (X:Cx)(e:Expr)(m:MT):Prop:=PT X e (tDT X.K m)
abbrev DWt (X:Cx)(e:Expr)(m:MT):Prop:=PW X e (tDT X.K m)
abbrev DP (X:Cx)(es:List Expr)(m:MA):Prop:=PA X es (tDA X.K m)
abbrev DG (X:Cx)(e:Expr)(m:MG):Prop:=PG X e (tDG X.K m)
abbrev DS (X:Cx)(st:Stmt)(m:MS):Prop:=PS X st (tDS X.K m)
abbrev EY (X:Cx)(st:List Stmt)(m:MS):Prop:=DY X st (tDS X.K m)
section
variable {X:Cx}{e a b c:Expr}{ma mb mc:ME}{pos:Pos}
def aF (i:Nat):ME:=fun Z h Q=>match Z[i]? with
 | some (Dn w)=>Q w h
 | _=>False
def mC (w:W):ME:=fun _ h Q=>Q w h
theorem dv (i:Nat)(he:PE X e (Qd i)):DE X e (aF i):=he.of fun Z H Q ⟨O,h,Zw,Qw,R,S,m,k⟩=>by
 unfold aF at m;cases q:Zw[i]? with
 | none=>rw [q] at m;exact m.elim
 | some o=>
  rw [q] at m;cases o with
  | none=>exact m.elim
  | some w=>
   obtain ⟨v,h1,h2⟩:=S.get i w q;exact ⟨v,h1,k _ _ ⟨O,w,h,.refl,R,h2,m⟩⟩
theorem dc {w:W}{v:V}(he:PE X e (tC v))(r:∀ H O,JI X.K H O w v):DE X e (mC w):=he.of fun Z H Q ⟨O,h,Zw,Qw,R,S,m,k⟩=>k _ _ ⟨O,w,h,.refl,R,r H O,m⟩
theorem aL {i:Int}{j pos}:DE X (.Constant (.int i) j pos) (mC (.int i)):=dc J5 fun _ _=>by rw [JI]
theorem xZ {i:Bool}{j pos}:DE X (.Constant (.bool i) j pos) (mC (.bl i)):=dc Oz fun _ _=>by rw [JI]
theorem Lk {j pos}:DE X (.Constant .none j pos) (mC .non):=dc Iw fun _ _=>by rw [JI]
theorem aQ {i:Str}{j pos}:DE X (.Constant (.str i) j pos) (mC (.str i)):=dc JB fun _ _=>by rw [JI]
abbrev M2:=W->W->Gh->WK->Prop
def Tn (r:M2)(ma mb:ME):ME:=fun Z h Q=>ma Z h fun x h1=>mb Z h1 fun y h2=>r x y h2 Q
def Ri (K:Tt)(r:R2)(mr:M2):Prop:=∀ {H:Hp} {O : Mu} {h:Gh} {x y:V} {wx wy:W} {Qw:WK} {Q:VK},Tp K O H h->JI K H O wx x->JI K H O wy y->mr wx wy h Qw ->
 (∀ v H',DQ K H O Qw v H'->Q v H')->r x y H Q
theorem two {K:Tt}{Z : St}{H:Hp}{Q:VK}{mr:M2}{R2':V->V->Hp->Prop}(h:tD K (Tn mr ma mb) Z H Q)
  (k:∀ {H2:Hp} {O2:Mu} {h2:Gh} {x y:V} {wx wy:W} {Qw:WK},Tp K O2 H2 h2->JI K H2 O2 wx x->JI K H2 O2 wy y->mr wx wy h2 Qw->(∀ v H',DQ K H2 O2 Qw v H'->Q v H')->R2' x y H2) :
  tD K ma Z H fun x H1=>tD K mb Z H1 fun y H2=>R2' x y H2:=by
 obtain ⟨O,g,Zw,Qw,R,S,m,q⟩:=h;refine ⟨O,g,Zw,_,R,S,m,fun x H1 ⟨O1,wx,h1,e1,R1,r1,m1⟩=>?_⟩;refine ⟨O1,h1,Zw,_,R1,S.ext e1,m1,fun y H2 ⟨O2,wy,h2,e2,R2,r2,m2⟩=>?_⟩;exact k R2 (e2.r _ _ r1) r2 m2 fun v H' z=>q _ _<|(z.trans e2).trans e1
def Dd (X:Cx)(f:Tw->Tw->Sem Tw)(mr:M2):Prop:=∃ r,CQ X f r/\Ri X.K r mr
theorem bU {op:Operator}{mr:M2}(ho:Dd X (Vv op) mr)(ha:DE X a ma)(hb:DE X b mb):DE X (.BinOp a op b pos) (Tn mr ma mb):=by
 obtain ⟨r,o,s⟩:=ho;exact (Np o ha hb).of fun Z H Q h=>two h fun R r1 r2 m k=>s R r1 r2 m k
theorem zq {op:CmpOp}{mr:M2}(ho:Dd X (VL op) mr)(ha:DE X a ma)(hb:DE X b mb)(hm:Xq op b=false):DE X (.Compare a [op] [b] pos) (Tn mr ma mb):=by
 obtain ⟨r,o,s⟩:=ho;exact (Fw o ha hb hm).of fun Z H Q h=>two h fun R r1 r2 m k=>s R r1 r2 m k
def cu (m:ME):MT:=fun Z h Q=>m Z h fun w h1=>match w with
 | .bl c=>Q c h1
 | _=>False
theorem GF {K:Tt}{Z : St}{H:Hp}{m:ME}{Q:Bool->Hp->Prop}(h:tDT K (cu m) Z H Q):tD K m Z H fun x H'=>∃ k,x=.bl k/\Q k H':=by
 obtain ⟨O,g,Zw,Qw,R,S,mm,q⟩:=h;refine ⟨O,g,Zw,_,R,S,mm,fun v H' ⟨O1,w,h1,e1,R1,r1,m1⟩=>?_⟩;cases w with
 | bl c=>rw [JI] at r1;exact ⟨c,r1,q _ _ ⟨O1,h1,e1,R1,m1⟩⟩
 | _=>exact m1.elim
theorem bT {op:CmpOp}{mr:M2}(ho:Dd X (VL op) mr)(ha:DE X a ma)(hb:DE X b mb)(hm:Xq op b=false):DT X (.Compare a [op] [b] pos) (cu (Tn mr ma mb)):=by
 obtain ⟨r,o,s⟩:=ho;exact (FQ o ha hb hm).of fun Z H Q h=>two (GF h) fun R r1 r2 m k=>s R r1 r2 m k
def CJ (c:Bool)(a b:Prop):Prop:=match c with
 | true=>a
 | false=>b
def br (c:Bool)(a b:Prop):Prop:=(c=true->a)/\(c=false->b)
theorem uE {c:Bool}{a b:Prop}(e:c=true)(x:a):br c a b:=⟨fun _=>x,fun z=>by rw [e] at z;cases z⟩
theorem pG {c:Bool}{a b:Prop}(e:c=false)(x:b):br c a b:=⟨fun z=>(by rw [e] at z;cases z),fun _=>x⟩
theorem J9 {c:Prop} [Decidable c] {a b:Prop} (x:c->a) (y:¬ c->b):br (decide c) a b:=⟨fun e=>x (of_decide_eq_true e),fun e=>y (of_decide_eq_false e)⟩
def Sg (t u:MT):MT:=fun Z h Q=>t Z h fun c h1=>br c (u Z h1 Q) (Q false h1)
def Dq (t u:MT):MT:=fun Z h Q=>t Z h fun c h1=>br c (Q true h1) (u Z h1 Q)
def wQ (t:MT):MT:=fun Z h Q=>t Z h fun c h1=>Q (!c) h1
variable {tA tB':MT}{rest:List Expr}
theorem nC (ha:DT X a tA):DWt X (.BoolOp .Or [a] pos) tA:=KJ ha
theorem pI (ha:DT X a tA)(hb:DWt X (.BoolOp .Or (b::rest) pos) tB'):DWt X (.BoolOp .Or (a::b::rest) pos) (Dq tA tB'):=(Qm ha hb).of fun Z H Q ⟨O,g,Zw,Qw,R,S,m,q⟩=>by
 refine ⟨O,g,Zw,_,R,S,m,fun c H1 ⟨O1,h1,e1,R1,m1⟩=>?_⟩;cases c with
 | true=>
  rw [if_pos rfl];exact q _ _ ⟨O1,h1,e1,R1,m1.1 rfl⟩
 | false=>
  rw [if_neg Ue];exact ⟨O1,h1,Zw,_,R1,S.ext e1,m1.2 rfl,fun b H' z=>q _ _<|z.trans e1⟩
theorem gU (ha:DT X a tA):DT X (.UnaryOp .Not a pos) (wQ tA):=(JV ha).of fun Z H Q ⟨O,g,Zw,Qw,R,S,m,q⟩=>
 ⟨O,g,Zw,_,R,S,m,fun c H1 ⟨O1,h1,e1,R1,m1⟩=>q _ _ ⟨O1,h1,e1,R1,m1⟩⟩
def jM (a b:ME):ME:=fun Z h Q=>a Z h fun x h1=>match x with
 | .bl true=>b Z h1 Q
 | .bl false=>Q (.bl false) h1
 | _=>False
def Rp (a b:ME):ME:=fun Z h Q=>a Z h fun x h1=>match x with
 | .bl false=>b Z h1 Q
 | .bl true=>Q (.bl true) h1
 | _=>False
def p8 (a:ME):ME:=fun Z h Q=>a Z h fun x h1=>match x with
 | .bl c=>Q (.bl (!c)) h1
 | _=>False
theorem xR {op}(h:DE X a ma):DE X (.BoolOp op [a] pos) ma:=JG h
theorem pU (ha:DE X a ma)(hb:DE X (.BoolOp .And (b::rest) pos) mb):DE X (.BoolOp .And (a::b::rest) pos) (jM ma mb):=(Lw ha hb).of fun Z H Q ⟨O,g,Zw,Qw,R,S,m,q⟩=>by
 refine ⟨O,g,Zw,_,R,S,m,fun v H1 ⟨O1,w,h1,e1,R1,r1,m1⟩=>?_⟩;cases w with
 | bl c=>
  rw [JI] at r1;refine ⟨c,r1,?_⟩;cases c with
  | true=>rw [if_pos rfl];exact ⟨O1,h1,Zw,_,R1,S.ext e1,m1,fun b H' z=>q _ _ (z.trans e1)⟩
  | false=>rw [if_neg Ue];exact q _ _ ⟨O1,.bl false,h1,e1,R1,by rw [JI],m1⟩
 | _=>exact m1.elim
theorem zf (ha:DE X a ma):DE X (.UnaryOp .Not a pos) (p8 ma):=(Jm ha).of fun Z H Q ⟨O,g,Zw,Qw,R,S,m,q⟩=>by
 refine ⟨O,g,Zw,_,R,S,m,fun v H1 ⟨O1,w,h1,e1,R1,r1,m1⟩=>?_⟩;cases w with
 | bl c=>rw [JI] at r1;exact ⟨c,r1,q _ _ ⟨O1,.bl (!c),h1,e1,R1,by rw [JI],m1⟩⟩
 | _=>exact m1.elim
def mIf (t:MT)(a b:ME):ME:=fun Z h Q=>t Z h fun c h1=>br c (a Z h1 Q) (b Z h1 Q)
theorem RN (hc:DT X c tA)(ha:DE X a ma)(hb:DE X b mb):DE X (.IfExp c a b pos) (mIf tA ma mb):=(zam hc ha hb).of fun Z H Q ⟨O,g,Zw,Qw,R,S,m,q⟩=>by
 refine ⟨O,g,Zw,_,R,S,m,fun c H1 ⟨O1,h1,e1,R1,m1⟩=>?_⟩;cases c with
 | true=>
  rw [if_pos rfl];exact ⟨O1,h1,Zw,_,R1,S.ext e1,m1.1 rfl,fun b H' z=>q _ _<|z.trans e1⟩
 | false=>
  rw [if_neg Ue];exact ⟨O1,h1,Zw,_,R1,S.ext e1,m1.2 rfl,fun b H' z=>q _ _<|z.trans e1⟩
def mUn (r:W->Gh->WK->Prop)(a:ME):ME:=fun Z h Q=>a Z h fun x h1=>r x h1 Q
def Nu:W->Gh->WK->Prop:=fun x h Q=>match x with
 | .int i=>Q (.int (-i)) h
 | _=>False
theorem Ox (ha:DE X a ma):DE X (.UnaryOp .USub a pos) (mUn Nu ma):=(Qs Lg ha).of fun Z H Q ⟨O,g,Zw,Qw,R,S,m,q⟩=>by
 refine ⟨O,g,Zw,_,R,S,m,fun v H1 ⟨O1,w,h1,e1,R1,r1,m1⟩=>?_⟩;cases w with
 | int i=>rw [JI] at r1;exact ⟨i,r1,q _ _ ⟨O1,.int (-i),h1,e1,R1,by rw [JI],m1⟩⟩
 | _=>exact m1.elim
def aP:MA:=fun _ h Q=>Q [] h
def aq (a:ME)(r:MA):MA:=fun Z h Q=>a Z h fun x h1=>r Z h1 fun xs h2=>Q (x::xs) h2
variable {es:List Expr}{mr:MA}
theorem aA:DP X [] aP:=rZ.of fun Z H Q ⟨O,g,Zw,Qw,R,S,m,q⟩=>q _ _ ⟨O,[],g,.refl,R,.nil,m⟩
theorem ak (ha:DE X e ma)(hr:DP X es mr)(hs:T3 (e::es) X.env=(false,eval e X.env)::T3 es X.env:=by rfl):DP X (e::es) (aq ma mr):=(iM ha hr hs).of fun Z H Q ⟨O,g,Zw,Qw,R,S,m,q⟩=>by
 refine ⟨O,g,Zw,_,R,S,m,fun v H1 ⟨O1,w,h1,e1,R1,r1,m1⟩=>?_⟩;refine ⟨O1,h1,Zw,_,R1,S.ext e1,m1,fun vs H2 ⟨O2,ws,h2,e2,R2,r2,m2⟩=>?_⟩;exact q _ _ ⟨O2,w::ws,h2,e1.trans e2,R2,.cons (e2.r _ _ r1) r2,m2⟩
def iz (n:Nat)(P:Prop):Prop:=CJ (Nat.ble n 1000) P (n<=Ua/\P)
theorem iz.ok {n:Nat}{P:Prop}(h:iz n P):n<=Ua/\P:=by
 unfold iz at h;cases e:Nat.ble n 1000 with
 | true=>rw [e] at h;exact ⟨Uc (Xa e) (by decide),h⟩
 | false=>rw [e] at h;exact h
theorem iz.mk {n:Nat}{P:Prop}(hn:n<=Ua)(h:P):iz n P:=by
 unfold iz;cases e:Nat.ble n 1000 with
 | true=>exact h
 | false=>exact ⟨hn,h⟩
def Py (t:MA):ME:=fun Z h Q=>t Z h fun ws h1=>iz ws.length (Q (.tup ws) h1)
def yw (t:MA):ME:=fun Z h Q=>t Z h fun ws h1=>iz ws.length (Q (.lst ws) h1)
def pW (t:MA):ME:=fun Z h Q=>t Z h fun ws h1=>iz ws.length (Q (.loc h1.nx) (h1.new (.lst ws)))
theorem JF {x1}(h:DP X es mr):DE X (.Tuple es x1 pos) (Py mr):=(Bo h).of fun Z H Q ⟨O,g,Zw,Qw,R,S,m,q⟩=>
 ⟨O,g,Zw,_,R,S,m,fun vs H1 ⟨O1,ws,h1,e1,R1,r1,sz⟩=>⟨by rw [<-r1.len];exact sz.ok.1,fun p hp=>q _ _ ⟨O1,.tup ws,h1,e1.trans (Ex.laid hp).ext,R1.laid hp,.tupNew hp r1,sz.ok.2⟩⟩⟩
theorem j7 (h:DP X es mr):DE X (.List es pos) (yw mr):=(BX h).of fun Z H Q ⟨O,g,Zw,Qw,R,S,m,q⟩=>
 ⟨O,g,Zw,_,R,S,m,fun vs H1 ⟨O1,ws,h1,e1,R1,r1,sz⟩=>⟨by rw [<-r1.len];exact sz.ok.1,fun p hp=>q _ _ ⟨O1,.lst ws,h1,e1.trans (Ex.laid hp).ext,R1.laid hp,.lstNew R1 hp r1,sz.ok.2⟩⟩⟩
theorem K7 {K:Tt}{H:Hp}{O : Mu}{h:Gh}{p:Addr}{ws:List W}{xs:List V}(R:Tp K O H h)(hp:H p=Go)(r:aG K H O ws xs) :
  Tp K (O.put h.nx p) (kI H p (.lst xs)) (h.new (.lst ws)):=R.newCell hp trivial ⟨xs,aM,(Ex.newCell R hp).ext.s r⟩
theorem xu (h:DP X es mr):DE X (.List es pos) (pW mr):=(BX h).of fun Z H Q ⟨O,g,Zw,Qw,R,S,m,q⟩=>
 ⟨O,g,Zw,_,R,S,m,fun vs H1 ⟨O1,ws,h1,e1,R1,r1,sz⟩=>⟨by rw [<-r1.len];exact sz.ok.1,fun p hp=>q _ _ ⟨O1.put h1.nx p,.loc h1.nx,h1.new (.lst ws),e1.trans (Ex.newCell R1 hp).ext,K7 R1 hp r1,by rw [JI];exact ⟨p,rfl,Mu.put_same⟩,sz.ok.2⟩⟩⟩
inductive lift (K:Tt) (ms:SX) (vs:List V) (H:Hp) (Q:VK) (E:XK):Prop where
 | mk (O : Mu) (h:Gh) (ws:List W) (Qw:WK) (R:Tp K O H h) (r:aG K H O ws vs) (x:ms ws h Qw EF) (k:∀ v H',DQ K H O Qw v H'->Q v H'):lift K ms vs H Q E
def bB (ms:SX)(E:Tq)(ma:MA):ME:=fun Z h Q=>ma Z h fun ws h1=>ms ws h1 Q E
theorem call_of {K:Tt}{Z : St}{H:Hp}{Q:VK}{E:XK}{ms:SX}{ma:MA}(h:tD K (bB ms EF ma) Z H Q):Ef (lift K ms) [] E (tDA K ma) Z H Q:=by
 obtain ⟨O,g,Zw,Qw,R,S,m,q⟩:=h;refine ⟨O,g,Zw,_,R,S,m,fun vs H1 ⟨O1,ws,h1,e1,R1,r1,m1⟩=>?_⟩;show lift K ms (vs++[]) H1 Q E;rw [Wy];exact ⟨O1,h1,ws,Qw,R1,r1,m1,fun v H' z=>q _ _<|z.trans e1⟩
theorem bx {k:Nat}{f:Addr}{fd:Uw}{ps:List Str}{ms:SX}{x:Str}{p:Pos}(F:cH X.prog X.w X.K X.mg X.base Ao k f fd ps (lift X.K ms))(hr:gO k X.A)(hg:Gl X x)(hm:X.mg x=Dn (.ref f))(hk:Vq X.K (.ref f)=true)
  (hb:Binds X.K fd ps []) (ha:DP X (e::es) mr) (hdb:(x==("__debug__" : Str))=false:=by decide) (he:T3 (e::es) X.env=(false,eval e X.env)::T3 es X.env:=by rfl) (hpl:(Vy pos (T3 es X.env)).any (·.1)=false:=by rfl) :
  DE X (.Call (.Name x p) (e::es) [] pos) (bB ms EF mr):=(zaZ F hr hg hm hk hb .nil Lp ha hdb he hpl).of fun _ _ _ h=>call_of h
theorem G4 {k:Nat}{f:Addr}{fd:Uw}{ps:List Str}{ms:SX}{x:Str}{p:Pos}(F:cH X.prog X.w X.K X.mg X.base Ao k f fd ps (lift X.K ms))(hr:gO k X.A)(hg:Gl X x)(hm:X.mg x=Dn (.ref f))(hk:Vq X.K (.ref f)=true)
  (hb:Binds X.K fd ps []) (hdb:(x==("__debug__" : Str))=false:=by decide):DE X (.Call (.Name x p) [] [] pos) (bB ms EF aP):=(zj F hr hg hm hk hb .nil Lp hdb).of fun Z H Q ⟨O,g,Zw,Qw,R,S,m,q⟩=>
 ⟨O,g,[],Qw,R,.nil,m,q⟩
def M7 (h:Gh)(w:W):Option Bool:=match w with
 | .non=>Dn false
 | .bl b=>Dn b
 | .int i=>Dn (i != 0)
 | .tup ws=>Dn (!ws.isEmpty)
 | .lst ws=>Dn (!ws.isEmpty)
 | .kls ws=>Dn (!ws.isEmpty)
 | .loc n=>(match h.c n with
  | some (.lst ws)=>Dn (!ws.isEmpty)
  | _=>Go)
 | _=>Go
def qI (m:ME):MT:=fun Z h Q=>m Z h fun w h1=>match M7 h1 w with
 | some b=>Q b h1
 | none=>False
theorem aG.emp {K:Tt}{H:Hp}{O : Mu}{ws:List W}{xs:List V}(r:aG K H O ws xs):ws.isEmpty=xs.isEmpty:=by
 have:=r.len
 cases ws <;> cases xs <;> first | rfl | cases this
theorem eU (he:DE X e ma)(h:∀ whole,isTrue e X.env whole=(do let v <-whole;standAt e.pos;holding [v] (truthy v)):=by intro _;rfl):DT X e (qI ma):=(zc he h).of fun Z H Q ⟨O,g,Zw,Qw,R,S,m,q⟩=>by
 refine ⟨O,g,Zw,_,R,S,m,fun v H1 ⟨O1,w,h1,e1,R1,r1,m1⟩=>?_⟩;split at m1
 ·rename_i b eb;refine ⟨b,?_,q _ _ ⟨O1,h1,e1,R1,m1⟩⟩;cases w with
  | non=>rw [JI] at r1;subst r1;cases eb;rfl
  | bl c=>rw [JI] at r1;subst r1;cases eb;rfl
  | int c=>rw [JI] at r1;subst r1;cases eb;rfl
  | tup ws=>
   rw [JI] at r1;obtain ⟨p,xs,ev,hs,rs⟩:=r1;subst ev;cases eb;exact .inr<|.inl ⟨xs,hs,by rw [rs.emp]⟩
  | lst ws=>
   rw [JI] at r1;obtain ⟨p,xs,ev,hs,rs⟩:=r1;subst ev;cases eb;exact .inl ⟨xs,hs.sq,by rw [rs.emp]⟩
  | kls ws=>
   rw [JI] at r1;obtain ⟨p,xs,ev,hs,rs⟩:=r1;subst ev;cases eb;exact .inl ⟨xs,hs.sq,by rw [rs.emp]⟩
  | loc n=>
   rw [JI] at r1;obtain ⟨p,ev,hm⟩:=r1;subst ev;unfold M7 at eb;dsimp only at eb;cases ec:h1.c n with
   | none=>rw [ec] at eb;cases eb
   | some cl=>
    rw [ec] at eb;cases cl with
    | lst ws=>
     cases eb;obtain ⟨p',hm',xs,hx,rs⟩:=R1.cel n _ ec;have ep:p'=p:=by rw [hm] at hm';exact (T7 hm').symm
     subst ep;exact .inl ⟨xs,.of hx,by rw [rs.emp]⟩
    | _=>cases eb
  | _=>cases eb
 ·exact m1.elim
abbrev MC:=List W->Gh->WK->Prop
def Aj (r:MC)(ma:MA):ME:=fun Z h Q=>ma Z h fun ws h1=>r ws h1 Q
def Rm (K:Tt)(r:List V->Hp->VK->Prop)(mr:MC):Prop:=∀ {H:Hp} {O : Mu} {h:Gh} {vs:List V} {ws:List W} {Qw:WK} {Q:VK},Tp K O H h->aG K H O ws vs->mr ws h Qw->(∀ v H',DQ K H O Qw v H'->Q v H')->r vs H Q
def iJ (X:Cx)(f:Tw)(mr:MC):Prop:=∃ r,cW X f r/\Rm X.K r mr
theorem J3 {K:Tt}{Z : St}{H:Hp}{Q:VK}{r:List V->Hp->VK->Prop}{mc:MC}{ma:MA}(s:Rm K r mc)(h:tD K (Aj mc ma) Z H Q):tCB r (tDA K ma) Z H Q:=by
 obtain ⟨O,g,Zw,Qw,R,S,m,q⟩:=h;exact ⟨O,g,Zw,_,R,S,m,fun vs H1 ⟨O1,ws,h1,e1,R1,r1,m1⟩=>s R1 r1 m1 fun v H' z=>q _ _<|z.trans e1⟩
theorem aW {x:Str}{p:Pos}{id:String}{mc:MC}(hc:iJ X (.builtin id) mc)(hg:Gl X x)(hm:X.mg x=Go)(hv:Wk x=Dn (.builtin id))(ha:DP X (e::es) mr)(hn:x ≠ "__name__":=by decide)(hdb:(x==("__debug__" : Str))=false:=by decide)
  (he:T3 (e::es) X.env=(false,eval e X.env)::T3 es X.env:=by rfl) (hpl:(Vy pos (T3 es X.env)).any (·.1)=false:=by rfl):DE X (.Call (.Name x p) (e::es) [] pos) (Aj mc mr):=by
 obtain ⟨r,c,s⟩:=hc;exact (lX c hg hm hv ha hn hdb he hpl).of fun _ _ _ h=>J3 s h
theorem cF {x:Str}{p:Pos}{T:String}{mc:MC}(hc:iJ X (.type T) mc)(hg:Gl X x)(hm:X.mg x=Go)(hv:Wk x=Dn (.type T))(ha:DP X (e::es) mr)(hn:x ≠ "__name__":=by decide)(hdb:(x==("__debug__" : Str))=false:=by decide)
  (he:T3 (e::es) X.env=(false,eval e X.env)::T3 es X.env:=by rfl) (hpl:(Vy pos (T3 es X.env)).any (·.1)=false:=by rfl):DE X (.Call (.Name x p) (e::es) [] pos) (Aj mc mr):=by
 obtain ⟨r,c,s⟩:=hc;exact (wI c hg hm hv ha hn hdb he hpl).of fun _ _ _ h=>J3 s h
end
section
variable {X:Cx}{e a b c tg:Expr}{ma mb mc:ME}{pos:Pos}{es:List Expr}
def Oj (i:Nat):MG:=fun w Z h N=>N (Z.set i (Dn w)) h
theorem lQ {i:Nat}(hg:PG X e (vO i)):DG X e (Oj i):=hg.of fun v Z H N ⟨O,h,Zw,w,Nw,R,S,r,m,k⟩=>k _ _ ⟨O,Zw.set i (Dn w),h,.refl,R,S.set r i,m⟩
def S6:Du:=fun ws Z h N=>match ws with
 | []=>N Z h
 | _=>False
def Nv (g:MG)(r:Du):Du:=fun ws Z h N=>match ws with
 | w::ws'=>g w Z h fun Z1 h1=>r ws' Z1 h1 N
 | []=>False
def QS (n:Nat)(g:Du):MG:=fun w Z h N=>match w with
 | .tup ws=>CJ (XH ws.length n) (g ws Z h N) False
 | _=>False
abbrev Il:=W->W->W->Gh->(Gh->Prop)->Prop
def Ck (K:Tt)(t:Ii)(ms:Il):Prop:=∀ {H:Hp} {O : Mu} {h:Gh} {o i v:V} {wo wi w:W} {Nw:Gh->Prop} {N:Hp->Prop},Tp K O H h->JI K H O wo o->JI K H O wi i->JI K H O w v->ms wo wi w h Nw ->
 (∀ H',(∃ O' h',Ah K H O H' O'/\Tp K O' H' h'/\Nw h')->N H')->t o i v H N
def Hg (mo mi:ME)(ms:Il):MG:=fun w Z h N=>mo Z h fun o h1=>mi Z h1 fun i h2=>ms o i w h2 fun h3=>N Z h3
theorem rJ {o i:Expr}{mo mi:ME}{t:Ii}{ms:Il}(ho:DE X o mo)(hi:DE X i mi)(hs:O7 X t)(hm:Ck X.K t ms)
  (ha:∀ v,assign (.Subscript o i pos) X.env v=(do
   let ov <-holding [v] (eval o X.env)
   let iv <-holding [v,ov] (eval i X.env)
   standAt pos
   holding [v,ov,iv] (setItem ov iv v)
   release [v,ov,iv] []):=by intro _;rfl):DG X (.Subscript o i pos) (Hg mo mi ms):=
 (Ho ho hi hs ha).of fun v Z H N ⟨O,h,Zw,w,Nw,R,S,r,m,k⟩=>by
  refine ⟨O,h,Zw,_,R,S,m,fun o H1 ⟨O1,wo,h1,e1,R1,r1,m1⟩=>?_⟩;refine ⟨O1,h1,Zw,_,R1,S.ext e1,m1,fun i H2 ⟨O2,wi,h2,e2,R2,r2,m2⟩=>?_⟩;refine hm R2 (e2.r _ _ r1) r2 (e2.r _ _<|e1.r _ _ r) m2 fun H3 ⟨O3,h3,e3,R3,m3⟩=>?_;exact k _ _ ⟨O3,Zw,h3,(e1.trans e2).trans e3,R3,S.ext<|(e1.trans e2).trans e3,m3⟩
def pL:Il:=fun o i w h N=>match o,i with
 | .loc n,.int k=>(match h.c n with
  | some (.lst ws)=>(match Dj ws.length k with
   | some j=>N (h.set n (.lst (ws.set j w)))
   | none=>False)
  | _=>False)
 | _,_=>False
theorem Tp.lstAt {K:Tt}{O : Mu}{H:Hp}{h:Gh}{n:Nat}{ws:List W}(R:Tp K O H h)(e:h.c n=Dn (.lst ws)):∃ p xs,O.f n=Dn p/\H p=Dn (.lst xs)/\aG K H O ws xs:=by
 obtain ⟨p,e1,xs,e2,r⟩:=R.cel n _ e;exact ⟨p,xs,e1,e2,r⟩
theorem jl {K:Tt}:Ck K Li pL:=by
 intro H O h o i v wo wi w Nw N R ro ri r m k;cases wo with
 | loc n=>
  cases wi with
  | int z=>
   rw [JI] at ro;rw [JI] at ri;obtain ⟨p,eo,hp⟩:=ro;unfold pL at m;dsimp only at m;cases ec:h.c n with
   | none=>rw [ec] at m;exact m.elim
   | some cl=>
    rw [ec] at m;cases cl with
    | lst ws=>
     dsimp only at m;obtain ⟨p',xs,hp',hx,rs⟩:=R.lstAt ec;have ep:p'=p:=by rw [hp] at hp';exact (T7 hp').symm
     subst ep;cases ej:Dj ws.length z with
     | none=>rw [ej] at m;exact m.elim
     | some j=>
      rw [ej] at m;refine ⟨p',xs,z,j,eo,ri,hx,by rw [<-rs.len];exact ej,k _ ⟨O,_,(Ex.write R hp).ext,R.write hp trivial ?_,m⟩⟩;exact ⟨_,aM,aG.set ((Ex.write R hp).ext.r _ _ r) j<|(Ex.write R hp).ext.s rs⟩
    | _=>exact m.elim
  | _=>exact m.elim
 | _=>exact m.elim
variable {st:Stmt}{rest body:List Stmt}{m1 m2:MS}{t:MT}
def cM:MS:=fun D Z h=>D.nx Z h
def bO (m u:MS):MS:=fun D Z h=>m { D with nx:=u D } Z h
theorem bL:EY X [] cM:=zbc.of fun D Z H ⟨O,h,Zw,Dw,R,S,m,k⟩=>k.nx _ _ ⟨O,Zw,h,.refl,R,S,m⟩
theorem aJ (h1:DS X st m1):EY X [st] m1:=wD h1
theorem au (h1:DS X st m1)(h2:EY X rest m2):EY X (st::rest) (bO m1 m2):=(qR h1 h2).of fun D Z H ⟨O,h,Zw,Dw,R,S,m,k⟩=>by
 refine ⟨O,h,Zw,_,R,S,m,?_,k.rt,k.bk,k.ct⟩;intro Z' H' ⟨O1,Zw1,h1,e1,R1,S1,m1⟩;exact ⟨O1,h1,Zw1,Dw,R1,S1,m1,k.trans e1⟩
def tR (m:ME):MS:=fun D Z h=>m Z h fun _ h1=>D.nx Z h1
theorem vI (he:DE X e ma)(hs:XS e Go pos.line X.env=pure false:=by rfl):DS X (.Expr e pos) (tR ma):=(wB he hs).of fun D Z H ⟨O,h,Zw,Dw,R,S,m,k⟩=>
 ⟨O,h,Zw,_,R,S,m,fun v H1 ⟨O1,w,h1,e1,R1,_,m1⟩=>k.nx _ _ ⟨O1,Zw,h1,e1,R1,S.ext e1,m1⟩⟩
def eH (m:ME):MS:=fun D Z h=>m Z h D.rt
theorem aV (he:DE X e ma):DS X (.Return (Dn e) pos) (eH ma):=(Ma he).of fun D Z H ⟨O,h,Zw,Dw,R,S,m,k⟩=>⟨O,h,Zw,_,R,S,m,k.rt⟩
def jW (t:MT)(a b:MS):MS:=fun D Z h=>t Z h fun c h1=>br c (a D Z h1) (b D Z h1)
theorem gG {a b:List Stmt}(hc:DT X c t)(ha:EY X a m1)(hb:EY X b m2):DS X (.If c a b pos) (jW t m1 m2):=(Mh hc ha hb).of fun D Z H ⟨O,h,Zw,Dw,R,S,m,k⟩=>by
 refine ⟨O,h,Zw,_,R,S,m,fun b H1 ⟨O1,h1,e1,R1,q⟩=>?_⟩;cases b with
 | true=>rw [if_pos rfl];exact ⟨O1,h1,Zw,Dw,R1,S.ext e1,q.1 rfl,k.trans e1⟩
 | false=>rw [if_neg Ue];exact ⟨O1,h1,Zw,Dw,R1,S.ext e1,q.2 rfl,k.trans e1⟩
def jB (x:Str)(E:Tq):MS:=fun _ _ h=>E ⟨x,[]⟩ h
theorem zao {x:Str}:DS X st (jB x EF):=yS.of fun _ _ _ ⟨_,_,_,_,_,_,m,_⟩=>m.elim
def cI (m:ME)(g:MG):MS:=fun D Z h=>m Z h fun w h1=>g w Z h1 D.nx
theorem Iu {K:Tt}{Z : St}{H:Hp}{D:Ends}{m:ME}{g:MG}(q:tDS K (cI m g) D Z H):Le (tD K m) (tDG K g) D Z H:=by
 obtain ⟨O,h,Zw,Dw,R,S,m,k⟩:=q;exact ⟨O,h,Zw,_,R,S,m,fun v H1 ⟨O1,w,h1,e1,R1,r1,m1⟩=>⟨O1,h1,Zw,w,_,R1,S.ext e1,r1,m1,fun Z' H' z=>k.nx _ _<|z.trans e1⟩⟩
theorem qW {g:MG}(he:DE X e ma)(hg:DG X tg g)(hs:swapsWithSole [tg] e pos.line X.env=pure false:=by rfl)(hw:swappedStores [tg] e X.env=pure Go:=by rfl)
  (h1:(assignEach [tg] X.env).map (·.2)=[assign tg X.env]:=by rfl):DS X (.Assign [tg] e pos) (cI ma g):=(Ly he hg hs hw h1).of fun _ _ _ q=>Iu q
theorem xQ {K:Tt}{Z : St}{H:Hp}{D:Ends}{m:ME}{t:TE}{i:Nat}(ht:∀ Z H Q,tD K m Z H Q->t Z H Q)(q:tDS K (cI m (Oj i)) D Z H):Le t (vO i) D Z H:=by
 obtain ⟨O,h,Zw,Dw,R,S,m,k⟩:=q;exact ht _ _ _ ⟨O,h,Zw,_,R,S,m,fun v H1 ⟨O1,w,h1,e1,R1,r1,m1⟩=>k.nx _ _ ⟨O1,Zw.set i<|some w,h1,e1,R1,(S.ext e1).set r1 i,m1⟩⟩
theorem aR {i:Nat}{x:Str}{pos':Pos}(hN:X.N.Nodup)(hi:X.N[i]?=Dn x)(hx:Loc X.env.scope x)(he:DE X e ma)(hs:XS e (Dn (.Name x pos')) pos.line X.env=pure false:=by rfl)
  (hf:X.fn x=true\/X.env.scope.names.lookup x=Dn .local:=by first | exact .inl rfl | exact .inr rfl | assumption) :
  DS X (.Assign [.Name x pos'] e pos) (cI ma (Oj i)):=(Mp hN hi hx he hs hf).of fun _ _ _ q=>xQ (fun _ _ _ z=>z) q
def Nq (i j:Nat)(ta:MA):MS:=fun D Z h=>ta Z h fun ws h1=>match ws with
 | [v,w]=>D.nx ((Z.set i (Dn v)).set j (Dn w)) h1
 | _=>False
theorem vX {i j:Nat}{ta:MA}(hp:PS X st (Q6 i j (tDA X.K ta))):DS X st (Nq i j ta):=hp.of fun D Z H ⟨O,h,Zw,Dw,R,S,m,k⟩=>by
 refine ⟨O,h,Zw,_,R,S,m,fun vs H1 ⟨O1,ws,h1,e1,R1,r1,m1⟩=>?_⟩;split at m1
 ·rename_i a b;rw [aG] at r1;obtain ⟨v,vr,ev,ra,r2⟩:=r1;rw [aG] at r2;obtain ⟨v',vr',ev',rb,r3⟩:=r2;rw [aG] at r3;subst r3;subst ev';subst ev;exact ⟨v,v',rfl,k.nx _ _ ⟨O1,_,h1,e1,R1,((S.ext e1).set ra i).set rb j,m1⟩⟩
 ·exact m1.elim
def pA (t:MT)(b:MS):MS:=fun D Z h=>∃ Wm:Nat->Sw->Gh->Prop,(∃ m,Wm m Z h)/\∀ m Z h,Wm m Z h ->
 t Z h fun c h1=>br c (b { D with nx:=fun Z' h'=>∃ m',m'<m/\Wm m' Z' h',ct:=fun Z' h'=>∃ m',m'<m/\Wm m' Z' h',bk:=D.nx } Z h1) (D.nx Z h1)
theorem mR {body:List Stmt}{pos:Pos}(hp:W5 (Uz X.prog X.w) X.A X.env X.xe)(hc:DT X c t)(hb:EY X body m1):DS X (.While c body [] pos) (pA t m1):=(yE hp hc hb).of fun D Z H ⟨O,h,Zw,Dw,R,S,m,k⟩=>by
 obtain ⟨Wm,⟨m0,w0⟩,turn⟩:=m;refine ⟨fun n Z' H'=>DN X.K H O (Wm n) Z' H',⟨m0,O,Zw,h,.refl,R,S,w0⟩,fun n Z1 H1 ⟨O1,Zw1,h1,e1,R1,S1,w1⟩=>?_⟩;refine ⟨O1,h1,Zw1,_,R1,S1,turn n Zw1 h1 w1,fun b H2 ⟨O2,h2,e2,R2,q⟩=>?_⟩;have e12:=e1.trans e2;cases b with
 | true=>
  dsimp only;rw [if_pos rfl];refine ⟨fun Z' H'=>∃ m',m'<n/\DN X.K H O (Wm m') Z' H',fun _ _ z=>z,O2,h2,Zw1,_,R2,S1.ext e2,q.1 rfl,?_⟩;have again:∀ (Z':St) (H':Hp),DN X.K H2 O2 (fun Z' h'=>∃ m',m'<n/\Wm m' Z' h') Z' H'->∃ m',m'<n/\DN X.K H O (Wm m') Z' H':=fun Z' H' ⟨O3,Zw3,h3,e3,R3,S3,m',hm,w3⟩=>
   ⟨m',hm,O3,Zw3,h3,e12.trans e3,R3,S3,w3⟩
  exact ⟨again,fun v H' z=>k.rt _ _<|z.trans e12,fun Z' H' z=>k.nx _ _<|z.trans e12,again⟩
 | false=>
  dsimp only;rw [if_neg Ue];exact k.nx _ _ ⟨O2,Zw1,h2,e12,R2,S1.ext e2,q.2 rfl⟩
structure Src where
 ws:List W
 cell:Option (Nat×List W)
def Src.chk (s:Src)(h:Gh):Prop:=match s.cell with
 | none=>True
 | some n=>h.c n.1=Dn (.lst n.2)
abbrev MI:=Sw->Gh->(Src->Gh->Prop)->Prop
def Fj (K:Tt)(J:It)(src:Src)(H:Hp)(O : Mu):Prop:=∀ {H2:Hp} {O2:Mu} {h2:Gh} {i:Nat},Ah K H O H2 O2->Tp K O2 H2 h2->src.chk h2 ->
 (∀ w,src.ws[i]?=Dn w->J.go i H2/\∀ x H3,J.yld i H2 x H3->∃ O3,Ah K H2 O2 H3 O3/\Tp K O3 H3 h2/\JI K H3 O3 w x)/\(src.ws.length<=i->J.stop i H2)
inductive DI (K:Tt) (H:Hp) (O : Mu) (Rw:Src->Gh->Prop) (J:It) (H':Hp):Prop where
 | mk (O':Mu) (src:Src) (h':Gh) (e:Ah K H O H' O') (R:Tp K O' H' h') (o:Fj K J src H' O') (q:Rw src h'):DI K H O Rw J H'
inductive tDI (K:Tt) (mi:MI) (Z : St) (H:Hp) (R:It->Hp->Prop):Prop where
 | mk (O : Mu) (h:Gh) (Zw:Sw) (Rw:Src->Gh->Prop) (q:Tp K O H h) (S:Slots K H O Zw Z) (x:mi Zw h Rw) (k:∀ J H',DI K H O Rw J H'->R J H'):tDI K mi Z H R
abbrev Eo (X:Cx)(tg iter:Expr)(mi:MI):Prop:=PI X tg iter (tDI X.K mi)
theorem PI.of {iter:Expr}{t t':TI}(h:PI X tg iter t)(k:∀ Z H R,t' Z H R->t Z H R):PI X tg iter t':=fun pins s Z H R I q=>h pins s Z H R I (k Z H R q)
def cD (h:Gh):W->Option (List W)
 | .lst ws=>Dn ws
 | .kls ws=>Dn ws
 | .loc n=>(match h.c n with
  | some (.lst ws)=>Dn ws
  | _=>Go)
 | _=>Go
def view (h:Gh):W->Option (List W)
 | .tup ws=>Dn ws
 | .lst ws=>Dn ws
 | .kls ws=>Dn ws
 | .loc n=>cD h (.loc n)
 | _=>Go
def Bv (h:Gh):W->Option Src
 | .tup ws=>Dn ⟨ws,Go⟩
 | .lst ws=>Dn ⟨ws,Go⟩
 | .kls ws=>Dn ⟨ws,Go⟩
 | .loc n=>(match h.c n with
  | some (.lst ws)=>Dn ⟨ws,Dn (n,ws)⟩
  | _=>Go)
 | _=>Go
theorem FZ {K:Tt}{H:Hp}{O : Mu}{p:Addr}{ws:List W}(r:JI K H O (.lst ws) (.ref p)):Fj K (Itl K p) ⟨ws,Go⟩ H O:=by
 intro H2 O2 h2 i e R2 _;have r2:=e.r _ _ r;rw [JI] at r2;obtain ⟨q,xs,eq,hf,rs⟩:=r2;cases eq;refine ⟨fun w ew=>?_,fun hl=>⟨xs,hf.sq,by rw [<-rs.len];exact hl⟩⟩;obtain ⟨v,ev,rv⟩:=rs.get ew;refine ⟨⟨xs,v,hf.sq,ev⟩,fun x H3 ⟨e3,y⟩=>?_⟩;subst e3;have:=y xs hf.sq
 rw [ev] at this;cases this;exact ⟨O2,.refl,R2,rv⟩
theorem zaO {K:Tt}{H:Hp}{O : Mu}{p:Addr}{ws:List W}(r:JI K H O (.kls ws) (.ref p)):Fj K (Itl K p) ⟨ws,Go⟩ H O:=by
 intro H2 O2 h2 i e R2 _;have r2:=e.r _ _ r;rw [JI] at r2;obtain ⟨q,xs,eq,hf,rs⟩:=r2;cases eq;refine ⟨fun w ew=>?_,fun hl=>⟨xs,hf.sq,by rw [<-rs.len];exact hl⟩⟩;obtain ⟨v,ev,rv⟩:=rs.get ew;refine ⟨⟨xs,v,hf.sq,ev⟩,fun x H3 ⟨e3,y⟩=>?_⟩;subst e3;have:=y xs hf.sq
 rw [ev] at this;cases this;exact ⟨O2,.refl,R2,rv⟩
theorem zF {K:Tt}{H:Hp}{O : Mu}{p:Addr}{n:Nat}{ws:List W}(r:JI K H O (.loc n) (.ref p)):Fj K (Itl K p) ⟨ws,Dn (n,ws)⟩ H O:=by
 intro H2 O2 h2 i e R2 ck;have r2:=e.r _ _ r;rw [JI] at r2;obtain ⟨q,eq,hm⟩:=r2;cases eq;obtain ⟨p',xs,hm',hx,rs⟩:=R2.lstAt (show h2.c n=Dn (.lst ws) from ck);have ep:p'=p:=by rw [hm] at hm';exact (T7 hm').symm
 subst ep;refine ⟨fun w ew=>?_,fun hl=>⟨xs,.of hx,by rw [<-rs.len];exact hl⟩⟩;obtain ⟨v,ev,rv⟩:=rs.get ew;refine ⟨⟨xs,v,.of hx,ev⟩,fun x H3 ⟨e3,y⟩=>?_⟩;subst e3;have:=y xs (.of hx)
 rw [ev] at this;cases this;exact ⟨O2,.refl,R2,rv⟩
theorem zaF {K:Tt}{H:Hp}{O : Mu}{p:Addr}{ws:List W}(r:JI K H O (.tup ws) (.ref p)):Fj K (Itt K p) ⟨ws,Go⟩ H O:=by
 intro H2 O2 h2 i e R2 _;have r2:=e.r _ _ r;rw [JI] at r2;obtain ⟨q,xs,eq,hf,rs⟩:=r2;cases eq;refine ⟨fun w ew=>?_,fun hl=>⟨xs,hf,by rw [<-rs.len];exact hl⟩⟩;obtain ⟨v,ev,rv⟩:=rs.get ew;refine ⟨⟨xs,v,hf,ev⟩,fun x H3 ⟨e3,y⟩=>?_⟩;subst e3;have:=y xs hf
 rw [ev] at this;cases this;exact ⟨O2,.refl,R2,rv⟩
def RJ (K:Tt)(tl:TE):TI:=fun Z H R=>tl Z H fun x H1=>(∃ a,x=.ref a/\(∃ xs,Am K H1 a xs)/\R (Itl K a) H1)\/(∃ a,x=.ref a/\(∃ xs,CG K H1 a xs)/\R (Itt K a) H1)
theorem Io {l:Expr}{tl:TE}(hl:PE X l tl):PI X tg l (RJ X.K tl):=by
 intro pins s Z H R I h;refine AP (hl pins s Z H _ I h) fun v s1 ⟨x,H1,I1,r1,q1⟩=>?_;rcases q1 with ⟨a,e,⟨xs,hq⟩,q⟩ | ⟨a,e,⟨xs,hq⟩,q⟩
 ·subst e;cases r1;obtain ⟨its,rv,p,hz⟩:=I1.list hq;refine wpAny_pyIter_list p.isList ?_;refine ⟨s1.heap.objs.size,[s1.heap.objs.size],_,_,H1,rfl,I1.kept (t':=s1.toks) fun b o e=>TJ _ e,xG a _,⟨_,T9 _ rfl,rfl,rfl⟩,fun b hb=>?_,q⟩;have e:b=s1.heap.objs.size:=by simpa using hb
  subst e;exact I1.fpOk (T6 _)<|I1.hok.fresh<|T6 _
 ·subst e;cases r1;obtain ⟨its,rv,p,hz⟩:=I1.tuple hq;refine wpAny_pyIter_tuple (show s1.heap.IsTuple a its.toArray from p) ?_;refine ⟨s1.heap.objs.size,[s1.heap.objs.size],_,_,H1,rfl,I1.kept (t':=s1.toks) fun b o e=>TJ _ e,tY a _,⟨_,T9 _ rfl,rfl,rfl⟩,fun b hb=>?_,q⟩;have e:b=s1.heap.objs.size:=by simpa using hb
  subst e;exact I1.fpOk (T6 _)<|I1.hok.fresh<|T6 _
def CZ (m:ME):MI:=fun Z h R=>m Z h fun w h1=>match Bv h1 w with
 | some s=>R s h1
 | none=>False
theorem eN {l:Expr}(hl:DE X l ma):Eo X tg l (CZ ma):=PI.of (Io hl) fun Z H Q ⟨O,h,Zw,Rw,R,S,m,k⟩=>by
 refine ⟨O,h,Zw,_,R,S,m,fun v H1 ⟨O1,w,h1,e1,R1,r1,m1⟩=>?_⟩;cases w with
 | tup ws=>
  have r1':=r1;rw [JI] at r1;obtain ⟨p,xs,ev,hs,_⟩:=r1;subst ev;exact .inr ⟨p,rfl,⟨xs,hs⟩,k _ _ ⟨O1,⟨ws,Go⟩,h1,e1,R1,zaF r1',m1⟩⟩
 | lst ws=>
  have r1':=r1;rw [JI] at r1;obtain ⟨p,xs,ev,hs,_⟩:=r1;subst ev;exact .inl ⟨p,rfl,⟨xs,hs.sq⟩,k _ _ ⟨O1,⟨ws,Go⟩,h1,e1,R1,FZ r1',m1⟩⟩
 | kls ws=>
  have r1':=r1;rw [JI] at r1;obtain ⟨p,xs,ev,hs,_⟩:=r1;subst ev;exact .inl ⟨p,rfl,⟨xs,hs.sq⟩,k _ _ ⟨O1,⟨ws,Go⟩,h1,e1,R1,zaO r1',m1⟩⟩
 | loc n=>
  have r1':=r1;rw [JI] at r1;obtain ⟨p,ev,hm⟩:=r1;subst ev;unfold Bv at m1;dsimp only at m1;cases ec:h1.c n with
  | none=>rw [ec] at m1;exact m1.elim
  | some cl=>
   rw [ec] at m1;cases cl with
   | lst ws=>
    obtain ⟨p',xs,hm',hx,rs⟩:=R1.lstAt ec;have ep:p'=p:=by rw [hm] at hm';exact (T7 hm').symm
    subst ep;exact .inl ⟨p',rfl,⟨xs,.of hx⟩,k _ _ ⟨O1,⟨ws,Dn (n,ws)⟩,h1,e1,R1,zF r1',m1⟩⟩
   | _=>exact m1.elim
 | _=>exact m1.elim
def vB (lo:Int)(n:Nat):List W:=(VD n).map fun (k:Nat)=>.int (lo+(k:Int))
theorem Mj {K:Tt}{H:Hp}{O : Mu}{lo:Int}{n:Nat}:Fj K (Itr lo n) ⟨vB lo n,Go⟩ H O:=by
 intro H2 O2 h2 i e R2 _;refine ⟨fun w ew=>?_,fun hl=>?_⟩
 ·have hi:i<n:=by
   have:=(Uq.mp ew).1
   simpa [vB] using this
  have ew':w=.int (lo+(i:Int)):=by
   unfold vB at ew;rw [Ut,List.getElem?_range hi] at ew;exact (T7 ew).symm
  subst ew';refine ⟨hi,fun x H3 ⟨e3,y⟩=>?_⟩;subst e3;exact ⟨O2,.refl,R2,by rw [JI];exact y⟩
 ·have:n<=i:=by simpa [vB] using hl
  exact this
def yV (j:Int)(P:Prop):Prop:=CJ (decide (-1000<=j)&&decide (j<=1000)) P ((-(2^62)<=j/\j<2^62)/\P)
theorem yV.ok {j:Int}{P:Prop}(h:yV j P):(-(2^62)<=j/\j<2^62)/\P:=by
 unfold yV at h;cases e:(decide (-1000<=j)&&decide (j<=1000)) with
 | true=>
  rw [e] at h;rw [Uo,decide_eq_true_iff,decide_eq_true_iff] at e;exact ⟨⟨by lia,by lia⟩,h⟩
 | false=>rw [e] at h;exact h
theorem yV.mk {j:Int}{P:Prop}(h1:-(2^62)<=j)(h2:j<2^62)(h:P):yV j P:=by
 unfold yV;cases e:(decide (-1000<=j)&&decide (j<=1000)) with
 | true=>exact h
 | false=>exact ⟨⟨h1,h2⟩,h⟩
def wK (ma:MA):MI:=fun Z h R=>ma Z h fun ws h1=>match ws with
 | [.int j]=>yV j (R ⟨vB 0 j.toNat,Go⟩ h1)
 | _=>False
theorem vC {a:Expr}{mr:MA}{p pos:Pos}(hg:Gl X "range")(hm:X.mg "range" = Go)(ha:DP X [a] mr)(hs:T3 [a] X.env=[(false,eval a X.env)]:=by rfl):Eo X tg (.Call (.Name "range" p) [a] [] pos) (wK mr):=
 PI.of (wM hg hm ha hs) fun Z H Q ⟨O,h,Zw,Rw,R,S,m,k⟩=>by
  refine ⟨O,h,Zw,_,R,S,m,fun vs H1 ⟨O1,ws,h1,e1,R1,r1,m1⟩=>?_⟩;split at m1
  ·rename_i j;rw [aG] at r1;obtain ⟨v,vr,ev,ra,r1⟩:=r1;rw [aG] at r1;rw [JI] at ra;subst ev r1 ra;exact ⟨j,rfl,m1.ok.1.1,m1.ok.1.2,k _ _ ⟨O1,_,h1,e1,R1,Mj,m1.ok.2⟩⟩
  ·exact m1.elim
def Src.go (s:Src)(h:Gh)(P:Prop):Prop:=match s.cell with
 | none=>P
 | some n=>h.c n.1=Dn (.lst n.2)/\P
theorem Src.go_ok {s:Src}{h:Gh}{P:Prop}(x:s.go h P):s.chk h/\P:=by
 unfold Src.go at x;unfold Src.chk;cases e:s.cell with
 | none=>rw [e] at x;exact ⟨trivial,x⟩
 | some n=>rw [e] at x;exact x
def cX (s:Src)(g:MG)(b:MS)(D:aX):List W->Sw->Gh->Prop
 | [],Z,h=>s.go h (D.nx Z h)
 | w::r,Z,h=>s.go h (g w Z h fun Z1 h1=>b { D with nx:=cX s g b D r,ct:=cX s g b D r,bk:=D.nx } Z1 h1)
def zL (mi:MI)(g:MG)(b:MS):MS:=fun D Z h=>mi Z h fun s h1=>cX s g b D s.ws Z h1
theorem qP {iter:Expr}{body:List Stmt}{mi:MI}{g:MG}{mb0:MS}{pos:Pos}(hp:W5 (Uz X.prog X.w) X.A X.env X.xe)(hc:X.calm=true)(hi:Eo X tg iter mi)(hg:DG X tg g)(hb:EY X body mb0)
  (hs:∀ x,V3 iter X.env x=pure x:=by intro _;rfl):DS X (.For tg iter body [] pos) (zL mi g mb0):=(Lx hp hc hi hg hb hs).of fun D Z H ⟨O,h,Zw,Dw,R,S,m,k⟩=>by
 refine ⟨O,h,Zw,_,R,S,m,fun J H1 ⟨O1,src,h1,e1,R1,ok,m1⟩=>?_⟩;refine ⟨fun i n Z' H'=>n=src.ws.length - i/\i<=src.ws.length/\DN X.K H1 O1 (cX src g mb0 Dw<|src.ws.drop i) Z' H',⟨src.ws.length,by simp,Wh _,O1,Zw,h1,.refl,R1,S.ext e1,by rw [List.drop_zero];exact m1⟩,?_⟩;rintro i n Z2 H2 ⟨hn,hle,O2,Zw2,h2,e2,R2,S2,m2⟩;by_cases hlt:i<src.ws.length
 ·rw [List.drop_eq_getElem_cons hlt] at m2;obtain ⟨ck,m2⟩:=Src.go_ok m2;obtain ⟨hgo,hy⟩:=(ok e2 R2 ck).1 src.ws[i] (Uk hlt);refine .inr ⟨hgo,fun Z' H'=>DN X.K H2 O2 (cX src g mb0 Dw<|src.ws.drop<|i+1) Z' H',fun Z' H' z=>⟨src.ws.length - (i+1),by lia,rfl,hlt,z.trans e2⟩,fun x H3 y=>?_⟩;obtain ⟨O3,e3,R3,rx⟩:=hy x H3 y;refine ⟨O3,h2,Zw2,src.ws[i],_,R3,S2.ext e3,rx,m2,fun Z4 H4 ⟨O4,Zw4,h4,e4,R4,S4,m4⟩=>?_⟩;have e24:=e3.trans e4;have e14:=(e1.trans e2).trans e24;exact ⟨O4,h4,Zw4,_,R4,S4,m4,fun Z' H' z=>z.trans e24,fun v H' z=>k.rt _ _<|z.trans e14,fun Z' H' z=>k.nx _ _<|z.trans e14,fun Z' H' z=>z.trans e24⟩
 ·have ei:i=src.ws.length:=by lia
  subst ei;rw [List.drop_length] at m2;obtain ⟨ck,m2⟩:=Src.go_ok m2;exact .inl ⟨(ok e2 R2 ck).2 (T6 _),k.nx _ _ ⟨O2,Zw2,h2,e1.trans e2,R2,S2,m2⟩⟩
def jY (ix:List Nat)(Z : Sw):Sw:=ix.map fun i=>(Z[i]?).getD Go
theorem Slots.blk {K:Tt}{H:Hp}{O : Mu}{Zw:Sw}{Z : St}{ix:List Nat}(S:Slots K H O Zw Z):∀ {ws:List W} {vs:List V},aG K H O ws vs->Slots K H O (ws.map Dn++jY ix Zw) (vs.map Dn++uf ix Z):=by
 intro ws vs r;have hl:=r.len;refine ⟨by simp [jY,uf,hl],fun i u q=>?_⟩;by_cases hi:i<ws.length
 ·rw [Vg (by simpa using hi),Ut] at q;have q':ws[i]?=Dn u:=by
   cases e:ws[i]? with
   | none=>rw [e] at q;cases q
   | some a=>rw [e] at q;simpa using q
  obtain ⟨v,hv,rv⟩:=r.get q';refine ⟨v,?_,rv⟩;rw [Vg (by rw [Ub];lia),Ut,hv];rfl
 ·rw [U8 (by simpa using hi),Ub] at q;rw [U8 (by rw [Ub];lia),Ub,<-hl];generalize i - ws.length=i at q |-
  unfold jY at q;unfold uf;rw [Ut] at q |-
  cases e:ix[i]? with
  | none=>rw [e] at q;cases q
  | some j=>
   rw [e] at q;cases e2:Zw[j]? with
   | none=>simp [e2] at q
   | some o=>
    have eo:o=Dn u:=by simpa [e2] using q
    subst eo;obtain ⟨v',h1,h2⟩:=S.get j u e2;exact ⟨v',by simp [h1],h2⟩
def pH:MT:=fun _ h Q=>Q true h
def jo (s:Src)(own:W->Option (List W))(ix:List Nat)(tt:MT)(te:ME)(Z : Sw)(Q:WK):List W->List W->Gh->Prop
 | [],acc,h=>s.go h (Q (.lst acc) h)
 | w::r,acc,h=>s.go h (match own w with
  | some vs=>tt (vs.map Dn++jY ix Z) h fun c h1=>CJ c (te (vs.map Dn++jY ix Z) h1 fun v h2=>jo s own ix tt te Z Q r (acc++[v]) h2) (jo s own ix tt te Z Q r acc h1)
  | none=>False)
def CK (own:W->Option (List W))(ix:List Nat)(mi:MI)(tt:MT)(te:ME):ME:=fun Z h Q=>mi Z h fun s h1=>iz s.ws.length (jo s own ix tt te Z Q s.ws [] h1)
def tE (K:Tt)(n:Nat)(own:V->Hp->List V->Prop)(ow:W->Option (List W)):Prop:=∀ {H:Hp} {O : Mu} {w:W} {v:V} {ws:List W},JI K H O w v->ow w=Dn ws->∃ vs,own v H vs/\vs.length=n/\aG K H O ws vs
def DX (w:W):Option (List W):=Dn [w]
def ov1:V->Hp->List V->Prop:=fun v _ vs=>vs=[v]
theorem j5 {K:Tt}:tE K 1 ov1 DX:=by
 intro H O w v ws r e;cases (show Dn [w]=Dn ws from e)
 exact ⟨[v],rfl,rfl,.one r⟩
abbrev HY (X:Cx)(ifs:List Expr)(m:MT):Prop:=Hh X ifs (tDT X.K m)
theorem dH:HY X [] pH:=fun pins s Z H Q I ⟨O,h,Zw,Qw,R,S,m,k⟩=>zax pins s Z H Q I (k _ _ ⟨O,h,.refl,R,m⟩)
theorem Gy (h:DT X c t):HY X [c] t:=zba h
theorem IV {K:Tt}{Z : St}{H:Hp}{Q:VK}{n:Nat}{own:V->Hp->List V->Prop}{ow:W->Option (List W)}{ix:List Nat}{mi:MI}{tt:MT}{te:ME}(oo:tE K n own ow)(q:tD K (CK ow ix mi tt te) Z H Q):tLC n own ix (tDI K mi) (tDT K tt) (tD K te) Z H Q:=by
 obtain ⟨O,h,Zw,Qw,R,S,m,k⟩:=q;refine ⟨O,h,Zw,_,R,S,m,fun J H1 ⟨O1,src,h1,e1,R1,ok,hz0⟩=>?_⟩;obtain ⟨hz,m1⟩:=hz0.ok;intro D hD;have nD:=R1.nohid hD;have hD1:Ah K H1 O1 (kI H1 D (.lst [])) (O1.hide D):=Ah.hide hD;refine ⟨fun i n ys H'=>n=src.ws.length - i/\i<=src.ws.length/\ys.length<=i/\H' D=Dn (.lst ys)/\∃ O' acc h',Ah K H1 O1 H' O'/\Tp K O' H' h'/\O'.hid D/\aG K H' O' acc ys/\jo src ow ix tt te Zw Qw (src.ws.drop i) acc h',
  ⟨src.ws.length,by simp,Wh _,T6 _,aM,O1.hide D,[],h1,hD1,R1.hide hD,.inl rfl,.nil,by rw [List.drop_zero];exact m1⟩,?_⟩
 rintro i n' ys H2 ⟨hn,hle,hys,hH2,O2,acc,h2,e2,R2,hid2,ra,m2⟩ _;by_cases hlt:i<src.ws.length
 ·rw [List.drop_eq_getElem_cons hlt] at m2;obtain ⟨ck,m2⟩:=Src.go_ok m2;obtain ⟨hgo,hy⟩:=(ok e2 R2 ck).1 src.ws[i] (Uk hlt);refine .inr ⟨hgo,by lia,fun x H3 y=>?_⟩;obtain ⟨O3,e3,R3,rx⟩:=hy x H3 y;have e13:=e2.trans e3;cases eo:ow src.ws[i] with
  | none=>rw [eo] at m2;exact m2.elim
  | some us=>
   rw [eo] at m2;obtain ⟨vs,hov,hvl,rvs⟩:=oo rx eo;have S3:=(S.ext (e1.trans e13)).blk (ix:=ix) rvs;refine ⟨vs,hov,hvl,O3,h2,_,_,R3,S3,m2,fun b H4 ⟨O4,h4,e4,R4,m4⟩=>?_⟩;have e24:=e3.trans e4;obtain ⟨hid4,hH4⟩:=e24.o D _ hid2 hH2;cases b with
   | false=>
    dsimp only;rw [if_neg Ue];exact ⟨hH4,src.ws.length - (i+1),by lia,rfl,hlt,by lia,hH4,O4,acc,h4,e2.trans e24,R4,hid4,e24.s ra,m4⟩
   | true=>
    dsimp only;rw [if_pos rfl];refine ⟨O4,h4,_,_,R4,S3.ext e4,m4,fun v H5 ⟨O5,w5,h5,e5,R5,r5,m5⟩=>?_⟩;have e25:=e24.trans e5;obtain ⟨hid5,hH5⟩:=e25.o D _ hid2 hH2;have g:=yx.grow (ys:=ys++[v]) R5 hid5;have rs:aG K (kI H5 D (.lst (ys++[v]))) O5 (acc++[w5]) (ys++[v]):=aG.ex (Ex0.grow R5 hid5) (aG.append (e25.s ra) (aG.one r5));exact ⟨hH5,src.ws.length - (i+1),by lia,rfl,hlt,by rw [Vb];simp;lia,aM,O5,acc++[w5],h5,(e2.trans e25).x nD g,R5.grow hid5,hid5,rs,m5⟩
 ·have ei:i=src.ws.length:=by lia
  subst ei;rw [List.drop_length] at m2;obtain ⟨ck,m2⟩:=Src.go_ok m2;exact .inl ⟨(ok e2 R2 ck).2 (T6 _),k _ _ ⟨O2.unhide D,.lst acc,h2,e1.trans<|e2.x nD .unhide,R2.unhide,JI.built R2 hid2 hH2 ra,m2⟩⟩
variable {scope:Scope}{x:Str}{xs:List Str}{ix:List Nat}{elt iter:Expr}{ifs:List Expr}{px:Pos}{mi:MI}{tt:MT}{te:ME}
theorem j6 (B:fU X scope [x] ix)(C:Addr)(s:Tz)(H:Hp)(fp:List Addr):PG (blk X scope (d8 X [x] ix) C s H fp) (.Name x px) (Dh 1 ov1):=by
 obtain ⟨o1,o2⟩:=Hu B (y:=x) (by simp);intro pins s' Z H' v u Q I r ⟨vs,hv,hl,q⟩;cases hv;refine jH (X:=blk X scope (d8 X [x] ix) C s H fp) (i:=0) B.nd rfl o1 o2 pins s' Z H' v u Q I r ?_;have hlen:Z.length=(d8 X [x] ix).length:=I.len;cases Z with
 | nil=>simp at hlen
 | cons o Z=>exact q
theorem Dc {own:V->Hp->List V->Prop}{ow:W->Option (List W)}(ix:List Nat)(hc:X.calm=true)(B:fU X scope xs ix)(oo:tE X.K xs.length own ow)(hg:∀ C s H fp,PG (blk X scope (d8 X xs ix) C s H fp) tg (Dh xs.length own))(hi:Eo X tg iter mi)
  (ht:∀ C s H fp,HY (blk X scope (d8 X xs ix) C s H fp) ifs tt) (he:∀ C s H fp,DE (blk X scope (d8 X xs ix) C s H fp) elt te)
  (hs:∀ v,V3 iter X.env v=pure v:=by intro _;rfl):DE X (.ListComp elt [⟨tg,iter,ifs,0⟩] scope pos) (CK ow ix mi tt te):=(Qn ix hc B hg hi ht he hs).of fun _ _ _ q=>IV oo q
theorem HS {own:V->Hp->List V->Prop}{ow:W->Option (List W)}(ix:List Nat){i:Nat}{y:Str}{py spos:Pos}(hN:X.N.Nodup)(hi':X.N[i]?=Dn y)(hy:Loc X.env.scope y)(hc:X.calm=true)(B:fU X scope xs ix)(oo:tE X.K xs.length own ow)
  (hg:∀ C s H fp,PG (blk X scope (d8 X xs ix) C s H fp) tg (Dh xs.length own)) (hi:Eo X tg iter mi)
  (ht:∀ C s H fp,HY (blk X scope (d8 X xs ix) C s H fp) ifs tt) (he:∀ C s H fp,DE (blk X scope (d8 X xs ix) C s H fp) elt te)
  (hsw:XS (.ListComp elt [⟨tg,iter,ifs,0⟩] scope pos) (Dn (.Name y py)) spos.line X.env=pure true:=by rfl)
  (hf:X.fn y=true\/X.env.scope.names.lookup y=Dn .local:=by first | exact .inl rfl | exact .inr rfl | assumption)
  (hs:∀ v,V3 iter X.env v=pure v:=by intro _;rfl):DS X (.Assign [.Name y py] (.ListComp elt [⟨tg,iter,ifs,0⟩] scope pos) spos) (cI (CK ow ix mi tt te) (Oj i)):=
 (Kp ix hN hi' hy hc B hg hi ht he hsw hf hs).of fun _ _ _ q=>xQ (fun _ _ _ z=>IV oo z) q
theorem Oc {κ : Type}{K:Tt}{H0 H:Hp}{O0 O : Mu}{k:Nat}(hd:∀ n p,O0.f n=Dn p->n<k):∀ {fs:List (κ×W)} {f0 fv:List (κ×V)},LQ K H0 O0 fs f0->LQ K H O fs fv->LQ K H (O.cut k) fs fv
 | [],_,_,_,.nil=>.nil
 | _::_,_,_,.cons a b,.cons c d=>.cons ⟨c.1,JI.cut c.2 (JI.lo hd a.2)⟩ (Oc hd b d)
def iB (pure:Bool)(h:Gh)(w:W)(h':Gh)(Q:WK):Prop:=match pure with
 | false=>Q w h'
 | true=>(∀ n c,n<h.nx->h.c n=Dn c->h'.c n=Dn c)/\((Lo h.nx w/\Q w h)\/∃ n ws,w=.loc n/\h.nx<=n/\h'.c n=Dn (.lst ws)/\Dp h.nx ws/\Q (.lst ws) h)
def CP (n N:Nat)(pure:Bool)(body:Tq->MS):SX:=fun ws h Q E=>CJ (XH ws.length n)
 (body E { nx:=fun _ h'=>iB pure h .non h' Q,rt:=fun w h'=>iB pure h w h' Q } (ws.map Dn++U4 (N - ws.length) Go) h) False
theorem rW {n N:Nat}{pure:Bool}{body:Tq->MS}{ws:List W}{h:Gh}{Q:WK}{E:Tq}(x:CP n N pure body ws h Q E):ws.length=n /\
  body E { nx:=fun _ h'=>iB pure h .non h' Q,rt:=fun w h'=>iB pure h w h' Q } (ws.map Dn++U4 (N - ws.length) Go) h:=by
 unfold CP at x;cases e:XH ws.length n with
 | true=>rw [e] at x;exact ⟨Nat.eq_of_beq_eq_true e,x⟩
 | false=>rw [e] at x;exact (show False from x).elim
theorem Tp.cut {K:Tt}{H H':Hp}{O O':Mu}{h h':Gh}(R:Tp K O H h)(R':Tp K O' H' h')(e:Ah K H O H' O')(hc:∀ n c,h.c n=Dn c->h'.c n=Dn c):Tp K (O'.cut h.nx) H' h where
 inj:=fun m n p a b=>R'.inj m n p (Mu.cut_some a).2 (Mu.cut_some b).2
 dom:=fun n p a=>(Mu.cut_some a).1
 trk:=fun n p a=>R'.trk n p (Mu.cut_some a).2
 cel:=fun n c a=>by
  obtain ⟨p0,m0,x0⟩:=R.cel n c a;obtain ⟨p,m,x⟩:=R'.cel n c (hc n c a);have hn:=R.dom n p0 m0;refine ⟨p,by show (if n<h.nx then O'.f n else Go)=Dn p;rw [if_pos hn];exact m,?_⟩;cases c with
  | lst ws=>
   obtain ⟨xs0,_,r0⟩:=x0;obtain ⟨xs,hx,r⟩:=x;exact ⟨xs,hx,aG.cut r<|aG.lo R.dom r0⟩
  | obj C fs=>
   obtain ⟨dx0,f0,_,r0⟩:=x0;obtain ⟨dx,fv,hx,r⟩:=x;exact ⟨dx,fv,hx,Oc R.dom r0 r⟩
  | dct kvs=>
   obtain ⟨f0,_,r0⟩:=x0;obtain ⟨fv,hx,r⟩:=x;exact ⟨fv,hx,Oc R.dom r0 r⟩
  | dtt kvs=>
   obtain ⟨_,_,_,_,_,d0,f0⟩:=x0;obtain ⟨xs,vs,a,b,c,d,f⟩:=x;exact ⟨xs,vs,a,b,c,aG.cut d<|aG.lo R.dom d0,aG.cut f<|aG.lo R.dom f0⟩
 hd:=fun p z=>⟨(R'.hd p z).1,fun n a=>(R'.hd p z).2 n (Mu.cut_some a).2⟩
theorem Ah.cut {K:Tt}{H H':Hp}{O O':Mu}{h:Gh}(R:Tp K O H h)(e:Ah K H O H' O'):Ah K H O H' (O'.cut h.nx):=
 ⟨fun w v r=>JI.cut (e.r w v r) (JI.lo R.dom r),fun p u z a=>e.o p u z a⟩
theorem mH {K:Tt}{H H':Hp}{O O':Mu}{h h':Gh}{w:W}{v:V}{Q:WK}{pure:Bool}(R:Tp K O H h)(e:Ah K H O H' O')(R':Tp K O' H' h')(r:JI K H' O' w v)(x:iB pure h w h' Q):DQ K H O Q v H':=by
 cases pure with
 | false=>exact ⟨O',w,h',e,R',r,x⟩
 | true=>
  obtain ⟨hc0,⟨lo,q⟩ | ⟨n,ws,ew,hn,ec,lo,q⟩⟩:=x;all_goals have hc:∀ n c,h.c n=Dn c->h'.c n=Dn c:=fun n c a=>hc0 n c (let ⟨p,m,_⟩:=R.cel n c a;R.dom n p m) a
  ·exact ⟨O'.cut h.nx,w,h,e.cut R,R.cut R' e hc,JI.cut r lo,q⟩
  ·subst ew;refine ⟨O'.cut h.nx,.lst ws,h,e.cut R,R.cut R' e hc,?_,q⟩;rw [JI] at r;rw [JI];obtain ⟨p,ev,hm⟩:=r;obtain ⟨p',xs,hm',hx,rs⟩:=R'.lstAt ec;have ep:p'=p:=by rw [hm] at hm';exact (T7 hm').symm
   subst ep;refine ⟨p',xs,ev,⟨hx,fun m a=>?_,fun z=>(R'.hd p' z).2 n hm⟩,aG.cut rs lo⟩;obtain ⟨a1,a2⟩:=Mu.cut_some a;have:=R'.inj m n p' a2 hm
   lia
theorem jD {K:Tt}{H:Hp}{O : Mu}{N:List Str}:∀ {ws:List W} {vs:List V},aG K H O ws vs->Slots K H O (ws.map Dn++U4 (N.length - ws.length) Go) (start N vs):=by
 intro ws vs r;have hl:=r.len;refine ⟨by simp [start,hl],fun i w q=>?_⟩;by_cases hi:i<ws.length
 ·rw [Vg (by simpa using hi),Ut] at q;have q':ws[i]?=Dn w:=by
   cases e:ws[i]? with
   | none=>rw [e] at q;cases q
   | some a=>rw [e] at q;simpa using q
  obtain ⟨v,hv,rv⟩:=r.get q';refine ⟨v,?_,rv⟩;unfold start;rw [Vg (by rw [Ub];lia),Ut,hv];rfl
 ·rw [U8 (by simpa using hi),Wx] at q;split at q <;> cases q
theorem mV {P:T8}{w:Uv}{K:Tt}{mg:Str->Option Tw}{base:Heap}{x qual:Str}{st:Stmt}{f:Addr}{fd:Uw}{N ps:List Str}{k:Nat}{pure:Bool}{body:Tq->MS}(F:CV K x qual st f fd)(S:aO N ps (aH st))
  (hb:∀ (cdv:Tw) (A:Ug) (outer:List Env) (s:Tz) (H:Hp) (E:XK),gO k (A.deeper (envOfC qual (aH st) s.heap.objs.size f cdv)) ->
   EY (Bm Ao P w K mg base N qual (aH st) f cdv A outer s H E).nox (d9 st) (body EF)):cH P w K mg base Ao (k+1) f fd ps (lift K (CP ps.length N.length pure body)):=by
 refine F.ok S (fun vs H Q E ⟨O,h,ws,Qw,R,r,m,k⟩=>by rw [<-r.len];exact (rW m).1)<|fun cdv A outer s H vs Q E hr ⟨O,h,ws,Qw,R,r,m0,k⟩=>?_
 obtain ⟨hl,m⟩:=rW m0;refine ⟨_,hb cdv A outer s H E hr,O,h,_,_,R,jD r,m,?_,?_,?_,?_⟩
 ·rintro Z' H' ⟨O1,Zw1,h1,e1,R1,S1,m1⟩;exact k _ _<|mH (w:=.non) R e1 R1 (by rw [JI]) m1
 ·rintro v H' ⟨O1,w1,h1,e1,R1,r1,m1⟩;exact k _ _<|mH R e1 R1 r1 m1
 ·rintro Z' H' ⟨O1,Zw1,h1,e1,R1,S1,m1⟩;exact m1.elim
 ·rintro Z' H' ⟨O1,Zw1,h1,e1,R1,S1,m1⟩;exact m1.elim
end
section
variable {X:Cx}{K:Tt}
theorem DQ.int {H:Hp}{O : Mu}{h:Gh}{i:Int}{Q:WK}(R:Tp K O H h)(q:Q (.int i) h):DQ K H O Q (.int i) H:=⟨O,.int i,h,.refl,R,by rw [JI],q⟩
theorem DQ.bl {H:Hp}{O : Mu}{h:Gh}{i:Bool}{Q:WK}(R:Tp K O H h)(q:Q (.bl i) h):DQ K H O Q (.bl i) H:=⟨O,.bl i,h,.refl,R,by rw [JI],q⟩
def zak (C:Int->Int->Prop)(g:Int->Int->Int):M2:=fun x y h Q=>match x,y with
 | .int i,.int j=>C i j/\Q (.int (g i j)) h
 | _,_=>False
def Hf:M2:=fun x y h Q=>match x,y with
 | .int i,.int j=>Q (.int (i - j)) h
 | _,_=>False
theorem Gm:Dd X (Vv .Sub) Hf:=⟨_,Lh,by
 intro H O h x y wx wy Qw Q R rx ry m k;unfold Hf at m;split at m
 ·rw [JI] at rx ry;exact ⟨_,_,rx,ry,k _ _<|.int R m⟩
 ·exact m.elim⟩
def Gw:M2:=fun x y h Q=>match x,y with
 | .int i,.int j=>n8 i j/\Q (.int (i*j)) h
 | _,_=>False
theorem Dy:Dd X (Vv .Mult) Gw:=⟨_,Fy,by
 intro H O h x y wx wy Qw Q R rx ry m k;unfold Gw at m;split at m
 ·rw [JI] at rx ry;exact ⟨_,_,rx,ry,m.1,k _ _<|.int R m.2⟩
 ·exact m.elim⟩
def zA:M2:=fun x y h Q=>match x,y with
 | .int i,.int j=>vg i j/\Q (.int (i.fdiv j)) h
 | _,_=>False
theorem sW:Dd X (Vv .FloorDiv) zA:=⟨_,yd,by
 intro H O h x y wx wy Qw Q R rx ry m k;unfold zA at m;split at m
 ·rw [JI] at rx ry;exact ⟨_,_,rx,ry,m.1,k _ _<|.int R m.2⟩
 ·exact m.elim⟩
def yc:M2:=fun x y h Q=>match x,y with
 | .int i,.int j=>j≠0/\Q (.int (i.fmod j)) h
 | _,_=>False
theorem qx:Dd X (Vv .Mod) yc:=⟨_,zay,by
 intro H O h x y wx wy Qw Q R rx ry m k;unfold yc at m;split at m
 ·rw [JI] at rx ry;exact ⟨_,_,rx,ry,m.1,k _ _<|.int R m.2⟩
 ·exact m.elim⟩
def Bg:M2:=fun x y h Q=>match x,y with
 | .int i,.int j=>Ny i j/\Q (.int (i^j.toNat)) h
 | _,_=>False
theorem wR:Dd X (Vv .Pow) Bg:=⟨_,HJ,by
 intro H O h x y wx wy Qw Q R rx ry m k;unfold Bg at m;split at m
 ·rw [JI] at rx ry;exact ⟨_,_,rx,ry,m.1,k _ _<|.int R m.2⟩
 ·exact m.elim⟩
def kLt:M2:=fun x y h Q=>match x,y with
 | .int i,.int j=>Q (.bl (decide (i<j))) h
 | _,_=>False
theorem G7:Dd X (VL .Lt) kLt:=⟨_,Ql,by
 intro H O h x y wx wy Qw Q R rx ry m k;unfold kLt at m;split at m
 ·rw [JI] at rx ry;exact ⟨_,_,rx,ry,k _ _<|.bl R m⟩
 ·exact m.elim⟩
def Ej:M2:=fun x y h Q=>match x,y with
 | .int i,.int j=>Q (.bl (decide (j<i))) h
 | _,_=>False
theorem Qi:Dd X (VL .Gt) Ej:=⟨_,Ng,by
 intro H O h x y wx wy Qw Q R rx ry m k;unfold Ej at m;split at m
 ·rw [JI] at rx ry;exact ⟨_,_,rx,ry,k _ _<|.bl R m⟩
 ·exact m.elim⟩
def kGe:M2:=fun x y h Q=>match x,y with
 | .int i,.int j=>Q (.bl (decide (j<=i))) h
 | _,_=>False
theorem R9:Dd X (VL .GtE) kGe:=⟨_,Ov,by
 intro H O h x y wx wy Qw Q R rx ry m k;unfold kGe at m;split at m
 ·rw [JI] at rx ry;exact ⟨_,_,rx,ry,k _ _<|.bl R m⟩
 ·exact m.elim⟩
theorem aG.ne_nil {H:Hp}{O : Mu}{ws:List W}{xs:List V}(r:aG K H O ws xs):xs=[]↔ws=[]:=by
 have:=r.len
 constructor
 ·intro e;subst e;exact List.eq_nil_of_length_eq_zero this
 ·intro e;subst e;exact List.eq_nil_of_length_eq_zero this.symm
def DK:M2:=fun x y h Q=>match y with
 | .int i=>(match view h x with
  | some ws=>(match DW ws i with
   | some w=>Q w h
   | none=>False)
  | none=>False)
 | _=>False
theorem aG.at {H:Hp}{O : Mu}{ws:List W}{xs:List V}{i:Int}{w:W}(r:aG K H O ws xs)(e:DW ws i=Dn w):∃ v,DW xs i=Dn v/\JI K H O w v:=by
 unfold DW at e |-
 rw [<-r.len];cases q:Dj ws.length i with
 | none=>rw [q] at e;cases e
 | some j=>rw [q] at e;exact r.get e
theorem bZ {H:Hp}{O : Mu}{h:Gh}{w:W}{v:V}{ws:List W}(R:Tp K O H h)(r:JI K H O w v)(e:cD h w=Dn ws):∃ p xs,v=.ref p/\Am K H p xs/\aG K H O ws xs:=by
 cases w with
 | lst us=>
  rw [JI] at r;obtain ⟨p,xs,ev,hs,rs⟩:=r;cases (show Dn us=Dn ws from e)
  exact ⟨p,xs,ev,hs.sq,rs⟩
 | kls us=>
  rw [JI] at r;obtain ⟨p,xs,ev,hs,rs⟩:=r;cases (show Dn us=Dn ws from e)
  exact ⟨p,xs,ev,hs.sq,rs⟩
 | loc n=>
  rw [JI] at r;obtain ⟨p,ev,hm⟩:=r;unfold cD at e;dsimp only at e;cases ec:h.c n with
  | none=>rw [ec] at e;cases e
  | some cl=>
   rw [ec] at e;cases cl with
   | lst us=>
    cases (show Dn us=Dn ws from e)
    obtain ⟨p',xs,hm',hx,rs⟩:=R.lstAt ec;have ep:p'=p:=by rw [hm] at hm';exact (T7 hm').symm
    subst ep;exact ⟨p',xs,ev,.of hx,rs⟩
   | _=>cases e
 | _=>cases e
theorem wO {H:Hp}{O : Mu}{h:Gh}{w:W}{v:V}{ws:List W}(R:Tp K O H h)(r:JI K H O w v)(e:view h w=Dn ws):∃ p xs,v=.ref p/\(Am K H p xs\/CG K H p xs)/\aG K H O ws xs:=by
 cases w with
 | tup us=>
  rw [JI] at r;obtain ⟨p,xs,ev,hs,rs⟩:=r;cases (show Dn us=Dn ws from e)
  exact ⟨p,xs,ev,.inr hs,rs⟩
 | lst us=>
  obtain ⟨p,xs,ev,hs,rs⟩:=bZ (ws:=ws) R r e;exact ⟨p,xs,ev,.inl hs,rs⟩
 | kls us=>
  obtain ⟨p,xs,ev,hs,rs⟩:=bZ (ws:=ws) R r e;exact ⟨p,xs,ev,.inl hs,rs⟩
 | loc n=>
  obtain ⟨p,xs,ev,hs,rs⟩:=bZ (ws:=ws) R r e;exact ⟨p,xs,ev,.inl hs,rs⟩
 | _=>cases e
theorem KY:Ri K (rIx K) DK:=by
 intro H O h x y wx wy Qw Q R rx ry m k;unfold DK at m;split at m
 ·rename_i i;split at m
  ·rename_i ws ev;split at m
   ·rename_i w ew;obtain ⟨p,xs,ex,hs,rs⟩:=wO R rx ev;obtain ⟨v,hv,rv⟩:=rs.at ew;rw [JI] at ry;have fin:=k _ _ ⟨O,w,h,.refl,R,rv,m⟩;rcases hs with hs | hs
    ·exact .inl ⟨p,xs,i,v,ex,ry,hs,hv,fin⟩
    ·exact .inr<|.inl ⟨p,xs,i,v,ex,ry,hs,hv,fin⟩
   ·exact m.elim
  ·exact m.elim
 ·exact m.elim
theorem tO {a b:Expr}{ma mb:ME}{pos:Pos}(ha:DE X a ma)(hb:DE X b mb)(hs:uV b):DE X (.Subscript a b pos) (Tn DK ma mb):=(Ob HN ha hb hs).of fun Z H Q h=>two h fun R r1 r2 m k=>KY R r1 r2 m k
abbrev MO:=Sw->Gh->(Option Int->Gh->Prop)->Prop
def tDO (K:Tt)(m:MO):TO:=fun Z H Q=>∃ O h Zw Qw,Tp K O H h/\Slots K H O Zw Z/\m Zw h Qw/\∀ o H',(∃ O' h',Ah K H O H' O'/\Tp K O' H' h'/\Qw o h')->Q o H'
abbrev DO (X:Cx)(e:Option Expr)(m:MO):Prop:=PO X e (tDO X.K m)
theorem PO.of {e:Option Expr}{t t':TO}(h:PO X e t)(k:∀ Z H Q,t' Z H Q->t Z H Q):PO X e t':=by
 unfold PO at h |-
 intros
 apply h <;> first | assumption | (apply k;assumption)
def vJ:MO:=fun _ h Q=>Q Go h
def vN (m:ME):MO:=fun Z h Q=>m Z h fun w h1=>match w with
 | .int i=>Q (Dn i) h1
 | _=>False
theorem Fv:DO X Go vJ:=PO.of Gu fun Z H Q ⟨O,h,Zw,Qw,R,S,m,k⟩=>k _ _ ⟨O,h,.refl,R,m⟩
theorem pP {e:Expr}{ma:ME}(he:DE X e ma):DO X (Dn e) (vN ma):=PO.of (Fo he) fun Z H Q ⟨O,h,Zw,Qw,R,S,m,k⟩=>by
 refine ⟨O,h,Zw,_,R,S,m,fun v H1 ⟨O1,w,h1,e1,R1,r1,m1⟩=>?_⟩;split at m1
 ·rw [JI] at r1;exact ⟨_,r1,k _ _ ⟨O1,h1,e1,R1,m1⟩⟩
 ·exact m1.elim
def rF (xs:List W)(lo hi:Option Int):List W:=(xs.drop (HT.sIx xs.length 0 lo)).take (HT.sIx xs.length xs.length hi - HT.sIx xs.length 0 lo)
def mSl (r:W->Option Int->Option Int->Gh->WK->Prop)(m:ME)(l u:MO):ME:=fun Z h Q=>m Z h fun x h1=>l Z h1 fun lo h2=>u Z h2 fun hi h3=>r x lo hi h3 Q
theorem aG.cutv {H:Hp}{O : Mu}{ws:List W}{xs:List V}(r:aG K H O ws xs)(lo hi:Option Int):aG K H O (rF ws lo hi) (yR xs lo hi):=by
 unfold rF yR;rw [<-r.len];exact (r.drop _).take _
end
mutual
def Af:W->W->Bool
 | .non,.non=>true
 | .bl a,.bl b=>a==b
 | .bl a,.int b=>(if a then 1 else 0)==b
 | .int a,.bl b=>a==(if b then 1 else 0)
 | .int a,.int b=>a==b
 | .str a,.str b=>a==b
 | .tup a,.tup b=>j8 a b
 | .lst a,.lst b=>j8 a b
 | _,_=>false
def j8:List W->List W->Bool
 | [],[]=>true
 | a::as,b::bs=>Af a b&&j8 as bs
 | _,_=>false
end
def Ai:Nat->W->Bool
 | _,.non=>true
 | _,.bl _=>true
 | _,.int _=>true
 | _,.str _=>true
 | n+1,.tup ws=>ws.all (Ai n)
 | n+1,.lst ws=>ws.all (Ai n)
 | _,_=>false
mutual
def Dt (K:Tt)(H:Hp):W->V->Prop
 | .non,v=>v=.non
 | .bl b,v=>v=.bl b
 | .int i,v=>v=.int i
 | .str x,v=>v=.str x
 | .tup ws,v=>∃ p xs,v=.ref p/\CG K H p xs/\Aw K H ws xs
 | .lst ws,v=>∃ p xs,v=.ref p/\Am K H p xs/\Aw K H ws xs
 | .ty _,_=>False
 | .kls _,_=>False
 | .loc _,_=>False
 | .exc _,_=>False
 | .exa _ _,_=>False
 | .fnv _ _,_=>False
def Aw (K:Tt)(H:Hp):List W->List V->Prop
 | [],xs=>xs=[]
 | w::ws,xs=>∃ v vs,xs=v::vs/\Dt K H w v/\Aw K H ws vs
end
section
variable {X:Cx}{K:Tt}{H:Hp}{O : Mu}{h:Gh}
theorem Aw.len:∀ {ws:List W} {xs:List V},Aw K H ws xs->ws.length=xs.length
 | [],xs,h=>by
  have e:xs=[]:=by rw [Aw] at h;exact h
  rw [e];rfl
 | w::ws,xs,h=>by
  rw [Aw] at h;obtain ⟨v,vs,e,_,h⟩:=h;rw [e,UJ,UJ,Aw.len h]
theorem Aw.get:∀ {ws:List W} {xs:List V} {i:Nat} {w:W},Aw K H ws xs->ws[i]?=Dn w->∃ v,xs[i]?=Dn v/\Dt K H w v
 | [],_,_,_,_,e=>by simp at e
 | a::ws,xs,0,w,h,e=>by
  rw [Aw] at h;obtain ⟨v,vs,e1,r,_⟩:=h;simp at e;subst e;subst e1;exact ⟨v,rfl,r⟩
 | a::ws,xs,i+1,w,h,e=>by
  rw [Aw] at h;obtain ⟨v,vs,e1,_,h⟩:=h;subst e1;obtain ⟨u,h1,h2⟩:=Aw.get (i:=i) (w:=w) h (by simpa using e);exact ⟨u,by simpa using h1,h2⟩
theorem rP {n:Nat}(one:∀ {w:W} {v:V},JI K H O w v->Ai n w=true->Dt K H w v):∀ {ws:List W} {xs:List V},aG K H O ws xs->ws.all (Ai n)=true->Aw K H ws xs
 | [],_,h,_=>by rw [aG] at h;rw [Aw];exact h
 | w::ws,_,h,p=>by
  rw [aG] at h;rw [Aw];obtain ⟨v,vs,e,r,h⟩:=h;rw [Xl,Uo] at p;exact ⟨v,vs,e,one r p.1,rP one h p.2⟩
theorem Mg:∀ (n:Nat) {w:W} {v:V},JI K H O w v->Ai n w=true->Dt K H w v:=by
 intro n;induction n with
 | zero=>
  intro w v r p;cases w with
  | non=>rw [JI] at r;rw [Dt];exact r
  | bl _=>rw [JI] at r;rw [Dt];exact r
  | int _=>rw [JI] at r;rw [Dt];exact r
  | str _=>rw [JI] at r;rw [Dt];exact r
  | _=>simp [Ai] at p
 | succ n ih=>
  intro w v r p;cases w with
  | non=>rw [JI] at r;rw [Dt];exact r
  | bl _=>rw [JI] at r;rw [Dt];exact r
  | int _=>rw [JI] at r;rw [Dt];exact r
  | str _=>rw [JI] at r;rw [Dt];exact r
  | tup ws=>
   rw [JI] at r;rw [Dt];obtain ⟨p',xs,e,hs,rs⟩:=r;exact ⟨p',xs,e,hs,rP ih rs<|by simpa [Ai] using p⟩
  | lst ws=>
   rw [JI] at r;rw [Dt];obtain ⟨p',xs,e,hs,rs⟩:=r;exact ⟨p',xs,e,hs.sq,rP ih rs<|by simpa [Ai] using p⟩
  | _=>simp [Ai] at p
theorem lV:∀ {a b:List W},a.length≠b.length->j8 a b=false
 | [],[],h=>absurd rfl h
 | [],_::_,_=>by simp [j8]
 | _::_,[],_=>by simp [j8]
 | a::as,b::bs,h=>by
  rw [j8,lV (a:=as) (b:=bs) (by simpa using h),VG]
def Ml (a b:List W)(j:Nat):Bool:=Af (a.getD j .non) (b.getD j .non)
theorem mz:∀ {a b:List W},a.length=b.length->(VD a.length).all (Ml a b)=j8 a b
 | [],[],_=>by simp [j8]
 | [],_::_,h=>by simp at h
 | _::_,[],h=>by simp at h
 | a::as,b::bs,h=>by
  rw [j8,<-mz (a:=as) (b:=bs) (by simpa using h),UJ,List.range_succ_eq_map,Xl,Xv];rfl
mutual
theorem rE {pins:List (Addr×Obj)}{s:Tz}{Z : St}(I:Mk X pins Z H s):∀ {w u:W} {v:V},Dt X.K H w v->Dt X.K H u v->Af w u=true
 | .non,u,v,h,g=>by rw [Dt] at h;subst h;cases u <;> rw [Dt] at g <;> first | rfl | exact g.elim | (obtain ⟨_,_,g,_⟩:=g;cases g;done) | (cases g;done)
 | .bl b,u,v,h,g=>by rw [Dt] at h;subst h;cases u <;> rw [Dt] at g <;> first | (injection g with g;simp [Af,g];done) | exact g.elim | (obtain ⟨_,_,g,_⟩:=g;cases g;done) | (cases g;done)
 | .int b,u,v,h,g=>by rw [Dt] at h;subst h;cases u <;> rw [Dt] at g <;> first | (injection g with g;simp [Af,g];done) | exact g.elim | (obtain ⟨_,_,g,_⟩:=g;cases g;done) | (cases g;done)
 | .str b,u,v,h,g=>by rw [Dt] at h;subst h;cases u <;> rw [Dt] at g <;> first | (injection g with g;simp [Af,g];done) | exact g.elim | (obtain ⟨_,_,g,_⟩:=g;cases g;done) | (cases g;done)
 | .tup ws,u,v,h,g=>by
  rw [Dt] at h;obtain ⟨p,xs,e,hs,ds⟩:=h;subst e;cases u with
  | tup us=>
   rw [Dt] at g;obtain ⟨p',xs',e',hs',ds'⟩:=g;cases e'
   have:=I.tuple_inj hs hs'
   subst this;rw [Af];exact jP I ds ds'
  | lst us=>
   rw [Dt] at g;obtain ⟨p',xs',e',hs',ds'⟩:=g;cases e'
   obtain ⟨_,_,t,_⟩:=I.tuple hs;obtain ⟨_,_,l,_⟩:=I.list hs';exact absurd rfl<|WR l.isList<|show s.heap.IsTuple _ _ from t
  | ty _=>rw [Dt] at g;exact g.elim
  | loc _=>rw [Dt] at g;exact g.elim
  | kls _=>rw [Dt] at g;exact g.elim
  | _=>rw [Dt] at g;cases g
 | .lst ws,u,v,h,g=>by
  rw [Dt] at h;obtain ⟨p,xs,e,hs,ds⟩:=h;subst e;cases u with
  | lst us=>
   rw [Dt] at g;obtain ⟨p',xs',e',hs',ds'⟩:=g;cases e'
   have:=I.list_inj hs hs'
   subst this;rw [Af];exact jP I ds ds'
  | tup us=>
   rw [Dt] at g;obtain ⟨p',xs',e',hs',ds'⟩:=g;cases e'
   obtain ⟨_,_,t,_⟩:=I.tuple hs';obtain ⟨_,_,l,_⟩:=I.list hs;exact absurd rfl<|WR l.isList<|show s.heap.IsTuple _ _ from t
  | ty _=>rw [Dt] at g;exact g.elim
  | loc _=>rw [Dt] at g;exact g.elim
  | kls _=>rw [Dt] at g;exact g.elim
  | _=>rw [Dt] at g;cases g
 | .ty _,_,_,h,_=>by rw [Dt] at h;exact h.elim
 | .loc _,_,_,h,_=>by rw [Dt] at h;exact h.elim
 | .exc _,_,_,h,_=>by rw [Dt] at h;exact h.elim
 | .exa _ _,_,_,h,_=>by rw [Dt] at h;exact h.elim
 | .kls _,_,_,h,_=>by rw [Dt] at h;exact h.elim
theorem jP {pins:List (Addr×Obj)}{s:Tz}{Z : St}(I:Mk X pins Z H s):∀ {ws us:List W} {vs:List V},Aw X.K H ws vs->Aw X.K H us vs->j8 ws us=true
 | [],us,vs,h,g=>by
  rw [Aw] at h;subst h;cases us with
  | nil=>rfl
  | cons _ _=>rw [Aw] at g;obtain ⟨_,_,g,_⟩:=g;cases g
 | w::ws,us,vs,h,g=>by
  rw [Aw] at h;obtain ⟨v,vs',e,h1,h2⟩:=h;subst e;cases us with
  | nil=>rw [Aw] at g;cases g
  | cons u us=>
   rw [Aw] at g;obtain ⟨v',vs'',e',g1,g2⟩:=g;cases e'
   rw [j8,rE I h1 g1,jP I h2 g2];rfl
end
theorem in1_units {A:Ug}:A.in1.units=A.units+1:=rfl
theorem zaH {n:Nat}{ws:List W}(h:Ai n (.lst ws)=true):∃ m,n=m+1/\ws.all (Ai m)=true:=by
 cases n with
 | zero=>simp [Ai] at h
 | succ m=>exact ⟨m,rfl,by simpa [Ai] using h⟩
theorem sJ {s:Tz}{A:Ug}{n:Nat}{ws us:List W}{xs ys:List V}{its jts:List Tw}(d1:Aw K H ws xs)(d2:Aw K H us ys)(p1:ws.all (Ai n)=true)(p2:us.all (Ai n)=true)(r1:Rj xs its)(r2:Rj ys jts)
  (one:∀ {w u:W} {v x:V} {a b:Tw},Dt K H w v->Dt K H u x->Ai n w=true->Ai n u=true->RelV v a->RelV x b->UL A s a b (Af w u)) :
  ∀ j (h1:j<its.toArray.size) (h2:j<jts.toArray.size),UL A s its.toArray[j] jts.toArray[j] (Ml ws us j):=by
 intro j h1 h2;have l1:j<ws.length:=by rw [d1.len,r1.length];simpa using h1
 have l2:j<us.length:=by rw [d2.len,r2.length];simpa using h2
 obtain ⟨v,ev,dv⟩:=d1.get (Uk l1);obtain ⟨x,ex,dx⟩:=d2.get (Uk l2);obtain ⟨a,ea,ra⟩:=r1.get ev;obtain ⟨b,eb,rb⟩:=r2.get ex;have ea':its.toArray[j]=a:=by simpa using (Uq.mp ea).2
 have eb':jts.toArray[j]=b:=by simpa using (Uq.mp eb).2
 have e:Ml ws us j=Af ws[j] us[j]:=by
  unfold Ml;rw [Vz,Vz,Uk l1,Uk l2];rfl
 rw [ea',eb',e];exact one dv dx (Vh.mp p1 _<|List.getElem_mem l1) (Vh.mp p2 _<|List.getElem_mem l2) ra rb
theorem size_of {ws:List W}{xs:List V}{its:List Tw}(d:Aw K H ws xs)(r:Rj xs its):its.toArray.size=ws.length:=by
 rw [d.len,r.length];simp
theorem G5 {ws us:List W}:((VD (min ws.length us.length)).all (Ml ws us)&&ws.length==us.length)=j8 ws us:=by
 by_cases e:ws.length=us.length
 ·rw [<-e,Nat.min_self,mz e];simp
 ·rw [lV e];have e2:(ws.length==us.length)=false:=beq_eq_false_iff_ne.mpr e;rw [e2,VG]
inductive Kd (s:Tz):W->Tw->Prop where
 | non:Kd s .non .none
 | bl (b:Bool):Kd s (.bl b) (.bool b)
 | int (i:Int) (t:Tok):Kd s (.int i) (.int i t)
 | str (x:Str) (t:Tok):Kd s (.str x) (.str x t)
 | tup (ws:List W) {p:Addr} {its:Array Tw} (q:s.heap.IsTuple p its):Kd s (.tup ws) (.ref p)
 | lst (ws:List W) {p:Addr} {its:Array Tw} (q:s.heap.IsList p its):Kd s (.lst ws) (.ref p)
theorem mW {pins:List (Addr×Obj)}{s:Tz}{Z : St}(I:Mk X pins Z H s){w:W}{v:V}{a:Tw}(d:Dt X.K H w v)(r:RelV v a):Kd s w a:=by
 cases w with
 | non=>rw [Dt] at d;subst d;cases r;exact .non
 | bl b=>rw [Dt] at d;subst d;cases r;exact .bl b
 | int b=>rw [Dt] at d;subst d;obtain ⟨t,rfl⟩:=r;exact .int b t
 | str b=>rw [Dt] at d;subst d;obtain ⟨t,rfl⟩:=r;exact .str b t
 | tup ws=>rw [Dt] at d;obtain ⟨p,xs,e,hs,_⟩:=d;subst e;cases r;obtain ⟨its,_,q,_⟩:=I.tuple hs;exact .tup ws q
 | lst ws=>rw [Dt] at d;obtain ⟨p,xs,e,hs,_⟩:=d;subst e;cases r;obtain ⟨its,_,q,_⟩:=I.list hs;exact .lst ws q.isList
 | _=>rw [Dt] at d;exact d.elim
def sq1:W->Bool
 | .tup _=>true
 | .lst _=>true
 | _=>false
def jG:W->W->Bool
 | .tup _,.tup _=>true
 | .lst _,.lst _=>true
 | _,_=>false
def MF (w u:W):Bool:=!(sq1 w||sq1 u)
open SeqAt.EqAt in
theorem Cd {s:Tz}{A:Ug}{w u:W}{a b:Tw}(hu:A.units<cLine)(k1:Kd s w a)(k2:Kd s u b)(h:jG w u=false)(f:MF w u=false):UL A s a b (Af w u):=by
 cases k1 <;> cases k2 <;> try (first | (cases h;done) | (cases f;done))
 ·apply none_tuple <;> assumption
 ·apply none_list <;> assumption
 ·apply bool_tuple <;> assumption
 ·apply bool_list <;> assumption
 ·apply int_tuple <;> assumption
 ·apply int_list <;> assumption
 ·apply str_tuple <;> assumption
 ·apply str_list <;> assumption
 ·apply tuple_none <;> assumption
 ·apply tuple_bool <;> assumption
 ·apply tuple_int <;> assumption
 ·apply tuple_str <;> assumption
 ·apply tuple_list <;> assumption
 ·apply list_none <;> assumption
 ·apply list_bool <;> assumption
 ·apply list_int <;> assumption
 ·apply list_str <;> assumption
 ·apply list_tuple <;> assumption
open SeqAt.RcAt in
theorem Ht {s:Tz}{A:Ug}{w u:W}{a b:Tw}(hu:A.units<cLine)(k1:Kd s w a)(k2:Kd s u b)(h:jG w u=false):SeqAt.RcAt A s a b (Af w u):=by
 cases k1 <;> cases k2 <;> try (first | (cases h;done))
 ·apply none_none <;> assumption
 ·apply none_bool <;> assumption
 ·apply none_int <;> assumption
 ·apply none_str <;> assumption
 ·apply none_tuple <;> assumption
 ·apply none_list <;> assumption
 ·apply bool_none <;> assumption
 ·apply bool_bool <;> assumption
 ·apply bool_int <;> assumption
 ·apply bool_str <;> assumption
 ·apply bool_tuple <;> assumption
 ·apply bool_list <;> assumption
 ·apply int_none <;> assumption
 ·apply int_bool <;> assumption
 ·apply int_int <;> assumption
 ·apply int_str <;> assumption
 ·apply int_tuple <;> assumption
 ·apply int_list <;> assumption
 ·apply str_none <;> assumption
 ·apply str_bool <;> assumption
 ·apply str_int <;> assumption
 ·apply str_str <;> assumption
 ·apply str_tuple <;> assumption
 ·apply str_list <;> assumption
 ·apply tuple_none <;> assumption
 ·apply tuple_bool <;> assumption
 ·apply tuple_int <;> assumption
 ·apply tuple_str <;> assumption
 ·apply tuple_list <;> assumption
 ·apply list_none <;> assumption
 ·apply list_bool <;> assumption
 ·apply list_int <;> assumption
 ·apply list_str <;> assumption
 ·apply list_tuple <;> assumption
open SeqAt.RcNeAt in
theorem Jy {s:Tz}{A:Ug}{w u:W}{a b:Tw}(hu:A.units<cLine)(k1:Kd s w a)(k2:Kd s u b)(h:jG w u=false):SeqAt.RcNeAt A s a b (!Af w u):=by
 cases k1 <;> cases k2 <;> try (first | (cases h;done))
 ·apply none_none <;> assumption
 ·apply none_bool <;> assumption
 ·apply none_int <;> assumption
 ·apply none_str <;> assumption
 ·apply none_tuple <;> assumption
 ·apply none_list <;> assumption
 ·apply bool_none <;> assumption
 ·apply bool_bool <;> assumption
 ·apply bool_int <;> assumption
 ·apply bool_str <;> assumption
 ·apply bool_tuple <;> assumption
 ·apply bool_list <;> assumption
 ·apply int_none <;> assumption
 ·apply int_bool <;> assumption
 ·apply int_int <;> assumption
 ·apply int_str <;> assumption
 ·apply int_tuple <;> assumption
 ·apply int_list <;> assumption
 ·apply str_none <;> assumption
 ·apply str_bool <;> assumption
 ·apply str_int <;> assumption
 ·apply str_str <;> assumption
 ·apply str_tuple <;> assumption
 ·apply str_list <;> assumption
 ·apply tuple_none <;> assumption
 ·apply tuple_bool <;> assumption
 ·apply tuple_int <;> assumption
 ·apply tuple_str <;> assumption
 ·apply tuple_list <;> assumption
 ·apply list_none <;> assumption
 ·apply list_bool <;> assumption
 ·apply list_int <;> assumption
 ·apply list_str <;> assumption
 ·apply list_tuple <;> assumption
theorem mY:∀ {w u:W},jG w u=true->(∃ ws us,w=.tup ws/\u=.tup us)\/∃ ws us,w=.lst ws/\u=.lst us
 | .tup ws,.tup us,_=>.inl ⟨ws,us,rfl,rfl⟩
 | .lst ws,.lst us,_=>.inr ⟨ws,us,rfl,rfl⟩
def wV:V->W
 | .bl b=>.bl b
 | .int b=>.int b
 | .str b=>.str b
 | _=>.non
theorem PN {v x:V}(h:yr v=true)(g:yr x=true):Af (wV v) (wV x)=eqV v x:=by
 cases v <;> first | (cases h;done) | (cases x <;> first | (cases g;done) | rfl)
theorem Bc {w:W}{v:V}(d:Dt K H w v)(h:sq1 w=false):yr v=true/\w=wV v:=by
 cases w with
 | tup _=>cases h
 | lst _=>cases h
 | non=>rw [Dt] at d;subst d;exact ⟨rfl,rfl⟩
 | bl _=>rw [Dt] at d;subst d;exact ⟨rfl,rfl⟩
 | int _=>rw [Dt] at d;subst d;exact ⟨rfl,rfl⟩
 | str _=>rw [Dt] at d;subst d;exact ⟨rfl,rfl⟩
 | _=>rw [Dt] at d;exact d.elim
theorem Bp {s:Tz}{A:Ug}{w u:W}{v x:V}{a b:Tw}(dw:Dt K H w v)(du:Dt K H u x)(hf:MF w u=true)(ra:RelV v a)(rb:RelV x b):UL A s a b (Af w u):=by
 have hf:=Bool.or_eq_false_iff.mp (Eq.mp (Vj _) hf);have ⟨f1,e1⟩:=Bc dw hf.1;have ⟨f2,e2⟩:=Bc du hf.2;rw [e1,e2,PN f1 f2];exact Ju ra rb f1 f2
theorem BL {pins:List (Addr×Obj)}{s:Tz}{Z : St}(I:Mk X pins Z H s){n:Nat}{A:Ug}{w u:W}{v x:V}{a b:Tw}(ih:∀ {w u:W} {v x:V} {a b:Tw},Dt X.K H w v->Dt X.K H u x->Ai n w=true->Ai n u=true->RelV v a->RelV x b->UL A.in1 s a b (Af w u))(hu:A.units<cLine)(h2:jG w u=true)(dw:Dt X.K H w v)(du:Dt X.K H u x)(pw:Ai (n+1) w=true)(pu:Ai (n+1) u=true)(ra:RelV v a)(rb:RelV x b):∃ p q,v=.ref p/\x=.ref q/\a=.ref p/\b=.ref q/\SeqAt.RcAt A s a b (Af w u)/\SeqAt.RcNeAt A s a b (!Af w u):=by
 rcases mY h2 with ⟨ws,us,rfl,rfl⟩ | ⟨ws,us,rfl,rfl⟩ <;> rw [Dt] at dw du <;> obtain ⟨p,xs1,rfl,hs1,ds1⟩:=dw <;> obtain ⟨q,xs2,rfl,hs2,ds2⟩:=du <;> cases ra <;> cases rb <;> refine ⟨p,q,rfl,rfl,rfl,rfl,?_⟩ <;> rw [Af] <;> rw [Ai] at pw pu
 ·obtain ⟨its1,rv1,q1,_⟩:=I.tuple hs1;obtain ⟨its2,rv2,q2,_⟩:=I.tuple hs2;have it:=sJ ds1 ds2 pw pu rv1 rv2 ih;rw [<-G5,<-size_of ds1 rv1,<-size_of ds2 rv2];exact ⟨.tuples q1 q2 hu it,.tuples q1 q2 hu it⟩
 ·obtain ⟨its1,rv1,q1,_⟩:=I.list hs1;obtain ⟨its2,rv2,q2,_⟩:=I.list hs2;by_cases hl:ws.length=us.length
  ·have it:=sJ ds1 ds2 pw pu rv1 rv2 ih;have e:its1.toArray.size=its2.toArray.size:=by rw [size_of ds1 rv1,size_of ds2 rv2,hl]
   rw [<-mz hl,<-size_of ds1 rv1];exact ⟨.lists q1.isList q2.isList e hu it,.lists q1.isList q2.isList e hu it⟩
  ·rw [lV hl];have e:(its1.toArray.size != its2.toArray.size)=true:=by rw [size_of ds1 rv1,size_of ds2 rv2];exact bne_iff_ne.mpr hl
   exact ⟨.lists_lengths q1.isList q2.isList e hu,.lists_lengths q1.isList q2.isList e hu⟩
theorem uH {w u:W}(h:jG w u=true):∀ {n:Nat},Ai n w=true->∃ m,n=m+1
 | 0,p=>by rcases mY h with ⟨_,_,rfl,_⟩ | ⟨_,_,rfl,_⟩ <;> cases p
 | m+1,_=>⟨m,rfl⟩
theorem Ou {pins:List (Addr×Obj)}{s:Tz}{Z : St}(I:Mk X pins Z H s):∀ (n:Nat) {A:Ug} {w u:W} {v x:V} {a b:Tw},A.units+n<cLine->Dt X.K H w v->Dt X.K H u x->Ai n w=true->Ai n u=true->RelV v a->RelV x b->UL A s a b (Af w u):=by
 intro n;induction n with
 | zero=>
  intro A w u v x a b hu dw du pw pu ra rb;by_cases hf:MF w u=true
  ·exact Bp dw du hf ra rb
  by_cases h2:jG w u=true
  ·obtain ⟨m,e⟩:=uH h2 pw;cases e
  ·exact Cd hu (mW I dw ra) (mW I du rb) (Wq _ ▸ h2)<|Wq _ ▸ hf
 | succ n ih=>
  intro A w u v x a b hu dw du pw pu ra rb;by_cases hf:MF w u=true
  ·exact Bp dw du hf ra rb
  by_cases h2:jG w u=true
  ·have hu':=V8 (Nat.le_add_right _ _) hu;obtain ⟨p,q,rfl,rfl,rfl,rfl,z,_⟩:=BL I (ih (A:=A.in1) (by rw [in1_units,Nat.add_assoc,Nat.add_comm 1];exact hu)) hu' h2 dw du pw pu ra rb;by_cases hp:p=q
   ·subst hp;rw [rE I dw du];exact SeqAt.EqAt.same _
   ·exact SeqAt.EqAt.of_refs hp z
  ·exact Cd (V8 (Nat.le_add_right _ _) hu) (mW I dw ra) (mW I du rb) (Wq _ ▸ h2)<|Wq _ ▸ hf
theorem rcN {pins:List (Addr×Obj)}{s:Tz}{Z : St}(I:Mk X pins Z H s){m:Nat}{A:Ug}{w u:W}{v x:V}{a b:Tw}{p:Prop}(hu:A.units+(m+1)<cLine)(hu':A.units<cLine)(h2:jG w u=true)(dw:Dt X.K H w v)(du:Dt X.K H u x)(pw:Ai (m+1) w=true)(pu:Ai (m+1) u=true)(ra:RelV v a)(rb:RelV x b)(f:SeqAt.RcAt A s a b (Af w u)/\SeqAt.RcNeAt A s a b (!Af w u)->p):p:=by
 obtain ⟨_,_,_,_,_,_,z⟩:=BL I (Ou I m (A:=A.in1) (by rw [in1_units,Nat.add_assoc,Nat.add_comm 1];exact hu)) hu' h2 dw du pw pu ra rb;exact f z
theorem O6 {pins:List (Addr×Obj)}{s:Tz}{Z : St}(I:Mk X pins Z H s)(n:Nat){A:Ug}{w u:W}{v x:V}{a b:Tw}(hu:A.units+n<cLine)(dw:Dt X.K H w v)(du:Dt X.K H u x)(pw:Ai n w=true)(pu:Ai n u=true)(ra:RelV v a)(rb:RelV x b):SeqAt.RcAt A s a b (Af w u):=by
 have hu':=V8 (Nat.le_add_right _ _) hu;by_cases h2:jG w u=true
 ·obtain ⟨m,rfl⟩:=uH h2 pw;exact rcN I hu hu' h2 dw du pw pu ra rb (·.1)
 ·exact Ht hu' (mW I dw ra) (mW I du rb)<|Wq _ ▸ h2
theorem zaJ {pins:List (Addr×Obj)}{s:Tz}{Z : St}(I:Mk X pins Z H s)(n:Nat){A:Ug}{w u:W}{v x:V}{a b:Tw}(hu:A.units+n<cLine)(dw:Dt X.K H w v)(du:Dt X.K H u x)(pw:Ai n w=true)(pu:Ai n u=true)(ra:RelV v a)(rb:RelV x b):SeqAt.RcNeAt A s a b (!Af w u):=by
 have hu':=V8 (Nat.le_add_right _ _) hu;by_cases h2:jG w u=true
 ·obtain ⟨m,rfl⟩:=uH h2 pw;exact rcN I hu hu' h2 dw du pw pu ra rb (·.2)
 ·exact Jy hu' (mW I dw ra) (mW I du rb)<|Wq _ ▸ h2
def Bd (h:Gh):W->Option W
 | .loc n=>(match h.c n with
  | some (.lst ws)=>Dn (.lst ws)
  | _=>Go)
 | w=>Dn w
theorem mL {w d:W}{v:V}{n:Nat}(R:Tp K O H h)(r:JI K H O w v)(e:Bd h w=Dn d)(p:Ai n d=true):Dt K H d v:=by
 have other:Bd h w=Dn w->Dt K H d v:=fun z=>by
  rw [z] at e;cases e;exact Mg n r p
 cases w with
 | loc m=>
  unfold Bd at e;dsimp only at e;cases ec:h.c m with
  | none=>rw [ec] at e;cases e
  | some cl=>
   rw [ec] at e;cases cl with
   | lst us=>
    cases (show Dn (W.lst us)=Dn d from e)
    obtain ⟨p',xs,hm',hx,rs⟩:=R.lstAt ec;rw [JI] at r;obtain ⟨q,ev,hm⟩:=r;have ep:p'=q:=by rw [hm] at hm';exact (T7 hm').symm
    subst ep;obtain ⟨k,rfl,p⟩:=zaH p;rw [Dt];exact ⟨p',xs,ev,.of hx,rP (Mg k) rs p⟩
   | _=>cases e
 | _=>exact other rfl
def Rg (K:Tt)(neg:Bool):R2:=fun x y H Q=>∃ w u,Dt K H w x/\Dt K H u y/\Ai 30 w=true/\Ai 30 u=true/\Q (.bl (if neg then !Af w u else Af w u)) H
theorem Jq (hu:X.A.units+30<cLine):CQ X (VL .Eq) (Rg X.K false):=by
 intro pins s Z H x y v u Q I rx ry ⟨w,w',d1,d2,p1,p2,q⟩;exact O6 I 30 hu d1 d2 p1 p2 rx ry X.prog X.w X.xe _<|BK I q rfl
theorem Ka (hu:X.A.units+30<cLine):CQ X (VL .NotEq) (Rg X.K true):=by
 intro pins s Z H x y v u Q I rx ry ⟨w,w',d1,d2,p1,p2,q⟩;exact zaJ I 30 hu d1 d2 p1 p2 rx ry X.prog X.w X.xe _<|BK I q rfl
def Di:M2:=fun x y h Q=>match Bd h x,Bd h y with
 | some a,Dn b=>CJ (Ai 30 a&&Ai 30 b) (Q (.bl (Af a b)) h) False
 | _,_=>False
def Dg:M2:=fun x y h Q=>match Bd h x,Bd h y with
 | some a,Dn b=>CJ (Ai 30 a&&Ai 30 b) (Q (.bl (!Af a b)) h) False
 | _,_=>False
theorem HW (hu:X.A.units+30<cLine):Dd X (VL .Eq) Di:=⟨_,Jq hu,by
 intro H O h x y wx wy Qw Q R rx ry m k;unfold Di at m;split at m
 ·rename_i a b ea eb;cases hp:(Ai 30 a&&Ai 30 b) with
  | true=>
   rw [hp] at m;rw [Uo] at hp;exact ⟨a,b,mL R rx ea hp.1,mL R ry eb hp.2,hp.1,hp.2,k _ _<|.bl R m⟩
  | false=>rw [hp] at m;exact (show False from m).elim
 ·exact m.elim⟩
theorem Hi (hu:X.A.units+30<cLine):Dd X (VL .NotEq) Dg:=⟨_,Ka hu,by
 intro H O h x y wx wy Qw Q R rx ry m k;unfold Dg at m;split at m
 ·rename_i a b ea eb;cases hp:(Ai 30 a&&Ai 30 b) with
  | true=>
   rw [hp] at m;rw [Uo] at hp;exact ⟨a,b,mL R rx ea hp.1,mL R ry eb hp.2,hp.1,hp.2,k _ _<|.bl R m⟩
  | false=>rw [hp] at m;exact (show False from m).elim
 ·exact m.elim⟩
theorem vG {A:Ug}{k:Nat}(hr:gO k A):A.units+30<cLine:=by have:=hr.units;lia
end
section
variable {X:Cx}{K:Tt}
theorem eV {H:Hp}{O : Mu}{w:W}{vs:List V}(r:aG K H O [w] vs):∃ v,vs=[v]/\JI K H O w v:=by
 rw [aG] at r;obtain ⟨v,vr,ev,ra,r⟩:=r;rw [aG] at r;subst r;exact ⟨v,ev,ra⟩
theorem Hw {H:Hp}{O : Mu}{w u:W}{vs:List V}(r:aG K H O [w,u] vs):∃ v x,vs=[v,x]/\JI K H O w v/\JI K H O u x:=by
 rw [aG] at r;obtain ⟨v,vr,ev,ra,r⟩:=r;obtain ⟨x,e,rb⟩:=eV r;subst e;exact ⟨v,x,ev,ra,rb⟩
theorem n8.of {i j:Int}{m n:Nat}(hi:Sm m i)(hj:Sm n j)(hm:m<=1000000)(hn:n<=1000000):n8 i j:=⟨m,n,hm,hn,hi,hj⟩
theorem Sm.lit {i:Int}(h:Nat.ble (i.natAbs+1) (2^64)=true):Sm 64 i:=by
 have:=Xa h
 unfold Sm;lia
def DR:MC:=fun ws h Q=>match ws with
 | [w]=>(match view h w with
  | some xs=>Q (.int (xs.length:Int)) h
  | none=>False)
 | _=>False
theorem vU:iJ X (.builtin "len") DR:=⟨_,pC,by
 intro H O h vs ws Qw Q R r m k;unfold DR at m;split at m
 ·split at m
  ·rename_i w _ xs ev;obtain ⟨v,e,rv⟩:=eV r;obtain ⟨p,ys,ex,hs,rs⟩:=wO R rv ev;subst e ex;exact ⟨p,ys,rfl,hs,by rw [<-rs.len];exact k _ _ (.int R m)⟩
  ·exact m.elim
 ·exact m.elim⟩
def Bb:MC:=fun ws h Q=>match ws with
 | [.int i]=>Q (.int (if i<0 then -i else i)) h
 | _=>False
theorem yM:iJ X (.builtin "abs") Bb:=⟨_,zW,by
 intro H O h vs ws Qw Q R r m k;unfold Bb at m;split at m
 ·obtain ⟨v,e,rv⟩:=eV r;rw [JI] at rv;subst e rv;exact ⟨_,rfl,k _ _<|.int R m⟩
 ·exact m.elim⟩
def wF:List W->Option (List Bool)
 | []=>Dn []
 | .bl b::ws=>(wF ws).map (b::·)
 | _=>Go
theorem wY {H:Hp}{O : Mu}:∀ {ws:List W} {xs:List V} {bs:List Bool},aG K H O ws xs->wF ws=Dn bs->xs=bs.map V.bl
 | [],xs,bs,r,e=>by
  rw [aG] at r;cases (show Dn []=Dn bs from e)
  exact r
 | w::ws,xs,bs,r,e=>by
  rw [aG] at r;obtain ⟨v,vr,ev,ra,r⟩:=r;cases w with
  | bl b=>
   rw [JI] at ra;rw [wF] at e;cases q:wF ws with
   | none=>rw [q] at e;cases e
   | some cs=>
    rw [q] at e;cases (show Dn (b::cs)=Dn bs from e)
    rw [ev,ra,wY r q];rfl
  | _=>cases e
def Ab:MC:=fun ws h Q=>match ws with
 | [w]=>(match cD h w with
  | some us=>(match wF us with
   | some bs=>Q (.bl (bs.all id)) h
   | none=>False)
  | none=>False)
 | _=>False
theorem zK (hc:X.calm=true):iJ X (.builtin "all") Ab:=⟨_,u0 hc,by
 intro H O h vs ws Qw Q R r m k;unfold Ab at m;split at m
 ·split at m
  ·split at m
   ·rename_i w _ us ev _ bs eb;obtain ⟨v,e,rv⟩:=eV r;obtain ⟨p,ys,ex,hs,rs⟩:=bZ R rv ev;subst e ex;exact ⟨p,bs,rfl,by rw [<-wY rs eb];exact hs,k _ _<|.bl R m⟩
   ·exact m.elim
  ·exact m.elim
 ·exact m.elim⟩
def Ms (h:Gh)(w:W)(T:String):Option Bool:=match w with
 | .int _=>if T = "int" then Dn true else if T = "bool"\/T = "tuple"\/T = "list" then Dn false else Go
 | .bl _=>if T = "int"\/T = "bool" then Dn true else if T = "tuple"\/T = "list" then Dn false else Go
 | .str _=>if T = "int"\/T = "bool"\/T = "tuple"\/T = "list" then Dn false else Go
 | .non=>if T = "int"\/T = "bool"\/T = "tuple"\/T = "list" then Dn false else Go
 | .tup _=>if T = "tuple" then Dn true else if T = "int"\/T = "bool"\/T = "list" then Dn false else Go
 | w=>(match cD h w with
  | some _=>if T = "list" then Dn true else if T = "int"\/T = "bool"\/T = "tuple" then Dn false else Go
  | none=>Go)
theorem G3 {H:Hp}{O : Mu}{h:Gh}{w:W}{v:V}{T:String}{b:Bool}(R:Tp K O H h)(r:JI K H O w v)(e:Ms h w T=Dn b):QC K H v T b:=by
 unfold Ms at e;split at e
 ·rw [JI] at r;subst r;split at e
  ·rename_i t;subst t;cases e;exact .inl ⟨rfl,rfl⟩
  ·split at e
   ·rename_i t;cases e;rcases t with t | t | t <;> subst t
    ·exact .inr<|.inl ⟨rfl,rfl⟩
    ·exact .inr<|.inr<|.inl ⟨rfl,rfl⟩
    ·exact .inr<|.inr<|.inr ⟨rfl,rfl⟩
   ·cases e
 ·rw [JI] at r;subst r;split at e
  ·rename_i t;cases e;rcases t with t | t <;> subst t
   ·exact .inl ⟨rfl,rfl⟩
   ·exact .inr<|.inl ⟨rfl,rfl⟩
  ·split at e
   ·rename_i t;cases e;rcases t with t | t <;> subst t
    ·exact .inr<|.inr<|.inl ⟨rfl,rfl⟩
    ·exact .inr<|.inr<|.inr ⟨rfl,rfl⟩
   ·cases e
 ·rw [JI] at r;subst r;split at e
  ·rename_i t;cases e;rcases t with t | t | t | t <;> subst t
   ·exact .inl ⟨rfl,rfl⟩
   ·exact .inr<|.inl ⟨rfl,rfl⟩
   ·exact .inr<|.inr<|.inl ⟨rfl,rfl⟩
   ·exact .inr<|.inr<|.inr ⟨rfl,rfl⟩
  ·cases e
 ·rw [JI] at r;subst r;split at e
  ·rename_i t;cases e;rcases t with t | t | t | t <;> subst t
   ·exact .inl ⟨rfl,rfl⟩
   ·exact .inr<|.inl ⟨rfl,rfl⟩
   ·exact .inr<|.inr<|.inl ⟨rfl,rfl⟩
   ·exact .inr<|.inr<|.inr ⟨rfl,rfl⟩
  ·cases e
 ·rw [JI] at r;obtain ⟨p,xs,ev,hs,_⟩:=r;subst ev;refine .inl ⟨xs,hs,?_⟩;split at e
  ·rename_i t;subst t;cases e;exact .inr (.inr (.inl ⟨rfl,rfl⟩))
  ·split at e
   ·rename_i t;cases e;rcases t with t | t | t <;> subst t
    ·exact .inl ⟨rfl,rfl⟩
    ·exact .inr<|.inl ⟨rfl,rfl⟩
    ·exact .inr<|.inr<|.inr ⟨rfl,rfl⟩
   ·cases e
 ·split at e
  ·rename_i ws ev;obtain ⟨p,xs,ex,hs,_⟩:=bZ R r ev;subst ex;refine .inr ⟨xs,hs,?_⟩;split at e
   ·rename_i t;subst t;cases e;exact .inr (.inr (.inr ⟨rfl,rfl⟩))
   ·split at e
    ·rename_i t;cases e;rcases t with t | t | t <;> subst t
     ·exact .inl ⟨rfl,rfl⟩
     ·exact .inr<|.inl ⟨rfl,rfl⟩
     ·exact .inr<|.inr<|.inl ⟨rfl,rfl⟩
    ·cases e
  ·cases e
def yt:MC:=fun ws h Q=>match ws with
 | [w,.ty T]=>(match Ms h w T with
  | some b=>Q (.bl b) h
  | none=>False)
 | _=>False
theorem sX:iJ X (.builtin "isinstance") yt:=⟨_,zO,by
 intro H O h vs ws Qw Q R r m k;unfold yt at m;split at m
 ·split at m
  ·rename_i w T _ b eb;obtain ⟨v,x,e,rv,rx⟩:=Hw r;have hi:=G3 R rv eb;rw [JI] at rx;subst e rx;exact ⟨v,T,b,rfl,hi,k _ _<|.bl R m⟩
  ·exact m.elim
 ·exact m.elim⟩
def oM:MC:=fun ws h Q=>match ws with
 | [.tup us]=>Q (.tup us) h
 | [w]=>(match cD h w with
  | some us=>Q (.tup us) h
  | none=>False)
 | _=>False
theorem xO:iJ X (.type "tuple") oM:=⟨_,mK,by
 intro H O h vs ws Qw Q R r m k;unfold oM at m;split at m
 ·obtain ⟨v,e,rv⟩:=eV r;have rv':=rv;rw [JI] at rv;obtain ⟨p,xs,ex,hs,rs⟩:=rv;subst e ex;exact ⟨p,xs,rfl,.inr ⟨hs,k _ _ ⟨O,_,h,.refl,R,rv',m⟩⟩⟩
 ·split at m
  ·rename_i w _ _ us ev;obtain ⟨v,e,rv⟩:=eV r;obtain ⟨p,ys,ex,hs,rs⟩:=bZ R rv ev;subst e ex;exact ⟨p,ys,rfl,.inl ⟨hs,fun l hl=>k _ _ ⟨O,_,h,(Ex.laid hl).ext,R.laid hl,.tupNew hl rs,m⟩⟩⟩
  ·exact m.elim
 ·exact m.elim⟩
abbrev MM:=W->List W->Gh->WK->Prop
def G9 (K:Tt)(r:V->List V->Hp->VK->Prop)(mr:MM):Prop:=∀ {H:Hp} {O : Mu} {h:Gh} {x:V} {vs:List V} {wx:W} {ws:List W} {Qw:WK} {Q:VK},Tp K O H h->JI K H O wx x->aG K H O ws vs->mr wx ws h Qw->(∀ v H',DQ K H O Qw v H'->Q v H')->r x vs H Q
def uq (h:Gh)(w:W)(P:Prop):Prop:=match w with
 | .loc n=>(match h.c n with
  | some (.lst _)=>P
  | _=>False)
 | _=>False
theorem qM {H:Hp}{O : Mu}{h:Gh}{w:W}{v:V}{P:Prop}(R:Tp K O H h)(r:JI K H O w v)(e:uq h w P):tyV K "list" v H/\P:=by
 unfold uq at e;split at e
 ·split at e
  ·rename_i n _ ws ec;rw [JI] at r;obtain ⟨p,ev,hm⟩:=r;obtain ⟨p',xs,hm',hx,rs⟩:=R.lstAt ec;have ep:p'=p:=by rw [hm] at hm';exact (T7 hm').symm
   subst ep ev;exact ⟨.inl ⟨rfl,xs,.of hx⟩,e⟩
  ·exact e.elim
 ·exact e.elim
def JL (r:MM)(mo:ME)(ma:MA):ME:=fun Z h Q=>mo Z h fun x h1=>uq h1 x (ma Z h1 fun xs h2=>r x xs h2 Q)
variable {o e:Expr}{es:List Expr}{mo:ME}{ma:MA}{name:Str}{apos cpos:Pos}{id:String}{r:V->List V->Hp->VK->Prop}{mr:MM}
theorem RZ (slot:Slot "list" name id)(hty:typeOf (.builtin id)=pure (.type "method_descriptor"))(hm:MtR X id r)(hs:G9 X.K r mr)(ho:DE X o mo)(ha:DP X (e::es) ma)
  (hbase:attributeBase o name X.env (eval o X.env)=eval o X.env:=by rfl)
  (hfew:((Vy cpos (T3 (e::es) X.env)).all (fun x=>!x.1)&&(backToKw cpos (X6 [] X.env)).all (fun x=>x.1.isSome)
   && decide ((e::es).length+([]:List XJ).length+(if ([]:List XJ).isEmpty then 0 else 1)<30))=true:=by rfl)
  (hline:(apos.endLine==cpos.line)=true:=by rfl) (hst:T3 (e::es) X.env=(false,eval e X.env)::T3 es X.env:=by rfl) (hplain:(Vy cpos (T3 es X.env)).any (·.1)=false:=by rfl) :
  DE X (.Call (.Attribute o name apos) (e::es) [] cpos) (JL mr mo ma):=(OD PySem.F.plainAttrs_list slot hty hm ho ha hbase hfew hline hst hplain).of fun Z H Q ⟨O,h,Zw,Qw,R,S,m,k⟩=>by
 refine ⟨O,h,Zw,_,R,S,m,fun v H1 ⟨O1,w,h1,e1,R1,r1,il⟩=>⟨(qM R1 r1 il).1,?_⟩⟩;have m1:=(qM R1 r1 il).2;exact ⟨O1,h1,Zw,_,R1,S.ext e1,m1,fun vs H2 ⟨O2,ws,h2,e2,R2,r2,m2⟩=>hs R2 (e2.r _ _ r1) r2 m2 fun v H' z=>k _ _<|(z.trans e2).trans e1⟩
def fV:MM:=fun x ws h Q=>match x,ws with
 | .loc n,[w]=>(match h.c n with
  | some (.lst us)=>us.length<Ua/\Q .non (h.set n (.lst (us++[w])))
  | _=>False)
 | _,_=>False
theorem J1 {H:Hp}{O : Mu}{h:Gh}{n:Nat}{v:V}{us:List W}(R:Tp K O H h)(r:JI K H O (.loc n) v)(ec:h.c n=Dn (.lst us)):∃ p xs,v=.ref p/\O.f n=Dn p/\H p=Dn (.lst xs)/\aG K H O us xs:=by
 rw [JI] at r;obtain ⟨p,ev,hm⟩:=r;obtain ⟨p',xs,hm',hx,rs⟩:=R.lstAt ec;have ep:p'=p:=by rw [hm] at hm';exact (T7 hm').symm
 subst ep;exact ⟨p',xs,ev,hm,hx,rs⟩
theorem DQ.wrote {H:Hp}{O : Mu}{h:Gh}{n:Nat}{p:Addr}{us:List W}{xs:List V}{Q:WK}{w:W}{v:V}(R:Tp K O H h)(hm:O.f n=Dn p)(rs:aG K H O us xs)(rw':JI K H O w v)(q:Q w (h.set n (.lst us))):DQ K H O Q v (kI H p (.lst xs)):=
 ⟨O,w,h.set n (.lst us),(Ex.write R hm).ext,R.write hm trivial ⟨xs,aM,(Ex.write R hm).ext.s rs⟩,(Ex.write R hm).ext.r _ _ rw',q⟩
theorem zm:G9 K uM fV:=by
 intro H O h x vs wx ws Qw Q R rx rs m k;unfold fV at m;split at m
 ·split at m
  ·rename_i n w _ us ec;obtain ⟨p,xs,ex,hm,hx,r1⟩:=J1 R rx ec;obtain ⟨v,ev,rv⟩:=eV rs;exact ⟨p,xs,v,ex,ev,hx,by rw [<-r1.len];exact m.1,k _ _<|.wrote R hm (r1.append<|.one rv) (by rw [JI]) m.2⟩
  ·exact m.elim
 ·exact m.elim
theorem qX (ho:DE X o mo)(ha:DP X [e] ma)
  (hbase:attributeBase o "append" X.env (eval o X.env)=eval o X.env:=by rfl)
  (hfew:((Vy cpos (T3 [e] X.env)).all (fun x=>!x.1)&&(backToKw cpos (X6 [] X.env)).all (fun x=>x.1.isSome)
   && decide (([e]:List Expr).length+([]:List XJ).length+(if ([]:List XJ).isEmpty then 0 else 1)<30))=true:=by rfl)
  (hline:(apos.endLine==cpos.line)=true:=by rfl) (hst:T3 [e] X.env=(false,eval e X.env)::T3 [] X.env:=by rfl) (hplain:(Vy cpos (T3 [] X.env)).any (·.1)=false:=by rfl) :
  DE X (.Call (.Attribute o "append" apos) [e] [] cpos) (JL fV mo ma):=RZ PySem.F.slot_list_append PySem.F.type_list_append oE zm ho ha hbase hfew hline hst hplain
end
section
variable {X:Cx}{K:Tt}
def K5:W->Bool
 | .non=>true
 | _=>false
def kIs:M2:=fun x y h Q=>match x,y with
 | .bl c,.bl b=>Q (.bl (c==b)) h
 | w,.non=>Q (.bl (K5 w)) h
 | _,_=>False
def Ow:M2:=fun x y h Q=>match x,y with
 | .bl c,.bl b=>Q (.bl (!(c==b))) h
 | w,.non=>Q (.bl (!K5 w)) h
 | _,_=>False
def QW:MC:=fun ws h Q=>match ws with
 | [w]=>(match cD h w with
  | some us=>(match wF us with
   | some bs=>Q (.bl (bs.any id)) h
   | none=>False)
  | none=>False)
 | _=>False
theorem yP:CQ X (Vv .Add) (fun x y H Q=>∃ a b ys,x=.ref a/\y=.ref b/\CG X.K H a []/\CG X.K H b ys/\Q (.ref b) H):=by
 intro pins s Z H x y v u Q I rx ry ⟨a,b,ys,ex,ey,ha,hb,q⟩;subst ex ey;cases rx;cases ry;obtain ⟨its,r1,p1,_⟩:=I.tuple ha;obtain ⟨jts,r2,p2,_⟩:=I.tuple hb;cases r1;obtain ⟨⟨cls,dd,data,sl⟩,ho,hc,n,hd⟩:=id p1;obtain ⟨⟨cls2,dd2,data2,sl2⟩,ho2,hc2,n2,hd2⟩:=id p2;simp only at hc hd hc2 hd2;subst hc hd hc2 hd2;exact concat_meets ⟨_,ho,rfl⟩ ⟨_,ho2,rfl⟩ noFill_tuple_add seq_tuple_add PySem.F.slot_tuple_add PySem.F.entry_tuple_add (PySem.F.args_tuple_add_2 _ _)
  (tuple_addW0 a b _ _ n n2 dd dd2 sl sl2 (by simp)) ⟨ho,ho2,⟨.ref b,H,I,rfl,q⟩⟩
def MK (h:Gh):W->Option (List W)
 | .lst ws=>Dn ws
 | .loc n=>(match h.c n with
  | some (.lst ws)=>Dn ws
  | _=>Go)
 | _=>Go
theorem uN {H:Hp}{O : Mu}{h:Gh}{w:W}{v:V}{ws:List W}(R:Tp K O H h)(r:JI K H O w v)(e:MK h w=Dn ws):∃ p xs,v=.ref p/\H p=Dn (.lst xs)/\aG K H O ws xs:=by
 cases w with
 | lst us=>
  rw [JI] at r;obtain ⟨p,xs,ev,hs,rs⟩:=r;cases (show Dn us=Dn ws from e)
  exact ⟨p,xs,ev,hs.1,rs⟩
 | loc n=>
  unfold MK at e;dsimp only at e;cases ec:h.c n with
  | none=>rw [ec] at e;cases e
  | some cl=>
   rw [ec] at e;cases cl with
   | lst us=>
    cases (show Dn us=Dn ws from e)
    obtain ⟨p,xs,ev,_,hx,rs⟩:=J1 R r ec;exact ⟨p,xs,ev,hx,rs⟩
   | _=>cases e
 | _=>cases e
def gM:M2:=fun x y h Q=>match x,y with
 | .int i,.int j=>Q (.int (i+j)) h
 | .tup [],.tup b=>Q (.tup b) h
 | .tup (a0::a),.tup b=>iz (a.length+1+b.length) (Q (.tup (a0::a++b)) h)
 | x,y=>(match MK h x,MK h y with
  | some a,Dn b=>iz (a.length+b.length) (Q (.lst (a++b)) h)
  | _,_=>False)
theorem fQ:Dd X (Vv .Add) gM:=⟨_,(JM.or (yP.or zaR)).or Jw,by
 intro H O h x y wx wy Qw Q R rx ry m k;unfold gM at m;split at m
 ·rw [JI] at rx ry;exact .inl<|.inl ⟨_,_,rx,ry,k _ _<|.int R m⟩
 ·rename_i b;have ry':=ry;rw [JI] at rx ry;obtain ⟨p,xs,ex,hx,r1⟩:=rx;obtain ⟨q,ys,ey,hy,r2⟩:=ry;rw [aG] at r1;subst r1;rw [ey] at ry';exact .inl<|.inr<|.inl ⟨p,q,ys,ex,ey,hx,hy,k _ _ ⟨O,_,h,.refl,R,ry',m⟩⟩
 ·rename_i a0 a b;have rx':=rx;rw [JI] at rx ry;obtain ⟨p,xs,ex,hx,r1⟩:=rx;obtain ⟨q,ys,ey,hy,r2⟩:=ry;have sz:=m.ok.1;refine .inl<|.inr<|.inr ⟨p,q,xs,ys,ex,ey,hx,hy,fun z=>(by have:=r1.ne_nil.mp z;cases this),by rw [<-r1.len,<-r2.len];exact sz,fun z=>?_,fun z l hl=>?_⟩
  ·have eb:b=[]:=r2.ne_nil.mp z;subst eb;refine k _ _ ⟨O,.tup (a0::a++[]),h,.refl,R,?_,m.ok.2⟩;rw [Wy,<-ex];exact rx'
  ·exact k _ _ ⟨O,_,h,(Ex.laid hl).ext,R.laid hl,.tupNew hl<|r1.append r2,m.ok.2⟩
 ·split at m
  ·rename_i a b ea eb;obtain ⟨p,xs,ex,hx,r1⟩:=uN R rx ea;obtain ⟨q,ys,ey,hy,r2⟩:=uN R ry eb;have sz:=m.ok.1;exact .inr ⟨p,q,xs,ys,ex,ey,hx,hy,by rw [<-r1.len,<-r2.len];exact sz,fun l hl=>k _ _ ⟨O,_,h,(Ex.laid hl).ext,R.laid hl,.lstNew R hl<|r1.append r2,m.ok.2⟩⟩
  ·exact m.elim⟩
variable {o e:Expr}{mo:ME}{ma:MA}{apos cpos:Pos}
end
def zJ (K:Tt):Sp:=fun vs H Q _=>∃ (a:Addr) (ns:List Int),vs=[.ref a]/\Am K H a (ns.map V.int)/\Only H/\ns.length<=63/\∀ H',Q (.bl true) H'
def g0:Gh:=⟨0,fun _=>Go⟩
def O0:Mu:=⟨fun _=>Go,fun _=>False⟩
theorem RW {K:Tt}{H:Hp}:Tp K O0 H g0 where
 inj:=fun m n p h=>by cases (show (Go:Option Addr)=Dn p from h)
 dom:=fun n p h=>by cases (show (Go:Option Addr)=Dn p from h)
 trk:=fun n p h=>by cases (show (Go:Option Addr)=Dn p from h)
 cel:=fun n c h=>by cases (show (Go:Option Cell)=Dn c from h)
 hd:=fun p h=>VB h
theorem o9 {K:Tt}{H:Hp}{O : Mu}:∀ ns:List Int,aG K H O (ns.map W.int) (ns.map V.int)
 | []=>.nil
 | n::ns=>.cons (by rw [JI]) (o9 ns)
theorem zaS {P:T8}{w:Uv}{K:Tt}{mg:Str->Option Tw}{base:Heap}{k:Nat}{f:Addr}{fd:Uw}{ps:List Str}{ms:SX}
  (hm:∀ ns:List Int,ns.length<=63->ms [.kls (ns.map W.int)] g0 (fun w _=>w=.bl true) EF) (F:cH P w K mg base Ao k f fd ps (lift K ms)):cH P w K mg base Ao k f fd ps (zJ K):=
 F.imp fun vs H Q E ⟨a,ns,e,hS,hO,hl,q⟩=>by
  subst e;refine ⟨O0,g0,[.kls<|ns.map W.int],_,RW,.one ?_,hm ns hl,fun v H' ⟨O',w',h',_,_,r,e⟩=>?_⟩
  ·rw [JI];refine ⟨a,ns.map V.int,rfl,?_,o9 ns⟩;rcases hS with (hS | hS) | hS
   ·rcases hO a with z | ⟨o,xs,z⟩ <;> rw [hS] at z <;> cases z
   ·exact .inl hS
   ·exact .inr hS
  ·subst e;rw [JI] at r;subst r;exact q H'
inductive Sk where
 | l | t
section
variable {P:T8}{w:Uv}{A:Ug}{E:Tw->Tz->Prop}{s:Tz}{k k1 k2:Sk}
structure Zap (z TI TO i1 i2:Addr):Prop where
 a1:TI≠z
 a2:TO≠z
 a3:i1≠z
 a4:i2≠z
 a5:TI≠TO
 a6:TI≠i1
 a7:TI≠i2
 a8:TO≠i1
 a9:TO≠i2
 b1:i1≠i2
structure Off (a z TO i1 i2:Addr):Prop where
 z:a≠z
 o:a≠TO
 i:a≠i1
 j:a≠i2
end
section
variable {X:Cx}{pins:List (Addr×Obj)}{Z : St}{H:Hp}{s:Tz}{h':Heap}
theorem Mk.turnedL {t':Nat}{ch:List Addr}(I:Mk X pins Z H s)(k:∀ b o,b∉ch->s.heap.get? b=Dn o->h'.get? b=Dn o)(hf:∀ b∈ch,uz X pins H b):Mk X pins Z H { s with heap:=h',toks:=t' }:=by
 have nit:∀ b u,H b=Dn u->b∉ch:=fun b u e z=>by rw [(hf b z).1] at e;cases e
 refine I.step (g':=s.gens) (d':=s.drawn) (ch:=ch) (fun b hb=>?_) (fun b o _ _ hc e _=>k b o hc e) (fun b o _ _ hc e _=>⟨o.slots,k b o hc e⟩) (fun _ _ _ _ n=>n)
  (fun b o hc e=>⟨o,k b o hc e⟩) (fun _ _ e=>e) (fun _ _ _ e=>e) (fun b ps e=>⟨#[],by rw [e];simp⟩) (fun m hm=>?_) (fun b u e=>?_) I.bare
 ·obtain ⟨_,f1,_,f3,f4,f5⟩:=hf b hb;exact ⟨f3,f1,f4,f5⟩
 ·obtain ⟨o,es,ep,ho,r⟩:=hm;exact ⟨o,es,ep,k _ o (fun z=>(hf _ z).2.1 rfl) ho,r⟩
 ·refine (I.hok b u e).stay (fun c v hc q=>k c v ?_ q) (fun _ q=>q) fun _ _ q=>q;rcases hc with z | z
  ·rw [z];exact nit b u e
  ·exact nit c _ z
end
section
variable {X:Cx}{K:Tt}
def tM:List W->List W->List W
 | a::as,b::bs=>.tup [a,b]::tM as bs
 | _,_=>[]
def qj:W->Option (List W)
 | .tup ws=>Dn ws
 | .lst ws=>Dn ws
 | .kls ws=>Dn ws
 | _=>Go
def G8 (h:Gh)(x y:W):Option Src:=match qj x,qj y with
 | some as,Dn bs=>Dn ⟨tM as bs,Go⟩
 | none,Dn bs=>(match x with
  | .loc n=>(match h.c n with
   | some (.lst as)=>Dn ⟨tM as bs,Dn (n,as)⟩
   | _=>Go)
  | _=>Go)
 | _,_=>Go
def Ti (ma:MA):MI:=fun Z h R=>ma Z h fun ws h1=>match ws with
 | [x,y]=>(match G8 h1 x y with
  | some s=>R s h1
  | none=>False)
 | _=>False
def En:List W->Option (List Int)
 | []=>Dn []
 | .int i::ws=>(En ws).map (i::·)
 | _=>Go
def Rh:MC:=fun ws h Q=>match ws with
 | [w]=>(match cD h w with
  | some us=>(match En us with
   | some ns=>Q (.int ns.sum) h
   | none=>False)
  | none=>False)
 | _=>False
end
theorem rG:Manifest.owners.lookup (String.ofList ['d','e','s','r','e','v','e','r'].reverse)=Dn Manifest.sig_reversed:=by kernel_rfl
theorem Bq:mroOf (.type "reversed")=pure [.type "reversed",.type "object"]:=by
 rw [mroOf_type]
 kernel_rfl
theorem Lb:typeLookup (.type "reversed") "__new__" = pure (Dn (.builtin "reversed.__new__")):=by
 rw [Wj,Vr]
 kernel_rfl
theorem cg:Slot "reversed" "__next__" "reversed.__next__":=
  .of (owner := "reversed") (n := "__next__")
    (by rw [Wj,Vr]
        kernel_rfl)
    (by decide +kernel) (by decide +kernel)
    (by decide +kernel)
    (by first
        | exact .inl (by decide +kernel)
        | exact .inr (by decide +kernel))
    (by rw [Wu]
        kernel_rfl)
theorem iu:entryFor table "reversed.__next__" = Dn UW.«reversed.__next__»:=entryFor_of_tree (by kernel_rfl)
theorem jh (a:Tw):argsOk "reversed.__next__" ⟨[a],[]⟩:=by
 unfold argsOk;rw [signature?_of (id := "reversed.__next__") (n:=['_','_','t','x','e','n','_','_']) (o:=['d','e','s','r','e','v','e','r']) (by kernel_rfl) rG]
 kernel_rfl
theorem je:Slot "reversed" "__iter__" "reversed.__iter__":=
  .of (owner := "reversed") (n := "__iter__")
    (by rw [Wj,Vr]
        kernel_rfl)
    (by decide +kernel) (by decide +kernel)
    (by decide +kernel)
    (by first
        | exact .inl (by decide +kernel)
        | exact .inr (by decide +kernel))
    (by rw [Wu]
        kernel_rfl)
theorem oJ (a:Tw):argsOk "reversed.__iter__" ⟨[a],[]⟩:=by
 unfold argsOk;rw [signature?_of (id := "reversed.__iter__") (n:=['_','_','r','e','t','i','_','_']) (o:=['d','e','s','r','e','v','e','r']) (by kernel_rfl) rG]
 kernel_rfl
theorem mq:entryFor table "reversed.__iter__" = Dn UW.«dict_keyiterator.__iter__»:=
  entryFor_alias (id' := "dict_keyiterator.__iter__") (by kernel_rfl)
    (by first
        | rfl
        | decide +kernel
        | (unfold String.splitOn;simp +decide [String.splitOnAux]))
    (by decide +kernel) (by kernel_rfl)
theorem qm (a:Tw):checkTypeCall "reversed" ⟨[a],[]⟩=pure ():=by kernel_rfl
theorem sV (a:Tw):checkBuiltinCall "reversed.__new__" ⟨[.type "reversed",a],[]⟩=pure ():=by kernel_rfl
theorem o7:entryFor table "reversed.__new__" = Dn UW.«reversed.__new__»:=entryFor_of_tree (by kernel_rfl)
theorem K8:isSubtype (.type "reversed") (.type "reversed")=pure true:=by
 rw [Wu]
 kernel_rfl
theorem ql:typeLookup (.type "tuple") "__reversed__" = pure Go:=by
 rw [Wj,Vr]
 kernel_rfl
theorem qg:isSubtype (.type "tuple") (.type "dict")=pure false:=by
 rw [Wu]
 kernel_rfl
def Eu (l:Addr)(i:Int):Obj:={ cls:=.type "reversed",data:=.fields #[.ref l,XF i] }
def wJ (h:Heap)(a l:Addr)(i:Int):Prop:=∃ o,h.get? a=Dn o/\o.cls=.type "reversed"/\o.data=.fields #[.ref l,XF i]
section
variable {P:T8}{w:Uv}{A:Ug}{E:Tw->Tz->Prop}{s:Tz}
theorem wJ.typeIs {a l:Addr}{i:Int}(x:wJ s.heap a l i):s.TypeIs (.ref a) "reversed":=let ⟨o,g,c,_⟩:=x;⟨o,g,c⟩
theorem wJ.at {h h':Heap}{a l:Addr}{i:Int}(x:wJ h a l i)(e:∀ o,h.get? a=Dn o->h'.get? a=Dn o):wJ h' a l i:=let ⟨o,g,r⟩:=x;⟨o,e _ g,r⟩
theorem zQ (a:Tw):Builtin.SmallTypes.newClass "reversed" ⟨[.type "reversed",a],[]⟩=pure (.type "reversed",[a]):=by
 unfold Builtin.SmallTypes.newClass;simp only [isType,K8,pure_bind,Bool.not_true,Wz];rfl
theorem Fb:Slot "reversed" "__init__" "object.__init__":=
  .of (owner := "object") (n := "__init__")
    (by rw [Wj,Vr]
        kernel_rfl)
    (by decide +kernel) (by decide +kernel)
    (by decide +kernel)
    (by first
        | exact .inl (by decide +kernel)
        | exact .inr (by decide +kernel))
    (by rw [Wu]
        kernel_rfl)
theorem xT:TypeCalled "reversed" "reversed.__new__" "object.__init__":=
  ⟨by decide +kernel,by decide +kernel,⟨_,_,Bq⟩,madeBy_type Bq Lb (by decide +kernel),by decide +kernel,
    by rw [Wu]
       kernel_rfl,Fb⟩
theorem zaw (l:Addr)(xs:Array Tw):Meets (UW.«reversed.__new__» ⟨[.type "reversed",.ref l],[]⟩) (fun _ R s=>IsTup s.heap l xs/\(xs.size:Int)<2^63 /\
   R (.ok (.ret (.ref s.heap.objs.size))) { s with heap:=s.heap.push (Eu l ((xs.size:Int) - 1)),toks:=s.toks+1+1 }):=by
 refine .of_wp fun prog w A R s ⟨ht,hfit,q⟩=>?_;unfold UW.«reversed.__new__»;refine Tv<|Xg (zQ _) ?_
 try dsimp only
 refine Tv<|Xg (a:=()) (by rfl) ?_
 refine Tv<|Xg (a:=()) (by rfl) ?_
 try dsimp only
 refine Tv<|Xz ht.typeIs ql ?_
 try dsimp only
 refine Tv ?_;refine Tv<|wpAny_isInstance (U := "dict") (b:=false) ht.typeIs qg ?_
 rw [if_neg Ue];refine Tv<|Xz ht.typeIs Ux.lookup ?_
 show Us _ _ (if (_:Bool)=true then pure true else _) _ _ _;rw [if_pos (by decide +kernel)];refine TV ?_;rw [if_neg (by decide)];refine Tv<|len_tuple ht hfit ?_
 refine Tv<|Xg (a:=Dn (xs.size:Int)) (by rfl) ?_
 try dsimp only
 refine Tv ?_;show Us _ _ (newObj (.type "reversed") (.fields #[.ref l,XF ((xs.size:Int) - 1)])) _ _ _;exact U5 (TV ⟨_,rfl,q⟩)<|by size_fits
theorem zH {l:Addr}{xs:Array Tw}{Q:Tw->Tz->Prop}(ht:IsTup s.heap l xs)(hfit:(xs.size:Int)<2^63)
  (q:Q (.ref s.heap.objs.size) { s with heap:=s.heap.push (Eu l ((xs.size:Int) - 1)),toks:=s.toks+1+1 }):Us (Uz P w) A (call (.type "reversed") [.ref l]) Q E s:=by
 refine callType_new xT (by decide) (qm _) (sV _) (fun obj=>PySem.F.args_object_init_2 obj _) o7 (zaw l xs) ⟨ht,hfit,?_⟩;exact ⟨⟨_,T9 _ rfl,rfl⟩,q⟩
theorem yW {it l:Addr}{i:Nat}{xs:Array Tw}{x:Tw}{Q:Option Tw->Tz->Prop}(hi:wJ s.heap it l (i:Int))(ht:IsTup s.heap l xs)(hfit:(xs.size:Int)<2^63)(hx:xs[i]?=Dn x)
  (q:∀ h',wJ h' it l ((i:Int) - 1)->Wt it s.heap h'->Q (Dn x) { s with heap:=h',toks:=s.toks+1 }):Us (Uz P w) A (pyNext (.ref it)) Q E s:=by
 obtain ⟨o,go,gc,gd⟩:=id hi;have hlt:i<xs.size:=(Array.getElem?_eq_some_iff.mp hx).1;unfold pyNext;refine Tv (W3 (V6 (name:=Vo "__next__") hi.typeIs cg
  (Wv cg hi.typeIs iu ?_ (jh _))))
 unfold UW.«reversed.__next__»;refine Tv<|Xg (a:=(Value.ref it,([]:List Tw))) (by rfl) ?_
 try dsimp only
 refine Tv<|Vp go gd (x:=.ref l) rfl ?_
 refine Tv<|Vp go gd (x:=XF (i:Int)) rfl ?_
 show Us _ _ (if (i:Int)<0 then _ else _) _ _ s;rw [if_neg (by lia)];refine Tv<|Xz ht.typeIs Ux.lookup ?_
 rw [if_neg (by decide)];refine Tv<|wpAny_mkInt ?_
 refine Tv<|W3<|getItem_tuple (s:={ s with toks:=s.toks+1 }) ht (by lia) (by lia) (j:=i) ?_ hx ?_
 ·have e:=seqIndex_of (k:=(i:Int)) (n:=xs.size) (by lia) (by lia);rw [Int.toNat_natCast] at e;exact e
 try dsimp only
 refine Tv<|Vp go gd (x:=XF (i:Int)) rfl ?_
 refine Tv<|Xj go gd (by simp) ?_
 refine TV ⟨x,rfl,TV<|q _ ?_<|Heap.SameBut.update ..⟩;exact ⟨_,U3 _ go<|Vk<|Vf gd _,(Obj.cls_mapFields ..).trans gc,by rw [Vf gd];simp⟩
theorem oY {it l:Addr}{Q:Option Tw->Tz->Prop}(hh:A.handled=Go)(hi:wJ s.heap it l (-1))
  (q:∀ h',Heap.ExtBut it s.heap h'->Q Go { s with heap:=h' }):Us (Uz P w) A (pyNext (.ref it)) Q E s:=by
 obtain ⟨o,go,gc,gd⟩:=id hi;unfold pyNext;refine Tv (W3 (V6 (name:=Vo "__next__") hi.typeIs cg
  (Wv cg hi.typeIs iu ?_ (jh _))))
 unfold UW.«reversed.__next__»;refine Tv<|Xg (a:=(Value.ref it,([]:List Tw))) (by rfl) ?_
 try dsimp only
 refine Tv<|Vp go gd (x:=.ref l) rfl ?_
 refine Tv<|Vp go gd (x:=XF (-1)) rfl ?_
 show Us _ _ (if (-1:Int)<0 then _ else _) _ _ s;rw [if_pos (by decide)];refine Tv<|wpAny_rule ?_
 refine Tv ?_;refine Tv<|Xj go gd (by simp) ?_
 have g1:=U3 (fun o=>o.mapFields fun x=>x.setIfInBounds 1 (XF (-1))) go (Vk (Vf gd _));refine Xj g1 (Vf gd _) (by simp) ?_;refine Tv ?_;show Us _ _ (newExc (.type "StopIteration") [] >>= fun e0=>raiseNew e0) _ _ _;refine Tv ?_;simp only [newExc,newTuple,raiseNew];refine Tv (U5 (by
  refine Tv (m:=firstArgMember _ _)<|Xg (a:=Value.none) (by rfl)<|U5 ?_<|by size_fits
  refine Tv (wpAny_handled (by
   first
    | rw [show A.in1.handled=Go from hh]
    | rw [hh]
   refine Tv<|TV<|wpAny_throw ?_
   refine Tv<|wpAny_isInstance (T := "StopIteration") (b:=true) ⟨_,T9 _ rfl,rfl⟩ isSubtype_stop<|TV<|q _ ?_
   intro b ob hb eb;exact TJ _ (TJ _ ((Heap.SameBut.update ..).extBut b ob hb ((Heap.SameBut.update ..).extBut b ob hb eb))))) ) (by size_fits))
theorem qF {it l:Addr}{i:Int}{Q:Tw->Tz->Prop}(hi:wJ s.heap it l i)(q:Q (.ref it) s):Us (Uz P w) A (pyIter (.ref it)) Q E s:=by
 refine wpAny_pyIter_slot hi.typeIs je<|Wv je hi.typeIs mq ?_<|oJ _
 show Us _ _ (ret (.ref it)) _ _ s;exact TV ⟨_,rfl, "reversed",_,hi.typeIs,cg.lookup,q⟩
end
def Itv (K:Tt)(n:Nat)(l:Addr):It:=
  ⟨fun i H=>i<n/\∃ xs x,CG K H l xs/\xs.length=n/\xs[n - 1 - i]?=Dn x,
   fun i H v H'=>H'=H/\∀ xs,CG K H l xs->xs[n - 1 - i]?=Dn v,
   fun i _=>n<=i,true⟩
def S8 (n:Nat)(it l:Addr)(i:Nat)(h:Heap):Prop:=i<=n/\wJ h it l ((n:Int) - 1 - (i:Int))
theorem zau {P:T8}{w:Uv}{K:Tt}{tg:Expr}{n:Nat}{it l:Addr}(hne:l≠it):Turn P w K tg (Itv K n l) [it] it (S8 n it l) where
 mem:=by simp
 obj:=fun i h st b hb=>by
  obtain ⟨_,o,g,_,d⟩:=st;rw [Va] at hb;subst hb;exact ⟨o,g,fun v y=>by rw [d] at y;cases y⟩
 keep:=fun i h h' st k=>⟨st.1,st.2.at fun o e=>k it (by simp) o e⟩
 item:=by
  intro X hP hw hK hc i pins s Z H E I hf st hg;subst hP hw hK;obtain ⟨hin,xs,x,hx,hlen,ex⟩:=hg;obtain ⟨its,r,pl,hz⟩:=I.tuple hx;obtain ⟨u,hu,ru⟩:=r.get ex;have hl:=r.length;have e1:(n:Int) - 1 - (i:Int)=((n - 1 - i:Nat):Int):=by lia
  have hi:=st.2;rw [e1] at hi;have hn:=gP;refine yW hi pl (by simp only [TX];lia) (x:=u) (by simpa using hu) fun h1 g1 sb=>⟨u,rfl,?_⟩;have e2:((n - 1 - i:Nat):Int) - 1=(n:Int) - 1 - ((i+1:Nat):Int):=by lia
  rw [e2] at g1;obtain ⟨o,go,gc,gd⟩:=id g1;refine qp (s:={ s with heap:=h1,toks:=s.toks+1 }) go gc gd (by decide) ⟨x,H,I.turnedL (t':=s.toks+1) (ch:=[it]) (fun b o hb e=>sb.extBut b o (fun q=>hb<|by simp [q]) e) hf,ru,⟨rfl,fun ys hy=>?_⟩,⟨hin,g1⟩,fun b hb=>(hf b hb).1⟩;rw [I.tuple_inj hy hx];exact ex
 done:=by
  intro X hP hw hK hc i pins s Z H E I hf st hg;subst hP hw hK;have hi:=st.2;have e1:(n:Int) - 1 - (i:Int) = -1:=by
   have:=st.1
   have:n<=i:=hg
   lia
  rw [e1] at hi;exact oY (I.ok.hd<|hc rfl) hi fun h1 eb=>⟨rfl,I.turnedL (t':=s.toks) (ch:=[it]) (fun b o hb e=>eb b o (fun q=>hb<|by simp [q]) e) hf⟩
 self:=fun _ _ _ _ _ st h=>qF st.2 h
section
variable {X:Cx}{K:Tt}
end
section
variable {X:Cx}
def NT (i j k:Nat)(ta:MA):MS:=fun D Z h=>ta Z h fun ws h1=>match ws with
 | [a,b,c]=>D.nx (((Z.set i (Dn a)).set j (Dn b)).set k (Dn c)) h1
 | _=>False
end
def Itw (K:Tt)(n:Nat)(l:Addr):It:=
  ⟨fun i H=>i<n/\∃ xs x,Am K H l xs/\xs.length=n/\xs[n - 1 - i]?=Dn x,
   fun i H v H'=>H'=H/\∀ xs,Am K H l xs->xs[n - 1 - i]?=Dn v,
   fun i _=>n<=i,true⟩
def RT (n:Nat)(it l:Addr)(i:Nat)(h:Heap):Prop:=i<=n/\h.IsRevIter it l ((n:Int) - 1 - (i:Int))
theorem wk {P:T8}{w:Uv}{K:Tt}{tg:Expr}{n:Nat}{it l:Addr}(hne:l≠it):Turn P w K tg (Itw K n l) [it] it (RT n it l) where
 mem:=by simp
 obj:=fun i h st b hb=>by
  obtain ⟨_,o,g,_,d⟩:=st;rw [Va] at hb;subst hb;exact ⟨o,g,fun v y=>by rw [d] at y;cases y⟩
 keep:=fun i h h' st k=>⟨st.1,st.2.at fun o e=>k it (by simp) o e⟩
 item:=by
  intro X hP hw hK hc i pins s Z H E I hf st hg;subst hP hw hK;obtain ⟨hin,xs,x,hx,hlen,ex⟩:=hg;obtain ⟨its,r,pl,hz⟩:=I.list hx;obtain ⟨u,hu,ru⟩:=r.get ex;have hl:=r.length;have e1:(n:Int) - 1 - (i:Int)=((n - 1 - i:Nat):Int):=by lia
  have hi:=st.2;rw [e1] at hi;refine wpAny_pyNext_rev_item hi pl.isList (x:=u) (by simpa using hu) fun h1 g1 sb=>⟨u,rfl,?_⟩;have e2:((n - 1 - i:Nat):Int) - 1=(n:Int) - 1 - ((i+1:Nat):Int):=by lia
  rw [e2] at g1;obtain ⟨o,go,gc,gd⟩:=id g1;refine qp (s:={ s with heap:=h1 }) go gc gd (by decide) ⟨x,H,I.turnedL (t':=s.toks) (ch:=[it]) (fun b o hb e=>sb.extBut b o (fun q=>hb<|by simp [q]) e) hf,ru,⟨rfl,fun ys hy=>?_⟩,⟨hin,g1⟩,fun b hb=>(hf b hb).1⟩;rw [I.list_inj hy hx];exact ex
 done:=by
  intro X hP hw hK hc i pins s Z H E I hf st hg;subst hP hw hK;have hi:=st.2;have e1:(n:Int) - 1 - (i:Int) = -1:=by
   have:=st.1
   have:n<=i:=hg
   lia
  rw [e1] at hi;exact wpAny_pyNext_rev_end (I.ok.hd<|hc rfl) hi fun h1 eb=>⟨rfl,I.turnedL (t':=s.toks) (ch:=[it]) (fun b o hb e=>eb b o (fun q=>hb<|by simp [q]) e) hf⟩
 self:=fun _ _ _ _ _ st h=>Xo st.2 h
section
variable {X:Cx}{K:Tt}
def O8 (K:Tt)(ta:TA):TI:=fun Z H R=>ta Z H fun vs H1=>∃ a xs,vs=[.ref a]/\((CG K H1 a xs/\R (Itv K xs.length a) H1)\/(Am K H1 a xs/\R (Itw K xs.length a) H1))
theorem Ge {tg e1:Expr}{ta:TA}{p pos:Pos}(hg:Gl X "reversed")(hm:X.mg "reversed" = Go)(ha:PA X [e1] ta)
  (hs:T3 [e1] X.env=(false,eval e1 X.env)::T3 [] X.env:=by rfl) (hpl:(Vy pos (T3 [] X.env)).any (·.1)=false:=by rfl) :
  PI X tg (.Call (.Name "reversed" p) [e1] [] pos) (O8 X.K ta):=by
 intro pins s Z H R I h;refine VJ<|kj I hg hm boot_reversed ?_ (by decide)<|by decide
 refine V1 (AP (ha pos pins s Z H _ I h) fun us s1 ⟨vs,H1,I1,r1,q1⟩=>?_) hs hpl;obtain ⟨a,xs,ev,hx⟩:=q1;subst ev;obtain ⟨u1,eu,ru1⟩:=vals1 r1;subst eu;cases ru1;rcases hx with ⟨hx,q⟩ | ⟨hx,q⟩
 ·obtain ⟨its,r,pl,hz⟩:=I1.tuple hx;have hl:=r.length;have hn:=gP;refine zH pl (by simp only [TX];lia) ?_;have gi:wJ (s1.heap.push (Eu a ((its.toArray.size:Int) - 1))) s1.heap.objs.size a ((xs.length:Int) - 1 - ((0:Nat):Int)):=by
   refine ⟨_,T9 _ rfl,rfl,?_⟩;show Data.fields #[.ref a,XF ((its.toArray.size:Int) - 1)]=_;rw [TX,<-hl];simp
  have la:a<s1.heap.objs.size:=by obtain ⟨_,e,_⟩:=pl;exact TY e
  refine qF gi ?_;refine ⟨_,[s1.heap.objs.size],_,_,H1,rfl,I1.kept (t':=s1.toks+1+1)<|fun b o e=>TJ _ e,zau<|Ud la,⟨Wh _,gi⟩,fun c hc=>?_,q⟩;rw [Va] at hc;subst hc;exact I1.fpOk (T6 _)<|I1.hok.fresh<|T6 _
 ·obtain ⟨its,r,pl,hz⟩:=I1.list hx;have hl:=r.length;refine call_reversed_list pl.isList ?_;have gi:(s1.heap.push (revObj a ((its.toArray.size:Int) - 1))).IsRevIter s1.heap.objs.size a ((xs.length:Int) - 1 - ((0:Nat):Int)):=by
   refine ⟨_,T9 _ rfl,rfl,?_⟩;show Data.fields #[.ref a,XF ((its.toArray.size:Int) - 1)]=_;rw [TX,<-hl];simp
  have la:a<s1.heap.objs.size:=by obtain ⟨_,e,_⟩:=pl.isList;exact TY e
  refine Xo gi ?_;refine ⟨_,[s1.heap.objs.size],_,_,H1,rfl,I1.kept (t':=s1.toks)<|fun b o e=>TJ _ e,wk<|Ud la,⟨Wh _,gi⟩,fun c hc=>?_,q⟩;rw [Va] at hc;subst hc;exact I1.fpOk (T6 _)<|I1.hok.fresh<|T6 _
def Jp (ma:MA):MI:=fun Z h R=>ma Z h fun ws h1=>match ws with
 | [.tup us]=>R ⟨us.reverse,Go⟩ h1
 | [.lst us]=>R ⟨us.reverse,Go⟩ h1
 | _=>False
theorem Es {tg e1:Expr}{mr:MA}{p pos:Pos}(hg:Gl X "reversed")(hm:X.mg "reversed" = Go)(ha:DP X [e1] mr)
  (hs:T3 [e1] X.env=(false,eval e1 X.env)::T3 [] X.env:=by rfl) (hpl:(Vy pos (T3 [] X.env)).any (·.1)=false:=by rfl) :
  Eo X tg (.Call (.Name "reversed" p) [e1] [] pos) (Jp mr):=PI.of (Ge hg hm ha hs hpl) fun Z H Q ⟨O,h,Zw,Rw,R,S,m,k⟩=>by
 refine ⟨O,h,Zw,_,R,S,m,fun vs H1 ⟨O1,ws,h1,e1,R1,r1,m1⟩=>?_⟩;split at m1
 ·rename_i us;obtain ⟨v,ev,rv⟩:=eV r1;have rv0:=rv;rw [JI] at rv;obtain ⟨a,xs,ea,hx,rs⟩:=rv;subst ev ea;have hl:=rs.len;refine ⟨a,xs,rfl,.inl ⟨hx,k _ _ ⟨O1,⟨us.reverse,Go⟩,h1,e1,R1,?_,m1⟩⟩⟩;intro H2 O2 h2 i e2 R2 _;have r2:=e2.r _ _ rv0;rw [JI] at r2;obtain ⟨b,ys,eb,hy,ry⟩:=r2;cases eb;have hl2:=ry.len;refine ⟨fun w ew=>?_,fun hle=>?_⟩
  ·have hi:i<us.length:=by
    have:=(Uq.mp ew).1
    simpa using this
   rw [List.getElem?_reverse hi] at ew;obtain ⟨v,hv,rv⟩:=ry.get ew;refine ⟨⟨by lia,ys,v,hy,by lia,by rw [show xs.length - 1 - i=us.length - 1 - i by lia];exact hv⟩,fun x H3 ⟨e3,y⟩=>?_⟩;subst e3;have:=y ys hy
   rw [show xs.length - 1 - i=us.length - 1 - i by lia,hv] at this;cases this;exact ⟨O2,.refl,R2,rv⟩
  ·have:us.length<=i:=by simpa using hle
   show xs.length<=i;lia
 ·rename_i us;obtain ⟨v,ev,rv⟩:=eV r1;have rv0:=rv;rw [JI] at rv;obtain ⟨a,xs,ea,hx,rs⟩:=rv;subst ev ea;have hl:=rs.len;refine ⟨a,xs,rfl,.inr ⟨hx.sq,k _ _ ⟨O1,⟨us.reverse,Go⟩,h1,e1,R1,?_,m1⟩⟩⟩;intro H2 O2 h2 i e2 R2 _;have r2:=e2.r _ _ rv0;rw [JI] at r2;obtain ⟨b,ys,eb,hy,ry⟩:=r2;cases eb;have hl2:=ry.len;refine ⟨fun w ew=>?_,fun hle=>?_⟩
  ·have hi:i<us.length:=by
    have:=(Uq.mp ew).1
    simpa using this
   rw [List.getElem?_reverse hi] at ew;obtain ⟨v,hv,rv⟩:=ry.get ew;refine ⟨⟨by lia,ys,v,hy.sq,by lia,by rw [show xs.length - 1 - i=us.length - 1 - i by lia];exact hv⟩,fun x H3 ⟨e3,y⟩=>?_⟩;subst e3;have:=y ys hy.sq
   rw [show xs.length - 1 - i=us.length - 1 - i by lia,hv] at this;cases this;exact ⟨O2,.refl,R2,rv⟩
  ·have:us.length<=i:=by simpa using hle
   show xs.length<=i;lia
 ·exact m1.elim
end
theorem Rr {K:Tt}{H:Hp}{O : Mu}{i:Int}:JI K H O (.int i) (.int i):=by rw [JI]
section
variable {prog:T8}{w:Uv}{A:Ug}{E:Tw->Tz->Prop}{s:Tz}
end
section
variable {X:Cx}{pos:Pos}
def Ac (n:Nat)(g:Du):MG:=fun w Z h N=>match w with
 | .tup ws=>CJ (XH ws.length n) (g ws Z h N) False
 | .lst ws=>CJ (XH ws.length n) (g ws Z h N) False
 | .loc j=>(match h.c j with
  | some (.lst ws)=>CJ (XH ws.length n) (g ws Z h N) False
  | _=>False)
 | _=>False
end
section
variable {K:Tt}{H:Hp}{O : Mu}{h:Gh}{p:Addr}{ws:List W}{xs:List V}
theorem Ex0.own (R:Tp K O H h)(hp:O.hid p):Ex0 K H O H ((O.unhide p).put h.nx p) where
 t:=fun _ _ z=>z
 l:=fun q ys z=>by
  refine ⟨z.1,fun m e=>?_,fun y=>z.2.2 y.2⟩;by_cases hm:m=h.nx
  ·rw [hm,Mu.put_same] at e;have e':p=q:=T7 e;subst e';exact z.2.2 hp
  ·rw [Mu.put_ne hm] at e;exact z.2.1 m e
 k:=fun _ _ z=>z
 m:=fun m q e=>by
  have hm:m≠h.nx:=fun y=>by rw [y,R.dead (T6 _)] at e;cases e
  rw [Mu.put_ne hm];exact e
 x:=fun _ _ _ e=>e
 y:=fun _ _ e=>e
theorem yx.own (R:Tp K O H h)(hp:O.hid p):yx p K H O H ((O.unhide p).put h.nx p):=⟨fun _ _ z=>JI.ex (Ex0.own R hp) z,fun q u ne z e=>⟨⟨ne,z⟩,e⟩⟩
theorem Tp.own (R:Tp K O H h)(hp:O.hid p)(e:H p=Dn (.lst xs))(r:aG K H O ws xs):Tp K ((O.unhide p).put h.nx p) H (h.new (.lst ws)) where
 inj:=fun m n q em en=>by
  have key:∀ n,n≠h.nx->((O.unhide p).put h.nx p).f n=Dn q->p=q->False:=fun n hn en e=>by
   rw [Mu.put_ne hn] at en;subst e;exact (R.hd p hp).2 n en
  by_cases hm:m=h.nx
  ·by_cases hn:n=h.nx
   ·rw [hm,hn]
   ·rw [hm,Mu.put_same] at em;exact (key n hn en<|T7 em).elim
  ·by_cases hn:n=h.nx
   ·rw [hn,Mu.put_same] at en;exact (key m hm em<|T7 en).elim
   ·rw [Mu.put_ne hm] at em;rw [Mu.put_ne hn] at en;exact R.inj m n q em en
 dom:=fun n q en=>by
  by_cases hn:n=h.nx
  ·rw [hn];exact Nat.lt_succ_self _
  ·rw [Mu.put_ne hn] at en;exact Nat.lt_succ_of_lt<|R.dom n q en
 trk:=fun n q en=>by
  by_cases hn:n=h.nx
  ·rw [hn,Mu.put_same] at en;cases en;rw [e];trivial
  ·rw [Mu.put_ne hn] at en;exact R.trk n q en
 cel:=fun n c en=>by
  by_cases hn:n=h.nx
  ·subst hn;have ec:(h.new (.lst ws)).c h.nx=Dn (.lst ws):=by show (if h.nx=h.nx then Dn _ else _)=_;rw [if_pos rfl]
   rw [ec] at en;cases en;exact ⟨p,Mu.put_same,xs,e,aG.ex (Ex0.own R hp) r⟩
  ·have ec:(h.new (.lst ws)).c n=h.c n:=by show (if n=h.nx then Dn _ else _)=_;rw [if_neg hn]
   rw [ec] at en;obtain ⟨q,e1,x⟩:=R.cel n c en;refine ⟨q,by rw [Mu.put_ne hn];exact e1,?_⟩;have ex:=Ex0.own R hp;cases c with
   | lst ws=>obtain ⟨xs,a,b⟩:=x;exact ⟨xs,a,aG.ex ex b⟩
   | obj C fs=>obtain ⟨dx,fvs,a,b⟩:=x;exact ⟨dx,fvs,a,Paired.mapP b fun _ _ z=>⟨z.1,JI.ex ex z.2⟩⟩
   | dct kvs=>obtain ⟨kvv,a,b⟩:=x;exact ⟨kvv,a,Paired.mapP b fun _ _ z=>⟨z.1,JI.ex ex z.2⟩⟩
   | dtt kvs=>obtain ⟨xs,vs,a,b,c,d,f⟩:=x;exact ⟨xs,vs,a,b,c,aG.ex ex d,aG.ex ex f⟩
 hd:=fun q z=>by
  refine ⟨(R.hd q z.2).1,fun n en=>?_⟩;by_cases hn:n=h.nx
  ·rw [hn,Mu.put_same] at en;exact z.1 (T7 en).symm
  ·rw [Mu.put_ne hn] at en;exact (R.hd q z.2).2 n en
end
def M4 (Q:WK):WK:=fun w h=>match w with
 | .lst ws=>Q (.loc h.nx) (h.new (.lst ws))
 | _=>False
def MJ (own:W->Option (List W))(ix:List Nat)(mi:MI)(tt:MT)(te:ME):ME:=fun Z h Q=>CK own ix mi tt te Z h (M4 Q)
section
variable {X:Cx}{tg iter elt:Expr}{ifs:List Expr}{pos:Pos}{scope:Scope}{xs:List Str}{mi:MI}{tt:MT}{te:ME}
theorem KH {K:Tt}{Z : St}{H:Hp}{Q:VK}{n:Nat}{own:V->Hp->List V->Prop}{ow:W->Option (List W)}{ix:List Nat}{mi:MI}{tt:MT}{te:ME}(oo:tE K n own ow)(q:tD K (MJ ow ix mi tt te) Z H Q):tLC n own ix (tDI K mi) (tDT K tt) (tD K te) Z H Q:=by
 obtain ⟨O,h,Zw,Qw0,R,S,m,k⟩:=q;generalize hQw:M4 Qw0=Qw at *;have m:CK ow ix mi tt te Zw h Qw:=by rw [<-hQw];exact m
 refine ⟨O,h,Zw,_,R,S,m,fun J H1 ⟨O1,src,h1,e1,R1,ok,hz0⟩=>?_⟩;obtain ⟨hz,m1⟩:=hz0.ok;intro D hD;have nD:=R1.nohid hD;have hD1:Ah K H1 O1 (kI H1 D (.lst [])) (O1.hide D):=Ah.hide hD;refine ⟨fun i n ys H'=>n=src.ws.length - i/\i<=src.ws.length/\ys.length<=i/\H' D=Dn (.lst ys)/\∃ O' acc h',Ah K H1 O1 H' O'/\Tp K O' H' h'/\O'.hid D/\aG K H' O' acc ys/\jo src ow ix tt te Zw Qw (src.ws.drop i) acc h',
  ⟨src.ws.length,by simp,Wh _,T6 _,aM,O1.hide D,[],h1,hD1,R1.hide hD,.inl rfl,.nil,by rw [List.drop_zero];exact m1⟩,?_⟩
 rintro i n' ys H2 ⟨hn,hle,hys,hH2,O2,acc,h2,e2,R2,hid2,ra,m2⟩ _;by_cases hlt:i<src.ws.length
 ·rw [List.drop_eq_getElem_cons hlt] at m2;obtain ⟨ck,m2⟩:=Src.go_ok m2;obtain ⟨hgo,hy⟩:=(ok e2 R2 ck).1 src.ws[i] (Uk hlt);refine .inr ⟨hgo,by lia,fun x H3 y=>?_⟩;obtain ⟨O3,e3,R3,rx⟩:=hy x H3 y;have e13:=e2.trans e3;cases eo:ow src.ws[i] with
  | none=>rw [eo] at m2;exact m2.elim
  | some us=>
   rw [eo] at m2;obtain ⟨vs,hov,hvl,rvs⟩:=oo rx eo;have S3:=(S.ext (e1.trans e13)).blk (ix:=ix) rvs;refine ⟨vs,hov,hvl,O3,h2,_,_,R3,S3,m2,fun b H4 ⟨O4,h4,e4,R4,m4⟩=>?_⟩;have e24:=e3.trans e4;obtain ⟨hid4,hH4⟩:=e24.o D _ hid2 hH2;cases b with
   | false=>
    dsimp only;rw [if_neg Ue];exact ⟨hH4,src.ws.length - (i+1),by lia,rfl,hlt,by lia,hH4,O4,acc,h4,e2.trans e24,R4,hid4,e24.s ra,m4⟩
   | true=>
    dsimp only;rw [if_pos rfl];refine ⟨O4,h4,_,_,R4,S3.ext e4,m4,fun v H5 ⟨O5,w5,h5,e5,R5,r5,m5⟩=>?_⟩;have e25:=e24.trans e5;obtain ⟨hid5,hH5⟩:=e25.o D _ hid2 hH2;have g:=yx.grow (ys:=ys++[v]) R5 hid5;have rs:aG K (kI H5 D (.lst (ys++[v]))) O5 (acc++[w5]) (ys++[v]):=aG.ex (Ex0.grow R5 hid5) (aG.append (e25.s ra) (aG.one r5));exact ⟨hH5,src.ws.length - (i+1),by lia,rfl,hlt,by rw [Vb];simp;lia,aM,O5,acc++[w5],h5,(e2.trans e25).x nD g,R5.grow hid5,hid5,rs,m5⟩
 ·have ei:i=src.ws.length:=by lia
  subst ei;rw [List.drop_length] at m2;obtain ⟨ck,m2⟩:=Src.go_ok m2;have m2:Qw0 (.loc h2.nx) (h2.new (.lst acc)):=by rw [<-hQw] at m2;exact m2
  exact .inl ⟨(ok e2 R2 ck).2 (T6 _),k _ _ ⟨(O2.unhide D).put h2.nx D,.loc h2.nx,h2.new<|.lst acc,e1.trans<|e2.x nD<|yx.own R2 hid2,R2.own hid2 hH2 ra,by rw [JI];exact ⟨D,rfl,Mu.put_same⟩,m2⟩⟩
theorem Im {own:V->Hp->List V->Prop}{ow:W->Option (List W)}(ix:List Nat){i:Nat}{y:Str}{py spos:Pos}(hN:X.N.Nodup)(hi':X.N[i]?=Dn y)(hy:Loc X.env.scope y)(hc:X.calm=true)(B:fU X scope xs ix)(oo:tE X.K xs.length own ow)
  (hg:∀ C s H fp,PG (blk X scope (d8 X xs ix) C s H fp) tg (Dh xs.length own)) (hi:Eo X tg iter mi)
  (ht:∀ C s H fp,HY (blk X scope (d8 X xs ix) C s H fp) ifs tt) (he:∀ C s H fp,DE (blk X scope (d8 X xs ix) C s H fp) elt te)
  (hsw:XS (.ListComp elt [⟨tg,iter,ifs,0⟩] scope pos) (Dn (.Name y py)) spos.line X.env=pure true:=by rfl)
  (hf:X.fn y=true\/X.env.scope.names.lookup y=Dn .local:=by first | exact .inl rfl | exact .inr rfl | assumption)
  (hs:∀ v,V3 iter X.env v=pure v:=by intro _;rfl):DS X (.Assign [.Name y py] (.ListComp elt [⟨tg,iter,ifs,0⟩] scope pos) spos) (cI (MJ ow ix mi tt te) (Oj i)):=
 (Kp ix hN hi' hy hc B hg hi ht he hsw hf hs).of fun _ _ _ q=>xQ (fun _ _ _ z=>KH oo z) q
end
def Ag:Expr->Bool
 | .Starred _ _=>true
 | _=>false
theorem aj {e:Expr}{es:List Expr}{env:Env}(h:Ag e=false):T3 (e::es) env=(false,eval e env)::T3 es env:=by
 cases e <;> first | rfl | cases h
theorem Cw {e:Expr}{env:Env}(h:Ag e=false):T3 [e] env=[(false,eval e env)]:=(aj h).trans rfl
def noStar:List Expr->Bool
 | []=>true
 | e::r=>!Ag e&&noStar r
theorem ao {pos:Pos}{env:Env}:∀ {es:List Expr},noStar es=true->(Vy pos (T3 es env)).any (·.1)=false
 | [],_=>rfl
 | e::r,h=>by
  rw [noStar,Uo,Vj] at h;rw [aj h.1];show (false||(Vy pos (T3 r env)).any (·.1))=false;rw [ao h.2];rfl
theorem pY {cpos:Pos}{e:Expr}{env:Env}(h:Ag e=false):((Vy cpos (T3 [e] env)).all (fun x=>!x.1)&&(backToKw cpos (X6 [] env)).all (fun x=>x.1.isSome)
   && decide (([e]:List Expr).length+([]:List XJ).length+(if ([]:List XJ).isEmpty then 0 else 1)<30))=true:=by
 rw [Cw h];rfl
section
variable {prog:T8}{w:Uv}{A:Ug}{E:Tw->Tz->Prop}{s:Tz}
open HT in
theorem fW {t sl:Addr}{items:Array Tw}{vl vu:Tw}{lo hi:Option Int}{Q:Tw->Tz->Prop}(ht:IsTup s.heap t items)(hs:s.heap.IsSliceOf sl vl vu .none)(pl:IsPart vl lo)(pu:IsPart vu hi)
  (h0:sIx items.size 0 lo=0) (h1:sIx items.size items.size hi=items.size) (h:Q (.ref t) s):Us (Uz prog w) A (getItem (.ref t) (.ref sl)) Q E s:=by
 obtain ⟨os,hos,hcs,hds⟩:=id hs;have hTs:s.TypeIs (.ref sl) "slice":=⟨os,hos,hcs⟩
 unfold getItem;try with_reducible refine V5 ?_
 first | refine Tv (TV ?_) | skip
 refine Tv<|wpAny_sequenceKey ht.typeIs (by decide) ?_
 refine Tv (V6 (name:=Vo "__getitem__") ht.typeIs Ux
  (Wv Ux ht.typeIs entry_tuple_getitem ?_ (args_tuple_getitem _ _)))
 show Us _ _ (Builtin.Tuple.tupleItemsOf (.ref t) >>= _) _ _ s;refine Tv<|tupleItemsOf_ ht ?_
 refine Tv<|wpAny_typeOf hTs ?_
 rw [if_pos (by decide)];refine Tv<|dX hs pl pu ?_
 have hyes:((((sIx items.size 0 lo:Nat):Int)==0&&(1:Int)==1&&(sIx items.size items.size hi - sIx items.size 0 lo)==items.size)=true):=by
  rw [h0,h1];simp
 show Us _ _ (if (((sIx items.size 0 lo:Nat):Int)==0&&(1:Int)==1&&(sIx items.size items.size hi - sIx items.size 0 lo)==items.size)=true then _ else _) _ _ s;rw [if_pos hyes];unfold Builtin.Tuple.tupleIsExact;refine Tv<|Tv<|wpAny_typeOf ht.typeIs<|TV ?_
 rw [if_pos (by decide)];refine Tv<|wpAny_rule ?_
 first
  | exact TV ⟨_,rfl,TV h⟩
  | exact Tv (TV (TV ⟨_,rfl,TV h⟩))
end
section
variable {X:Cx}
def Tf (K:Tt):V->Option Int->Option Int->Hp->VK->Prop:=fun x lo hi H Q=>∃ a xs,x=.ref a/\CG K H a xs /\
 HT.sIx xs.length 0 lo=0/\HT.sIx xs.length xs.length hi=xs.length/\Q x H
theorem yD:Ds X (Tf X.K):=by
 intro pins s Z H x v vl vu lo hi sl Q I rx hs pl pu h;obtain ⟨a,xs,rfl,hx,h0,h1,q⟩:=h;cases rx;obtain ⟨its,r,ht,hz⟩:=I.tuple hx;have hlen:its.toArray.size=xs.length:=by rw [TX];exact r.length.symm
 refine ⟨"tuple",_,Ux.lookup,ht.typeIs,?_⟩;refine fW ht hs pl pu (by rw [hlen];exact h0) (by rw [hlen];exact h1) ?_;exact ⟨.ref a,H,I,rfl,q⟩
def Qh (x:W)(lo hi:Option Int)(h:Gh)(Q:WK):Prop:=match x with
 | .tup ws=>Q (.tup (rF ws lo hi)) h
 | x=>(match cD h x with
  | some ws=>Q (.lst (rF ws lo hi)) h
  | none=>False)
theorem NQ {e:Expr}{lo hi:Option Expr}{ma:ME}{ml mh:MO}{p2 pos:Pos}(he:DE X e ma)(hl:DO X lo ml)(hu:DO X hi mh):DE X (.Subscript e (.Slice lo hi Go p2) pos) (mSl Qh ma ml mh):=
 (rO (Ds.or (Ds.or GP Jo) yD) he hl hu).of fun Z H Q ⟨O,h,Zw,Qw,R,S,m,k⟩=>by
  refine ⟨O,h,Zw,_,R,S,m,fun x H1 ⟨O1,wx,h1,e1,R1,r1,m1⟩=>?_⟩;refine ⟨O1,h1,Zw,_,R1,S.ext e1,m1,fun lo H2 ⟨O2,h2,e2,R2,m2⟩=>?_⟩;refine ⟨O2,h2,Zw,_,R2,(S.ext e1).ext e2,m2,fun hi H3 ⟨O3,h3,e3,R3,m3⟩=>?_⟩;have e13:=(e1.trans e2).trans e3;have r3:=e3.r _ _ (e2.r _ _ r1);have oth:∀ wy,JI X.K H3 O3 wy x->(match cD h3 wy with
    | some ws=>Qw (.lst (rF ws lo hi)) h3
    | none=>False)->∃ p xs,x=.ref p/\Am X.K H3 p xs/\∀ l,H3 l=Go->Q (.ref l) (kI H3 l (.lst (yR xs lo hi))):=by
   intro wy ry my;split at my
   ·rename_i ws ev;obtain ⟨p,xs,ex,hs,rs⟩:=bZ R3 ry ev;exact ⟨p,xs,ex,hs,fun l hl=>k _ _ ⟨O3,_,h3,e13.trans (Ex.laid hl).ext,R3.laid hl,.lstNew R3 hl<|rs.cutv lo hi,my⟩⟩
   ·exact my.elim
  cases wx with
  | tup ws=>
   have m3:Qw (.tup (rF ws lo hi)) h3:=m3;have r30:=r3;rw [JI] at r3;obtain ⟨p,xs,ex,hx,rs⟩:=r3;have hl:=rs.len;by_cases hw:HT.sIx xs.length 0 lo=0/\HT.sIx xs.length xs.length hi=xs.length
   ·have ec:rF ws lo hi=ws:=by
     unfold rF;rw [hl,hw.1,hw.2,List.drop_zero,Nat.sub_zero,<-hl,Vm]
    rw [ec] at m3;exact .inr ⟨p,xs,ex,hx,hw.1,hw.2,k _ _ ⟨O3,.tup ws,h3,e13,R3,r30,m3⟩⟩
   ·exact .inl<|.inr ⟨p,xs,ex,hx,hw,fun q hq=>k _ _ ⟨O3,.tup<|rF ws lo hi,h3,e13.trans (Ex.laid hq).ext,R3.laid hq,.tupNew hq<|rs.cutv lo hi,m3⟩⟩
  | _=>exact .inl (.inl (oth _ r3 m3))
def M8:MC:=fun ws h Q=>match ws with
 | [.int i]=>Q (.int i) h
 | [.bl b]=>Q (.int (if b then 1 else 0)) h
 | _=>False
theorem O9:iJ X (.type "int") M8:=⟨_,yp,by
 intro H O h vs ws Qw Q R r m k;unfold M8 at m;split at m
 ·obtain ⟨v,e,rv⟩:=eV r;rw [JI] at rv;subst e rv;exact .inl ⟨_,rfl,k _ _<|.int R m⟩
 ·obtain ⟨v,e,rv⟩:=eV r;rw [JI] at rv;subst e rv;exact .inr ⟨_,rfl,k _ _<|.int R m⟩
 ·exact m.elim⟩
def J2:MM:=fun x ws h Q=>match ws with
 | [.int k]=>(match cD h x with
  | some us=>∃ (ns:List Int) (j:Nat),us=ns.map W.int/\ns[j]?=Dn k/\(∀ m,m<j->ns[m]?≠Dn k)/\Q (.int j) h
  | none=>False)
 | _=>False
end
def XO (h:Heap)(P:Addr->Prop)(e C:Addr)(od:Option Addr):Prop:=P e/\∃ (oe:Obj) (vs:Array Tw),h.get? e=Dn oe/\oe.cls=.ref C/\oe.dict=od/\oe.data=.fields vs/\vs.size<=1000/\vs[2]?=Dn .none /\
 (vs[1]?=Dn .none\/∃ (T:Addr) (oT:Obj) (ts:Array Tw),vs[1]?=Dn (.ref T)/\T≠e/\P T/\h.get? T=Dn oT/\oT.data=.fields ts/\3<ts.size)
def XN (h:Heap)(P:Addr->Prop)(e C:Addr)(od:Option Addr):Prop:=P e/\∃ (oe:Obj) (vs:Array Tw),h.get? e=Dn oe/\oe.cls=.ref C/\oe.dict=od/\oe.data=.fields vs/\vs.size<=1000/\vs[2]?=Dn .none /\
 ∃ (T:Addr) (oT:Obj) (ts:Array Tw),vs[1]?=Dn (.ref T)/\T≠e/\P T/\h.get? T=Dn oT/\oT.data=.fields ts/\3<ts.size
theorem XN.xo {h:Heap}{P:Addr->Prop}{e C:Addr}{od:Option Addr}(x:XN h P e C od):XO h P e C od:=by
 obtain ⟨p,oe,vs,a,b,c,d,f,g,k⟩:=x;exact ⟨p,oe,vs,a,b,c,d,f,g,.inr k⟩
theorem XO.mono {h:Heap}{P P':Addr->Prop}{e C:Addr}{od:Option Addr}(x:XO h P e C od)(k:∀ b,P b->P' b):XO h P' e C od:=by
 obtain ⟨p,oe,vs,a,b,c,d,f,g,z⟩:=x;refine ⟨k _ p,oe,vs,a,b,c,d,f,g,?_⟩;rcases z with z | ⟨T,oT,ts,z1,z2,z3,z4⟩
 ·exact .inl z
 ·exact .inr ⟨T,oT,ts,z1,z2,k _ z3,z4⟩
theorem XN.mono {h:Heap}{P P':Addr->Prop}{e C:Addr}{od:Option Addr}(x:XN h P e C od)(k:∀ b,P b->P' b):XN h P' e C od:=by
 obtain ⟨p,oe,vs,a,b,c,d,f,g,T,oT,ts,z1,z2,z3,z4⟩:=x;exact ⟨k _ p,oe,vs,a,b,c,d,f,g,T,oT,ts,z1,z2,k _ z3,z4⟩
structure Dr (P:Addr->Prop) (fs:List Addr) (h h':Heap):Prop where
 keep:∀ b o,¬ P b->b∉fs->h.get? b=Dn o->h'.get? b=Dn o
 slot:∀ b o,¬ P b->h.get? b=Dn o->∃ sl,h'.get? b=Dn { o with slots:=sl }
 there:∀ b o,h.get? b=Dn o->∃ o',h'.get? b=Dn o'
theorem Dr.refl {P:Addr->Prop}{fs:List Addr}{h:Heap}:Dr P fs h h:=⟨fun _ _ _ _ e=>e,fun _ o _ e=>⟨o.slots,e⟩,fun _ o e=>⟨o,e⟩⟩
theorem Dr.trans {P:Addr->Prop}{fs:List Addr}{h h1 h2:Heap}(a:Dr P fs h h1)(b:Dr P fs h1 h2):Dr P fs h h2:=
 ⟨fun c o n m e=>b.keep c o n m (a.keep c o n m e),fun c o n e=>let ⟨_,e1⟩:=a.slot c o n e;let ⟨sl,e2⟩:=b.slot c _ n e1;⟨sl,e2⟩,fun c o e=>let ⟨o1,e1⟩:=a.there c o e;b.there c o1 e1⟩
section
variable {M:Model}{A:Ug}{E:Tw->Tz->Prop}{s:Tz}{P:Addr->Prop}{e C:Addr}{od:Option Addr}
theorem w6 {fl:Option Addr}{fs:List Addr}{Q:Unit->Tz->Prop}(x:XN s.heap P e C od)(h:∀ h',XN h' P e C od->Dr P fs s.heap h'->Q () { s with heap:=h' }):Us M A (setFlight (.ref e) fl) Q E s:=by
 obtain ⟨p,oe,vs,he,hc,hdd,hd,hz,h2,T,oT,ts,h1,hne,pT,hT,hdT,h3⟩:=x;unfold setFlight;refine Tv<|Vp he hd h1 ?_
 rw [if_pos (show (Value.ref T != Value.none)=true from by simp)];refine Xj hT hdT h3<|h _ ?_ ?_
 ·have hd3:=Vf hdT (·.setIfInBounds 3 (fl.elim Value.none fun f=>XF f));refine ⟨p,oe,vs,?_,hc,hdd,hd,hz,h2,T,_,_,h1,hne,pT,U3 _ hT<|Vk hd3,hd3,by simpa using h3⟩;rw [Ui _ _ hne];exact he
 ·have ne:∀ b,¬ P b->T≠b:=fun b n q=>n (q ▸ pT)
  refine ⟨fun b o n _ q=>by rw [Ui _ _<|ne b n];exact q,fun b o n q=>⟨o.slots,by rw [Ui _ _<|ne b n];exact q⟩,fun b o q=>?_⟩;by_cases hb:T=b
  ·subst hb;exact ⟨_,U3 _ hT<|Vk<|Vf hdT _⟩
  ·exact ⟨o,by rw [Ui _ _ hb];exact q⟩
theorem rm {base:Heap}{env:Env}{outer:List Env}{L:Addr}{oe:Obj}{vs:Array Tw}{head:Tw}{hadNext:Bool}{Q:Unit->Tz->Prop}
  (hfr:A.frames=Dn (env::outer)) (hl:s.heap.FunFrames base (env::outer)) (hf:env.frame=Dn L) (pe:P e) (he:s.heap.get? e=Dn oe) (hc:oe.cls=.ref C) (hdd:oe.dict=od) (hd:oe.data=.fields vs) (hz:vs.size<=1000) (h2:vs[2]?=Dn .none)
  (pn:∀ b,s.heap.get? b=Go->P b) (h:∀ h',XN h' P e C od->Dr P (frs (env::outer)) s.heap h'->Q () { s with heap:=h' }) :
  Us M A (do let a <-frameOf env;let pl <-entryPlaceOf L hadNext;let b <-EntryCells.newEntry head a .none (XF L) .none pl;setField (.ref e) 1 b) Q E s:=by
 have hsz:1<vs.size:=Nat.lt_trans (by decide) (Array.getElem?_eq_some_iff.mp h2).1;have hene:e∉(env::outer).filterMap (·.frame):=fun hm=>by
  obtain ⟨_,o,ho,hnf⟩:=hl.mem hm;rw [he] at ho;injection ho with ho;subst ho;exact hnf vs hd
 refine Tv<|wpAny_frameOf_fun hfr hl hf fun h₁ hs₁=>?_
 refine Tv<|wpAny_entryPlaceOf fun pl hpl=>?_
 unfold EntryCells.newEntry newFields;refine Tv<|U5 ?_<|hpl.sizeOk5 _ _ _ _ _
 have he₁ : h₁.get? e=Dn oe:=(hs₁.2.1 e hene).trans he;have he₂:=TJ (h:=h₁) { cls:=.type "traceback",dict:=Go,data:=.fields ([head,.ref L,.none,XF L,.none]++(if pl.isEmpty then U4 6 Value.none else pl)).toArray } he₁;refine Xj he₂ hd hsz<|h _ ?_ ?_
 ·have hTe:h₁.objs.size≠e:=W9 (TY he₁);have hd₃:=Vf hd (·.setIfInBounds 1 (Value.ref h₁.objs.size));refine ⟨pe,_,_,U3 _ he₂ (Vk hd₃),by rw [Obj.cls_mapFields];exact hc,?_,hd₃,by simpa using hz,by rw [Array.getElem?_setIfInBounds_ne (by decide)];exact h2,h₁.objs.size,_,_,by simp [hsz],hTe,
   pn _ (Heap.get?_none_of_le (by rw [hs₁.1];exact T6 _)),(Ui _ _ (VR hTe)).trans (T9 h₁ rfl),rfl,by simp only [TX,Vb,UJ,List.length_nil] <;> lia⟩
  obtain ⟨c,dd,dt,sl⟩:=oe;cases hd;exact hdd
 ·have ne:∀ b,¬ P b->e≠b:=fun b n q=>n (q ▸ pe)
  refine ⟨fun b o n m q=>?_,fun b o n q=>?_,fun b o q=>?_⟩
  ·rw [Ui _ _ (ne b n)];exact TJ _<|(hs₁.2.1 b m).trans q
  ·obtain ⟨sl,e1⟩:=hs₁.2.2 b o q;exact ⟨sl,by rw [Ui _ _<|ne b n];exact TJ _ e1⟩
  ·obtain ⟨sl,e1⟩:=hs₁.2.2 b o q;by_cases hb:e=b
   ·subst hb;exact ⟨_,U3 _ he₂<|Vk<|Vf hd _⟩
   ·exact ⟨_,by rw [Ui _ _ hb];exact TJ _ e1⟩
theorem GR {base:Heap}{env:Env}{outer:List Env}{L:Addr}{Q:Unit->Tz->Prop}(hfr:A.frames=Dn (env::outer))(hl:s.heap.FunFrames base (env::outer))(hf:env.frame=Dn L)(x:XO s.heap P e C od)
  (pn:∀ b,s.heap.get? b=Go->P b) (pf:∀ b∈frs (env::outer),¬ P b) (h:∀ h',XN h' P e C od->Dr P (frs (env::outer)) s.heap h'->Q () { s with heap:=h' }):Us M A (noteFrame (.ref e) env) Q E s:=by
 obtain ⟨p,oe,vs,he,hc,hdd,hd,hz,h2,z⟩:=x;unfold noteFrame;simp only [hf];rcases z with h1 | ⟨T,oT,ts,h1,hne,pT,hT,hdT,h3⟩
 ·refine Tv<|Vp he hd h1 ?_
  rw [if_neg (by decide)];exact rm hfr hl hf p he hc hdd hd hz h2 pn h
 ·refine Tv<|Vp he hd h1 ?_
  rw [if_pos (show (Value.ref T != Value.none)=true from by simp)];refine Tv<|Vp hT hdT (x:=ts[3]) (by simp [h3]) ?_
  by_cases q:(ts[3]==XF L)=true
  ·rw [if_pos q];exact TV<|h s.heap ⟨p,oe,vs,he,hc,hdd,hd,hz,h2,T,oT,ts,h1,hne,pT,hT,hdT,h3⟩ .refl
  ·rw [if_neg q];refine Tv<|Xj hT hdT h3 ?_
   have other:∀ b,b≠T->(s.heap.update T (Obj.mapFields (·.setIfInBounds 3 Value.none))).get? b=s.heap.get? b:=fun b hb=>Ui _ _ (VR hb)
   have nT:∀ b,¬ P b->b≠T:=fun b n q=>n (q ▸ pT)
   have st:Dr P (frs (env::outer)) s.heap (s.heap.update T (Obj.mapFields (·.setIfInBounds 3 Value.none))):=by
    refine ⟨fun b o n _ q=>(other b<|nT b n).trans q,fun b o n q=>⟨o.slots,(other b<|nT b n).trans q⟩,fun b o q=>?_⟩;by_cases hb:T=b
    ·subst hb;exact ⟨_,U3 _ hT<|Vk<|Vf hdT _⟩
    ·exact ⟨o,(other b<|VR hb).trans q⟩
   refine rm (s:={ s with heap:=s.heap.update T (Obj.mapFields (·.setIfInBounds 3 Value.none)) }) hfr (hl.of_keeps fun b o hb hnf=>⟨o,(other b fun q=>?_).trans hb,rfl⟩) hf p ((other e<|VR hne).trans he) hc hdd hd hz h2 (fun b q=>?_) fun h' x1 x2=>h h' x1<|st.trans x2
   ·rw [q,hT] at hb;injection hb with hb;subst hb;exact hnf ts hdT
   ·by_cases hb:b=T
    ·rw [hb];exact pT
    ·exact pn b<|(other b hb).symm.trans q
end
theorem fG.obj {P:T8}{w:Uv}{H:Hp}{h:Heap}{a:Addr}{o:HO}(x:fG P w H h a o):∃ ob,h.get? a=Dn ob:=by
 cases o with
 | lst xs=>obtain ⟨_,_,_,_,e⟩:=x;exact ⟨_,e⟩
 | tup xs=>obtain ⟨_,_,_,ob,e,_⟩:=x;exact ⟨_,e⟩
 | dK kvs=>obtain ⟨_,_,_,_,o,_,_,e,_⟩:=x;exact ⟨_,e⟩
 | dT kvs=>obtain ⟨_,_,_,_,o,_,_,e,_⟩:=x;exact ⟨_,e⟩
 | set S n=>obtain ⟨o,_,_,_,e,_⟩:=x;exact ⟨_,e⟩
 | ins C dx fs=>obtain ⟨_,_,_,e,_⟩:=x;exact ⟨_,e⟩
 | own y=>obtain ⟨_,e⟩:=x;exact ⟨_,e⟩
 | xd fs=>obtain ⟨_,⟨_,_,_,e,_⟩,_⟩:=x;exact ⟨_,e⟩
 | rng lo hi=>obtain ⟨_,_,_,e⟩:=x;exact ⟨_,e⟩
 | frz ob u=>obtain ⟨e,_⟩:=x;exact ⟨_,e⟩
 | tbl ps=>exact ⟨_,show h.get? a=Dn _ from x⟩
 | met f y=>exact ⟨_,show h.get? a=Dn _ from x⟩
 | ext φ=>obtain ⟨_,⟨_,e⟩,_⟩:=x;exact ⟨_,e⟩
section
variable {X:Cx}{pins:List (Addr×Obj)}{Z : St}{H H':Hp}{s s':Tz}{b e C:Addr}{od:Option Addr}
structure New (X:Cx) (pins:List (Addr×Obj)) (H:Hp) (b:Addr):Prop where
 h:H b=Go
 s:b∈X.ex\/X.s₀.heap.get? b=Go
 l:b≠X.env.locals
 c:∀ x c,X.env.cells.lookup x=Dn c->c≠b
 p:∀ p∈X.pn++pins,p.1≠b
 f:b∉X.fs
theorem Mk.newOf (I:Mk X pins Z H s)(hb:s.heap.get? b=Go):New X pins H b where
 h:=by
  cases q:H b with
  | none=>rfl
  | some u=>obtain ⟨ob,e⟩:=(I.hok b u q).obj;rw [hb] at e;cases e
 s:=by
  by_cases hx:b∈X.ex
  ·exact .inl hx
  ·cases q:X.s₀.heap.get? b with
   | none=>exact .inr rfl
   | some o=>obtain ⟨o',e⟩:=I.base.there b o q hx;rw [hb] at e;cases e
 l:=fun z=>by obtain ⟨m,⟨o,_,_,ho,_⟩,_⟩:=I.loc;rw [<-z,hb] at ho;cases ho
 c:=fun x c e z=>by obtain ⟨v,o,ho,_⟩:=I.cell x c e;rw [z,hb] at ho;cases ho
 p:=fun p hp z=>by have ho:=(I.pin p hp).1;rw [z,hb] at ho;cases ho
 f:=fun hm=>by obtain ⟨_,o,ho,_⟩:=I.funs.mem hm;rw [hb] at ho;cases ho
open Classical in
theorem Mk.stp {h':Heap}(I:Mk X pins Z H s)(st:Dr (New X pins H) (frs X.stack) s.heap h'):Mk X pins Z H { s with heap:=h' }:=by
 have inCh:∀ b o,s.heap.get? b=Dn o->b∉(VD s.heap.objs.size).filter (fun b=>decide (New X pins H b))->¬ New X pins H b:=fun b o e n z=>
  n (List.mem_filter.mpr ⟨List.mem_range.mpr (TY e),decide_eq_true z⟩)
 refine I.stepG (g':=s.gens) (t':=s.toks) (d':=s.drawn) (ch:=(VD s.heap.objs.size).filter (fun b=>decide<|New X pins H b)) (fun b hb=>?_) (fun b o hL hf hc e n=>?_) (fun b o _ _ hc e _=>st.slot b o (inCh b o e hc) e) (fun _ _ _ _ n=>n)
  (fun b o _ e=>st.there b o e) (fun _ _ q=>q) (fun _ _ _ q=>q) (fun _ ps q=>⟨#[],by rw [q];simp⟩) (fun m hm=>?_) (fun b u q=>?_) I.bare
 ·have z:=of_decide_eq_true (List.mem_filter.mp hb).2;exact ⟨z.s,z.l,z.c,z.p⟩
 ·exact st.keep b o (inCh b o e hc) (fun z=>(Ur.mp<|I.stkSub b z).elim hL hf) e
 ·obtain ⟨o,es,ep,ho,r⟩:=hm;obtain ⟨sl,q⟩:=st.slot _ o (fun z=>z.l rfl) ho;exact ⟨_,es,ep,q,r⟩
 ·refine (I.hok b u q).stay (fun c v hc r=>?_) (fun _ q=>q) fun _ _ q=>q;have hH:H c≠Go:=by
   rcases hc with z | z
   ·rw [z,q];simp
   ·rw [z];simp
  exact st.keep c v (fun z=>hH z.h) (fun z=>hH<|I.stkFree c z) r
structure FX (X:Cx) (pins:List (Addr×Obj)) (Z : St) (H:Hp) (s:Tz) (e C:Addr) (od:Option Addr):Prop where
 inv:Mk X pins Z H s
 xo:XO s.heap (New X pins H) e C od
structure FN (X:Cx) (pins:List (Addr×Obj)) (Z : St) (H:Hp) (s:Tz) (e C:Addr) (od:Option Addr):Prop where
 inv:Mk X pins Z H s
 xn:XN s.heap (New X pins H) e C od
theorem FN.fx (F:FN X pins Z H s e C od):FX X pins Z H s e C od:=⟨F.inv,F.xn.xo⟩
def Top (X:Cx):Prop:=X.stack=X.env::X.outer/\X.env.frame=Dn X.env.locals
theorem FX.note {M:Model}{A:Ug}{E:Tw->Tz->Prop}{Q:Unit->Tz->Prop}(F:FX X pins Z H s e C od)(ht:Top X)(hA:A.frames=Dn X.stack)(h:∀ h',FN X pins Z H { s with heap:=h' } e C od->Q () { s with heap:=h' }) :
  Us M A (noteFrame (.ref e) X.env) Q E s:=by
 have hst:=F.inv.stack;rw [ht.1] at hst hA;refine GR (P:=New X pins H) hA hst ht.2 F.xo (fun b hb=>F.inv.newOf hb) (fun b hb z=>?_) fun h' x st=>h h' ⟨F.inv.stp (by rw [ht.1];exact st),x⟩;have hb':b∈frs X.stack:=by rw [ht.1];exact hb
 rcases Ur.mp (F.inv.stkSub b hb') with q | q
 ·exact z.l q
 ·exact z.f q
theorem FN.flight {M:Model}{A:Ug}{E:Tw->Tz->Prop}{Q:Unit->Tz->Prop}{fl:Option Addr}(F:FN X pins Z H s e C od)(h:∀ h',FN X pins Z H { s with heap:=h' } e C od->Q () { s with heap:=h' }) :
  Us M A (setFlight (.ref e) fl) Q E s:=w6 (fs:=frs X.stack) F.xn fun h' x st=>h h' ⟨F.inv.stp st,x⟩
def CXX (P:T8)(w:Uv):Dl:=fun outer H s E e s'=>∃ (a C:Addr) (od:Option Addr) (H':Hp),e=.ref a/\s'.os=s.os/\X7 s'.gens/\Un (frs outer) [] H H' s.heap s'.heap/\CR P w H' s'.heap /\
 XN s'.heap (fun b=>H' b=Go/\s.heap.get? b=Go) a C od/\E (.ref C) od H'
theorem FX.leave {M:Model}{E':Tw->Tz->Prop}{E:XK}(F:FX X pins Z H s e C od)(ht:Top X)(hx:X.ex=[])(he:E (.ref C) od H) :
  Us M X.A (leaving X.env (.ref e)) (fun _ s3=>CXX X.prog X.w X.outer X.H₀ X.s₀ E (.ref e) s3) E' s:=by
 unfold leaving;refine Tv<|F.note ht F.inv.ok.frames fun h1 F1=>F1.flight fun h2 F2=>?_
 have I:=F2.inv;refine ⟨e,C,od,H,rfl,I.os,I.bare,by have:=I.base;rw [hx] at this;exact this,I.hok,F2.xn.mono fun b z=>⟨z.h,?_⟩,he⟩;rcases z.s with q | q
 ·rw [hx] at q;cases q
 ·exact q
theorem Mk.cxx {E:XK}{ev:Tw}(I:Mk X pins Z H s)(h:CXX X.prog X.w X.stack H s E ev s'):∃ (a C:Addr) (od:Option Addr) (H':Hp),ev=.ref a/\FN X pins Z H' s' a C od/\E (.ref C) od H':=by
 obtain ⟨a,C,od,H',e1,os,bare,un,hok,x,he⟩:=h;refine ⟨a,C,od,H',e1,⟨I.call' os un hok bare (ch:=[])<|fun b z=>absurd z<|by simp,x.mono fun b z=>?_⟩,he⟩;have n:=I.newOf z.2;exact ⟨z.1,n.s,n.l,n.c,n.p,n.f⟩
end
theorem Gs {K:Tt}{h:Heap}{C:Addr}{bm:List Tw}{newId:String}(X:K.In h)(q:W8 K C bm newId=true) :
  ∃ (tl:List Tw) (N:Addr) (nm qn:Str) (bs:List Tw) (hd:Bool) (sn:List Str) (sub:List Tw) (ab:Bool) (col:Option Bool) (dd:Option Addr) (k0 k1 k2 k3 k5:Option Tw) (mN:Str->Option Tw),
   K.lookup C=Dn (excClassObj nm qn C N bs tl hd sn sub ab col dd k0 k1 k2 k3 k5 newId)/\h.Ns N mN/\mN "__init__" = Go/\OwnTail h bm tl:=by
 unfold W8 at q;split at q
 ·rename_i dd cd sl ho;split at q
  ·rename_i C' bm' k0 k1 k2 k3 n k5 hm hs;simp only [Uo,beq_iff_eq,Vj] at q;obtain ⟨⟨⟨⟨⟨rfl,rfl⟩,hdel⟩,ht⟩,hok⟩,hni⟩:=q;obtain ⟨nm,bs,mro,ns,qn,hd,sn,sub,ab,col,del⟩:=cd;dsimp only at hm hdel hok hni;subst hm hdel;have hsl:sl = #[k0,k1,k2,k3,Dn (.builtin n),k5]:=by
    obtain ⟨l⟩:=sl;simp only at hs;rw [hs]
   subst hsl;exact ⟨bm',ns,nm,qn,bs,hd,sn,sub,ab,col,dd,k0,k1,k2,k3,k5,_,ho,.of_isNs<|PySem.W.isNs_of_in X hok,PySem.W.nsMap_none_of_in X hok hni,PySem.W.tail_of_in X ht⟩
  ·cases q
 ·cases q
section
variable {X:Cx}{pins:List (Addr×Obj)}{Z : St}{H:Hp}{s:Tz}{C:Addr}{x:Str}{np cpos pos:Pos}{e:Expr}{es:List Expr}{t:TA}
theorem tZ {Q:Flow->Tz->Prop}{R:Hp->Prop}(hc:X.calm=true)(hg:Gl X x)(hm:X.mg x=Dn (.ref C))(hq:W8 X.K C Ed "ValueError.__new__" = true)(ha:PA X (e::es) t)
  (I:Mk X pins Z H s) (h:t Z H fun vs H1=>vs.length<=Ua/\R H1) (hx:∀ a H1 s',FX X pins Z H1 s' a C Go->R H1->X.xe (.ref a) s')
  (hdb:(x==("__debug__" : Str))=false:=by decide) (he:T3 (e::es) X.env=(false,eval e X.env)::T3 es X.env:=by rfl) (hpl:(Vy cpos (T3 es X.env)).any (·.1)=false:=by rfl) :
  Us (Uz X.prog X.w) X.A (exec (.Raise (Dn (.Call (.Name x np) (e::es) [] cpos)) Go pos) X.env) Q X.xe s:=by
 obtain ⟨tl,N,nm,qn,bs,hd,sn,sub,ab,col,dd,k0,k1,k2,k3,k5,mN,hC,hN,hni,T⟩:=Gs I.mod.kin hq;refine wpAny_Raise_call_subT (C:=C) (nm:=nm) (q:=qn) (N:=N) (bs:=bs) (bm:=tl) (hdct:=hd) (sn:=sn) (sub:=sub) (ab:=ab) (col:=col) (dd:=dd) (k0:=k0) (k1:=k1) (k2:=k2) (k3:=k3) (k5:=k5)
  PySem.F.excBase_ValueError (mN:=mN) (T.hasType PySem.F.excBase_ValueError.hasBase) (I.ok.hd hc) (by rw [he];show (false||(Vy cpos (T3 es X.env)).any (·.1))=false;rw [hpl];rfl) hni (jF I hg hm ⟨rfl,?_⟩ hdb)
 have g:=ha cpos pins s Z H _ I h;rw [he] at g |-
 refine Xd<|AP g fun us s2 ⟨vs,H2,I2,r,z,k⟩=>⟨rfl,?_,I2.kIn _ _ hC,hN.keeps I2.bk,T.keeps I2.bk,fun h' a M=>hx a H2 _ ⟨I2.kept (t':=s2.toks) M.keeps,?_⟩ k⟩
 ·show us.length<=Ua;rw [<-r.length];exact z
 ·obtain ⟨tt,h1,h2,h3⟩:=M.there;exact ⟨I2.newOf M.new,_,_,h1,rfl,rfl,rfl,by simp,rfl,.inl rfl⟩
end
def MP (K:Tt)(H:Hp)(O : Mu)(C:Addr)(n:Str)(od:Option Addr)(fs:List (Str×W)):Prop:=
 (od=Go/\fs=[])\/∃ dd ws xs,od=Dn dd/\Qj K C n=true/\fs=(wH n).zip ws/\ws.length=(wH n).length/\(wH n).length=xs.length/\H dd=Dn (.xd ((wH n).zip xs))/\aG K H O ws xs
def XT (X:Cx)(H:Hp)(O : Mu)(Γ : St->Prop)(E:Tq):Tw->Tz->Prop:=fun ev s=>∃ (a C:Addr) (n:Str) (od:Option Addr) (fs:List (Str×W)) (pins:List (Addr×Obj)) (Z : St) (H':Hp) (O':Mu) (h':Gh),ev=.ref a/\FX X pins Z H' s a C od/\mJ X.K C n=true/\Γ Z /\
 Ah X.K H O H' O'/\Tp X.K O' H' h'/\MP X.K H' O' C n od fs/\E ⟨n,fs⟩ h'
theorem XT.trans {X:Cx}{H H1:Hp}{O O1:Mu}{Γ : St->Prop}{E:Tq}{ev:Tw}{s:Tz}(x:XT X H1 O1 Γ E ev s)(e:Ah X.K H O H1 O1):XT X H O Γ E ev s:=by
 obtain ⟨a,C,n,od,fs,pins,Z,H',O',h',h1,h2,h3,h4,h5,h6⟩:=x;exact ⟨a,C,n,od,fs,pins,Z,H',O',h',h1,h2,h3,h4,e.trans h5,h6⟩
def tDX (X:Cx)(Γ : St->Prop)(m:Tq->ME):TE:=fun Z H Q=>Γ Z/\∃ O h Zw Qw E,Tp X.K O H h/\Slots X.K H O Zw Z/\m E Zw h Qw/\(∀ v H',DQ X.K H O Qw v H'->Q v H')/\∀ ev s',XT X H O Γ E ev s'->X.xe ev s'
def Ra (X:Cx)(Γ : St->Prop)(m:Tq->MS):TS:=fun D Z H=>Γ Z/\∃ O h Zw Dw E,Tp X.K O H h/\Slots X.K H O Zw Z/\m E Dw Zw h/\nJ X.K H O Dw D/\∀ ev s',XT X H O Γ E ev s'->X.xe ev s'
abbrev DEx (X:Cx)(Γ : St->Prop)(e:Expr)(m:Tq->ME):Prop:=PE X e (tDX X Γ m)
abbrev DSx (X:Cx)(Γ : St->Prop)(st:Stmt)(m:Tq->MS):Prop:=PS X st (Ra X Γ m)
abbrev Az (X:Cx)(Γ : St->Prop)(st:List Stmt)(m:Tq->MS):Prop:=DY X st (Ra X Γ m)
def tQ (K:Tt)(ms:SX):Sp:=fun vs H Q E=>∃ O h ws Qw Ew,Tp K O H h/\aG K H O ws vs/\ms ws h Qw Ew/\(∀ v H',DQ K H O Qw v H'->Q v H') /\
 ∀ (C:Addr) (n:Str) (od:Option Addr) (fs:List (Str×W)) (H':Hp),mJ K C n=true->(∃ O' h',Ah K H O H' O'/\Tp K O' H' h'/\MP K H' O' C n od fs/\Ew ⟨n,fs⟩ h')->E (.ref C) od H'
theorem cH.tame {P:T8}{w:Uv}{K:Tt}{mg:Str->Option Tw}{base:Heap}{k:Nat}{f:Addr}{fd:Uw}{ps:List Str}{ms:SX}(F:cH P w K mg base (CXX P w) k f fd ps (tQ K ms)):cH P w K mg base Ao k f fd ps (lift K ms):=by
 have up:∀ vs H Q E,lift K ms vs H Q E->tQ K ms vs H Q E0:=fun vs H Q E ⟨O,h,ws,Qw,R,r,m,q⟩=>⟨O,h,ws,Qw,EF,R,r,m,q,fun _ _ _ _ _ _ ⟨_,_,_,_,_,z⟩=>z⟩
 refine ⟨fun vs H Q E q=>F.len vs H Q E0<|up _ _ _ _ q,fun A outer s H args us vs Q E hr e0 hb hv hs=>codeAny_mono (F.run A outer s H args us vs Q E0 hr e0 hb hv<|up _ _ _ _ hs) fun r s' h=>?_⟩;cases r with
 | error e=>obtain ⟨_,_,_,_,_,_,_,_,_,_,z⟩:=h;exact z
 | ok fl=>cases fl <;> exact h
section
variable {X:Cx}{Γ : St->Prop}{e c:Expr}{es:List Expr}{mr:MA}{pos:Pos}{st:Stmt}{rest:List Stmt}
theorem Gk {k:Nat}{f:Addr}{fd:Uw}{ps:List Str}{ms:SX}{x:Str}{p:Pos}(F:cH X.prog X.w X.K X.mg X.base (CXX X.prog X.w) k f fd ps (tQ X.K ms))(hr:gO k X.A)(hg:Gl X x)(hm:X.mg x=Dn (.ref f))(hk:Vq X.K (.ref f)=true)
  (hb:Binds X.K fd ps []) (ha:DP X (e::es) mr) (hdb:(x==("__debug__" : Str))=false:=by decide) (he:T3 (e::es) X.env=(false,eval e X.env)::T3 es X.env:=by rfl) (hpl:(Vy pos (T3 es X.env)).any (·.1)=false:=by rfl) :
  DEx X Γ (.Call (.Name x p) (e::es) [] pos) (fun E=>bB ms E mr):=by
 intro pins s Z H Q I ⟨hZ,O,h,Zw,Qw,E,R,S,m,q,kx⟩;refine VJ<|jF I hg hm ?_ hdb
 refine PySem.W.callWith_K (h₀:=X.base) I.ok.mod.kin hk (AP (ha pos pins s Z H (fun vs H1=>DA X.K H O (fun ws h1=>ms ws h1 Qw E) vs H1) I ⟨O,h,Zw,_,R,S,m,fun _ _ z=>z⟩) fun us s1 ⟨vs,H1,I1,r,O1,ws,h1,e1,R1,r1,m1⟩=>⟨I1.kIn,?_⟩) he hpl;have sp:tQ X.K ms (vs++[]) H1 Q (fun Cv od H'=>∃ (C:Addr) (n:Str) (fs:List (Str×W)) (O':Mu) (h':Gh),Cv=.ref C/\mJ X.K C n=true/\Ah X.K H1 O1 H' O'/\Tp X.K O' H' h'/\MP X.K H' O' C n od fs/\E ⟨n,fs⟩ h'):=by
  rw [Wy];exact ⟨O1,h1,ws,Qw,E,R1,r1,m1,fun v H' z=>q _ _<|z.trans e1,fun C n od fs H' hx ⟨O',h',z⟩=>⟨C,n,fs,O',h',rfl,hx,z⟩⟩
 have r2:Rj (vs++[]) (us++[]):=r.append .nil;have hl:(us++[]).length=ps.length:=by rw [<-r2.length];exact F.len _ _ _ _ sp
 refine wpAny_call<|codeAny_mono (F.run X.A X.stack s1 H1 ⟨us,[]⟩ (us++[]) (vs++[]) Q _ hr I1.env0 (hb s1 us I1.kIn hl) r2 sp) fun r s' hq=>?_
 cases r with
 | error ev=>
  obtain ⟨a,C,od,H',e2,F2,C',n,fs,O',h',e3,hx,e4,R4,k4⟩:=I1.cxx (E:=fun Cv od H'=>∃ (C:Addr) (n:Str) (fs:List (Str×W)) (O':Mu) (h':Gh),Cv=.ref C/\mJ X.K C n=true/\Ah X.K H1 O1 H' O'/\Tp X.K O' H' h'/\MP X.K H' O' C n od fs/\E ⟨n,fs⟩ h') hq;cases e3;exact kx ev s' ⟨a,C,n,od,fs,pins,Z,H',O',h',e2,F2.fx,hx,hZ,e1.trans e4,R4,k4⟩
 | ok fl=>
  cases fl with
  | ret u=>exact I1.after hq
  | next=>exact VB hq
  | brk=>exact VB hq
  | cont=>exact VB hq
theorem wX {m:MS}(h:DS X st m):DSx X Γ st (fun _=>m):=h.of fun D Z H ⟨_,O,h,Zw,Dw,_,R,S,m,k,_⟩=>⟨O,h,Zw,Dw,R,S,m,k⟩
theorem lY:Az X Γ [] (fun _=>cM):=bL.of fun D Z H ⟨_,O,h,Zw,Dw,_,R,S,m,k,_⟩=>⟨O,h,Zw,Dw,R,S,m,k⟩
theorem gA {m:Tq->MS}(h:DSx X Γ st m):Az X Γ [st] m:=wD h
theorem eF {m1 m2:Tq->MS}(hΓ : ∀ Z,Γ Z)(h1:DSx X Γ st m1)(h2:Az X Γ rest m2):Az X Γ (st::rest) (fun E=>bO (m1 E) (m2 E)):=(qR h1 h2).of fun D Z H ⟨g,O,h,Zw,Dw,E,R,S,m,k,kx⟩=>by
 refine ⟨g,O,h,Zw,_,E,R,S,m,⟨?_,k.rt,k.bk,k.ct⟩,kx⟩;intro Z' H' ⟨O1,Zw1,h1,e1,R1,S1,m1⟩;exact ⟨hΓ _,O1,h1,Zw1,Dw,E,R1,S1,m1,k.trans e1,fun ev s' z=>kx ev s'<|z.trans e1⟩
theorem zu {ma:Tq->ME}(he:DEx X Γ e ma)(hs:XS e Go pos.line X.env=pure false:=by rfl):DSx X Γ (.Expr e pos) (fun E=>tR (ma E)):=(wB he hs).of fun D Z H ⟨g,O,h,Zw,Dw,E,R,S,m,k,kx⟩=>
 ⟨g,O,h,Zw,_,E,R,S,m,fun v H1 ⟨O1,w,h1,e1,R1,_,m1⟩=>k.nx _ _ ⟨O1,Zw,h1,e1,R1,S.ext e1,m1⟩,kx⟩
theorem uP {a b:List Stmt}{t:MT}{m1 m2:Tq->MS}(hc:DT X c t)(ha:Az X Γ a m1)(hb:Az X Γ b m2):DSx X Γ (.If c a b pos) (fun E=>jW t (m1 E) (m2 E)):=(Mh hc ha hb).of fun D Z H ⟨g,O,h,Zw,Dw,E,R,S,m,k,kx⟩=>by
 refine ⟨O,h,Zw,_,R,S,m,fun b H1 ⟨O1,h1,e1,R1,q⟩=>?_⟩;cases b with
 | true=>rw [if_pos rfl];exact ⟨g,O1,h1,Zw,Dw,E,R1,S.ext e1,q.1 rfl,k.trans e1,fun ev s' z=>kx ev s' (z.trans e1)⟩
 | false=>rw [if_neg Ue];exact ⟨g,O1,h1,Zw,Dw,E,R1,S.ext e1,q.2 rfl,k.trans e1,fun ev s' z=>kx ev s' (z.trans e1)⟩
theorem jL {C:Addr}{x v:Str}{j}{np cpos p1:Pos}(hc:X.calm=true)(hg:Gl X x)(hm:X.mg x=Dn (.ref C))(hq:W8 X.K C Ed "ValueError.__new__" = true)(hx:mJ X.K C x=true)(hdb:(x==("__debug__" : Str))=false:=by decide) :
  DSx X Γ (.Raise (Dn (.Call (.Name x np) [.Constant (.str v) j p1] [] cpos)) Go pos) (fun E=>jB x E):=by
 intro pins s Z H D I ⟨g,O,h,Zw,Dw,E,R,S,m,k,kx⟩;refine tZ (R:=fun H1=>∃ O1 h1,Ah X.K H O H1 O1/\Tp X.K O1 H1 h1/\E ⟨x,[]⟩ h1) hc hg hm hq (ak aQ aA rfl) I ⟨O,h,Zw,fun ws h1=>ws.length=1/\E ⟨x,[]⟩ h1,R,S,⟨rfl,m⟩,fun vs H' ⟨O1,ws,h1,e1,R1,r1,l1,m1⟩=>⟨by rw [<-r1.len,l1];decide,O1,h1,e1,R1,m1⟩⟩ (fun a H1 s' F ⟨O1,h1,e1,R1,m1⟩=>?_) hdb rfl rfl;exact kx _ s' ⟨a,C,x,Go,[],pins,Z,H1,O1,h1,rfl,F,hx,g,e1,R1,.inl ⟨rfl,rfl⟩,m1⟩
end
theorem PL {P:T8}{w:Uv}{K:Tt}{mg:Str->Option Tw}{base:Heap}{x qual:Str}{st:Stmt}{f:Addr}{fd:Uw}{N ps:List Str}{k:Nat}{pure:Bool}{body:Tq->MS}(F:CV K x qual st f fd)(S:aO N ps (aH st))
  (hb:∀ (cdv:Tw) (A:Ug) (outer:List Env) (s:Tz) (H:Hp) (E:XK),gO k (A.deeper (envOfC qual (aH st) s.heap.objs.size f cdv)) ->
   Az (Bm (CXX P w) P w K mg base N qual (aH st) f cdv A outer s H E) (fun _=>True) (d9 st) body):cH P w K mg base (CXX P w) (k+1) f fd ps (tQ K (CP ps.length N.length pure body)):=by
 obtain ⟨oc,od,kV,doc,pm,an,cdv,ct,osl,rfl,lk,hcd⟩:=F.ex;refine LC lk hcd S (fun vs H Q E ⟨O,h,ws,Qw,Ew,R,r,m,_,_⟩=>by rw [<-r.len];exact (rW m).1) fun A outer s H vs Q E hr ⟨O,h,ws,Qw,Ew,R,r,m0,k,kx⟩=>?_;obtain ⟨hl,m⟩:=rW m0;refine ⟨_,hb cdv A outer s H E hr,trivial,O,h,_,_,Ew,R,jD r,m,⟨?_,?_,?_,?_⟩,?_⟩
 ·rintro Z' H' ⟨O1,Zw1,h1,e1,R1,S1,m1⟩;exact k _ _<|mH (w:=.non) R e1 R1 (by rw [JI]) m1
 ·rintro v H' ⟨O1,w1,h1,e1,R1,r1,m1⟩;exact k _ _<|mH R e1 R1 r1 m1
 ·rintro Z' H' ⟨O1,Zw1,h1,e1,R1,S1,m1⟩;exact m1.elim
 ·rintro Z' H' ⟨O1,Zw1,h1,e1,R1,S1,m1⟩;exact m1.elim
 ·rintro ev s' ⟨a,C,n,od,fs,pins,Z',H',O',h',rfl,F',hx,_,e1,R1,m1⟩;exact F'.leave ⟨rfl,rfl⟩ rfl<|kx C n od fs H' hx ⟨O',h',e1,R1,m1⟩
abbrev Cx.tr (X:Cx)(pins:List (Addr×Obj))(xe:Tw->Tz->Prop):Cx:={ X with pn:=X.pn++pins,xe:=xe }
abbrev Cx.hnd (X:Cx)(a:Addr)(o:Obj)(u:HO):Cx:={ X with A:=X.A.mark (Dn (.ref a)),H₀:=kI X.H₀ a (.frz o u),calm:=false }
def cY (a:Addr)(o:Obj):HO:=.ext fun h=>h.get? a=Dn o
section
variable {X:Cx}{pins pins':List (Addr×Obj)}{Z : St}{H:Hp}{s:Tz}{xe:Tw->Tz->Prop}{a C:Addr}{o:Obj}{u:HO}
theorem Cx.Ok.tr (ok:X.Ok)(pins:List (Addr×Obj))(xe:Tw->Tz->Prop):(X.tr pins xe).Ok:=
 ⟨ok.mod,ok.kind,ok.glob,ok.blt,ok.above,ok.inj,ok.has,ok.cab,ok.hd,ok.qt,ok.frames,ok.stk,ok.exf,ok.bs,ok.bsz,ok.noex,ok.exfs,ok.funs,ok.frf⟩
theorem Cx.Ok.untr (ok:(X.tr pins xe).Ok):X.Ok:=
 ⟨ok.mod,ok.kind,ok.glob,ok.blt,ok.above,ok.inj,ok.has,ok.cab,ok.hd,ok.qt,ok.frames,ok.stk,ok.exf,ok.bs,ok.bsz,ok.noex,ok.exfs,ok.funs,ok.frf⟩
theorem Mk.tr (I:Mk X pins Z H s):Mk (X.tr pins xe) [] Z H s:=⟨I.ok.tr pins xe,I.os,I.bare,I.base,I.loc,I.cell,I.free,I.freeC,fun p hp=>I.pin p (by
 have hp':p∈(X.pn++pins)++[]:=hp;rw [Wy] at hp';exact hp'),I.hok,I.len⟩
theorem Mk.untr (I:Mk (X.tr pins xe) pins' Z H s):Mk X pins Z H s:=⟨I.ok.untr,I.os,I.bare,I.base,I.loc,I.cell,I.free,I.freeC,fun p hp=>I.pin p (Xi _ hp),I.hok,I.len⟩
theorem New.untr {b:Addr}(n:New (X.tr pins xe) pins' H b):New X pins H b:=⟨n.h,n.s,n.l,n.c,fun p hp=>n.p p (Xi _ hp),n.f⟩
theorem FX.untr {e:Addr}{od:Option Addr}(F:FX (X.tr pins xe) pins' Z H s e C od):FX X pins Z H s e C od:=⟨F.inv.untr,F.xo.mono fun _ n=>n.untr⟩
theorem SP.untr {D:Ends}{f:Flow}{s':Tz}(h:SP (X.tr pins xe) [] D f s'):SP X pins D f s':=by
 cases f with
 | next=>obtain ⟨Z',H',I,q⟩:=h;exact ⟨Z',H',I.untr,q⟩
 | brk=>obtain ⟨Z',H',I,q⟩:=h;exact ⟨Z',H',I.untr,q⟩
 | cont=>obtain ⟨Z',H',I,q⟩:=h;exact ⟨Z',H',I.untr,q⟩
 | ret v=>obtain ⟨v,Z',H',I,r,q⟩:=h;exact ⟨v,Z',H',I.untr,r,q⟩
theorem Mk.hnd {vs:Array Tw}(I:Mk X pins Z H s)(n:New X pins H a)(hx:X.ex=[])(ho:s.heap.get? a=Dn o)(hd:o.data=.fields vs)(h2:vs[2]?=Dn .none):Mk (X.hnd a o (cY a o)) pins Z (kI H a (.frz o (cY a o))) s:=by
 have s0:X.s₀.heap.get? a=Go:=by
  rcases n.s with q | q
  ·rw [hx] at q;cases q
  ·exact q
 have ne:∀ b ob,X.s₀.heap.get? b=Dn ob->b≠a:=fun b ob e z=>by rw [z,s0] at e;cases e
 have nf:∀ b∈X.fs,b≠a:=fun b hb z=>n.f (by rw [<-z];exact hb)
 have ok:(X.hnd a o (cY a o)).Ok:=by
  have k:=I.ok;refine ⟨k.mod,k.kind,k.glob,k.blt,k.above,k.inj,k.has,k.cab,fun z=>(nomatch z),fun v e=>?_,k.frames,k.stk,k.exf,fun b ob e=>?_,k.bsz,k.noex,k.exfs,k.funs,fun b hb=>?_⟩
  ·have e:Dn (Value.ref a)=Dn v:=e;cases e;exact ⟨a,o,cY a o,vs,rfl,aM,hd,h2⟩
  ·obtain ⟨e1,e2⟩:=k.bs b ob e;exact ⟨e1,(aB<|ne b ob e1).trans e2⟩
  ·exact (aB<|nf b hb).trans (k.frf b hb)
 have up:∀ b ob,X.s₀.heap.get? b=Dn ob->kI X.H₀ a (.frz o (cY a o)) b=Go->X.H₀ b=Go:=fun b ob e z=>by rw [aB (ne b ob e)] at z;exact z
 refine ⟨ok,I.os,I.bare,⟨fun b ob e z hf hx=>I.base.keep b ob e (up b ob e z) hf hx,fun b ob e z hf hx=>I.base.slot b ob e (up b ob e z) hf hx,fun b ob e z hx=>?_,I.base.there,fun b xs z=>?_,fun b ob v z=>?_,fun b ps z=>?_⟩,I.loc,I.cell,?_,fun x c e=>?_,fun p hp=>?_,fun b v z=>?_,I.len⟩
 ·rw [aB (ne b ob e)];exact I.base.free b ob e (up b ob e z) hx
 ·have z:kI X.H₀ a (.frz o (cY a o)) b=Dn (.tup xs):=z;by_cases hb:b=a
  ·subst hb;rw [aM] at z;cases z
  ·rw [aB hb] at z |-;exact I.base.tups b xs z
 ·have z:kI X.H₀ a (.frz o (cY a o)) b=Dn (.frz ob v):=z;by_cases hb:b=a
  ·subst hb;rw [aM] at z |-;exact z
  ·rw [aB hb] at z |-;exact I.base.frzs b ob v z
 ·have z:kI X.H₀ a (.frz o (cY a o)) b=Dn (.tbl ps):=z;by_cases hb:b=a
  ·subst hb;rw [aM] at z;cases z
  ·rw [aB hb] at z |-;exact I.base.tbls b ps z
 ·rw [aB (VR n.l)];exact I.free
 ·rw [aB (n.c x c e)];exact I.freeC x c e
 ·obtain ⟨h1,h3,h4⟩:=I.pin p hp;exact ⟨h1,(aB<|n.p p hp).trans h3,h4⟩
 ·by_cases hb:b=a
  ·subst hb;rw [aM] at z;cases z;exact ⟨ho,ho,⟨o,ho⟩,fun h1 h2 q k=>k o q⟩
  ·rw [aB hb] at z;exact (I.hok b v z).stay (fun _ _ _ q=>q) (fun c q=>by rw [aB (aD q n.h)];exact q) fun c xs q=>by rw [aB (aD q n.h)];exact q
theorem Mk.unhnd {Z0:St}{H0:Hp}{s0:Tz}(I0:Mk X pins Z0 H0 s0)(n:New X pins H0 a)(hx:X.ex=[])(I:Mk (X.hnd a o u) pins' Z H s):Mk X pins' Z H s:=by
 have e0:X.s₀.heap.get? a=Go:=by
  rcases n.s with q | q
  ·rw [hx] at q;cases q
  ·exact q
 have ne:∀ b ob,X.s₀.heap.get? b=Dn ob->b≠a:=fun b ob e z=>by rw [z,e0] at e;cases e
 have up:∀ b ob,X.s₀.heap.get? b=Dn ob->X.H₀ b=Go->(X.hnd a o u).H₀ b=Go:=fun b ob e z=>(aB (ne b ob e)).trans z
 refine ⟨I0.ok,I.os,I.bare,⟨fun b ob e z hf hx=>I.base.keep b ob e (up b ob e z) hf hx,fun b ob e z hf hx=>I.base.slot b ob e (up b ob e z) hf hx,fun b ob e z hx=>I.base.free b ob e (up b ob e z) hx,I.base.there,fun b xs z=>?_,fun b ob v z=>?_,fun b ps z=>?_⟩,I.loc,I.cell,I.free,I.freeC,I.pin,I.hok,I.len⟩
 ·refine I.base.tups b xs<|(aB fun hb=>?_).trans z
  subst hb;have:=I0.base.tups b xs z
  rw [n.h] at this;cases this
 ·refine I.base.frzs b ob v<|(aB fun hb=>?_).trans z
  subst hb;have:=I0.base.frzs b ob v z
  rw [n.h] at this;cases this
 ·refine I.base.tbls b ps<|(aB fun hb=>?_).trans z
  subst hb;obtain ⟨_,this⟩:=I0.base.tbls b ps z;rw [n.h] at this;cases this
def lW (Z : St):St:=Z.map fun _=>Go
theorem Mk.lost {m':Str->Option Tw}{h':Heap}{t':Nat}(I:Mk X pins Z H s)(hn:h'.Ns X.env.locals m')(sb:Wt X.env.locals s.heap h'):Mk X pins (lW Z) H { s with heap:=h',toks:=t' }:=by
 have neL:∀ b o,X.s₀.heap.get? b=Dn o->b≠X.env.locals:=fun b o e=>Ud (TQ (TY e) I.ok.above)
 have k:∀ b o,b≠X.env.locals->s.heap.get? b=Dn o->h'.get? b=Dn o:=fun b o hb e=>(sb.2 b hb).trans e
 refine ⟨I.ok,I.os,I.bare,⟨fun b o e z hf hx=>k b o (neL b o e)<|I.base.keep b o e z hf hx,fun b o e z hf hx=>?_,I.base.free,fun b o e hx=>?_,I.base.tups,I.base.frzs,I.base.tbls⟩,⟨m',hn,fun i x v _ e2 _=>?_⟩,fun x c e=>?_,I.free,I.freeC,fun p hp=>?_,fun b v z=>?_,?_⟩
 ·obtain ⟨sl,e1⟩:=I.base.slot b o e z hf hx;exact ⟨sl,k b _ (neL b o e) e1⟩
 ·obtain ⟨o',e1⟩:=I.base.there b o e hx;exact ⟨o',k b _ (neL b o e) e1⟩
 ·unfold lW at e2;rw [Ut] at e2;cases q:Z[i]? with
  | none=>rw [q] at e2;cases e2
  | some w=>rw [q] at e2;cases e2
 ·obtain ⟨v,oc,ho,hd⟩:=I.cell x c e;exact ⟨v,oc,k c oc (I.cne x c e) ho,hd⟩
 ·obtain ⟨h1,h2,h3,h4⟩:=I.pin p hp;exact ⟨k _ _ h3 h1,h2,h3,h4⟩
 ·have nL:∀ c w,H c=Dn w->c≠X.env.locals:=fun c w e q=>by rw [q,I.free] at e;cases e
  refine (I.hok b v z).stay (fun c w hc q=>k c w ?_ q) (fun _ q=>q) fun _ _ q=>q;rcases hc with r | r
  ·rw [r];exact nL b _ z
  ·exact nL c _ r
 ·unfold lW;rw [Ub];exact I.len
end
section
variable {prog:T8}{w:Uv}{A:Ug}{E:Tw->Tz->Prop}{s:Tz}{K:Tt}{x D:Addr}{ox:Obj}
theorem xW {Q:Option Tw->Tz->Prop}{od:Option Obj}(X:K.In s.heap)(I:PySem.W.InstAt s.heap x ox D od)(hga:Vd K (.ref D) "__getattribute__" = Dn (Dn (.builtin "BaseException.__getattribute__")))(hk:Vd K (.ref D) "__getattr__" = Dn Go)
  (hf:PySem.W.findObj K D od "__class__" = Dn (.bind (.builtin "getset_descriptor.__get__") (.builtin "object.__class__"))) (hm:Vt K D (.type "object")=Dn true) (hB:Vt K D (.type "BaseException")=Dn true)
  (h:Q (Dn (.ref D)) { s with toks:=s.toks+1 }):Us (Uz prog w) A (getAttr? (.ref x) "__class__") Q E s:=by
 obtain ⟨hh,g,d,t,os⟩:=s;have L0:=I.type (M:=Uz prog w);have L1:=PySem.W.looks_findIn (M:=Uz prog w) X hga;have L2:=PySem.W.looks_findIn (M:=Uz prog w) X hk;have L3:=PySem.W.looks_find (M:=Uz prog w) X I hf;have L4:=PySem.W.looks_mroIn (M:=Uz prog w) X hB;unfold getAttr? getAttrBy? getAttrBy;refine Tv<|wpAny_mkText<|Tv<|W3<|V5<|Tv<|PySem.W.Looks.at L0<|Tv<|PySem.W.Looks.at L1 ?_
 show Us _ _ (if (onTheHeap (Value.ref D)&&(Value.builtin "BaseException.__getattribute__"==Value.builtin "object.__getattribute__"))=true then _ else getAttrByItsOwn _ _ _ _ _ _) _ _ _;have hx2:(Value.builtin "BaseException.__getattribute__"==Value.builtin "object.__getattribute__")=false:=by decide +kernel
 rw [hx2,VG,if_neg Ue];unfold getAttrByItsOwn;refine Tv<|show Us _ _ (typeLookup (Value.ref D) "__getattr__") _ _ _ from PySem.W.Looks.at L2 ?_
 refine Tv<|W3<|V5 ?_
 show Us _ _ (boundAndCalled _ _ _) _ _ _;unfold boundAndCalled;rw [PySem.F.attrBase_ValueError.ga.bind (.ref x)];refine Tv<|TV ?_
 dsimp only;refine wpAny_call<|codeAny_call_builtin PySem.F.attrBase_ValueError.ga.plain F.entry_bexc_ga ?_
 have hk:builtinKind "BaseException.__getattribute__" = Dn .slot:=by decide +kernel
 have hsplit:splitId "BaseException.__getattribute__" = Dn ("BaseException", "__getattribute__"):=by decide +kernel
 have ha:=F.args_bexc_ga (.ref x) (.str "__class__" t);simp only [checkBuiltinCall,hk,hsplit];show Us (Uz prog w) A.in1 (isInstance (Value.ref x) (Value.type "BaseException") >>= _) _ _ _;refine Tv ?_;unfold isInstance;refine Tv<|PySem.W.Looks.at L0<|PySem.W.Looks.at L4 ?_
 rw [if_neg (by decide)];change Us (Uz prog w) A.in1 (match Manifest.signature? "BaseException.__getattribute__" with
  | some sig=>Bind.checkArgs "BaseException.__getattribute__" sig ⟨[Value.ref x,Value.str (Vo "__class__") t],[]⟩
  | x=>pure ()) _ _ _
 repeat (any_goals (first | assumption | (with_reducible refine wpAny_loadPart_at I.at_ ?_;rw [I.cls]) | with_reducible refine PySem.W.Looks.at L3 ?_ | wp_step))
 refine PySem.W.class_get (s:=⟨hh,g,d,t+1,os⟩) (ox:=ox) (od:=od) X I hm ?_;refine TV ?_;exact PySem.W.handed_on rfl<|TV h
end
def Al (n d:Str):Bool:=n==d||d == "EaselError"
section
variable {K:Tt}{C D:Addr}{n d:Str}
theorem tU (h:mD K D d=true):Vc K T4 d=Dn (Dn (.ref D))/\PySem.W.typeIn K (.ref D)=Dn (.type "type")/\∃ cd,Wb K D=Dn cd/\cd.name=d/\cd.mro.contains (.type "BaseException")=true:=by
 unfold mD at h;simp only [Uo,beq_iff_eq] at h;obtain ⟨⟨h1,h2⟩,h3⟩:=h;refine ⟨h1,h2,?_⟩;split at h3
 ·rename_i cd hc;simp only [Uo,beq_iff_eq] at h3;exact ⟨cd,hc,h3.1,h3.2⟩
 ·cases h3
theorem Aa (h:mJ K C n=true):mD K C n=true/\(∃ cd R,Wb K C=Dn cd/\cd.mro=.ref C::.ref R::Ed/\Vc K T4 "EaselError" = Dn (Dn (.ref R))/\∃ cr,Wb K R=Dn cr/\cr.name = "EaselError") /\
  Vd K (.ref C) "__getattribute__" = Dn (Dn (.builtin "BaseException.__getattribute__"))/\Vd K (.ref C) "__getattr__" = Dn Go/\Vd K (.ref C) "__class__" = Dn (Dn (.builtin "object.__class__"))/\PySem.W.specialIn K (.builtin "object.__class__") "__get__" = Dn (Dn (.builtin "getset_descriptor.__get__"))/\PySem.W.takesIn K (.builtin "object.__class__")=Dn true:=by
 unfold mJ at h;simp only [Uo,beq_iff_eq] at h;obtain ⟨⟨⟨⟨⟨⟨h1,h2⟩,h3⟩,h3'⟩,h4⟩,h5⟩,h6⟩:=h;refine ⟨h1,?_,h3,h3',h4,h5,h6⟩;split at h2
 ·rename_i cd hc;split at h2
  ·rename_i C' R a b c d hm;simp only [Uo,beq_iff_eq] at h2;obtain ⟨⟨⟨e1,e2⟩,e3⟩,e4⟩:=h2;obtain ⟨cr,e5,e6⟩:=PySem.W.any_some e4;exact ⟨cd,R,hc,by rw [hm,e1,<-e2],e3,cr,e5,beq_iff_eq.mp e6⟩
  ·cases h2
 ·cases h2
theorem Cq (h:mJ K C n=true)(hd:mD K D d=true):Vt K C (.ref D)=Dn (Al n d):=by
 obtain ⟨hx,⟨cd,R,hc,hm,hR,cr,hcr,hnr⟩,_⟩:=Aa h;obtain ⟨n1,_,cd',hc',nm,_⟩:=tU hx;obtain ⟨d1,_,dd,hdd,dm,_⟩:=tU hd;rw [hc] at hc';cases hc';unfold Vt;rw [hc,V2,hm];show Dn ((Value.ref C::Value.ref R::Ed).contains (.ref D))=Dn (Al n d);congr 1
 unfold Al;have e1:(Value.ref C::Value.ref R::Ed).contains (.ref D)=((Value.ref D==Value.ref C)||((Value.ref D==Value.ref R)||false)):=by
  rw [List.contains_cons,List.contains_cons];rfl
 rw [e1,Bool.or_false];have a1:(Value.ref D==Value.ref C)=(n==d):=by
  rw [Xn,beq_iff_eq,beq_iff_eq];constructor
  ·intro q;cases q;rw [hc] at hdd;cases hdd;rw [<-nm,<-dm]
  ·intro q;subst q;rw [n1] at d1;injection d1 with d1;injection d1 with d1;injection d1 with d1
   rw [d1]
 have a2:(Value.ref D==Value.ref R)=(d == "EaselError"):=by
  rw [Xn,beq_iff_eq,beq_iff_eq];constructor
  ·intro q;cases q;rw [hcr] at hdd;cases hdd;rw [<-hnr,<-dm]
  ·intro q;subst q;rw [hR] at d1;injection d1 with d1;injection d1 with d1;injection d1 with d1
   rw [d1]
 rw [a1,a2]
def uD (K:Tt)(v:V)(f:Str->Bool):Prop:=∀ (u:Tw),RelV v u->∀ (C:Addr) (n:Str),mJ K C n=true->PySem.W.kitOne K (.ref C) u=Dn (f n)
theorem uD.own (hd:mD K D d=true):uD K (.ref D) (fun n=>Al n d):=by
 intro u r C n h;cases (show u=Value.ref D from r)
 have e:=Cq h hd;obtain ⟨_,ht,dd,hdd,_⟩:=tU hd;unfold PySem.W.kitOne;by_cases q:(Value.ref C==Value.ref D)=true
 ·rw [if_pos q];have q:=beq_iff_eq.mp q;cases q;obtain ⟨n1,_,cd,hc,nm,_⟩:=tU (Aa h).1;rw [hc] at hdd;cases hdd;obtain ⟨_,_,cd',hc',dm,_⟩:=tU hd;rw [hc] at hc';cases hc';unfold Al;rw [<-nm,<-dm];simp
 ·rw [if_neg q];unfold PySem.W.kitCls;dsimp only;rw [if_pos (by rw [hdd,ht];rfl)];exact e
theorem uD.val:uD K (.ty "ValueError") (fun _=>true):=by
 intro u r C n h;cases (show u=Value.type "ValueError" from r)
 obtain ⟨_,⟨cd,R,hc,hm,_⟩,_⟩:=Aa h;unfold PySem.W.kitOne;rw [if_neg (by intro q;cases beq_iff_eq.mp q)];unfold PySem.W.kitCls;dsimp only;rw [if_pos (by decide +kernel)];show Vt K C (.type "ValueError")=Dn true;unfold Vt;rw [hc,V2,hm];rfl
theorem qZ {x:Addr}{ox:Obj}(h:mJ K D n=true):PySem.W.KitX K (.ref x) (.ref D) (fun h=>∃ od,PySem.W.InstAt h x ox D od):=by
 obtain ⟨hx,⟨cd,R,hc,hm,_⟩,hg,hg',ha,hn,htk⟩:=Aa h;have hmo:Vt K D (.type "object")=Dn true:=by
  unfold Vt;rw [hc,V2,hm];rfl
 have hf:∀ od,PySem.W.findObj K D od "__class__" = Dn (.bind (.builtin "getset_descriptor.__get__") (.builtin "object.__class__")):=by
  intro od;unfold PySem.W.findObj;rw [hc,V2,ha,V2];simp [hn,htk]
 have hcl:∃ c' d' sl',K.lookup D=Dn ⟨c',d',.cls cd,sl'⟩:=by
  unfold Wb at hc;split at hc
  ·rename_i c' d' cd' sl' ho;cases hc;exact ⟨c',d',sl',ho⟩
  ·cases hc
 obtain ⟨c',d',sl',ho⟩:=hcl;refine ⟨fun _ _ _ ⟨_,I⟩=>I.type,fun _ _ X _=>?_,fun h tp dd its n sl X htp=>?_,fun {prog w A E Q s} X ⟨od,I⟩ k=>?_⟩
 ·intro A' Q' E' s' k q;unfold isType loadHead;exact Tv<|wpAny_loadPart (k _ _<|X _ _ ho)<|TV q
 ·refine W0.mpr fun q=>?_;have e:D=tp:=Value.ref.inj (beq_iff_eq.mp q);subst e;have z:=(X _ _ ho).symm.trans htp;cases z
 ·refine xW X I hg hg' (hf od) hmo ?_ k;unfold Vt;rw [hc,V2,hm];rfl
theorem pO {M:Model}{A:Ug}{E:Tw->Tz->Prop}{s:Tz}{e:Addr}{oe:Obj}{Q:Bool->Tz->Prop}(X:K.In s.heap)(he:s.heap.get? e=Dn oe)(hcls:oe.cls=.ref C)(h:mJ K C n=true)(hd:mD K D d=true)(hq:Q (Al n d) s) :
  Us M A (excMatches (.ref e) (.ref D)) Q E s:=by
 obtain ⟨_,ht,dd,hdd,_,hB⟩:=tU hd;have L1:U7 M s.heap (typeOf (.ref D)) (.type "type"):=PySem.W.looks_typeIn X ht;have L2:U7 M s.heap (isSubtype (.ref C) (.ref D)) (Al n d):=PySem.W.looks_mroIn X (Cq h hd);have L3:U7 M s.heap (isSubtype (.ref D) (.type "BaseException")) true:=PySem.W.looks_mroIn X (by
  unfold Vt;rw [hdd,V2,hB,if_neg];intro q;rw [List.isEmpty_iff] at q;rw [q] at hB;cases hB)
 have hcl:∃ c' d' sl',K.lookup D=Dn ⟨c',d',.cls dd,sl'⟩:=by
  unfold Wb at hdd;split at hdd
  ·rename_i c' d' cd' sl' ho;cases hdd;exact ⟨c',d',sl',ho⟩
  ·cases hdd
 obtain ⟨c',d',sl',ho⟩:=hcl;have L4:U7 M s.heap (isType (.ref D)) true:=by
  intro A' Q' E' s' k q;unfold isType loadHead;exact Tv<|wpAny_loadPart (k _ _<|X _ _ ho)<|TV q
 have L5:U7 M s.heap (typeOf (.ref e)) (.ref C):=hcls ▸ (PySem.W.Looks.ld he).andThen .now;have f:=tc_notTuple;obtain ⟨hh,g,dr,tk,os⟩:=s;unfold excMatches;refine Tv ?_;unfold isInstance;refine Tv<|PySem.W.Looks.at L1 ?_
 rw [f];refine TV ?_;rw [if_neg Ue];refine Tv<|TV ?_
 dsimp only;rw [List.forIn_cons];refine Tv<|Tv ?_
 unfold isExcClass;refine Tv<|Tv<|PySem.W.Looks.at L4 ?_
 rw [if_pos rfl];refine PySem.W.Looks.at L3 ?_;rw [if_neg (by decide)];refine TV ?_;dsimp only;rw [List.forIn_nil];refine TV ?_;refine Tv<|PySem.W.Looks.at L5 ?_
 rw [List.forIn_cons];refine Tv<|Tv<|Tv<|PySem.W.Looks.at L2 ?_
 cases hb:Al n d with
 | true=>
  rw [hb] at hq;rw [if_pos rfl];exact TV<|TV<|TV hq
 | false=>
  rw [hb] at hq;rw [if_neg Ue];refine TV ?_;dsimp only;rw [List.forIn_nil];exact TV<|TV hq
end
theorem vW {prog:T8}{w:Uv}{A:Ug}{E:Tw->Tz->Prop}{s:Tz}{env:Env}{K:Tt}{e C D:Addr}{n d y:Str}{t:Expr}{b₀ : Stmt}{suite:List Stmt}{pos:Pos}{rest:List ExceptHandler}{Q:Flow->Tz->Prop}
  (hx:mJ K C n=true) (hd:mD K D d=true) (hi:Al n d=true)
  (h:Us (Uz prog w) (A.mark (Dn (.ref e))) (eval t env) (fun c s₁=>c=.ref D/\K.In s₁.heap/\(∃ oe,s₁.heap.get? e=Dn oe/\oe.cls=.ref C) /\
   Us (Uz prog w) (A.mark (Dn (.ref e))) (setFlight (.ref e) Go) (fun _ s₂=>
     Us (Uz prog w) (A.mark (Dn (.ref e))) (storeName env y (.ref e)) (fun _ s₃=>
      Us (Uz prog w) (A.mark (Dn (.ref e))) (execs (b₀::suite) env)
       (fun f s₄=>Us (Uz prog w) A (do bindName env y .none;unbindBehindTheSuite env y pos) (fun _ s₅=>Q f s₅) E s₄) (fun _ _=>False) s₃) (fun _ _=>False) s₂) (fun _ _=>False) s₁) (fun _ _=>False) s) :
  Us (Uz prog w) A (handleBy (.ref e) env (.ExceptHandler (Dn t) (Dn y) (b₀::suite) pos::rest)) Q E s:=by
 refine wpAny_handleBy_cons (codeAny_handlers_test<|Vi h (fun c s₁ h₁=>?_) fun _ _ z=>z.elim) (by intro q;cases q);obtain ⟨rfl,X,⟨oe,he,hcls⟩,hk⟩:=h₁;refine pO X he hcls hx hd ?_;rw [hi];exact codeAny_handlers_suite_as<|Vi hk (fun _ s₂ h₂=>Vi h₂ (fun _ s₃ h₃=>Vi h₃ (fun _ _ z=>z) fun _ _ z=>z.elim) fun _ _ z=>z.elim) fun _ _ z=>z.elim
def aX.lost (D:aX):aX:={ D with nx:=fun Z h=>D.nx (Z.map fun _=>Go) h,bk:=fun Z h=>D.bk (Z.map fun _=>Go) h,ct:=fun Z h=>D.ct (Z.map fun _=>Go) h }
def yC (x:Xw):W:=match x.fs with
 | []=>.exc x.cls
 | f::fs=>.exa x.cls ((f::fs).map (·.2))
theorem vo {α β : Type}:∀ {l:List α} {m:List β},m.length=l.length->(l.zip m).map (·.2)=m
 | [],[],_=>rfl
 | [],_::_,h=>by cases h
 | _::_,[],h=>by cases h
 | a::l,b::m,h=>by rw [List.zip_cons_cons,Uy,vo (by simpa using h)]
theorem Js {n:Str}{ws:List W}(h:ws.length=(wH n).length):yC ⟨n,(wH n).zip ws⟩=.exa n ws:=by
 have e:=vo h;unfold yC;have ne:wH n≠[]:=by unfold wH;split <;> simp
 cases q:(wH n).zip ws with
 | nil=>
  rw [q] at e;cases ws with
  | nil=>exact absurd (List.eq_nil_of_length_eq_zero h.symm) ne
  | cons _ _=>cases e
 | cons f fs=>
  rw [q] at e;dsimp only;rw [e]
def Nr (i:Nat)(d:Str)(mb:Tq->MS)(mh:MS):MS:=fun D Z h=>mb (fun x h'=>CJ (Al x.cls d) (mh D.lost (Z.set i (Dn (yC x))) h') False) D Z h
theorem Slots.lost {K:Tt}{H:Hp}{O : Mu}{Zw:Sw}{Z : St}(S:Slots K H O Zw Z):Slots K H O (Zw.map fun _=>Go) (lW Z):=by
 refine ⟨by unfold lW;rw [Ub,Ub,S.len],fun i w q=>?_⟩;rw [Ut] at q;cases e:Zw[i]? with
 | none=>rw [e] at q;cases q
 | some z=>rw [e] at q;cases q
section
variable {X:Cx}{body:List Stmt}{b₀ : Stmt}{suite:List Stmt}{y d:Str}{np hpos pos:Pos}{i:Nat}{D:Addr}{mb:Tq->MS}{mh:MS}
theorem La (hN:X.N.Nodup)(hi:X.N[i]?=Dn y)(hy:X.env.scope.names.lookup y=Dn .local)(hg:Gl X d)(hm:X.mg d=Dn (.ref D))(hxd:mD X.K D d=true)(ht:Top X)(hx:X.ex=[])
  (hb:∀ pins xe Z0,Az (X.tr pins xe) (fun Z=>Z = Z0) body mb) (hh:∀ a o u,EY (X.hnd a o u).nox (b₀::suite) mh) (hdb:(d==("__debug__" : Str))=false:=by decide) :
  DS X (.Try body [.ExceptHandler (Dn (.Name d np)) (Dn y) (b₀::suite) hpos] [] [] pos) (Nr i d mb mh):=by
 intro pins s Z H De I ⟨O,h,Zw,Dw,R,S,m,k⟩;refine wpAny_Try_except<|AP (hb pins _ Z [] s Z H De I.tr ⟨rfl,O,h,Zw,Dw,_,R,S,m,k,fun ev s' xt=>?_⟩) fun f s' q=>?_
 ·obtain ⟨a,C,n,od,fs,pins',Z',H',O',h',rfl,F,hxc,rfl,e1,R1,xd,q⟩:=xt;have F:=F.untr;cases hix:Al n d with
  | false =>
   have q:CJ (Al n d) _ False:=q;rw [hix] at q;exact q.elim
  | true=>
  have q:CJ (Al n d) (mh Dw.lost (Zw.set i (Dn (yC ⟨n,fs⟩))) h') False:=q;rw [hix] at q;have q:mh Dw.lost (Zw.set i (Dn (yC ⟨n,fs⟩))) h':=q;refine F.note ht F.inv.ok.frames fun h1 F1=>F1.flight fun h2 F2=>?_;obtain ⟨_,oe0,vs0,he0,hc0,_⟩:=F2.xn;refine vW hxc hxd hix ?_;refine Calls.Name_function_global F2.inv.ok.kind hg (Calls.loadGlobal_global (by rw [F2.inv.ok.glob];exact F2.inv.mod.glob.keeps F2.inv.bk) hm ⟨rfl,F2.inv.kIn,⟨oe0,he0,hc0⟩,?_⟩) hdb;refine F2.flight fun h3 F3=>?_;obtain ⟨nw,oe,vs,he,hc,hdd,hdt,_,hv2,_⟩:=F3.xn;have Ih:=F3.inv.hnd nw hx he hdt hv2;have Hn:H' a=Go:=nw.h;refine gK (X:=X.hnd a oe (cY a oe)) (v:=.ref a) Ih hN hi (.inl hy) rfl (fun s4 I4=>?_)<|.inr hy
  have e2:Ah X.K H O (kI H' a (.frz oe (cY a oe))) O':=e1.trans (Ex.laid Hn).ext;have rx:JI X.K (kI H' a (.frz oe (cY a oe))) O' (yC ⟨n,fs⟩) (.ref a):=by
   have nc:PySem.W.notCls oe=true:=by
    unfold PySem.W.notCls;rw [hdt]
   rcases xd with ⟨rfl,rfl⟩ | ⟨dd,ws,xs,rfl,hxa,rfl,hl1,hl2,hdx,rs⟩
   ·show JI X.K _ O' (.exc n) (.ref a);rw [JI];exact ⟨a,oe,_,rfl,aM,C,hc,hdd,nc,hxc⟩
   ·rw [Js hl1,JI];exact ⟨a,oe,_,dd,_,xs,rfl,aM,⟨C,hc,hdd,nc,hxa⟩,by rw [aB<|aD hdx Hn];exact hdx,rfl,hl2,(Ex.laid Hn).ext.s rs⟩
  refine Vi (hh a oe (cY a oe) pins s4 _ _ ⟨fun Z5 H5=>De.nx (lW Z5) H5,De.rt,fun Z5 H5=>De.bk (lW Z5) H5,fun Z5 H5=>De.ct (lW Z5) H5⟩ (I4.wish _)
   ⟨O',h',Zw.set i (Dn (yC ⟨n,fs⟩)),Dw.lost,R1.laid Hn,(S.ext e2).set rx i,q,⟨?_,?_,?_,?_⟩⟩) (fun f s5 q5=>?_) fun _ _ z=>z.elim
  ·rintro Z5 H5 ⟨O5,Zw5,h5,e5,R5,S5,m5⟩;exact k.nx _ _ ⟨O5,_,h5,e2.trans e5,R5,S5.lost,m5⟩
  ·rintro v H5 ⟨O5,w5,h5,e5,R5,r5,m5⟩;exact k.rt _ _ ⟨O5,w5,h5,e2.trans e5,R5,r5,m5⟩
  ·rintro Z5 H5 ⟨O5,Zw5,h5,e5,R5,S5,m5⟩;exact k.bk _ _ ⟨O5,_,h5,e2.trans e5,R5,S5.lost,m5⟩
  ·rintro Z5 H5 ⟨O5,Zw5,h5,e5,R5,S5,m5⟩;exact k.ct _ _ ⟨O5,_,h5,e2.trans e5,R5,S5.lost,m5⟩
  ·have gone:∀ {Z5:St} {H5:Hp} {Q5:Unit->Tz->Prop},Mk (X.hnd a oe (cY a oe)).nox pins Z5 H5 s5->(∀ s6,Mk X pins (lW Z5) H5 s6->Q5 () s6)->Us (Uz X.prog X.w) X.A (do bindName X.env y .none;unbindBehindTheSuite X.env y hpos) Q5 X.xe s5:=fun {Z5 H5 Q5} I5 h5=>by
    have I5':=I5.unwish;obtain ⟨mm,hns,_⟩:=I5'.loc;refine wpAny_nameGoes hy hns (by rw [show X.env.scope.kind=.function from F.inv.ok.kind];rfl) fun h6 m6 hn6 sb6=>h5 _<|F3.inv.unhnd nw hx<|I5'.lost hn6 sb6
   cases f with
   | next=>obtain ⟨Z5,H5,I5,z⟩:=q5;exact gone I5 fun s6 I6=>⟨_,H5,I6,z⟩
   | brk=>obtain ⟨Z5,H5,I5,z⟩:=q5;exact gone I5 fun s6 I6=>⟨_,H5,I6,z⟩
   | cont=>obtain ⟨Z5,H5,I5,z⟩:=q5;exact gone I5 fun s6 I6=>⟨_,H5,I6,z⟩
   | ret v=>obtain ⟨x5,Z5,H5,I5,r5,z⟩:=q5;exact gone I5 fun s6 I6=>⟨x5,_,H5,I6,r5,z⟩
 ·have q:=SP.untr q;cases f with
  | next=>exact XC q
  | brk=>exact q
  | cont=>exact q
  | ret v=>exact q
end
theorem zp {k:Nat}{A:Ug}{a:Addr}(r:gO k A)(h:8<=k):gO 8 (A.mark (Dn (.ref a))):=⟨fun z=>absurd z (by decide),by have:=r.dp;show A.depth+_<_;lia,by have:=r.un;show A.units+_<_;lia⟩
section
variable {X:Cx}{a:Expr}{ma:ME}{pos p:Pos}
def Aq (f:Str->Bool)(m:ME):ME:=fun Z h Q=>m Z h fun w h1=>match w with
 | .exc n=>Q (.bl (f n)) h1
 | .exa n _=>Q (.bl (f n)) h1
 | _=>False
def Er (K:Tt)(H:Hp)(o:Obj)(n:Str):Prop:=Xob K o n\/∃ dd fs,Xoa K o n dd/\H dd=Dn (.xd fs)
theorem yj {pins:List (Addr×Obj)}{Z : St}{H:Hp}{s:Tz}{q:Addr}{o:Obj}{u:HO}{n:Str}(I:Mk X pins Z H s)(e:H q=Dn (.frz o u))(x:Er X.K H o n):∃ C,mJ X.K C n=true/\∃ od,PySem.W.InstAt s.heap q o C od:=by
 rcases x with ⟨C,hc,hd,hn,hx⟩ | ⟨dd,fs,⟨C,hc,hd,hn,hx⟩,hdd⟩
 ·exact ⟨C,hx,Go,(I.hok q _ e).1,hc,hn,by rw [hd];trivial⟩
 ·obtain ⟨ob,ho⟩:=(I.hok dd _ hdd).obj;unfold Qj at hx;simp only [Uo] at hx;exact ⟨C,hx.1.1,Dn ob,(I.hok q _ e).1,hc,hn,by rw [hd];exact ho⟩
theorem yI {v:V}{f:Str->Bool}(hf:uD X.K v f):cW X (.builtin "isinstance") (fun xs H Q=>∃ q o u n,xs=[.ref q,v]/\H q=Dn (.frz o u)/\Er X.K H o n/\Q (.bl (f n)) H):=by
 intro pins s Z H xs us Q I r ⟨q,o,u,n,ex,eq,xo,hQ⟩;subst ex;obtain ⟨C,hx,J⟩:=yj I eq xo;cases r with
 | cons r1 r2=>
  cases r2 with
  | cons r2 r3=>
   cases r3;rename_i u1 u2;cases (show u1=Value.ref q from r1)
   exact PySem.W.kia_one (qZ hx) I.kIn J (hf u2 r2 C n hx) (fun z=>nomatch z) fun tk=>⟨.bl<|f n,H,I.kept (t':=tk) fun _ _ e=>e,rfl,hQ⟩
theorem Bx {b:Expr}{v:V}{f:Str->Bool}(hg:Gl X "isinstance")(hm:X.mg "isinstance" = Go)(ha:DE X a ma)(hb:PE X b (tC v))(hf:uD X.K v f)(h1:T3 [a,b] X.env=(false,eval a X.env)::T3 [b] X.env:=by rfl)(h2:T3 [b] X.env=(false,eval b X.env)::T3 [] X.env:=by rfl)
  (hpl:(Vy pos (T3 [b] X.env)).any (·.1)=false:=by rfl):DE X (.Call (.Name "isinstance" p) [a,b] [] pos) (Aq f ma):=
 (lX (yI hf) hg hm Vs (iM ha (iM hb rZ h2) h1) (by decide) (by decide) h1 hpl).of fun Z H Q ⟨O,h,Zw,Qw,R,S,m,k⟩=>by
  refine ⟨O,h,Zw,_,R,S,m,fun x H1 ⟨O1,w,h1,e1,R1,r1,m1⟩=>?_⟩;cases w with
  | exc n=>
   rw [JI] at r1;obtain ⟨q,o,u,ev,eq,hx⟩:=r1;subst ev;exact ⟨q,o,u,n,rfl,eq,.inl hx,k _ _ ⟨O1,.bl<|f n,h1,e1,R1,by rw [JI],m1⟩⟩
  | exa n ws=>
   rw [JI] at r1;obtain ⟨q,o,u,dd,ns,xs,ev,eq,hx,hdd,_⟩:=r1;subst ev;exact ⟨q,o,u,n,rfl,eq,.inr ⟨dd,_,hx,hdd⟩,k _ _ ⟨O1,.bl<|f n,h1,e1,R1,by rw [JI],m1⟩⟩
  | _=>exact m1.elim
inductive Dm (X:Cx):List Expr->List V->(Str->Bool)->Prop
 | nil:Dm X [] [] (fun _=>false)
 | cons {e:Expr} {es:List Expr} {v:V} {vs:List V} {f g:Str->Bool}:PE X e (tC v)->uD X.K v f->Dm X es vs g->T3 (e::es) X.env=(false,eval e X.env)::T3 es X.env->Dm X (e::es) (v::vs) (fun n=>f n||g n)
def tCs (vs:List V):TA:=fun _ H Q=>Q vs H
theorem Dm.pa {es:List Expr}{vs:List V}{f:Str->Bool}(h:Dm X es vs f):PA X es (tCs vs):=by
 induction h with
 | nil=>exact rZ
 | cons he _ _ hs ih=>exact (iM he ih hs).of fun Z H Q q=>q
theorem Dm.any {es:List Expr}{vs:List V}{f:Str->Bool}(h:Dm X es vs f):∀ {us:List Tw} {C:Addr} {n:Str},Rj vs us->mJ X.K C n=true->PySem.W.kitAny X.K (.ref C) us=Dn (f n):=by
 induction h with
 | nil=>intro us C n r _;cases r;rfl
 | @cons e es v vs f g he hc hr hs ih=>
  intro us C n r hx;cases r with
  | cons r1 r2=>
   unfold PySem.W.kitAny;rw [hc _ r1 C n hx];show _=Dn (f n||g n);cases f n with
   | true=>rfl
   | false=>rw [Bool.false_or];exact ih r2 hx
theorem vh {vs:List V}{f:Str->Bool}(hf:∀ {us:List Tw} {C:Addr} {n:Str},Rj vs us->mJ X.K C n=true->PySem.W.kitAny X.K (.ref C) us=Dn (f n)) :
  cW X (.builtin "isinstance") (fun xs H Q=>∃ q o u n t,xs=[.ref q,.ref t]/\H q=Dn (.frz o u)/\Er X.K H o n/\H t=Dn (.tup vs)/\Q (.bl (f n)) H):=by
 intro pins s Z H xs us Q I r ⟨q,o,u,n,t,ex,eq,xo,ht,hQ⟩;subst ex;obtain ⟨C,hx,J⟩:=yj I eq xo;cases r with
 | cons r1 r2=>
  cases r2 with
  | cons r2 r3=>
   cases r3;rename_i u1 u2;cases (show u1=Value.ref q from r1)
   cases (show u2=Value.ref t from r2)
   obtain ⟨_,its,rv,⟨c,dd,dt,sl⟩,h1,h2,⟨k,h3⟩,_⟩:=(show fG X.prog X.w H s.heap t (.tup vs) from I.hok t _ ht)
   dsimp only at h2 h3;subst h2 h3;exact PySem.W.kia_tup (qZ hx) I.kIn J h1 (hf rv hx) (fun z=>nomatch z) fun tk=>⟨.bl<|f n,H,I.kept (t':=tk) fun _ _ e=>e,rfl,hQ⟩
theorem HF {es:List Expr}{vs:List V}{f:Str->Bool}{x1 p1}(hg:Gl X "isinstance")(hm:X.mg "isinstance" = Go)(ha:DE X a ma)(hc:Dm X es vs f)(hl:vs.length<=100)(h1:T3 [a,.Tuple es x1 p1] X.env=(false,eval a X.env)::T3 [.Tuple es x1 p1] X.env:=by rfl)
  (h2:T3 [.Tuple es x1 p1] X.env=(false,eval (.Tuple es x1 p1) X.env)::T3 [] X.env:=by rfl) (hpl:(Vy pos (T3 [.Tuple es x1 p1] X.env)).any (·.1)=false:=by rfl) :
  DE X (.Call (.Name "isinstance" p) [a,.Tuple es x1 p1] [] pos) (Aq f ma):=
 (lX (vh hc.any) hg hm Vs (iM ha (iM (Bo hc.pa) rZ h2) h1) (by decide) (by decide) h1 hpl).of fun Z H Q ⟨O,h,Zw,Qw,R,S,m,k⟩=>by
  refine ⟨O,h,Zw,_,R,S,m,fun x H1 ⟨O1,w,h1,e1,R1,r1,m1⟩=>?_⟩;cases w with
  | exc n=>
   rw [JI] at r1;obtain ⟨q,o,u,ev,eq,hx⟩:=r1;subst ev;refine ⟨Uc hl<|by decide,fun t ht=>⟨q,o,u,n,t,rfl,?_,.inl hx,aM,k _ _ ⟨O1,.bl<|f n,h1,e1.trans (Ex.laid ht).ext,R1.laid ht,by rw [JI],m1⟩⟩⟩;rw [aB (aD eq ht)];exact eq
  | exa n ws=>
   rw [JI] at r1;obtain ⟨q,o,u,dd,ns,xs,ev,eq,hx,hdd,_⟩:=r1;subst ev;refine ⟨Uc hl<|by decide,fun t ht=>⟨q,o,u,n,t,rfl,?_,.inr ⟨dd,_,hx,by rw [aB<|aD hdd ht];exact hdd⟩,aM,k _ _ ⟨O1,.bl<|f n,h1,e1.trans (Ex.laid ht).ext,R1.laid ht,by rw [JI],m1⟩⟩⟩;rw [aB (aD eq ht)];exact eq
  | _=>exact m1.elim
end
section
variable {X:Cx}{tg elt:Expr}{ifs:List Expr}{scope:Scope}{xs:List Str}{tt:MT}{te:ME}{pos p ppos:Pos}
end
section
variable {prog:T8}{w:Uv}{A:Ug}{E:Tw->Tz->Prop}{s:Tz}
end
section
variable {X:Cx}
end
section
variable {X:Cx}{K:Tt}{o e:Expr}{mo:ME}{ma:MA}{apos cpos:Pos}
variable {H:Hp}{pins:List (Addr×Obj)}{s:Tz}{Z : St}
mutual
theorem Fq (I:Mk X pins Z H s):∀ {w u:W} {v:V},Dt X.K H w v->Dt X.K H u v->w=u
 | .non,u,v,h,g=>by rw [Dt] at h;subst h;cases u <;> rw [Dt] at g <;> first | rfl | exact g.elim | (obtain ⟨_,_,g,_⟩:=g;cases g;done) | (cases g;done)
 | .bl b,u,v,h,g=>by rw [Dt] at h;subst h;cases u <;> rw [Dt] at g <;> first | (injection g with g;rw [g];done) | exact g.elim | (obtain ⟨_,_,g,_⟩:=g;cases g;done) | (cases g;done)
 | .int b,u,v,h,g=>by rw [Dt] at h;subst h;cases u <;> rw [Dt] at g <;> first | (injection g with g;rw [g];done) | exact g.elim | (obtain ⟨_,_,g,_⟩:=g;cases g;done) | (cases g;done)
 | .str b,u,v,h,g=>by rw [Dt] at h;subst h;cases u <;> rw [Dt] at g <;> first | (injection g with g;rw [g];done) | exact g.elim | (obtain ⟨_,_,g,_⟩:=g;cases g;done) | (cases g;done)
 | .tup ws,u,v,h,g=>by
  rw [Dt] at h;obtain ⟨p,xs,e,hs,ds⟩:=h;subst e;cases u with
  | tup us=>
   rw [Dt] at g;obtain ⟨p',xs',e',hs',ds'⟩:=g;cases e'
   have:=I.tuple_inj hs hs'
   subst this;rw [lO I ds ds']
  | lst us=>
   rw [Dt] at g;obtain ⟨p',xs',e',hs',ds'⟩:=g;cases e'
   obtain ⟨_,_,t,_⟩:=I.tuple hs;obtain ⟨_,_,l,_⟩:=I.list hs';exact absurd rfl<|WR l.isList<|show s.heap.IsTuple _ _ from t
  | ty _=>rw [Dt] at g;exact g.elim
  | loc _=>rw [Dt] at g;exact g.elim
  | kls _=>rw [Dt] at g;exact g.elim
  | exc _=>rw [Dt] at g;exact g.elim
  | exa _ _=>rw [Dt] at g;exact g.elim
  | _=>rw [Dt] at g;cases g
 | .lst ws,u,v,h,g=>by
  rw [Dt] at h;obtain ⟨p,xs,e,hs,ds⟩:=h;subst e;cases u with
  | lst us=>
   rw [Dt] at g;obtain ⟨p',xs',e',hs',ds'⟩:=g;cases e'
   have:=I.list_inj hs hs'
   subst this;rw [lO I ds ds']
  | tup us=>
   rw [Dt] at g;obtain ⟨p',xs',e',hs',ds'⟩:=g;cases e'
   obtain ⟨_,_,t,_⟩:=I.tuple hs';obtain ⟨_,_,l,_⟩:=I.list hs;exact absurd rfl<|WR l.isList<|show s.heap.IsTuple _ _ from t
  | ty _=>rw [Dt] at g;exact g.elim
  | loc _=>rw [Dt] at g;exact g.elim
  | kls _=>rw [Dt] at g;exact g.elim
  | exc _=>rw [Dt] at g;exact g.elim
  | exa _ _=>rw [Dt] at g;exact g.elim
  | _=>rw [Dt] at g;cases g
 | .ty _,_,_,h,_=>by rw [Dt] at h;exact h.elim
 | .kls _,_,_,h,_=>by rw [Dt] at h;exact h.elim
 | .loc _,_,_,h,_=>by rw [Dt] at h;exact h.elim
 | .exc _,_,_,h,_=>by rw [Dt] at h;exact h.elim
 | .exa _ _,_,_,h,_=>by rw [Dt] at h;exact h.elim
theorem lO (I:Mk X pins Z H s):∀ {ws us:List W} {vs:List V},Aw X.K H ws vs->Aw X.K H us vs->ws=us
 | [],us,vs,h,g=>by
  have e:vs=[]:=by rw [Aw] at h;exact h
  subst e;cases us with
  | nil=>rfl
  | cons u us=>rw [Aw] at g;obtain ⟨_,_,e,_⟩:=g;cases e
 | w::ws,us,vs,h,g=>by
  rw [Aw] at h;obtain ⟨v,vs',e,d,ds⟩:=h;subst e;cases us with
  | nil=>
   have e:v::vs'=[]:=by rw [Aw] at g;exact g
   cases e
  | cons u us=>
   rw [Aw] at g;obtain ⟨v2,vs2,e2,d2,ds2⟩:=g;cases e2;rw [Fq I d d2,lO I ds ds2]
end
end
section
variable {X:Cx}{elt iter tg:Expr}{ifs:List Expr}{scope:Scope}{pos:Pos}{xs:List Str}{mi:MI}{tt:MT}{te:ME}
end
section
variable {X:Cx}{Γ : St->Prop}{e:Expr}{es:List Expr}{pos:Pos}
variable {mr:Tq->MA}
end
section
variable {X:Cx}{K:Tt}{H:Hp}{pins:List (Addr×Obj)}{s:Tz}{Z : St}
end
section
variable {X:Cx}{K:Tt}{H:Hp}{O : Mu}{h:Gh}
def QD:W->Option Bool
 | .str _=>Dn true
 | .int _=>Dn false
 | .bl _=>Dn false
 | .non=>Dn false
 | .tup _=>Dn false
 | _=>Go
def CW (K:Tt)(H:Hp):V->Bool->Prop
 | .str _,b=>b=true
 | .int _,b=>b=false
 | .bl _,b=>b=false
 | .non,b=>b=false
 | .ref p,b=>(∃ xs,CG K H p xs)/\b=false
 | _,_=>False
theorem vf:cW X (.builtin "isinstance") (fun xs H Q=>∃ x b,xs=[x,.ty "str"]/\CW X.K H x b/\Q (.bl b) H):=by
 intro pins s Z H xs us Q I r h;obtain ⟨x,b,rfl,hi,q⟩:=h;obtain ⟨u,w',rfl,rx,ru⟩:=vals2 r;cases ru;have k0:EP X pins Z Q (.bool b) s:=⟨.bl b,H,I,rfl,q⟩
 have k1:EP X pins Z Q (.bool b) { s with toks:=s.toks+1 }:=⟨.bl b,H,I.tok _,rfl,q⟩
 cases x with
 | str i=>obtain ⟨t,rfl⟩:=rx;cases hi;exact IsiPair.str_str k0
 | int i=>obtain ⟨t,rfl⟩:=rx;cases hi;exact IsiPair.int_str k1
 | bl i=>cases rx;cases hi;exact IsiPair.bool_str k1
 | non=>cases rx;cases hi;exact IsiPair.NoneType_str k1
 | ref p=>
  cases rx;obtain ⟨⟨xs,hS⟩,e⟩:=hi;cases e;obtain ⟨its,_,⟨o,e,c,_⟩,_⟩:=I.tuple hS;exact IsiPair.tuple_str e c k1
 | _=>exact (show False from hi).elim
theorem zbb {w:W}{v:V}{b:Bool}(r:JI K H O w v)(e:QD w=Dn b):CW K H v b:=by
 cases w <;> rw [JI] at r <;> first | (subst r;cases e;rfl) | (cases e;done) | skip
 obtain ⟨p,xs,ev,hs,_⟩:=r;subst ev;cases e;exact ⟨⟨xs,hs⟩,rfl⟩
end
section
variable {X:Cx}{K:Tt}{o e e':Expr}{mo:ME}{ma:MA}{apos cpos:Pos}
end
def Ei (m:Nat):List Nat:=(VD 8).filter fun j=>m.testBit j
def rk (m j:Nat):Nat:=((VD j).filter fun i=>m.testBit i).length
def pq (h:Int):Nat->Nat×Nat
 | 0=>(Wr h % 8,Wr h)
 | n+1=>SetTable.leap 7 (pq h n).1 (pq h n).2
def pb (h:Int)(n:Nat):SetTable.Probe:=⟨(pq h n).1,0,(pq h n).1,(pq h n).2,Go⟩
theorem uT (h:Int):∀ n,(pq h n).2=Wr h / 32^n
 | 0=>by simp [pq]
 | n+1=>by
  show (pq h n).2 / 32=_;rw [uT h n,Nat.div_div_eq_div_mul,Nat.pow_succ]
theorem zaU (h:Int)(n:Nat)(hn:13<=n):(pq h n).2=0:=by
 rw [uT];apply Nat.div_eq_of_lt;have h1:Wr h<2^64:=by
  unfold Wr;have a:=Wa h (show (0:Int)<2^64 by decide);have b:=WQ h (show (2^64:Int)≠0 by decide);lia
 have h2:32^13<=32^n:=Xk (by decide) hn;have h3:(2:Nat)^64<32^13:=by decide
 lia
def lcg:Nat->Nat->Nat
 | i,0=>i
 | i,k+1=>(lcg i k*5+1) % 8
theorem Cy (h:Int):∀ k,(pq h (13+k)).1=lcg (pq h 13).1 k
 | 0=>rfl
 | k+1=>by
  show ((pq h (13+k)).1*5+1+(pq h (13+k)).2 / 32) % (7+1)=_;rw [zaU h _ (by lia),Cy h k];rfl
theorem least {P:Nat->Bool}:∀ (B:Nat),(∃ n,n<B/\P n=true)->∃ N,N<B/\P N=true/\∀ n,n<N->P n=false
 | 0,⟨n,h,_⟩=>absurd h (Nat.not_lt_zero _)
 | B+1,⟨n,h,e⟩=>by
  by_cases q:∃ n,n<B/\P n=true
  ·obtain ⟨N,a,b,c⟩:=least B q;exact ⟨N,by lia,b,c⟩
  ·refine ⟨n,h,e,fun i hi=>?_⟩;cases r:P i with
   | false=>rfl
   | true=>exact absurd ⟨i,by lia,r⟩ q
section
variable {prog:T8}{w:Uv}{A:Ug}{E:Tw->Tz->Prop}{s:Tz}{m:Nat}{ka:Nat->List Int}{ad:Nat->Addr}{t:Ww}{a b:Addr}{k:List Int}
abbrev TK (prog:T8)(w:Uv)(h:Heap)(k:List Int)(a:Addr):Prop:=IsTupleKey (intKind prog w) h k a
def hT (prog:T8)(w:Uv)(k:List Int):Int:=tupleKeyHash (intKind prog w) k
def elL (prog:T8)(w:Uv)(m:Nat)(ka:Nat->List Int)(ad:Nat->Addr):List (Int×Tw):=(Ei m).map fun j=>(hT prog w (ka j),Value.ref (ad j))
structure Rv (prog:T8) (w:Uv) (h:Heap) (m:Nat) (ka:Nat->List Int) (ad:Nat->Addr) (t:Ww):Prop where
 mask:t.mask=7
 place:t.place=(Ei m).toArray
 dum:t.dummies = #[]
 m8:m<256
 few:(Ei m).length<=4
 key:∀ j,j∈Ei m->TK prog w h (ka j) (ad j)
 way:∀ j,j∈Ei m->∃ n,(pq (hT prog w (ka j)) n).1=j/\∀ i,i<n->m.testBit (pq (hT prog w (ka j)) i).1=true
def Ss (es:Array (Int×Tw))(ep:Nat)(t:Ww):Obj:={ cls:=.type "set",dict:=Go,data:=.set es ep t }
def K3 (prog:T8)(w:Uv)(h:Heap)(a:Addr)(m:Nat)(ka:Nat->List Int)(ad:Nat->Addr):Prop:=∃ ep t,h.get? a=Dn (Ss (elL prog w m ka ad).toArray ep t)/\Rv prog w h m ka ad t
end
section
variable {prog:T8}{w:Uv}{A:Ug}{E:Tw->Tz->Prop}{R:Result->Tz->Prop}
structure zag (prog:T8) (w:Uv) (z:Nat) (h:Heap) (S:Addr) (seen:List (List Int)) (m:Nat) (ka:Nat->List Int) (ad:Nat->Addr):Prop where
 set:K3 prog w h S m ka ad
 low:∀ j,j∈Ei m->ad j<z
 mem:∀ k,k∈seen↔∃ j,j∈Ei m/\ka j=k
 len:(Ei m).length=seen.length
end
section
variable {prog:T8}{w:Uv}{A:Ug}{E:Tw->Tz->Prop}{s:Tz}
end
section
variable {X:Cx}{K:Tt}
end
section
variable {κ : Type} [DecidableEq κ]
end
section
variable {P:T8}{w:Uv}{H:Hp}{h:Heap}{a:Addr}
end
section
variable {X:Cx}{pins:List (Addr×Obj)}{Z : St}{H:Hp}{s:Tz}{a:Addr}{y v:V}{u r:Tw}{o:Option V}{A:Ug}{E:Tw->Tz->Prop}
end
section
variable {X:Cx}{pins:List (Addr×Obj)}{Z : St}{H:Hp}{s:Tz}{a:Addr}{kvs:List (Key×V)}{k:Key}{u:Tw}{A:Ug}{E:Tw->Tz->Prop}
end
section
variable {X:Cx}{o i e value:Expr}{pos pos' tpos:Pos}{td ty tv:TE}
end
section
variable {X:Cx}{pos:Pos}
end
section
variable {K:Tt}{H:Hp}{O : Mu}{kvs:List (Key×W)}{kvv:List (Key×V)}{k:Key}{w:W}{v:V}
end
section
variable {X:Cx}{a b:Expr}{ma mb:ME}{pos:Pos}
inductive DDs (X:Cx):List (Option Expr)->List Expr->List (Key×ME)->Prop
 | nil:DDs X [] [] []
 | cons {x:Str} {j pos} {v:Expr} {m:ME} {ks:List (Option Expr)} {vs:List Expr} {r:List (Key×ME)} (h:DE X v m) (t:DDs X ks vs r):DDs X (Dn (.Constant (.str x) j pos)::ks) (v::vs) ((.inr x,m)::r)
end
inductive Nj (w:Uv) (K:Tt):List DictEntry->List (Key×W)->Prop
 | nil:Nj w K [] []
 | cons {x:Str} {t} {v:V} {u:Tw} {d:W} {es:List DictEntry} {tbl:List (Key×W)} (r:RelV v u) (q:∀ H O,JI K H O d v) (h:Nj w K es tbl):Nj w K (⟨PyData.keyHash w.params x,.str x t,u⟩::es) ((.inr x,d)::tbl)
section
variable {X:Cx}{b:Expr}{mb:ME}{pos p:Pos}{x:Str}{a:Addr}{tbl:List (Key×W)}
end
section
variable {X:Cx}{pos p p':Pos}{x:Str}{a:Addr}{tbl:List (Key×W)}
end
section
variable {X:Cx}
def zae:MM:=fun x ws h Q=>match ws with
 | [.str k]=>(match cD h x with
  | some us=>∃ (ns:List Str) (j:Nat),us=ns.map W.str/\ns[j]?=Dn k/\(∀ m,m<j->ns[m]?≠Dn k)/\Q (.int j) h
  | none=>False)
 | ws=>J2 x ws h Q
theorem uU:cW X (.builtin "isinstance") (fun xs H Q=>∃ x b,xs=[x,.ty "str"]/\(CW X.K H x b\/(∃ p ys,x=.ref p/\Am X.K H p ys/\b=false))/\Q (.bl b) H):=by
 intro pins s Z H xs us Q I r h;obtain ⟨x,b,rfl,hi,q⟩:=h;rcases hi with hi | ⟨p,ys,rfl,hS,rfl⟩
 ·exact vf pins s Z H _ us Q I r ⟨x,b,rfl,hi,q⟩
 ·obtain ⟨u,w',rfl,rx,ru⟩:=vals2 r;cases ru;cases rx;have k1:EP X pins Z Q (.bool false) { s with toks:=s.toks+1 }:=⟨.bl false,H,I.tok _,rfl,q⟩
  obtain ⟨its,_,pl,_⟩:=I.list hS;obtain ⟨o,e,c,_⟩:=pl.isList;exact IsiPair.list_str e c k1
def Q7 (h:Gh)(w:W):Option Bool:=match QD w with
 | some b=>Dn b
 | none=>(match cD h w with
  | some _=>Dn false
  | none=>Go)
def Ax:MC:=fun ws h Q=>match ws with
 | [w,.ty T]=>T = "str"/\(match Q7 h w with
  | some b=>Q (.bl b) h
  | none=>False)
 | _=>False
theorem BZ:iJ X (.builtin "isinstance") Ax:=⟨_,uU,by
 intro H O h vs ws Qw Q R r m k;unfold Ax at m;split at m
 ·rename_i w T;obtain ⟨eT,m⟩:=m;subst eT;split at m
  ·rename_i b eb;obtain ⟨v,x,e,rv,rx⟩:=Hw r;rw [JI] at rx;subst e rx;refine ⟨v,b,rfl,?_,k _ _<|.bl R m⟩;unfold Q7 at eb;split at eb
   ·rename_i b' eb';cases eb;exact .inl<|zbb rv eb'
   ·split at eb
    ·rename_i us ev;cases eb;obtain ⟨p,ys,ex,hs,rs⟩:=bZ R rv ev;exact .inr ⟨p,ys,ex,hs,rfl⟩
    ·cases eb
  ·exact m.elim
 ·exact m.elim⟩
end
section
variable {X:Cx}{K:Tt}{H:Hp}{O : Mu}{h:Gh}
end
section
variable {X:Cx}{a b c:Expr}{ma mb mc:ME}{pos:Pos}
end
section
variable {K:Tt}{H:Hp}{O : Mu}{fs:List (Str×W)}{fvs:List (Str×V)}{f:Str}{w:W}{v:V}
end
section
variable {X:Cx}{e o value:Expr}{es:List Expr}{ma mo mv:ME}{mr:MA}{f:Str}{C:Addr}{pos pos' apos:Pos}
end
section
variable {prog:T8}{w:Uv}{A:Ug}{E:Tw->Tz->Prop}{s:Tz}
theorem zaz:typeLookup (.type "list_reverseiterator") "__len__" = pure Go:=by rw [Wj,Vr];kernel_rfl
theorem yX:typeLookup (.type "list_reverseiterator") "__length_hint__" = pure (Dn (.builtin "list_reverseiterator.__length_hint__")):=by rw [Wj,Vr];kernel_rfl
theorem zap {r:Addr}{Q:Bool->Tz->Prop}(hT:s.TypeIs (.ref r) "list_reverseiterator")(h:Q false s):Us (Uz prog w) A (Builtin.List.listLengthHint (.ref r)) Q E s:=by
 unfold Builtin.List.listLengthHint;refine Tv<|Xz hT zaz ?_
 dsimp only;refine W2 (fun hab=>absurd hab<|by decide)<|fun _=>?_
 refine W2 (fun hab=>absurd hab<|by decide)<|fun _=>?_
 refine Tv<|Xz hT yX ?_
 generalize hid:("list_reverseiterator.__length_hint__" : String)=id0
 wp_delta
 rw [show splitId id0=Dn ("list_reverseiterator", "__length_hint__") from by subst hid;decide +kernel];subst hid;refine Tv<|wpAny_isInstance (T := "list_reverseiterator") (b:=true) hT (by rw [Wu];kernel_rfl) ?_
 refine W2 (fun hab=>absurd hab<|by decide)<|fun _=>?_
 refine W2 (fun _=>?_)<|fun hab=>absurd (by decide +kernel) hab
 refine W2 (fun hab=>absurd hab<|by decide +kernel)<|fun _=>?_
 exact TV h
theorem tX {R:Result->Tz->Prop}{r l:Addr}{items:Array Tw}(hh:A.handled=Go)(hit:s.heap.IsRevIter r l ((items.size:Int) - 1))(hl:s.heap.IsList l items)(hne:l≠r)(S:Addr)(hSr:S≠r)(hSl:S≠l)(res:Tw)(c₀ : Nat)(hS:s.heap.get? S=Dn { cls:=.type "list",data:=.seq #[] c₀ })
  (hR:∀ h' tk acc' c',(∀ b o,b≠S->b≠r->s.heap.get? b=Dn o->h'.get? b=Dn o)->h'.get? S=Dn { cls:=.type "list",dict:=Go,data:=.seq acc' c',slots:=#[] }->ItemsOf (fun i v=>items[items.size - 1 - i]?=Dn v) acc' items.size->R (.ok (.ret res)) { s with heap:=h',toks:=tk }) (hn:items.size<=Ua) :
  Us (Uz prog w) A.in1 (Builtin.List.listExtendWith (.ref S) (.ref r) res)
   (fun fin s'=>match fin with | .done f=>R (.ok f) s' | .again c'=>c'.quiet=true/\codeAny (Uz prog w) A c' R s') (fun e s'=>R (.error e) s') s:=by
 have hSf:S∉[r,l]:=by simp only [Ur,Vn,or_false,not_or];exact ⟨hSr,hSl⟩
 have W:=Walks.listRev (prog:=prog) (w:=w) (A:=A.in1) hh r l hne items;have st:(fun (i:Nat) (h:Heap)=>i<=items.size/\h.IsRevIter r l ((items.size:Int) - 1 - (i:Int))/\h.IsList l items) 0 s.heap:=⟨Wh _,by simpa using hit,hl⟩
 have key:∀ (h:Heap) (c₁ tk:Nat),(fun (i:Nat) (h:Heap)=>i<=items.size/\h.IsRevIter r l ((items.size:Int) - 1 - (i:Int))/\h.IsList l items) 0 h->(∀ b o,b≠S->s.heap.get? b=Dn o->h.get? b=Dn o) ->
   h.get? S=Dn { cls:=.type "list",data:=.seq #[] c₁ }->codeAny (Uz prog w) A (.builtin "list.extend.loop" ⟨[.ref S,.ref r,res],[]⟩) R { s with heap:=h,toks:=tk }:=by
  intro h c₁ tk hst hk hS₁;refine codeAny_extend_loopS W.toS hn S hSf res items.size 0 _ #[] c₁ rfl (Wh _) hst hS₁ (ItemsOf.nil _) fun s' acc' c' hm hS' hacc=>?_;rw [Moved.eq_with hm];refine hR s'.heap s'.toks acc' c' (fun b o hb hr e=>hm.heap b o (fun hmem=>?_)<|hk b o hb e) hS' hacc;rcases Ur.mp hmem with e' | hmem
  ·exact hb e'
  ·exact hr<|Va.mp hmem
 unfold Builtin.List.listExtendWith;refine Tv<|wpAny_typeOf (T := "list_reverseiterator") hit.typeIs ?_
 have h1:Builtin.List.listSameRef (.ref S) (.ref r)=false:=by simp [Builtin.List.listSameRef,hSr]
 have n1:(Value.type "list_reverseiterator"==Value.type "list")=false:=by decide +kernel
 have n2:(Value.type "list_reverseiterator"==Value.type "tuple")=false:=by decide +kernel
 simp only [h1,n1,n2,Bool.or_false,Wz,if_false];refine Tv<|Xo hit ?_
 refine Tv<|V5<|zap hit.typeIs ?_
 refine W2 (fun _=>?_)<|fun _=>TV ⟨plainId_quiet PySem.F.plain_extend_loop _,key _ c₀ _ st (fun b o _ e=>e) hS⟩
 refine Tv<|wpAny_rule ?_
 refine Tv ?_;show Us _ _ (updateSeq S (·.push .none) >>= fun _=>updateSeq S (·.pop)) _ _ _;refine Tv<|wpAny_updateSeq hS rfl ?_
 have hS₂:=U3 (XM (·.push Value.none)) hS rfl;refine wpAny_updateSeq (hz:=by seq_fits) hS₂ rfl ?_;have hS₃:=U3 (XM (·.pop)) hS₂ rfl;refine TV ⟨plainId_quiet PySem.F.plain_extend_loop _,key _ _ _ ?_ (fun b o hb e=>?_) hS₃⟩
 ·refine W.frame 0 _ _ st fun b hb o e=>?_;have hbS:b≠S:=fun h=>hSf (h ▸ hb)
  exact (Ui _ _<|VR hbS).trans ((Ui _ _<|VR hbS).trans e)
 ·exact (Ui _ _<|VR hb).trans ((Ui _ _<|VR hb).trans e)
end
theorem zE:∀ {xs:List V} {us:List Tw},Rj xs us->Rj xs.reverse us.reverse:=by
 intro xs us r;induction r with
 | nil=>exact .nil
 | cons h t ih=>
  rw [WY,WY];exact Rj.append ih<|.cons h .nil
theorem qN {K:Tt}{H:Hp}{O : Mu}:∀ {ws:List W} {vs:List V},aG K H O ws vs->aG K H O ws.reverse vs.reverse
 | [],vs,r=>by rw [aG] at r;subst r;exact aG.nil
 | w::ws,vs,r=>by
  rw [aG] at r;obtain ⟨v,vs',e,rv,r⟩:=r;subst e;rw [WY,WY];exact aG.append (qN r)<|aG.cons rv aG.nil
section
variable {X:Cx}
end
section
variable {X:Cx}{e:Expr}{me:ME}{x:Str}{a:Addr}{tbl:List (Key×W)}{p pos:Pos}
end
section
variable {X:Cx}{Γ : St->Prop}{C:Addr}{o e:Expr}{es:List Expr}{mo:ME}{mr:MA}{pos apos:Pos}
end
def pF (kvs:List (List Int×W))(k:List Int):Option W:=(kvs.find? fun x=>decide (x.1=k)).map (·.2)
section
variable {X:Cx}{pins:List (Addr×Obj)}{Z : St}{H:Hp}{s:Tz}{K:Tt}{O : Mu}
end
section
variable {X:Cx}{a b o i:Expr}{ma mb:ME}{td ty:TE}{pos:Pos}
end
section
variable {prog:T8}{w:Uv}{A:Ug}{E:Tw->Tz->Prop}{s:Tz}
end
section
variable {X:Cx}
end
def ps (h:Int):Nat->Nat×Nat
 | 0=>(Wr h % 32,Wr h)
 | n+1=>SetTable.leap 31 (ps h n).1 (ps h n).2
def liv (o:Array (Option Nat)):List (Nat×Nat):=(VD 32).filterMap fun j=>(o.getD j Go).map (j,·)
structure Lay (o:Array (Option Nat)) (k:Nat):Prop where
 sz:o.size=32
 len:(liv o).length=k
 low:∀ p,p∈liv o->p.2<k
section
variable {prog:T8}{w:Uv}{A:Ug}{E:Tw->Tz->Prop}{s:Tz}{a:Addr}
end
section
variable {prog:T8}{w:Uv}{A:Ug}{E:Tw->Tz->Prop}{s:Tz}{m:Nat}{ka:Nat->List Int}{ad:Nat->Addr}{t:Ww}{a b:Addr}{k:List Int}
end
section
variable {prog:T8}{w:Uv}{A:Ug}{E:Tw->Tz->Prop}{R:Result->Tz->Prop}
end
section
variable {prog:T8}{w:Uv}{A:Ug}{E:Tw->Tz->Prop}{s:Tz}
end
section
variable {X:Cx}{K:Tt}
end
section
variable {X:Cx}{K:Tt}{o e:Expr}{mo:ME}{apos cpos:Pos}
end
section
variable {prog:T8}{w:Uv}{A:Ug}{s:Tz}{K:Tt}{x C:Addr}{R:Result->Tz->Prop}
end
section
variable {prog:T8}{w:Uv}{A:Ug}{E:Tw->Tz->Prop}{s:Tz}{K:Tt}{x dx C f:Addr}{mA:Str->Option Tw}{name:Str}{v:Tw}
end
section
variable {prog:T8}{w:Uv}{A:Ug}{E:Tw->Tz->Prop}{s:Tz}{K:Tt}{x D:Addr}{ox:Obj}
end
section
variable {prog:T8}{w:Uv}{A:Ug}{E:Tw->Tz->Prop}{h:Heap}{g:Array GenState}{d:Drawn}{t:Nat}{os:OsState}
variable {nm q:Str}{C N:Addr}{bs bm bmB:List Tw}{hdct:Bool}{sn:List Str}{sub:List Tw}{ab:Bool}{col:Option Bool}{dd:Option Addr}{k0 k1 k2 k3 k5:Option Tw}{B newId initId:String}{K:Tt}{f:Addr}
end
section
variable {prog:T8}{w:Uv}{M:Model}{A:Ug}{E:Tw->Tz->Prop}{s:Tz}{env:Env}{K:Tt}{f:Addr}
variable {nm q:Str}{C N:Addr}{bs bm bmB:List Tw}{hdct:Bool}{sn:List Str}{sub:List Tw}{ab:Bool}{col:Option Bool}{dd:Option Addr}{k0 k1 k2 k3 k5:Option Tw}{B newId initId:String}
end
section
variable {X:Cx}{o value:Expr}{f:Str}{C:Addr}{pos pos':Pos}{ta tv:TE}
end
section
variable {X:Cx}{pins:List (Addr×Obj)}{Z : St}{H:Hp}{s:Tz}{e:Addr}
end
section
variable {X:Cx}{pins:List (Addr×Obj)}{Z : St}{H:Hp}{s:Tz}{C fi:Addr}{x f:Str}{np cpos pos:Pos}{e:Expr}{t:TA}{k:Nat}{fd:Uw}{ps:List Str}
end
section
variable {X:Cx}{Γ : St->Prop}{e:Expr}{pos:Pos}{ma:ME}
end
section
variable {X:Cx}{e:Expr}{f:Str}{pos:Pos}{ma:ME}
end
section
variable {X:Cx}
end
section
variable {X:Cx}{Γ : St->Prop}{tg:Expr}
end
section
variable {X:Cx}{K:Tt}
end
section
variable {X:Cx}{mr:MA}{pos p:Pos}{e:Expr}{es:List Expr}{k:Nat}{fs:List (Addr×SX)}
inductive VFs (X:Cx) (k:Nat):List (Addr×SX)->Prop
 | nil:VFs X k []
 | cons {f:Addr} {fd:Uw} {ps:List Str} {ms:SX} {fs:List (Addr×SX)} (F:cH X.prog X.w X.K X.mg X.base Ao k f fd ps (lift X.K ms)) (hk:Vq X.K (.ref f)=true) (hb:Binds X.K fd ps []) (r:VFs X k fs):VFs X k ((f,ms)::fs)
end
def Cmp (P:T8)(w:Uv)(A:Ug)(s:Tz)(kd:W4)(rk:Tw->Nat)(good:Tw->Prop):Prop:=
 ∀ (E:Tw->Tz->Prop) (Q:Bool->Tz->Prop) (x y:Tw),good x->good y->Q (decide (rk x<rk y)) s->Us (Uz P w) A (keyLt' kd x y) Q E s
section
variable {P:T8}{w:Uv}{A:Ug}{E:Tw->Tz->Prop}{s:Tz}{kd:W4}{rk:Tw->Nat}{good:Tw->Prop}
def Rk (rk:Tw->Nat)(a:Array XQ)(i:Nat):Nat:=match a[i]? with
 | some p=>rk p.1
 | none=>0
def xU (rk:Tw->Nat)(a:Array XQ)(i j:Nat):Prop:=∀ p q,i<=p->p<q->q<j->Rk rk a p<Rk rk a q
structure Keys (rk:Tw->Nat) (good:Tw->Prop) (a:Array XQ):Prop where
 good:∀ p∈a.toList,good p.1
 nd:(a.toList.map fun p=>rk p.1).Nodup
structure SOk (kd:W4) (rk:Tw->Nat) (good:Tw->Prop) (st:X3):Prop where
 kind:Xp st=kd
 failed:failedOf st=Go
 keys:Keys rk good (arrOf st)
theorem w_lt (C:Cmp P w A s kd rk good){x y:XQ}{st:X3}{Q:Option Bool->X3->Prop}(hk:Xp st=kd)(hx:good x.1)(hy:good y.1)(q:Q (Dn (decide (rk x.1<rk y.1))) st):wpS (Uz P w) A E s (lt' x y) Q st:=by
 rw [lt'_eq];refine wpS_bind<|wpS_get ?_
 rw [hk];exact wpS_bind<|wpS_lift<|W3<|C _ _ _ _ hx hy ⟨rfl,wpS_pure q⟩
structure Within (a b:Array XQ) (lo hi:Nat):Prop where
 perm:b.Perm a
 out:∀ k,k<lo\/hi<=k->b[k]?=a[k]?
end
section
variable {P:T8}{w:Uv}{A:Ug}{E:Tw->Tz->Prop}{s:Tz}{d it:Addr}{es:Array DictEntry}{ep i:Nat}
end
section
variable {P:T8}{w:Uv}{A:Ug}{E:Tw->Tz->Prop}{s:Tz}{kd:W4}{rk:Tw->Nat}{good:Tw->Prop}
structure zaj (B:Nat->Bool) (n:Nat) (st:X3) (x:Nat) (c:Option (Option Nat)×Nat×Nat) (st':X3):Prop where
 s:st'=st
 e:c.1=Go
 a:c.2.1<=c.2.2
 b:c.2.2<=n
 d:c.2.2 - c.2.1<=n - x
 lo:∀ i,i<c.2.1->B i=true
 hi:∀ i,c.2.2<=i->i<n->B i=false
structure zai (B:Nat->Bool) (v:Bool) (mx:Nat) (st:X3) (x:Nat) (c:Option (Option Nat)×Nat×Nat) (st':X3):Prop where
 s:st'=st
 e:c.1=Go
 a:c.2.1<c.2.2
 b:x<c.2.2
 d:c.2.1<mx
 h:B c.2.1=v
end
section
variable {rk:Tw->Nat}
def SL (rk:Tw->Nat)(l:List XQ):Prop:=l.Pairwise fun x y=>rk x.1<rk y.1
def Be (rk:Tw->Nat)(xs ys:List XQ):Prop:=∀ x∈xs,∀ y∈ys,rk x.1<rk y.1
def ML (rk:Tw->Nat)(A B out al bl:List XQ):Prop:=∃ a1 b1,A=a1++al/\B=b1++bl/\out.Perm (a1++b1)/\SL rk out/\Be rk out al/\Be rk out bl
def Mrg (rk:Tw->Nat)(A B r:List XQ):Prop:=r.Perm (A++B)/\SL rk r
end
section
variable {P:T8}{w:Uv}{A:Ug}{E:Tw->Tz->Prop}{s:Tz}{kd:W4}{rk:Tw->Nat}{good:Tw->Prop}
def Ek (st st':X3):Prop:=arrOf st'=arrOf st/\Xp st'=Xp st/\failedOf st'=failedOf st/\pendingOf st'=pendingOf st
structure Two (rk:Tw->Nat) (good:Tw->Prop) (a b:Array XQ):Prop where
 sa:SL rk a.toList
 sb:SL rk b.toList
 ga:∀ p∈a.toList,good p.1
 gb:∀ p∈b.toList,good p.1
 ne:∀ x∈a.toList,∀ y∈b.toList,rk x.1≠rk y.1
structure LI (rk:Tw->Nat) (a b out:Array XQ) (ia ib:Nat):Prop where
 ml:ML rk a.toList b.toList out.toList (a.toList.drop ia) (b.toList.drop ib)
 ia:ia+1<a.size
 ib:ib<b.size
structure zab (rk:Tw->Nat) (a b:Array XQ) (st:X3) (n:Nat) {β : Type} (c:Option (Array XQ)×Array XQ×Nat×Nat×β) (st':X3):Prop where
 sm:Ek st st'
 e:c.1=Go
 li:LI rk a b c.2.1 c.2.2.1 c.2.2.2.1
 le:n<=c.2.2.1+c.2.2.2.1
structure zaa (rk:Tw->Nat) (a b:Array XQ) (st:X3) {β : Type} (c:Option (Array XQ)×β) (st':X3):Prop where
 sm:Ek st st'
 r:∃ l,c.1=Dn l/\Mrg rk a.toList b.toList l.toList
end
section
variable {rk:Tw->Nat}
def MH (rk:Tw->Nat)(A B o ah bh:List XQ):Prop:=∃ a2 b2,A=ah++a2/\B=bh++b2/\o.Perm (a2++b2)/\SL rk o/\Be rk ah o/\Be rk bh o
end
section
variable {P:T8}{w:Uv}{A:Ug}{E:Tw->Tz->Prop}{s:Tz}{kd:W4}{rk:Tw->Nat}{good:Tw->Prop}
structure HI (rk:Tw->Nat) (a b out:Array XQ) (na nb:Nat):Prop where
 mh:MH rk a.toList b.toList out.toList.reverse (a.toList.take na) (b.toList.take nb)
 pa:0<na
 pb:1<nb
 la:na<=a.size
 lb:nb<=b.size
structure GoH (rk:Tw->Nat) (a b:Array XQ) (st:X3) (n:Nat) {β : Type} (c:Option (Array XQ)×Nat×Nat×Array XQ×β) (st':X3):Prop where
 sm:Ek st st'
 e:c.1=Go
 li:HI rk a b c.2.2.2.1 c.2.1 c.2.2.1
 le:c.2.1+c.2.2.1+n<=a.size+b.size
structure Runs (rk:Tw->Nat) (a:Array XQ) (sa k sb n' e:Nat):Prop where
 h1:sa+k<=sb
 h2:sb+n'<=e
 h3:e<=a.size
 r1:xU rk a sa sb
 r2:xU rk a sb e
 lo:∀ p,sa<=p->p<sa+k->Rk rk a p<Rk rk a sb
 hi:∀ p,sb+n'<=p->p<e->Rk rk a (sb - 1)<Rk rk a p
def Cont (rk:Tw->Nat)(a:Array XQ):List (Nat×Nat×Nat)->Nat->Nat->Prop
 | [],i,j=>i=j
 | (s,n,_)::r,i,j=>s=i/\0<n/\xU rk a i (i+n)/\Cont rk a r (i+n) j
structure zac (kd:W4) (rk:Tw->Nat) (good:Tw->Prop) (a0:Array XQ) (lo:Nat) (st:X3):Prop where
 ok:SOk kd rk good st
 perm:(arrOf st).Perm a0
 cont:Cont rk (arrOf st) (pendingOf st).toList 0 lo
end
section
variable {P:T8}{w:Uv}{A:Ug}{E:Tw->Tz->Prop}{s:Tz}
def rankOf (ks:List (List Int))(k:List Int):Nat:=ks.countP fun l=>decide (l<k)
structure KyT (T:Heap->Tw->List Int->Prop):Prop where
 fn:∀ {h:Heap} {v:Tw} {k l:List Int},T h v k->T h v l->k=l
 of:∀ {h h':Heap} {v:Tw} {k:List Int},T h v k->(∀ b o,o.cls=.type "tuple"->h.get? b=Dn o->h'.get? b=Dn o)->T h' v k
abbrev PdT (T:Heap->Tw->List Int->Prop)(h:Heap):List (List Int)->List Tw->Prop:=Xb fun k v=>T h v k
section
variable {T:Heap->Tw->List Int->Prop}(F:KyT T)
include F
open Classical in
noncomputable def keyV (_:KyT T)(h:Heap)(v:Tw):List Int:=if e:∃ k,T h v k then e.choose else []
noncomputable def rkV (F:KyT T)(h:Heap)(ks:List (List Int))(v:Tw):Nat:=rankOf ks (keyV F h v)
end
structure SkT (P:T8) (w:Uv) (A:Ug) {T:Heap->Tw->List Int->Prop} (F:KyT T) (kd:W4) (ks:List (List Int)) (vs:List Tw):Prop where
 kind:∀ {E:Tw->Tz->Prop} {s:Tz} {Q:W4->Tz->Prop},2<=vs.length->PdT T s.heap ks vs->Q kd s->Us (Uz P w) A (keyKind' vs.toArray) Q E s
 cmp:∀ {s:Tz},PdT T s.heap ks vs->Cmp P w A s kd (rkV F s.heap ks) (·∈vs)
end
section
variable {X:Cx}{K:Tt}
end
section
variable {X:Cx}{o e1 e2:Expr}{mo:ME}{ma:MA}{apos cpos:Pos}
end
section
variable {X:Cx}{K:Tt}
variable {o e:Expr}{mo:ME}{ma:MA}{apos cpos:Pos}
end
section
variable {prog:T8}{w:Uv}{A:Ug}{R:Result->Tz->Prop}{E:Tw->Tz->Prop}{L I:Addr}{ns:List Int}{its:List Tw}
end
section
variable {X:Cx}
end
section
open AutoSeq1 (wpAny_loadPart')
end
section
variable {prog:T8}{w:Uv}{A:Ug}{E:Tw->Tz->Prop}{s:Tz}
end
section
variable {X:Cx}{K:Tt}
end
section
variable {prog:T8}{w:Uv}{A:Ug}{R:Result->Tz->Prop}{L I:Addr}{its:List Tw}
end
section
variable {X:Cx}{K:Tt}
def Pz (h:Gh)(x y:W):Option Src:=match qj x,y with
 | some as,.loc n=>(match h.c n with
  | some (.lst bs)=>Dn ⟨tM as bs,Dn (n,bs)⟩
  | _=>Go)
 | _,_=>Go
end
section
variable {X:Cx}
end
section
variable {prog:T8}{w:Uv}{A:Ug}{E:Tw->Tz->Prop}{s:Tz}
end
section
variable {X:Cx}{K:Tt}
end
section
variable {prog:T8}{w:Uv}{A:Ug}{E:Tw->Tz->Prop}{s:Tz}{r l:Addr}{items:Array Tw}
theorem qu {Q:List Tw->Tz->Prop}(hh:A.handled=Go)(hit:s.heap.IsRevIter r l ((items.size:Int) - 1))(hl:s.heap.IsList l items)(hne:l≠r)(hn:items.size<=Ua)
  (hQ:∀ (h':Heap) (tk:Nat) (acc':Array Tw),s.heap.objs.size<h'.objs.size->(∀ b o,b≠r->s.heap.get? b=Dn o->h'.get? b=Dn o)->ItemsOf (fun i v=>items[items.size - 1 - i]?=Dn v) acc' items.size->Q acc'.toList { s with heap:=h',toks:=tk }):Us (Uz prog w) A (collect (.ref r)) Q E s:=by
 have lr:r<s.heap.objs.size:=by obtain ⟨_,e,_⟩:=hit;exact TY e
 have ll:l<s.heap.objs.size:=by obtain ⟨_,e,_⟩:=hl;exact TY e
 unfold collect;refine Tv<|wpAny_runValue<|codeAny_builtin F.entry_proto_collect ?_
 rw [Around.under_plainId F.plain_proto_collect _];show Us _ A.in1 (newList [] >>= fun l=>again (.builtin "list.__iadd__" ⟨[l,.ref r],[]⟩)) _ _ s;refine Tv<|U5 ?_
 refine TV ⟨plainId_quiet F.plain_list_iadd _,codeAny_builtin F.entry_list_iadd ?_⟩;rw [Around.under_plainId F.plain_list_iadd _];show Us _ A.in1 (Builtin.List.listExtendWith (.ref s.heap.objs.size) (.ref r) (.ref s.heap.objs.size)) _ _ _;have hS₁ : (s.heap.push { cls:=.type "list",data:=.seq ([]:List Tw).toArray }).get? s.heap.objs.size=Dn { cls:=.type "list",data:=.seq #[] 0 }:=T9 _ rfl;refine tX (A:=A) (R:=fun (r:Result) s'=>match r with
  | .ok (.ret v)=>Us (Uz prog w) A (match v with
   | .ref a=>do
    match (<-load a).data with
    | .seq xs _=>pure xs.toList
    | _=>unsupported "internal:collect"
   | _=>unsupported "internal:collect") Q E s'
  | .ok _=>False
  | .error e=>E e s') (s:={ s with heap:=s.heap.push { cls:=.type "list",data:=.seq ([]:List Tw).toArray } }) hh (hit.at fun o e=>TJ _ e) (hl.at fun o e=>TJ _ e) hne _ (W9 lr) (W9 ll) _ _ hS₁ (fun h' tk acc' c' hk hS' hacc=>?_) hn
 show Us _ A (load s.heap.objs.size >>= _) _ _ _;refine Tv<|wpAny_load hS' ?_
 exact TV<|hQ h' tk acc' (TY hS') (fun b o hb e=>hk b o (Ud<|TY e) hb<|TJ _ e) hacc
end
section
variable {X:Cx}
end
section
variable {P:T8}{w:Uv}{A:Ug}{E:Tw->Tz->Prop}{s:Tz}
end
section
variable {X:Cx}{K:Tt}
end
section
variable {X:Cx}{o e1 e2:Expr}{mo:ME}{ma:MA}{apos cpos:Pos}
end
section
variable {prog:T8}{w:Uv}{A:Ug}{R:Result->Tz->Prop}{E:Tw->Tz->Prop}{L I:Addr}{ns:List Int}{its:List Tw}
end
section
variable {X:Cx}
end
section
variable {X:Cx}{a b o i:Expr}{ma mb:ME}{td ty:TE}{pos:Pos}
end
section
variable {P:T8}{w:Uv}{A:Ug}{E:Tw->Tz->Prop}{s:Tz}
end
section
variable {X:Cx}
end
def Fk (P:T8)(w:Uv)(K:Tt)(mg:Str->Option Tw)(base:Heap)(k:Nat)(x:Str)(ms:SX):Prop:=∃ f fd ps,cH P w K mg base Ao k f fd ps (lift K ms)/\mg x=Dn (.ref f)/\Vq K (.ref f)=true/\Binds K fd ps []
section
variable {X:Cx}{e e2 e3 e4:Expr}{es:List Expr}{mr:MA}{ma mb mc md:ME}{pos:Pos}{k:Nat}{zl:List Str}{x:Str}{p:Pos}
theorem aC (h1:DE X e ma)(h2:DP X es mr)(s:Ag e=false:=by with_unfolding_all rfl):DP X (e::es) (aq ma mr):=ak h1 h2 (aj s)
theorem a1 (h1:DE X e ma)(s:Ag e=false:=by with_unfolding_all rfl):DP X [e] (aq ma aP):=aC h1 aA s
theorem a2 (h1:DE X e ma)(h2:DE X e2 mb)(s1:Ag e=false:=by with_unfolding_all rfl)(s2:Ag e2=false:=by with_unfolding_all rfl):DP X [e,e2] (aq ma (aq mb aP)):=aC h1 (a1 h2 s2) s1
theorem a3 (h1:DE X e ma)(h2:DE X e2 mb)(h3:DE X e3 mc)(s1:Ag e=false:=by with_unfolding_all rfl)(s2:Ag e2=false:=by with_unfolding_all rfl)(s3:Ag e3=false:=by with_unfolding_all rfl):DP X [e,e2,e3] (aq ma (aq mb (aq mc aP))):=aC h1 (a2 h2 h3 s2 s3) s1
theorem dct {T:String}{mc:MC}(hc:iJ X (.type T) mc)(hv:Wk x=Dn (.type T))(ha:DP X (e::es) mr)(z:∀ n∈zl,X.mg n=Go:=by with_unfolding_all assumption)(hz:x∈zl:=by decide)(hg:Gl X x:=by with_unfolding_all rfl)(hn:x ≠ "__name__":=by decide)(hdb:(x==("__debug__" : Str))=false:=by decide)
  (h1:Ag e=false:=by with_unfolding_all rfl) (h2:noStar es=true:=by with_unfolding_all rfl):DE X (.Call (.Name x p) (e::es) [] pos) (Aj mc mr):=cF hc hg (z _ hz) hv ha hn hdb (aj h1) (ao h2)
theorem hh (hc:X.calm=true:=by with_unfolding_all assumption):X.calm=true:=hc
end
section
variable {X:Cx}{e:Expr}{ma:ME}
end
section
variable {X:Cx}{o e1:Expr}{mo:ME}{ma:MA}{apos cpos:Pos}
end
section
variable {X:Cx}
end
section
variable {prog:T8}{w:Uv}{A:Ug}{E:Tw->Tz->Prop}{s:Tz}
end
section
variable {X:Cx}{K:Tt}
end
section
variable {X:Cx}{Γ : St->Prop}{c:Expr}{t:MT}
end
theorem DQ.str {K:Tt}{H:Hp}{O : Mu}{h:Gh}{x:Str}{Q:WK}(R:Tp K O H h)(q:Q (.str x) h):DQ K H O Q (.str x) H:=⟨O,.str x,h,.refl,R,by rw [JI],q⟩
section
variable {X:Cx}
theorem Gj:CQ X (Vv .Add) (fun x y H Q=>∃ a b,x=.str a/\y=.str b/\a.length+b.length<=Ua/\Q (.str (a++b)) H):=by
 intro pins s Z H x y v u Q I rx ry ⟨a,b,ex,ey,hz,q⟩;subst ex ey;obtain ⟨t,rfl⟩:=rx;obtain ⟨t',rfl⟩:=ry;exact add_str (fun t' tk=>⟨.str<|a++b,H,I.tok _,⟨_,rfl⟩,q⟩) hz
def cL:M2:=fun x y h Q=>match x,y with
 | .str a,.str b=>a.length+b.length<=Ua/\Q (.str (a++b)) h
 | x,y=>gM x y h Q
theorem bM:Dd X (Vv .Add) cL:=by
 obtain ⟨r,hr,sr⟩:=fQ (X:=X);refine ⟨_,Gj.or hr,?_⟩;intro H O h x y wx wy Qw Q R rx ry m k;unfold cL at m;split at m
 ·rw [JI] at rx ry;exact .inl ⟨_,_,rx,ry,m.1,k _ _<|.str R m.2⟩
 ·exact .inr<|sr R rx ry m k
theorem IK:CQ X (VL .In) (fun x y H Q=>∃ a b,x=.str a/\y=.str b/\Q (.bl (Txt.contains b a)) H):=by
 intro pins s Z H x y v u Q I rx ry ⟨a,b,ex,ey,q⟩;subst ex ey;obtain ⟨t,rfl⟩:=rx;obtain ⟨t',rfl⟩:=ry;exact SB.contains ⟨.bl _,H,I,rfl,q⟩
def Mv:M2:=fun x y h Q=>match x,y with
 | .str a,.str b=>Q (.bl (Txt.contains b a)) h
 | _,_=>False
theorem Nt:Dd X (VL .In) Mv:=by
 refine ⟨_,IK,?_⟩;intro H O h x y wx wy Qw Q R rx ry m k;unfold Mv at m;split at m
 ·rw [JI] at rx ry;exact ⟨_,_,rx,ry,k _ _<|.bl R m⟩
 ·exact m.elim
theorem ur:cW X (.builtin "len") (fun xs H Q=>∃ x:Str,xs=[.str x]/\x.length<=Ua/\Q (.int (x.length:Int)) H):=by
 intro pins s Z H xs us Q I r ⟨x,e,hz,q⟩;subst e;obtain ⟨u,rfl,t,rfl⟩:=vals1 r;have hn:=gP;exact len_str (by lia) ⟨.int _,H,I.tok _,⟨_,rfl⟩,q⟩
def uw:MC:=fun ws h Q=>match ws with
 | [.str x]=>x.length<=Ua/\Q (.int (x.length:Int)) h
 | ws=>DR ws h Q
theorem Bt:iJ X (.builtin "len") uw:=by
 obtain ⟨r,hr,sr⟩:=vU (X:=X);refine ⟨_,ur.or hr,?_⟩;intro H O h vs ws Qw Q R r' m k;unfold uw at m;split at m
 ·obtain ⟨v,e,rv⟩:=eV r';rw [JI] at rv;subst e rv;exact .inl ⟨_,rfl,m.1,k _ _<|.int R m.2⟩
 ·exact .inr<|sr R r' m k
def isStr (w:W)(P:Prop):Prop:=match w with
 | .str _=>P
 | _=>False
def CT (r:MM)(mo:ME)(ma:MA):ME:=fun Z h Q=>mo Z h fun x h1=>isStr x (ma Z h1 fun xs h2=>r x xs h2 Q)
variable {o e:Expr}{es:List Expr}{mo:ME}{ma:MA}{name:Str}{apos cpos:Pos}{id:String}{r:V->List V->Hp->VK->Prop}{mr:MM}
theorem yH (slot:Slot "str" name id)(hty:typeOf (.builtin id)=pure (.type "method_descriptor"))(hm:MtR X id r)(hs:G9 X.K r mr)(ho:DE X o mo)(ha:DP X (e::es) ma)
  (hbase:attributeBase o name X.env (eval o X.env)=eval o X.env:=by rfl)
  (hfew:((Vy cpos (T3 (e::es) X.env)).all (fun x=>!x.1)&&(backToKw cpos (X6 [] X.env)).all (fun x=>x.1.isSome)
   && decide ((e::es).length+([]:List XJ).length+(if ([]:List XJ).isEmpty then 0 else 1)<30))=true:=by rfl)
  (hline:(apos.endLine==cpos.line)=true:=by rfl) (hst:T3 (e::es) X.env=(false,eval e X.env)::T3 es X.env:=by rfl) (hplain:(Vy cpos (T3 es X.env)).any (·.1)=false:=by rfl) :
  DE X (.Call (.Attribute o name apos) (e::es) [] cpos) (CT mr mo ma):=by
 intro pins s Z H Q I ⟨O,h,Zw,Qw,R,S,m,k⟩;refine wpAny_Call_method_late hbase hfew hline rfl<|AP (ho pins s Z H _ I ⟨O,h,Zw,_,R,S,m,fun _ _ z=>z⟩) fun u s1 ⟨x,H1,I1,rx,O1,wx,h1,e1',R1,r1,il⟩=>?_
 unfold isStr at il;split at il
 ·rename_i y;have r0:=r1;rw [JI] at r1;subst r1;obtain ⟨t,rfl⟩:=rx;refine ⟨"str",id,PySem.F.plainAttrs_str,slot,hty,Xh _ _ _,fun b e=>(by cases e),?_⟩;have hA:=ha cpos pins s1 Z H1 _ I1 ⟨O1,h1,Zw,_,R1,S.ext e1',il,fun _ _ z=>z⟩;rw [hst] at hA |-
  refine Calls.callWith_builtin (by show (false||(Vy cpos<|T3 es X.env).any (·.1))=false;rw [hplain] <;> rfl)<|Xd ?_
  refine AP hA fun us s2 ⟨ys,H2,I2,r2,O2,ws,h2,e2',R2,rs,m2⟩=>?_;exact hm pins s2 Z H2 (.str y) ys _ us Q I2 ⟨t,rfl⟩ r2<|hs R2 (e2'.r _ _ r0) rs m2 fun v H' z=>k _ _<|(z.trans e2').trans e1'
 ·exact il.elim
theorem mX:MtR X "str.startswith" (fun x xs H Q=>∃ a b,x=.str a/\xs=[.str b]/\Q (.bl (Wn a b)) H):=by
 intro pins s Z H x xs v us Q I rx r ⟨a,b,ex,ey,q⟩;subst ex ey;obtain ⟨t,rfl⟩:=rx;obtain ⟨u,rfl,t',rfl⟩:=vals1 r;exact SC.startswith ⟨.bl _,H,I,rfl,q⟩
def ju:MM:=fun x ws h Q=>match x,ws with
 | .str a,[.str b]=>Q (.bl (Wn a b)) h
 | _,_=>False
theorem sH {K:Tt}:G9 K (fun x xs H Q=>∃ a b,x=.str a/\xs=[.str b]/\Q (.bl (Wn a b)) H) ju:=by
 intro H O h x vs wx ws Qw Q R rx rs m k;unfold ju at m;split at m
 ·obtain ⟨v,e,rv⟩:=eV rs;rw [JI] at rx rv;subst e rv rx;exact ⟨_,_,rfl,rfl,k _ _<|.bl R m⟩
 ·exact m.elim
end
section
variable {X:Cx}{e:Expr}{es:List Expr}{mr:MA}{pos p:Pos}{k j:Nat}{x y:Str}{ms:SX}{f:Addr}{fs:List (Addr×SX)}
end
theorem dc0 {X:Cx}{pos p:Pos}{k j:Nat}{x:Str}{ms:SX}(F:Fk X.prog X.w X.K X.mg X.base j x ms)(hr:gO k X.A:=by with_unfolding_all assumption)(hk:j<=k:=by decide)(hg:Gl X x:=by with_unfolding_all rfl)(hdb:(x==("__debug__" : Str))=false:=by decide):DE X (.Call (.Name x p) [] [] pos) (bB ms EF aP):=by
 obtain ⟨f,fd,ps,a,b,c,d⟩:=F;exact G4 (a.mono hk) hr hg b c d hdb
theorem oW:∀ (xs:List Str) (t:Nat),Rj (xs.map V.str) (strsFrom t xs)
 | [],_=>.nil
 | _::xs,t=>.cons ⟨_,rfl⟩ (oW xs (t+1))
section
variable {X:Cx}
theorem yU:MtR X "str.split" (fun x xs H Q=>∃ a b,x=.str a/\xs=[.str b]/\(b.length==0)=false/\a.length<=Ua/\(Wo a b).length<=Ua/\∀ p,H p=Go->Q (.ref p) (kI H p (.lst ((Wo a b).map .str)))):=by
 intro pins s Z H x xs v us Q I rx r ⟨a,b,ex,ey,hb,ha,hz,q⟩;subst ex ey;obtain ⟨t,rfl⟩:=rx;obtain ⟨u,rfl,t',rfl⟩:=vals1 r;unfold Wo at hz q;by_cases c1:(decide (a.length<b.length)||decide (W6 a<W6 b))=true
 ·rw [if_pos c1] at hz q;refine call_meets F.slot_str_split (Xh _ _ _) F.entry_str_split (F.args_str_split_2 _ _) (meets_str_split_cannot_occur a b t t' c1) ?_;exact ⟨.ref s.heap.objs.size,_,I.laid (t':=s.toks) (o:=.lst [.str a]) (fun b ob q=>TJ _ q) (T6 _) ⟨hz,_,0,.cons ⟨t,rfl⟩ .nil,T9 _ rfl⟩,rfl,q _<|I.hok.fresh<|T6 _⟩
 ·have c1':(decide (a.length<b.length)||decide (W6 a<W6 b))=false:=W0.mpr c1;rw [if_neg c1] at hz q;by_cases c2:(Builtin.Str.occurrences a b 0 a.length (a.length+1)).isEmpty=true
  ·rw [if_pos c2] at hz q;refine call_meets F.slot_str_split (Xh _ _ _) F.entry_str_split (F.args_str_split_2 _ _) (meets_str_split_not_found a b t t' c1' hb c2) ?_;exact ⟨.ref s.heap.objs.size,_,I.laid (t':=s.toks) (o:=.lst [.str a]) (fun b ob q=>TJ _ q) (T6 _) ⟨hz,_,0,.cons ⟨t,rfl⟩ .nil,T9 _ rfl⟩,rfl,q _<|I.hok.fresh<|T6 _⟩
  ·rw [if_neg c2] at hz q;refine call_meets F.slot_str_split (Xh _ _ _) F.entry_str_split (F.args_str_split_2 _ _) (meets_str_split_sep a b t t' c1' hb (W0.mpr c2) ha hz) ?_;exact ⟨.ref s.heap.objs.size,_,I.laid (o:=.lst ((Builtin.Str.partsBetween a (Builtin.Str.occurrences a b 0 a.length<|a.length+1) b.length).map .str)) (fun b ob q=>TJ _ q) (T6 _) ⟨by rw [Ub];exact hz,_,0,oW _ _,T9 _ rfl⟩,rfl,q _<|I.hok.fresh<|T6 _⟩
end
theorem pB {K:Tt}{H:Hp}{O : Mu}:∀ xs:List Str,aG K H O (xs.map W.str) (xs.map V.str)
 | []=>by rw [Vw,aG];rfl
 | x::xs=>by
  rw [Uy,aG];exact ⟨_,_,rfl,by rw [JI],pB xs⟩
def yh:MM:=fun x ws h Q=>match x,ws with
 | .str a,[.str b]=>(b.length==0)=false/\a.length<=Ua/\(Wo a b).length<=Ua/\Q (.lst ((Wo a b).map .str)) h
 | _,_=>False
theorem s_split {K:Tt}:G9 K (fun x xs H Q=>∃ a b,x=.str a/\xs=[.str b]/\(b.length==0)=false/\a.length<=Ua/\(Wo a b).length<=Ua/\∀ p,H p=Go->Q (.ref p) (kI H p (.lst ((Wo a b).map .str)))) yh:=by
 intro H O h x vs wx ws Qw Q R rx rs m k;unfold yh at m;split at m
 ·obtain ⟨v,e,rv⟩:=eV rs;rw [JI] at rx rv;subst e rv rx;exact ⟨_,_,rfl,rfl,m.1,m.2.1,m.2.2.1,fun p hp=>k _ _ ⟨O,_,h,(Ex.laid hp).ext,R.laid hp,.lstNew R hp<|pB _,m.2.2.2⟩⟩
 ·exact m.elim
section
variable {X:Cx}
def BJ:MC:=fun ws h Q=>match ws with
 | [.int i]=>i.natAbs.log2<1920/\Q (.str (X4 i)) h
 | _=>False
theorem vP:iJ X (.type "str") BJ:=⟨_,m7,by
 intro H O h vs ws Qw Q R r m k;unfold BJ at m;split at m
 ·obtain ⟨v,e,rv⟩:=eV r;rw [JI] at rv;subst e rv;exact ⟨_,rfl,m.1,k _ _<|.str R m.2⟩
 ·exact m.elim⟩
theorem vp:cW X (.type "int") (fun xs H Q=>∃ (x:Str) (n:Int),xs=[.str x]/\intText? x=Dn n/\x.length<=640/\Q (.int n) H):=by
 intro pins s Z H xs us Q I r ⟨x,n,e,hn,hz,q⟩;subst e;obtain ⟨u,rfl,t,rfl⟩:=vals1 r;exact PySem.W.KIN.call_text hn hz ⟨.int n,H,I.tok _,⟨_,rfl⟩,q⟩
def yZ:MC:=fun ws h Q=>match ws with
 | [.str x]=>x.length<=640/\(match intText? x with
  | some n=>Q (.int n) h
  | none=>False)
 | ws=>M8 ws h Q
theorem Jj:iJ X (.type "int") yZ:=by
 obtain ⟨r,hr,sr⟩:=O9 (X:=X);refine ⟨_,vp.or hr,?_⟩;intro H O h vs ws Qw Q R r' m k;unfold yZ at m;split at m
 ·obtain ⟨v,e,rv⟩:=eV r';rw [JI] at rv;subst e rv;obtain ⟨hz,m⟩:=m;split at m
  ·rename_i n hn;exact .inl ⟨_,n,rfl,hn,hz,k _ _<|.int R m⟩
  ·exact m.elim
 ·exact .inr<|sr R r' m k
theorem mO:∀ {ys:List Str} {us:List Tw},Rj (ys.map V.str) us->StrsAre us ys
 | [],[],_=>.nil
 | y::ys,u::us,.cons e r=>by
  obtain ⟨t,rfl⟩:=e;exact .cons y t<|mO r
theorem zaB:MtR X "str.join" (fun x xs H Q=>∃ (a:Str) (p:Addr) (ys:List Str),x=.str a/\xs=[.ref p]/\Am X.K H p (ys.map V.str)/\(ys.map fun x=>x.length).sum+ys.length*a.length<=16777216/\Q (.str (WD a ys)) H):=by
 intro pins s Z H x xs v us Q I rx r ⟨a,p,ys,ex,ey,hl,hz,q⟩;subst ex ey;obtain ⟨t,rfl⟩:=rx;obtain ⟨u,rfl,ru⟩:=vals1 r;cases ru;obtain ⟨its,r',pl,_⟩:=I.list hl;exact join_list pl.isList (by rw [List.toList_toArray];exact mO r') hz fun t' k=>⟨.str _,H,I.tok _,⟨_,rfl⟩,q⟩
def lU:List W->Option (List Str)
 | []=>Dn []
 | .str x::ws=>(lU ws).map (x::·)
 | _=>Go
theorem mU {K:Tt}{H:Hp}{O : Mu}:∀ {ws:List W} {xs:List V} {ys:List Str},aG K H O ws xs->lU ws=Dn ys->xs=ys.map V.str
 | [],xs,ys,r,e=>by
  rw [aG] at r;cases e;exact r
 | w::ws,xs,ys,r,e=>by
  rw [aG] at r;obtain ⟨v,vs,rfl,r1,r2⟩:=r;cases w with
  | str x=>
   rw [lU] at e;obtain ⟨zs,ez,rfl⟩:=WL.mp e;rw [JI] at r1;rw [r1,mU r2 ez];rfl
  | _=>cases e
def zX:MM:=fun x ws h Q=>match x,ws with
 | .str a,[w]=>(match cD h w with
  | some us=>(match lU us with
   | some ys=>(ys.map fun x=>x.length).sum+ys.length*a.length<=16777216/\Q (.str (WD a ys)) h
   | none=>False)
  | none=>False)
 | _,_=>False
theorem Ia {K:Tt}:G9 K (fun x xs H Q=>∃ (a:Str) (p:Addr) (ys:List Str),x=.str a/\xs=[.ref p]/\Am K H p (ys.map V.str)/\(ys.map fun x=>x.length).sum+ys.length*a.length<=16777216/\Q (.str (WD a ys)) H) zX:=by
 intro H O h x vs wx ws Qw Q R rx rs m k;unfold zX at m;split at m
 ·obtain ⟨v,e,rv⟩:=eV rs;subst e;split at m
  ·rename_i us ev;split at m
   ·rename_i ys ey;obtain ⟨p,xs,ex,hs,rr⟩:=bZ R rv ev;rw [JI] at rx;rw [mU rr ey] at hs;exact ⟨_,p,ys,rx,by rw [ex],hs,m.1,k _ _<|.str R m.2⟩
   ·exact m.elim
  ·exact m.elim
 ·exact m.elim
theorem part_of {v:Tw}{o:Option Int}(h:IsPart v o):∃ l:Option (Int×Tok),partValue l=v/\l.map (fun x=>x.1)=o:=by
 cases h with
 | none=>exact ⟨Go,rfl,rfl⟩
 | int i t=>exact ⟨Dn (i,t),rfl,rfl⟩
theorem Mf:Ds X (fun x lo hi H Q=>∃ a,x=.str a/\(VH a lo hi).length<=Ua/\Q (.str (VH a lo hi)) H):=by
 intro pins s Z H x v vl vu lo hi sl Q I rx hs pl pu ⟨a,ex,hz,q⟩;subst ex;obtain ⟨t,rfl⟩:=rx;obtain ⟨l,rfl,rfl⟩:=part_of pl;obtain ⟨u,rfl,rfl⟩:=part_of pu;refine ⟨"str",_,PySem.F.slot_str_getitem.lookup,Xh _ _ _,?_⟩;refine wpAny_getItem_str_slice (l:=l) (u:=u) (st:=Go) hs (by decide) ?_;unfold sliceMade;unfold VH at q hz;split at q
 ·rename_i c;rw [if_pos (show ((Option.getD ((Go:Option (Int×Tok)).map fun x=>x.1) 1==1)&&(slicePicked a l u Go).length==a.length)=true from c)];exact ⟨.str a,H,I,⟨_,rfl⟩,q⟩
 ·rename_i c;rw [if_neg (show ¬ ((Option.getD ((Go:Option (Int×Tok)).map fun x=>x.1) 1==1)&&(slicePicked a l u Go).length==a.length)=true from c)];rw [if_neg c] at hz;exact ⟨hz,.str _,H,I.tok _,⟨_,rfl⟩,q⟩
def N7 (x:W)(lo hi:Option Int)(h:Gh)(Q:WK):Prop:=match x with
 | .str a=>(VH a lo hi).length<=Ua/\Q (.str (VH a lo hi)) h
 | _=>False
theorem Nb {e:Expr}{lo hi:Option Expr}{ma:ME}{ml mh:MO}{p2 pos:Pos}(he:DE X e ma)(hl:DO X lo ml)(hu:DO X hi mh):DE X (.Subscript e (.Slice lo hi Go p2) pos) (mSl N7 ma ml mh):=
 (rO Mf he hl hu).of fun Z H Q ⟨O,h,Zw,Qw,R,S,m,k⟩=>by
  refine ⟨O,h,Zw,_,R,S,m,fun x H1 ⟨O1,wx,h1,e1,R1,r1,m1⟩=>?_⟩;refine ⟨O1,h1,Zw,_,R1,S.ext e1,m1,fun lo H2 ⟨O2,h2,e2,R2,m2⟩=>?_⟩;refine ⟨O2,h2,Zw,_,R2,(S.ext e1).ext e2,m2,fun hi H3 ⟨O3,h3,e3,R3,m3⟩=>?_⟩;have e13:=(e1.trans e2).trans e3;have r3:=e3.r _ _ (e2.r _ _ r1);unfold N7 at m3;split at m3
  ·rw [JI] at r3;exact ⟨_,r3,m3.1,k _ _ ⟨O3,_,h3,e13,R3,by rw [JI],m3.2⟩⟩
  ·exact m3.elim
theorem zat:CQ X (Vv .Mult) (fun x y H Q=>∃ (a:Str) (n:Nat),x=.str a/\y=.int (n:Int)/\1<n/\n<=1000/\a.length=1/\(⟨List.foldl (fun x1 x2=>x1++x2) #[] (U4 n a.cps)⟩:Str).length<=Ua/\Q (.str (⟨List.foldl (fun x1 x2=>x1++x2) #[] (U4 n a.cps)⟩:Str)) H):=by
 intro pins s Z H x y v u Q I rx ry ⟨a,n,ex,ey,h1,h2,hl,hz,q⟩;subst ex ey;obtain ⟨t,rfl⟩:=rx;obtain ⟨t',rfl⟩:=ry;have c1:¬ (n:Int)<1:=by lia
 have c2:(((n:Int)==1)||(a.length==0))=false:=by
  rw [Bool.or_eq_false_iff];exact ⟨beq_eq_false_iff_ne.mpr<|by lia,beq_eq_false_iff_ne.mpr<|by lia⟩
 refine PySem.P.mul_str (by rw [Bool.or_eq_false_iff];exact ⟨decide_eq_false<|by lia,decide_eq_false<|by lia⟩) (fun _ _=>?_) (fun _ _=>?_) ?_
 ·rw [hl];have:(n:Int)*((2^63 - 1) / (n:Int))+(2^63 - 1) % (n:Int)=2^63 - 1:=Int.mul_ediv_add_emod _ _
  have h3:(1:Int)<=(2^63 - 1) / (n:Int):=by
   rw [Int.le_ediv_iff_mul_le (by lia)];lia
  lia
 ·rw [hl,Int.toNat_natCast,Nat.one_mul];have:Builtin.Str.tooLong n=decide (n>16777216):=rfl
  rw [this];exact decide_eq_false<|by lia
 ·rw [if_neg c1,if_neg (by rw [c2];decide),Int.toNat_natCast];exact ⟨hz,.str _,H,I.tok _,⟨_,rfl⟩,q⟩
def z9:M2:=fun x y h Q=>match x,y with
 | .str a,.int n=>1<n/\n<=1000/\a.length=1/\(⟨List.foldl (fun x1 x2=>x1++x2) #[] (U4 n.toNat a.cps)⟩:Str).length<=Ua/\Q (.str ⟨List.foldl (fun x1 x2=>x1++x2) #[] (U4 n.toNat a.cps)⟩) h
 | _,_=>False
theorem Bk:Dd X (Vv .Mult) z9:=by
 refine ⟨_,zat,?_⟩;intro H O h x y wx wy Qw Q R rx ry m k;unfold z9 at m;split at m
 ·obtain ⟨m1,m2,m3,m4,m5⟩:=m;rw [JI] at rx;rw [JI] at ry;exact ⟨_,_,rx,ry.trans<|by rw [Int.toNat_of_nonneg<|by lia],by lia,by lia,m3,m4,k _ _<|.str R m5⟩
 ·exact m.elim
end
def Its (x:Str):It:=⟨fun i _=>i<x.cps.size,fun i H v H'=>H'=H/\∃ c,x.cps[i]?=Dn c/\v=.str ⟨#[c]⟩,fun i _=>x.cps.size<=i,true⟩
theorem vH {P:T8}{w:Uv}{K:Tt}{tg:Expr}(x:Str)(t:Tok)(it:Addr):Turn P w K tg (Its x) [it] it (fun i h=>h.IsStrIter it "str_ascii_iterator" x t i) where
 mem:=by simp
 obj:=fun i h st b hb=>by
  have e:b=it:=by simpa using hb
  subst e;obtain ⟨o,e,c,d⟩:=st;exact ⟨o,e,fun v z=>by rw [d] at z;cases z⟩
 keep:=fun i h h' st k=>let ⟨o,ho,r⟩:=st;⟨o,k it (by simp) o ho,r⟩
 item:=by
  intro X hP hw hK hc i pins s Z H E I hf st hg;subst hP hw hK;have hg:i<x.cps.size:=hg;obtain ⟨f0,f1,f2,f3,f4,f5⟩:=hf it (by simp);refine wpAny_pyNext_ascii_item st (c:=x.cps[i]) (by simp [hg]) fun h' st' sb=>?_;have I1:Mk X pins Z H { s with heap:=h',toks:=s.toks+1 }:=I.turned (t':=s.toks+1) (fun b o hb e=>(sb.2 b hb).trans e) f0 f1 f3 f4 f5;obtain ⟨o,e,c,d⟩:=id st';exact ⟨_,rfl,qp (s:={ s with heap:=h',toks:=s.toks+1 }) e c d (by decide) ⟨.str ⟨#[x.cps[i]]⟩,H,I1,⟨_,rfl⟩,⟨rfl,_,by simp [hg],rfl⟩,st',fun b hb=>(hf b hb).1⟩⟩
 done:=by
  intro X hP hw hK hc i pins s Z H E I hf st hg;subst hP hw hK;have hg:x.cps.size<=i:=hg;obtain ⟨f0,f1,f2,f3,f4,f5⟩:=hf it (by simp);exact wpAny_pyNext_ascii_end (I.ok.hd<|hc rfl) st (by simp [hg]) fun h' eb=>⟨rfl,I.turned (t':=s.toks) (fun b o hb e=>eb b o hb e) f0 f1 f3 f4 f5⟩
 self:=fun _ _ _ _ _ st h=>wpAny_pyIter_striter_ascii st h
theorem wj {P:T8}{w:Uv}{K:Tt}{tg:Expr}(x:Str)(t:Tok)(it:Addr):Turn P w K tg (Its x) [it] it (fun i h=>h.IsStrIter it "str_iterator" x t i) where
 mem:=by simp
 obj:=fun i h st b hb=>by
  have e:b=it:=by simpa using hb
  subst e;obtain ⟨o,e,c,d⟩:=st;exact ⟨o,e,fun v z=>by rw [d] at z;cases z⟩
 keep:=fun i h h' st k=>let ⟨o,ho,r⟩:=st;⟨o,k it (by simp) o ho,r⟩
 item:=by
  intro X hP hw hK hc i pins s Z H E I hf st hg;subst hP hw hK;have hg:i<x.cps.size:=hg;obtain ⟨f0,f1,f2,f3,f4,f5⟩:=hf it (by simp);refine wpAny_pyNext_wide_item st (c:=x.cps[i]) (by simp [hg]) fun h' st' sb=>?_;have I1:Mk X pins Z H { s with heap:=h',toks:=s.toks+1 }:=I.turned (t':=s.toks+1) (fun b o hb e=>(sb.2 b hb).trans e) f0 f1 f3 f4 f5;obtain ⟨o,e,c,d⟩:=id st';exact ⟨_,rfl,qp (s:={ s with heap:=h',toks:=s.toks+1 }) e c d (by decide) ⟨.str ⟨#[x.cps[i]]⟩,H,I1,⟨_,rfl⟩,⟨rfl,_,by simp [hg],rfl⟩,st',fun b hb=>(hf b hb).1⟩⟩
 done:=by
  intro X hP hw hK hc i pins s Z H E I hf st hg;subst hP hw hK;have hg:x.cps.size<=i:=hg;obtain ⟨f0,f1,f2,f3,f4,f5⟩:=hf it (by simp);exact wpAny_pyNext_wide_end (I.ok.hd<|hc rfl) st (by simp [hg]) fun h' eb=>⟨rfl,I.turned (t':=s.toks) (fun b o hb e=>eb b o hb e) f0 f1 f3 f4 f5⟩
 self:=fun _ _ _ _ _ st h=>wpAny_pyIter_striter_wide st h
section
variable {X:Cx}{tg:Expr}{ma:ME}
def SN (tl:TE):TI:=fun Z H R=>tl Z H fun v H1=>∃ x,v=.str x/\R (Its x) H1
theorem Lj {l:Expr}{tl:TE}(hl:PE X l tl):PI X tg l (SN tl):=by
 intro pins s Z H R I h;refine AP (hl pins s Z H _ I h) fun v s1 ⟨y,H1,I1,r1,q1⟩=>?_;obtain ⟨x,e,q⟩:=q1;subst e;obtain ⟨t,rfl⟩:=r1;have fp:∀ b∈[s1.heap.objs.size],uz X pins H1 b:=fun b hb=>by
  have e:b=s1.heap.objs.size:=by simpa using hb
  subst e;exact I1.fpOk (T6 _)<|I1.hok.fresh<|T6 _
 cases ha:x.cps.all (· < 128)
 ·refine wpAny_pyIter_wide ha ?_;exact ⟨s1.heap.objs.size,[s1.heap.objs.size],_,_,H1,rfl,I1.kept (t':=s1.toks) fun b o e=>TJ _ e,wj x t _,⟨_,T9 _ rfl,rfl,rfl⟩,fp,q⟩
 ·refine wpAny_pyIter_ascii ha ?_;exact ⟨s1.heap.objs.size,[s1.heap.objs.size],_,_,H1,rfl,I1.kept (t':=s1.toks) fun b o e=>TJ _ e,vH x t _,⟨_,T9 _ rfl,rfl,rfl⟩,fp,q⟩
def signs (x:Str):List W:=x.cps.toList.map fun c=>.str ⟨#[c]⟩
def MN (m:ME):MI:=fun Z h R=>m Z h fun w h1=>match w with
 | .str x=>R ⟨signs x,Go⟩ h1
 | _=>False
theorem FP {K:Tt}{H:Hp}{O : Mu}(x:Str):Fj K (Its x) ⟨signs x,Go⟩ H O:=by
 intro H2 O2 h2 i e R2 _;have hl:(signs x).length=x.cps.size:=by simp [signs]
 refine ⟨fun w ew=>⟨?_,fun v H3 ⟨e3,c,ec,ev⟩=>?_⟩,fun q=>?_⟩
 ·have:i<(signs x).length:=(Uq.mp ew).1
  show i<x.cps.size;rw [<-hl];exact this
 ·subst e3 ev;refine ⟨O2,.refl,R2,?_⟩;have:Dn (W.str ⟨#[c]⟩)=Dn w:=by
   rw [<-ew];show _=(List.map _ _)[i]?;rw [Ut,Array.getElem?_toList,ec];rfl
  cases this;rw [JI]
 ·show x.cps.size<=i;rw [<-hl];exact q
theorem Jg {l:Expr}(hl:DE X l ma):Eo X tg l (MN ma):=PI.of (Lj hl) fun Z H Q ⟨O,h,Zw,Rw,R,S,m,k⟩=>by
 refine ⟨O,h,Zw,_,R,S,m,fun v H1 ⟨O1,w,h1,e1,R1,r1,m1⟩=>?_⟩;cases w with
 | str x=>
  rw [JI] at r1;exact ⟨x,r1,k _ _ ⟨O1,⟨signs x,Go⟩,h1,e1,R1,FP x,m1⟩⟩
 | _=>exact m1.elim
end
section
variable {prog:T8}{w:Uv}{A:Ug}{E:Tw->Tz->Prop}{s:Tz}
theorem vV {its:List Tw}{acc:Array Tw}(it:ItemsOf (fun i v=>its.toArray[its.toArray.size - 1 - i]?=Dn v) acc its.toArray.size):acc.toList=its.reverse:=by
 refine List.ext_getElem? fun j=>?_;by_cases hj:j<its.length
 ·have hj':j<acc.toList.length:=by rw [V0,it.1,TX];exact hj
  have h3:=it.2 j (acc.toList[j]) (by rw [<-Array.getElem?_toList];exact Uk hj');rw [Uk hj',List.getElem?_reverse hj,<-h3,TX];simp
 ·rw [List.getElem?_eq_none (by rw [V0,it.1,TX];lia),List.getElem?_eq_none (by rw [List.length_reverse];lia)]
theorem zy {Q:Tw->Tz->Prop}{r l:Addr}{its:List Tw}{ys:List Str}{x:Str}{t:Tok}(hh:A.handled=Go)(hit:s.heap.IsRevIter r l ((its.toArray.size:Int) - 1))(hl:s.heap.IsList l its.toArray)(hne:l≠r)(hn:its.toArray.size<=Ua)
  (hi:StrsAre its.reverse ys) (hok:(ys.map (·.length)).sum+ys.length*x.length<=16777216)
  (h:∀ h' t' k,(∀ b o,b≠r->s.heap.get? b=Dn o->h'.get? b=Dn o)->Q (.str (WD x ys) t') { s with heap:=h',toks:=k }) :
  Us (Uz prog w) A (call (.builtin "str.join") [.str x t,.ref r]) Q E s:=by
 refine wpAny_call<|codeAny_call_builtin WW.plain PySem.F.entry_str_join<|WW.check _ _ _ _ _ _ _ _ (Xh _ _ _) (PySem.F.args_str_join_2 _ _) ?_
 rw [join_tree_other];refine Tv<|wpAny_typeOf hit.typeIs ?_
 show Us _ A.in1 ((pyIter (.ref r)).tryCatch _ >>= fun it=>collect it >>= fun items=>joinTail x items) _ _ s;refine Tv<|wpAny_tryCatch<|Xo hit ?_
 refine Tv<|qu (A:=A.in1) hh hit hl hne hn fun h' tk acc' _ kp it=>?_
 rw [vV it];obtain ⟨l',hv,ht⟩:=strsAre_values hi;rw [hv];have hok':JoinOk x (l'.map (·.1))=true:=by rw [ht];exact joinOk_of hok
 unfold JoinOk at hok';rw [Vj] at hok';have g:Gives (joinTail x (strValues l')) (joinMade x l'):=by
  have g0:=gives_joinTail x l' hok';cases l' with
  | nil=>exact g0
  | cons p r=>cases r with
   | nil=>exact g0
   | cons q r'=>exact g0
 exact g prog w A (wants Q E) _<|PySem.post_join l' ⟨joinFit_length hok',fun t' k=>by rw [ht];exact h h' t' k kp⟩
end
section
variable {X:Cx}
def rB (mo me:ME):ME:=fun Z h Q=>mo Z h fun o h1=>match o with
 | .str a=>me Z h1 fun x h2=>(match cD h2 x with
  | some us=>(match lU us.reverse with
   | some ys=>(ys.map fun x=>x.length).sum+ys.length*a.length<=16777216/\Q (.str (WD a ys)) h2
   | none=>False)
  | none=>False)
 | _=>False
theorem xH {o e1:Expr}{mo me:ME}{p' apos cpos pos':Pos}(hc:X.calm=true)(hr:Gl X "reversed")(hrm:X.mg "reversed" = Go)(ho:DE X o mo)(he:DE X e1 me)
  (hbase:attributeBase o "join" X.env (eval o X.env)=eval o X.env:=by rfl)
  (hfew:((Vy cpos (T3 [.Call (.Name "reversed" p') [e1] [] pos'] X.env)).all (fun x=>!x.1)&&(backToKw cpos (X6 [] X.env)).all (fun x=>x.1.isSome)
   && decide ([Expr.Call (.Name "reversed" p') [e1] [] pos'].length+([]:List XJ).length+(if ([]:List XJ).isEmpty then 0 else 1)<30))=true:=by rfl)
  (hline:(apos.endLine==cpos.line)=true:=by rfl) (h1:T3 [.Call (.Name "reversed" p') [e1] [] pos'] X.env=(false,eval (.Call (.Name "reversed" p') [e1] [] pos') X.env)::T3 [] X.env:=by rfl) (hplain:(Vy cpos (T3 [] X.env)).any (·.1)=false:=by rfl)
  (h2:T3 [e1] X.env=(false,eval e1 X.env)::T3 [] X.env:=by rfl) (hp2:(Vy pos' (T3 [] X.env)).any (·.1)=false:=by rfl) :
  DE X (.Call (.Attribute o "join" apos) [.Call (.Name "reversed" p') [e1] [] pos'] [] cpos) (rB mo me):=by
 intro pins s Z H Q I ⟨O,h,Zw,Qw,R,S,m,k⟩;refine wpAny_Call_method_late hbase hfew hline rfl<|AP (ho pins s Z H _ I ⟨O,h,Zw,_,R,S,m,fun _ _ z=>z⟩) fun u s1 ⟨x,H1,I1,rx,O1,wx,g1,e1',R1,r1,il⟩=>?_
 split at il
 ·rename_i a;rw [JI] at r1;subst r1;obtain ⟨t,rfl⟩:=rx;refine ⟨"str", "str.join",PySem.F.plainAttrs_str,WW,PySem.F.type_str_join,Xh _ _ _,fun b e=>(by cases e),?_⟩;rw [h1];refine Calls.callWith_builtin (by show (false||(Vy cpos<|T3 [] X.env).any (·.1))=false;rw [hplain] <;> rfl)<|Xd ?_
  show Us _ _ (spliced ((false,eval _ X.env)::Vy cpos (T3 [] X.env))) _ _ s1;refine Calls.spliced_cons ?_;refine VJ<|kj I1 hr hrm boot_reversed ?_ (by decide)<|by decide
  refine V1 ?_ h2 hp2;rw [h2];show Us _ _ (spliced ((false,eval e1 X.env)::Vy pos' (T3 [] X.env))) _ _ s1;refine Calls.spliced_cons<|AP (he pins s1 Z H1 _ I1 ⟨O1,g1,Zw,_,R1,S.ext e1',il,fun v H1 z=>z⟩) fun u s2 ⟨x,H2,I2,rx,O2,wx,g2,x2,R2,r2,m2⟩=>?_
  refine Calls.spliced_nil ?_;split at m2
  ·rename_i us ev;split at m2
   ·rename_i ys ey;obtain ⟨l,xs,ex,hs,rs⟩:=bZ R2 r2 ev;subst ex;obtain rfl:u=Value.ref l:=rx;obtain ⟨its,r,pl,hz⟩:=I2.list hs;have hlen:=r.length;refine call_reversed_list pl.isList ?_;refine Calls.spliced_nil ?_;have la:l<s2.heap.objs.size:=by obtain ⟨_,e,_⟩:=pl.isList;exact TY e
    have gi:(s2.heap.push (revObj l ((its.toArray.size:Int) - 1))).IsRevIter s2.heap.objs.size l ((its.toArray.size:Int) - 1):=⟨_,T9 _ rfl,rfl,rfl⟩
    have rr:=zE r;rw [mU (qN rs) ey] at rr;refine zy (I2.ok.hd hc) gi (pl.isList.at fun o e=>TJ _ e) (Ud la) (by rw [TX,<-hlen];exact hz) (mO rr) m2.1 fun h' t' k' kp=>?_;have kp':∀ b o,s2.heap.get? b=Dn o->h'.get? b=Dn o:=fun b o eb=>kp b o (Ud (TY eb)) (TJ _ eb)
    exact ⟨.str _,H2,I2.kept (t':=k') kp',⟨_,rfl⟩,k _ _ ⟨O2,.str _,g2,e1'.trans x2,R2,by rw [JI],m2.2⟩⟩
   ·exact m2.elim
  ·exact m2.elim
 ·exact il.elim
end
end L2
namespace My
open PySem L2 PyProof.Rows
def top (i:Nat):Stmt:=PySem.Challenge.pw_easelroom_k90_spots_written_and_read.main.body.getD i (.Pass ⟨0,0,0,0⟩)
abbrev eY:Stmt:=top 7
theorem jz:aO ["thing"] ["thing"] (aH eY):=⟨rfl,rfl,rfl,by decide +kernel,rfl,by decide +kernel,by decide +kernel⟩
abbrev bH:Stmt:=top 8
theorem cU:aO ["one", "other", "rest"] ["one", "other"] (aH bH):=⟨rfl,rfl,rfl,by decide +kernel,rfl,by decide +kernel,by decide +kernel⟩
abbrev gQ:Stmt:=top 9
theorem kh:aO ["numbers", "found", "number"] ["numbers"] (aH gQ):=⟨rfl,rfl,rfl,by decide +kernel,rfl,by decide +kernel,by decide +kernel⟩
abbrev cN:Stmt:=top 10
theorem iw:aO ["numbers", "number"] ["numbers"] (aH cN):=⟨rfl,rfl,rfl,by decide +kernel,rfl,by decide +kernel,by decide +kernel⟩
abbrev fD:Stmt:=top 11
theorem jw:aO ["thing", "many"] ["thing", "many"] (aH fD):=⟨rfl,rfl,rfl,by decide +kernel,rfl,by decide +kernel,by decide +kernel⟩
abbrev cG:Stmt:=top 15
theorem fJ:aO ["number", "parts", "left"] ["number"] (aH cG):=⟨rfl,rfl,rfl,by decide +kernel,rfl,by decide +kernel,by decide +kernel⟩
abbrev dI:Stmt:=top 16
theorem jd:aO ["spot"] ["spot"] (aH dI):=⟨rfl,rfl,rfl,by decide +kernel,rfl,by decide +kernel,by decide +kernel⟩
abbrev bK:Stmt:=top 17
theorem cZ:aO ["text", "figures"] ["text"] (aH bK):=⟨rfl,rfl,rfl,by decide +kernel,rfl,by decide +kernel,by decide +kernel⟩
abbrev dN:Stmt:=top 18
theorem iT:aO ["text", "words", "spot"] ["text"] (aH dN):=⟨rfl,rfl,rfl,by decide +kernel,rfl,by decide +kernel,by decide +kernel⟩
abbrev dz:Stmt:=top 20
theorem jc:aO ["_law_script", "_law_k"] ["_law_script", "_law_k"] (aH dz):=⟨rfl,rfl,rfl,by decide +kernel,rfl,by decide +kernel,by decide +kernel⟩
abbrev lJ:Stmt:=top 21
theorem rH:aO ["_law_cell"] ["_law_cell"] (aH lJ):=⟨rfl,rfl,rfl,by decide +kernel,rfl,by decide +kernel,by decide +kernel⟩
abbrev jm:Stmt:=top 22
theorem pD:aO ["_law_bag_here", "_law_many", "_law_found"] ["_law_bag_here", "_law_many"] (aH jm):=⟨rfl,rfl,rfl,by decide +kernel,rfl,by decide +kernel,by decide +kernel⟩
abbrev gW:Stmt:=top 23
theorem kJ:aO ["_law_found"] ["_law_found"] (aH gW):=⟨rfl,rfl,rfl,by decide +kernel,rfl,by decide +kernel,by decide +kernel⟩
abbrev gq:Stmt:=top 24
theorem kZ:aO ["_law_row", "_law_part", "_law_number", "_law_one", "_law_other", "_law_low"] ["_law_row"] (aH gq):=⟨rfl,rfl,rfl,by decide +kernel,rfl,by decide +kernel,by decide +kernel⟩
abbrev jt:Stmt:=top 25
theorem mZ:aO ["_law_cell", "_law_bag_here", "_law_size", "_law_row"] ["_law_cell"] (aH jt):=⟨rfl,rfl,rfl,by decide +kernel,rfl,by decide +kernel,by decide +kernel⟩
abbrev lR:Stmt:=top 26
theorem rQ:aO ["_law_bag_here", "_law_text", "_law_n", "_law_some"] ["_law_bag_here", "_law_text"] (aH lR):=⟨rfl,rfl,rfl,by decide +kernel,rfl,by decide +kernel,by decide +kernel⟩
abbrev dR:Stmt:=top 27
theorem ji:aO ["_law_thing", "e"] ["_law_thing"] (aH dR):=⟨rfl,rfl,rfl,by decide +kernel,rfl,by decide +kernel,by decide +kernel⟩
abbrev jr:Stmt:=top 28
theorem oN:aO ["_law_text", "_law_spot_here", "_law_found"] ["_law_text", "_law_spot_here"] (aH jr):=⟨rfl,rfl,rfl,by decide +kernel,rfl,by decide +kernel,by decide +kernel⟩
abbrev yK:Stmt:=top 29
theorem Br:aO ["_law_script", "_law_spot_here", "_law_text", "_law_found", "_law_cell"] ["_law_script"] (aH yK):=⟨rfl,rfl,rfl,by decide +kernel,rfl,by decide +kernel,by decide +kernel⟩
def kY:SX:=CP 1 1 false fun E=>
  (eH (jM (Aj yt (aq (aF 0) (aq (mC (.ty "int")) aP))) (p8 (Aj yt (aq (aF 0) (aq (mC (.ty "bool")) aP))))))
def fB:SX:=kY
def gC (E:Tq):MS:=
  (eH (aF 0))
def dW:SX:=CP 2 3 false fun E=>
  (bO (cI (Aj Bb (aq (aF 0) aP)) (Oj 0))
  (bO (cI (Aj Bb (aq (aF 1) aP)) (Oj 1))
  (bO (pA (cu (Tn Dg (aF 1) (mC (.int 0)))) (bO (cI (Tn yc (aF 0) (aF 1)) (Oj 2))
  (bO (cI (aF 1) (Oj 0))
  (cI (aF 2) (Oj 1)))))
  (gC E))))
def bI:SX:=dW
def jQ (c_divisor_of_two:SX)(E:Tq):MS:=
  (eH (aF 1))
def nH (c_divisor_of_two:SX):SX:=CP 1 3 false fun E=>
  (bO (cI (mC (.int 0)) (Oj 1))
  (bO (zL (CZ (aF 0)) (Oj 2) (cI (bB c_divisor_of_two E (aq (aF 2) (aq (aF 1) aP))) (Oj 1)))
  (jQ c_divisor_of_two E)))
def gH:SX:=nH bI
def fL (E:Tq):MS:=
  (eH (mC (.bl false)))
def iW:SX:=CP 1 2 false fun E=>
  (bO (zL (Jp (aq (aF 0) aP)) (Oj 1) (jW (cu (Tn Dg (aF 1) (mC (.int 0)))) (eH (Tn kLt (aF 1) (mC (.int 0)))) cM))
  (fL E))
def cO:SX:=iW
def nu (c_is_whole c_divisor c_ends_below:SX)(E:Tq):MS:=
  (eH (jM (Tn Di (bB c_divisor E (aq (aF 0) aP)) (mC (.int 1))) (p8 (bB c_ends_below E (aq (aF 0) aP)))))
def nF (c_is_whole c_divisor c_ends_below:SX)(E:Tq):MS:=
  (bO (jW (wQ (qI (Aj Ab (aq (CK DX [] (CZ (aF 0)) pH (bB c_is_whole E (aq (aF 0) aP))) aP)))) (eH (mC (.bl false))) cM)
  (nu c_is_whole c_divisor c_ends_below E))
def kE (c_is_whole c_divisor c_ends_below:SX):SX:=CP 2 2 false fun E=>
  (bO (jW (Dq (wQ (qI (Aj yt (aq (aF 0) (aq (mC (.ty "tuple")) aP))))) (cu (Tn Dg (Aj DR (aq (aF 0) aP)) (aF 1)))) (eH (mC (.bl false))) cM)
  (nF c_is_whole c_divisor c_ends_below E))
def eZ:SX:=kE fB gH cO
def cJ (E:Tq):MS:=
  (eH (rB (mC (.str "")) (aF 1)))
def dZ (E:Tq):MS:=
  (bO (tR (JL fV (aF 1) (aq (Aj BJ (aq (aF 2) aP)) aP)))
  (bO (jW (cu (Tn kLt (aF 0) (mC (.int 0)))) (tR (JL fV (aF 1) (aq (mC (.str "-")) aP))) cM)
  (cJ E)))
def gw:SX:=CP 1 3 true fun E=>
  (bO (cI (pW aP) (Oj 1))
  (bO (cI (Aj Bb (aq (aF 0) aP)) (Oj 2))
  (bO (pA (cu (Tn kGe (aF 2) (Tn Bg (mC (.int 10)) (mC (.int 64))))) (bO (jB "zfill" EF)
  (cI (Tn zA (aF 2) (Tn Bg (mC (.int 10)) (mC (.int 64)))) (Oj 2))))
  (dZ E))))
def cC:SX:=gw
def gj (c_show_number:SX):SX:=CP 1 1 false fun E=>
  (eH (CT zX (mC (.str ",")) (aq (CK DX [] (CZ (aF 0)) pH (bB c_show_number E (aq (aF 0) aP))) aP)))
def dJ:SX:=gj cC
def bQ (E:Tq):MS:=
  (eH (Aj Ab (aq (CK DX [] (MN (aF 1)) pH (Tn Mv (aF 0) (mC (.str "0123456789")))) aP)))
def cP (E:Tq):MS:=
  (bO (cI (mIf (qI (CT ju (aF 0) (aq (mC (.str "-")) aP))) (mSl N7 (aF 0) (vN (mC (.int 1))) vJ) (aF 0)) (Oj 1))
  (bO (jW (Dq (cu (Tn kLt (Aj uw (aq (aF 1) aP)) (mC (.int 1)))) (Dq (cu (Tn Ej (Aj uw (aq (aF 1) aP)) (mC (.int 60)))) (qI (CT ju (aF 1) (aq (mC (.str "0")) aP))))) (eH (mC (.bl false))) cM)
  (bQ E)))
def dU:SX:=CP 1 2 false fun E=>
  (bO (jW (cu (Tn Di (aF 0) (mC (.str "0")))) (eH (mC (.bl true))) cM)
  (cP E))
def bJ:SX:=dU
def g8 (c_is_plain c_is_number_text:SX)(E:Tq):MS:=
  (eH (aF 2))
def gB (c_is_plain c_is_number_text:SX)(E:Tq):MS:=
  (bO (cI (Aj oM (aq (CK DX [] (CZ (aF 1)) pH (Aj yZ (aq (aF 0) aP))) aP)) (Oj 2))
  (bO (jW (wQ (qI (bB c_is_plain EF (aq (aF 2) (aq (mC (.int 3)) aP))))) (jB "NoText" E) cM)
  (g8 c_is_plain c_is_number_text E)))
def gD (c_is_plain c_is_number_text:SX)(E:Tq):MS:=
  (bO (cI (CT yh (aF 0) (aq (mC (.str ",")) aP)) (Oj 1))
  (bO (jW (Dq (cu (Tn Dg (Aj DR (aq (aF 1) aP)) (mC (.int 3)))) (wQ (qI (Aj Ab (aq (CK DX [] (CZ (aF 1)) pH (bB c_is_number_text EF (aq (aF 0) aP))) aP))))) (jB "NoText" E) cM)
  (gB c_is_plain c_is_number_text E)))
def fY (c_is_plain c_is_number_text:SX):SX:=CP 1 3 false fun E=>
  (bO (jW (wQ (qI (Aj Ax (aq (aF 0) (aq (mC (.ty "str")) aP))))) (jB "NoText" E) cM)
  (gD c_is_plain c_is_number_text E))
def aZ:SX:=fY eZ bJ
def lD (E:Tq):MS:=
  (eH (mC (.int 0)))
def jy:SX:=CP 2 2 false fun E=>
  (bO (jW (cu (Tn kLt (aF 1) (Aj DR (aq (aF 0) aP)))) (eH (Tn DK (aF 0) (aF 1))) cM)
  (lD E))
def dj:SX:=jy
def nW (E:Tq):MS:=
  (eH (pW (aq (aF 0) (aq (mC (.int 7)) aP))))
def qz:SX:=CP 1 1 false fun E=>
  (bO (jW (cu (Tn kLt (aF 0) (Tn Bg (mC (.int 10)) (mC (.int 18))))) (eH (pW (aq (mC (.int 0)) (aq (Tn gM (Tn yc (aF 0) (mC (.int 2147483647))) (mC (.int 7))) aP)))) cM)
  (nW E))
def iH:SX:=qz
def ux (E:Tq):MS:=
  (bO (cI (Tn yc (Tn gM (Tn Gw (Tn DK (aF 0) (mC (.int 1))) (mC (.int 48271))) (mC (.int 15731))) (mC (.int 2147483647))) (Hg (aF 0) (mC (.int 1)) pL))
  (eH (Tn yc (Tn zA (Tn yc (Tn Gw (Tn DK (aF 0) (mC (.int 1))) (Tn gM (Tn zA (Tn DK (aF 0) (mC (.int 1))) (mC (.int 32768))) (mC (.int 11)))) (mC (.int 2147483629))) (mC (.int 16))) (aF 1))))
def rK:SX:=CP 2 3 false fun E=>
  (bO (jW (cu (Tn Ej (Tn DK (aF 0) (mC (.int 0))) (mC (.int 0)))) (bO (cI (Tn yc (Tn DK (aF 0) (mC (.int 0))) (aF 1)) (Oj 2))
  (bO (cI (Tn zA (Tn DK (aF 0) (mC (.int 0))) (aF 1)) (Hg (aF 0) (mC (.int 0)) pL))
  (eH (aF 2)))) cM)
  (ux E))
def bW:SX:=rK
def oG:SX:=CP 1 1 false fun E=>
  (eH (jM (Aj yt (aq (aF 0) (aq (mC (.ty "int")) aP))) (p8 (Aj yt (aq (aF 0) (aq (mC (.ty "bool")) aP))))))
def gY:SX:=oG
def gk (E:Tq):MS:=
  (eH (Aj oM (aq (aF 5) aP)))
def dD (E:Tq):MS:=
  (bO (cI (CK DX [1] (CZ (aF 0)) pH (Tn zA (aF 0) (aF 1))) (Oj 5))
  (bO (jW (cu (Tn kLt (Tn DK (CK DX [] (CZ (aF 5)) (cu (Tn Dg (aF 0) (mC (.int 0)))) (aF 0)) (mUn Nu (mC (.int 1)))) (mC (.int 0)))) (cI (CK DX [] (CZ (aF 5)) pH (Tn Hf (mC (.int 0)) (aF 0))) (Oj 5)) cM)
  (gk E)))
def nO:SX:=CP 1 6 false fun E=>
  (bO (cI (mC (.int 0)) (Oj 1))
  (bO (zL (CZ (aF 0)) (Oj 2) (bO (cI (Aj Bb (aq (aF 2) aP)) (Oj 3))
  (bO (cI (aF 1) (Oj 4))
  (bO (pA (cu (Tn Ej (aF 4) (mC (.int 0)))) (Nq 3 4 (aq (aF 4) (aq (Tn yc (aF 3) (aF 4)) aP))))
  (cI (aF 3) (Oj 1))))))
  (dD E)))
def iy:SX:=nO
def eX (c_l_bag c_l_draw c_l_plain:SX)(E:Tq):MS:=
  (eH (bB c_l_plain E (aq (aF 3) aP)))
def iG (c_l_bag c_l_draw c_l_plain:SX)(E:Tq):MS:=
  (bO (jW (cu (Tn Di (aF 3) (yw (aq (mC (.int 0)) (aq (mC (.int 0)) (aq (mC (.int 0)) aP)))))) (cI (mC (.int 1)) (Hg (aF 3) (bB c_l_draw E (aq (aF 1) (aq (mC (.int 3)) aP))) pL)) cM)
  (eX c_l_bag c_l_draw c_l_plain E))
def mQ (c_l_bag c_l_draw c_l_plain:SX):SX:=CP 1 4 true fun E=>
  (bO (cI (bB c_l_bag E (aq (aF 0) aP)) (Oj 1))
  (bO (cI (Tn DK (yw (aq (mC (.int 17)) (aq (mC (.int 17)) (aq (Tn Hf (Tn Gw (mC (.int 2)) (Tn Bg (mC (.int 10)) (mC (.int 60)))) (mC (.int 1))) aP)))) (bB c_l_draw E (aq (aF 1) (aq (mC (.int 3)) aP)))) (Oj 2))
  (bO (cI (MJ DX [1,2] (wK (aq (mC (.int 3)) aP)) pH (Tn Hf (bB c_l_draw E (aq (aF 1) (aq (aF 2) aP))) (Tn zA (aF 2) (mC (.int 2))))) (Oj 3))
  (bO (jW (cu (Tn Di (bB c_l_draw E (aq (aF 1) (aq (mC (.int 4)) aP))) (mC (.int 0)))) (cI (mC (.int 0)) (Hg (aF 3) (mC (.int 2)) pL)) cM)
  (iG c_l_bag c_l_draw c_l_plain E)))))
def jq:SX:=mQ iH bW iy
def pN (c_l_draw:SX):SX:=CP 2 4 false fun E=>
  (bO (cI (Aj BJ (aq (Tn gM (mC (.int 2)) (bB c_l_draw E (aq (aF 0) (aq (Tn Bg (mC (.int 10)) (mC (.int 20))) aP)))) aP)) (Oj 2))
  (bO (cI (yw (aq (mC (.str "")) (aq (mC (.str ",")) (aq (mC (.str ",,")) (aq (aF 2) (aq (Tn cL (Tn cL (aF 2) (mC (.str ","))) (aF 2)) (aq (Tn cL (aF 1) (mC (.str ","))) (aq (Tn cL (mC (.str ",")) (aF 1)) (aq (Tn cL (Tn cL (aF 1) (mC (.str ","))) (aF 2)) (aq (Tn cL (mC (.str " ")) (aF 1)) (aq (Tn cL (aF 1) (mC (.str " "))) aP))))))))))) (Oj 3))
  (bO (cI (Tn gM (aF 3) (yw (aq (Tn cL (Tn cL (aF 2) (mC (.str ",0,"))) (aF 2)) (aq (mC (.str "0,0,0")) (aq (mC (.str "0,0,-1")) (aq (mC (.str "0,-1,0")) (aq (Tn cL (Tn cL (aF 2) (mC (.str ",1,-"))) (aF 2)) (aq (Tn cL (Tn cL (mC (.str "0,")) (aF 2)) (mC (.str ",0"))) (aq (mC (.str "00,0,1")) (aq (mC (.str "-0,0,1")) aP)))))))))) (Oj 3))
  (bO (cI (Tn gM (aF 3) (yw (aq (mC (.str "+1,0,1")) (aq (mC (.str "1,0,01")) (aq (mC (.str "1, 0,1")) (aq (mC (.str "1;0;1")) (aq (mC (.str "1,0,1.0")) (aq (mC (.str "1,0,1/1")) (aq (mC (.str "a,0,1")) (aq (mC (.str "1,,1")) (aq (mC (.str "--1,0,1")) (aq (mC (.str "1-,0,1")) aP)))))))))))) (Oj 3))
  (bO (cI (Tn gM (aF 3) (yw (aq (Tn cL (Tn z9 (mC (.str "1")) (mC (.int 61))) (mC (.str ",0,1"))) (aq (mC (.str "1,0,-1")) (aq (mC (.str "-,0,1")) (aq (yw (aq (aF 1) aP)) (aq (mC .non) (aq (mC (.int 7)) (aq (mC (.bl true)) (aq (Py (aq (mC (.int 1)) (aq (mC (.int 0)) (aq (mC (.int 1)) aP)))) aP)))))))))) (Oj 3))
  (eH (Tn DK (aF 3) (bB c_l_draw E (aq (aF 0) (aq (Aj DR (aq (aF 3) aP)) aP))))))))))
def lE:SX:=pN bW
def gJ (c_read_spot:SX)(E:Tq):MS:=
  (eH (mC (.bl false)))
def jT (c_read_spot:SX):SX:=CP 1 2 false fun E=>
  (bO (Nr 1 "EaselError" (fun E=>(tR (bB c_read_spot E (aq (aF 0) aP)))) (eH (jM (Aq (fun n=>(Al n "NoText")) (aF 1)) (jM (Aq (fun n=>true) (aF 1)) (p8 (Aq (fun n=>((Al n "NoName")||((Al n "Nothing")||((Al n "Short")||false)))) (aF 1)))))))
  (gJ c_read_spot E))
def dG:SX:=jT aZ
def sE (c_read_spot c_l_whole:SX):SX:=CP 2 3 false fun E=>
  (bO (cI (bB c_read_spot E (aq (aF 0) aP)) (Oj 2))
  (eH (jM (Aj yt (aq (aF 2) (aq (mC (.ty "tuple")) aP))) (jM (Tn Di (aF 2) (aF 1)) (Aj Ab (aq (CK DX [] (CZ (aF 2)) pH (bB c_l_whole E (aq (aF 0) aP))) aP))))))
def gZ:SX:=sE aZ gY
def uG (c_show_spot c_l_cell_at c_l_bag c_l_spot c_l_odd c_l_refused c_l_read:SX)(E:Tq):MS:=
  (eH (mC (.bl true)))
def vR (c_show_spot c_l_cell_at c_l_bag c_l_spot c_l_odd c_l_refused c_l_read:SX)(E:Tq):MS:=
  (bO (zL (CZ (Tn gM (mSl Qh (aF 0) (vN (mC (.int 1))) (vN (mC (.int 13)))) (yw (aq (mC (.int 0)) aP)))) (Oj 4) (jW (Dq (wQ (qI (bB c_l_refused E (aq (bB c_l_odd E (aq (bB c_l_bag E (aq (aF 4) aP)) (aq (aF 2) aP))) aP)))) (wQ (qI (bB c_l_read E (aq (aF 2) (aq (aF 1) aP)))))) (eH (mC (.bl false))) cM))
  (uG c_show_spot c_l_cell_at c_l_bag c_l_spot c_l_odd c_l_refused c_l_read E))
def Eh (c_show_spot c_l_cell_at c_l_bag c_l_spot c_l_odd c_l_refused c_l_read:SX):SX:=CP 1 5 false fun E=>
  (bO (cI (bB c_l_spot E (aq (bB c_l_cell_at E (aq (aF 0) (aq (mC (.int 0)) aP))) aP)) (Oj 1))
  (bO (cI (Tn cL (Tn cL (Tn cL (Tn cL (Aj BJ (aq (Tn DK (aF 1) (mC (.int 0))) aP)) (mC (.str ","))) (Aj BJ (aq (Tn DK (aF 1) (mC (.int 1))) aP))) (mC (.str ","))) (Aj BJ (aq (Tn DK (aF 1) (mC (.int 2))) aP))) (Oj 2))
  (bO (cI (bB c_show_spot E (aq (aF 1) aP)) (Oj 3))
  (bO (jW (Dq (wQ (qI (Aj Ax (aq (aF 3) (aq (mC (.ty "str")) aP))))) (Dq (cu (Tn Dg (aF 3) (aF 2))) (wQ (qI (bB c_l_read E (aq (aF 2) (aq (aF 1) aP))))))) (eH (mC (.bl false))) cM)
  (vR c_show_spot c_l_cell_at c_l_bag c_l_spot c_l_odd c_l_refused c_l_read E)))))
def yJ:SX:=Eh dJ dj iH jq lE dG gZ
structure Ad where
 f_is_whole:Addr
 d_is_whole:Uw
 f_divisor_of_two:Addr
 d_divisor_of_two:Uw
 f_divisor:Addr
 d_divisor:Uw
 f_ends_below:Addr
 d_ends_below:Uw
 f_is_plain:Addr
 d_is_plain:Uw
 f_show_number:Addr
 d_show_number:Uw
 f_show_spot:Addr
 d_show_spot:Uw
 f_is_number_text:Addr
 d_is_number_text:Uw
 f_read_spot:Addr
 d_read_spot:Uw
 f_l_cell_at:Addr
 d_l_cell_at:Uw
 f_l_bag:Addr
 d_l_bag:Uw
 f_l_draw:Addr
 d_l_draw:Uw
 f_l_whole:Addr
 d_l_whole:Uw
 f_l_plain:Addr
 d_l_plain:Uw
 f_l_spot:Addr
 d_l_spot:Uw
 f_l_odd:Addr
 d_l_odd:Uw
 f_l_refused:Addr
 d_l_refused:Uw
 f_l_read:Addr
 d_l_read:Uw
 f_law:Addr
 d_law:Uw
 a_FIGURES:Tok
 a_MOST_FIGURES:Tok
 x_EaselError:Addr
 x_Nothing:Addr
 x_NoText:Addr
 x_NoName:Addr
 x_Short:Addr
structure Txt (K:Tt) (mg:Str->Option Tw) (t:Ad):Prop where
 F_is_whole:CV K "is_whole" "is_whole" eY t.f_is_whole t.d_is_whole
 fB:mg "is_whole" = Dn (.ref t.f_is_whole)
 b_is_whole:Binds K t.d_is_whole ["thing"] []
 F_divisor_of_two:CV K "divisor_of_two" "divisor_of_two" bH t.f_divisor_of_two t.d_divisor_of_two
 bI:mg "divisor_of_two" = Dn (.ref t.f_divisor_of_two)
 b_divisor_of_two:Binds K t.d_divisor_of_two ["one", "other"] []
 F_divisor:CV K "divisor" "divisor" gQ t.f_divisor t.d_divisor
 gH:mg "divisor" = Dn (.ref t.f_divisor)
 b_divisor:Binds K t.d_divisor ["numbers"] []
 F_ends_below:CV K "ends_below" "ends_below" cN t.f_ends_below t.d_ends_below
 cO:mg "ends_below" = Dn (.ref t.f_ends_below)
 b_ends_below:Binds K t.d_ends_below ["numbers"] []
 F_is_plain:CV K "is_plain" "is_plain" fD t.f_is_plain t.d_is_plain
 eZ:mg "is_plain" = Dn (.ref t.f_is_plain)
 b_is_plain:Binds K t.d_is_plain ["thing", "many"] []
 F_show_number:CV K "show_number" "show_number" cG t.f_show_number t.d_show_number
 cC:mg "show_number" = Dn (.ref t.f_show_number)
 b_show_number:Binds K t.d_show_number ["number"] []
 F_show_spot:CV K "show_spot" "show_spot" dI t.f_show_spot t.d_show_spot
 dJ:mg "show_spot" = Dn (.ref t.f_show_spot)
 b_show_spot:Binds K t.d_show_spot ["spot"] []
 F_is_number_text:CV K "is_number_text" "is_number_text" bK t.f_is_number_text t.d_is_number_text
 bJ:mg "is_number_text" = Dn (.ref t.f_is_number_text)
 b_is_number_text:Binds K t.d_is_number_text ["text"] []
 F_read_spot:CV K "read_spot" "read_spot" dN t.f_read_spot t.d_read_spot
 aZ:mg "read_spot" = Dn (.ref t.f_read_spot)
 b_read_spot:Binds K t.d_read_spot ["text"] []
 F_l_cell_at:CV K "_law_cell_at" "_law_cell_at" dz t.f_l_cell_at t.d_l_cell_at
 dj:mg "_law_cell_at" = Dn (.ref t.f_l_cell_at)
 b_l_cell_at:Binds K t.d_l_cell_at ["_law_script", "_law_k"] []
 F_l_bag:CV K "_law_bag" "_law_bag" lJ t.f_l_bag t.d_l_bag
 iH:mg "_law_bag" = Dn (.ref t.f_l_bag)
 b_l_bag:Binds K t.d_l_bag ["_law_cell"] []
 F_l_draw:CV K "_law_draw" "_law_draw" jm t.f_l_draw t.d_l_draw
 bW:mg "_law_draw" = Dn (.ref t.f_l_draw)
 b_l_draw:Binds K t.d_l_draw ["_law_bag_here", "_law_many"] []
 F_l_whole:CV K "_law_whole" "_law_whole" gW t.f_l_whole t.d_l_whole
 gY:mg "_law_whole" = Dn (.ref t.f_l_whole)
 b_l_whole:Binds K t.d_l_whole ["_law_found"] []
 F_l_plain:CV K "_law_plain" "_law_plain" gq t.f_l_plain t.d_l_plain
 iy:mg "_law_plain" = Dn (.ref t.f_l_plain)
 b_l_plain:Binds K t.d_l_plain ["_law_row"] []
 F_l_spot:CV K "_law_spot" "_law_spot" jt t.f_l_spot t.d_l_spot
 jq:mg "_law_spot" = Dn (.ref t.f_l_spot)
 b_l_spot:Binds K t.d_l_spot ["_law_cell"] []
 F_l_odd:CV K "_law_odd" "_law_odd" lR t.f_l_odd t.d_l_odd
 lE:mg "_law_odd" = Dn (.ref t.f_l_odd)
 b_l_odd:Binds K t.d_l_odd ["_law_bag_here", "_law_text"] []
 F_l_refused:CV K "_law_refused" "_law_refused" dR t.f_l_refused t.d_l_refused
 dG:mg "_law_refused" = Dn (.ref t.f_l_refused)
 b_l_refused:Binds K t.d_l_refused ["_law_thing"] []
 F_l_read:CV K "_law_read" "_law_read" jr t.f_l_read t.d_l_read
 gZ:mg "_law_read" = Dn (.ref t.f_l_read)
 b_l_read:Binds K t.d_l_read ["_law_text", "_law_spot_here"] []
 F_law:CV K "law" "law" yK t.f_law t.d_law
 yJ:mg "law" = Dn (.ref t.f_law)
 b_law:Binds K t.d_law ["_law_script"] []
 z_ValueError:mg "ValueError" = Go
 z_abs:mg "abs" = Go
 z_all:mg "all" = Go
 z_bool:mg "bool" = Go
 z_int:mg "int" = Go
 z_isinstance:mg "isinstance" = Go
 z_len:mg "len" = Go
 z_range:mg "range" = Go
 z_reversed:mg "reversed" = Go
 z_str:mg "str" = Go
 z_tuple:mg "tuple" = Go
 g_FIGURES:mg "FIGURES" = Dn (.str "0123456789" t.a_FIGURES)
 g_MOST_FIGURES:mg "MOST_FIGURES" = Dn (.int 60 t.a_MOST_FIGURES)
 xm_EaselError:mg "EaselError" = Dn (.ref t.x_EaselError)
 xd_EaselError:mD K t.x_EaselError "EaselError" = true
 xm_Nothing:mg "Nothing" = Dn (.ref t.x_Nothing)
 xd_Nothing:mD K t.x_Nothing "Nothing" = true
 xm_NoText:mg "NoText" = Dn (.ref t.x_NoText)
 xd_NoText:mD K t.x_NoText "NoText" = true
 xc_NoText:mJ K t.x_NoText "NoText" = true
 xq_NoText:W8 K t.x_NoText Ed "ValueError.__new__" = true
 xm_NoName:mg "NoName" = Dn (.ref t.x_NoName)
 xd_NoName:mD K t.x_NoName "NoName" = true
 xm_Short:mg "Short" = Dn (.ref t.x_Short)
 xd_Short:mD K t.x_Short "Short" = true
section
variable {P:T8}{w:Uv}{K:Tt}{mg:Str->Option Tw}{base:Heap}{t:Ad}
theorem pR (T:Txt K mg t):cH P w K mg base Ao 10 t.f_is_whole t.d_is_whole ["thing"] (lift K fB):=by
 have nd:=jz.nd;refine mV (k:=9) T.F_is_whole jz fun cdv A outer s H E hr=>?_;have hc:=hr.calm (by decide);refine aJ ?_;exact (aV<|pU (aW sX (by rfl) (by exact T.z_isinstance) Vs (ak (dv 0<|pv 0) (ak (dc (dM (v:=.ty "int") (by rfl) (by exact T.z_int) boot_int<|by rfl)<|fun _ _=>by rw [JI]) aA<|aj<|by rfl)<|aj<|by rfl) (by decide) (by decide) (aj<|by rfl)<|ao<|by rfl)<|xR<|zf<|aW sX (by rfl) (by exact T.z_isinstance) Vs (ak (dv 0<|pv 0) (ak (dc (dM (v:=.ty "bool") (by rfl) (by exact T.z_bool) boot_bool<|by rfl)<|fun _ _=>by rw [JI]) aA<|aj<|by rfl)<|aj<|by rfl) (by decide) (by decide) (aj<|by rfl)<|ao<|by rfl)
theorem iC (T:Txt K mg t):cH P w K mg base Ao 10 t.f_divisor_of_two t.d_divisor_of_two ["one", "other"] (lift K bI):=by
 have nd:=cU.nd;refine mV (k:=9) T.F_divisor_of_two cU fun cdv A outer s H E hr=>?_;have hc:=hr.calm (by decide);refine au ?_ ?_
 ·exact (aR (i:=0) nd (by rfl) (by exact Or.inl rfl)<|aW yM (by rfl) (by exact T.z_abs) boot_abs (ak (dv 0<|pv 0) aA<|aj<|by rfl) (by decide) (by decide) (aj<|by rfl)<|ao<|by rfl)
 refine au ?_ ?_
 ·exact (aR (i:=1) nd (by rfl) (by exact Or.inl rfl)<|aW yM (by rfl) (by exact T.z_abs) boot_abs (ak (dv 1<|pv 1) aA<|aj<|by rfl) (by decide) (by decide) (aj<|by rfl)<|ao<|by rfl)
 refine au ?_ ?_
 ·exact (mR V4 (bT (Hi (vG hr)) (dv 1 (pv 1)) aL (bG _)) (au (aR (i:=2) nd (by rfl) (by exact Or.inl rfl) (bU qx (dv 0 (pv 0)) (dv 1 (pv 1))))
  (au (aR (i:=0) nd (by rfl) (by exact Or.inl rfl) (dv 1 (pv 1)))
  (aJ (aR (i:=1) nd (by rfl) (by exact Or.inl rfl) (dv 2 (pv 2)))))))
 refine aJ ?_;exact (aV<|dv 0<|pv 0)
theorem uh (T:Txt K mg t):cH P w K mg base Ao 11 t.f_divisor t.d_divisor ["numbers"] (lift K gH):=by
 have nd:=kh.nd;refine mV (k:=10) T.F_divisor kh fun cdv A outer s H E hr=>?_;have hc:=hr.calm (by decide);refine au ?_ ?_
 ·exact (aR (i:=1) nd (by rfl) (by exact Or.inl rfl) aL)
 refine au ?_ ?_
 ·exact (qP V4 hc (eN<|dv 0<|pv 0) (lQ<|jH (i:=2) nd (by rfl)<|by exact Or.inl rfl)<|aJ<|aR (i:=1) nd (by rfl) (by exact Or.inl rfl)<|bx ((iC T).mono (by decide)) hr (by rfl) (by exact T.bI) (by exact T.F_divisor_of_two.kp) (by exact T.b_divisor_of_two) (ak (dv 2<|pv 2) (ak (dv 1<|pv 1) aA<|aj<|by rfl)<|aj<|by rfl) (by decide) (aj<|by rfl)<|ao<|by rfl)
 refine aJ ?_;exact (aV<|dv 1<|pv 1)
theorem lN (T:Txt K mg t):cH P w K mg base Ao 10 t.f_ends_below t.d_ends_below ["numbers"] (lift K cO):=by
 have nd:=iw.nd;refine mV (k:=9) T.F_ends_below iw fun cdv A outer s H E hr=>?_;have hc:=hr.calm (by decide);refine au ?_ ?_
 ·exact (qP V4 hc (Es (by rfl) (by exact T.z_reversed) (ak (dv 0<|pv 0) aA<|aj<|by rfl) (aj<|by rfl)<|ao<|by rfl) (lQ<|jH (i:=1) nd (by rfl)<|by exact Or.inl rfl)<|aJ<|gG (bT (Hi<|vG hr) (dv 1<|pv 1) aL<|bG _) (aJ<|aV<|zq G7 (dv 1<|pv 1) aL<|bG _) bL)
 refine aJ ?_;exact (aV xZ)
theorem qe (T:Txt K mg t):cH P w K mg base Ao 12 t.f_is_plain t.d_is_plain ["thing", "many"] (lift K eZ):=by
 have nd:=jw.nd;refine mV (k:=11) T.F_is_plain jw fun cdv A outer s H E hr=>?_;have hc:=hr.calm (by decide);refine au ?_ ?_
 ·exact (gG (pI (gU<|eU<|aW sX (by rfl) (by exact T.z_isinstance) Vs (ak (dv 0<|pv 0) (ak (dc (dM (v:=.ty "tuple") (by rfl) (by exact T.z_tuple) boot_tuple<|by rfl)<|fun _ _=>by rw [JI]) aA<|aj<|by rfl)<|aj<|by rfl) (by decide) (by decide) (aj<|by rfl)<|ao<|by rfl)<|nC<|bT (Hi<|vG hr) (aW vU (by rfl) (by exact T.z_len) WX (ak (dv 0<|pv 0) aA<|aj<|by rfl) (by decide) (by decide) (aj<|by rfl)<|ao<|by rfl) (dv 1<|pv 1)<|bG _).pt (aJ<|aV xZ) bL)
 refine au ?_ ?_
 ·exact (gG (gU<|eU<|aW (zK hc) (by rfl) (by exact T.z_all) boot_all (ak (Dc [] hc (bN<|by rfl) j5 (j6<|bN<|by rfl) (eN<|dv 0<|pv 0) (fun _ _ _ _=>dH)<|fun _ _ _ _=>(bx ((pR T).mono (by decide)) hr (by rfl) (by exact T.fB) (by exact T.F_is_whole.kp) (by exact T.b_is_whole) (ak (dv 0<|pv 0) aA<|aj<|by rfl) (by decide) (aj<|by rfl)<|ao<|by rfl)) aA<|aj<|by rfl) (by decide) (by decide) (aj<|by rfl)<|ao<|by rfl) (aJ<|aV xZ) bL)
 refine aJ ?_;exact (aV<|pU (zq (HW<|vG hr) (bx ((uh T).mono (by decide)) hr (by rfl) (by exact T.gH) (by exact T.F_divisor.kp) (by exact T.b_divisor) (ak (dv 0<|pv 0) aA<|aj<|by rfl) (by decide) (aj<|by rfl)<|ao<|by rfl) aL<|bG _)<|xR<|zf<|bx ((lN T).mono (by decide)) hr (by rfl) (by exact T.cO) (by exact T.F_ends_below.kp) (by exact T.b_ends_below) (ak (dv 0<|pv 0) aA<|aj<|by rfl) (by decide) (aj<|by rfl)<|ao<|by rfl)
theorem jZ (T:Txt K mg t):cH P w K mg base Ao 10 t.f_show_number t.d_show_number ["number"] (lift K cC):=by
 have nd:=fJ.nd;refine mV (k:=9) T.F_show_number fJ fun cdv A outer s H E hr=>?_;have hc:=hr.calm (by decide);refine au ?_ ?_
 ·exact (aR (i:=1) nd (by rfl) (by exact Or.inl rfl)<|xu aA)
 refine au ?_ ?_
 ·exact (aR (i:=2) nd (by rfl) (by exact Or.inl rfl)<|aW yM (by rfl) (by exact T.z_abs) boot_abs (ak (dv 0<|pv 0) aA<|aj<|by rfl) (by decide) (by decide) (aj<|by rfl)<|ao<|by rfl)
 refine au ?_ ?_
 ·exact (mR V4 (bT R9 (dv 2 (pv 2)) (bU wR aL aL) (bG _)) (au zao
  (aJ (aR (i:=2) nd (by rfl) (by exact Or.inl rfl) (bU sW (dv 2 (pv 2)) (bU wR aL aL))))))
 refine au ?_ ?_
 ·exact (vI<|qX (dv 1<|pv 1) (ak (cF vP (by rfl) (by exact T.z_str) boot_str (ak (dv 2<|pv 2) aA<|aj<|by rfl) (by decide) (by decide) (aj<|by rfl)<|ao<|by rfl) aA<|aj<|by rfl) (by rfl) (pY<|by rfl) (by rfl) (aj<|by rfl)<|by rfl)
 refine au ?_ ?_
 ·exact (gG (bT G7 (dv 0<|pv 0) aL<|bG _) (aJ<|vI<|qX (dv 1<|pv 1) (ak aQ aA<|aj<|by rfl) (by rfl) (pY<|by rfl) (by rfl) (aj<|by rfl)<|by rfl) bL)
 refine aJ ?_;exact (aV<|xH hc (by rfl) (by exact T.z_reversed) aQ (dv 1<|pv 1) (by rfl) (pY<|by rfl) (by rfl) (aj<|by rfl) (by rfl) (aj<|by rfl)<|ao<|by rfl)
theorem nR (T:Txt K mg t):cH P w K mg base Ao 11 t.f_show_spot t.d_show_spot ["spot"] (lift K dJ):=by
 have nd:=jd.nd;refine mV (k:=10) T.F_show_spot jd fun cdv A outer s H E hr=>?_;have hc:=hr.calm (by decide);refine aJ ?_;exact (aV<|yH WW PySem.F.type_str_join zaB Ia aQ (ak (Dc [] hc (bN<|by rfl) j5 (j6<|bN<|by rfl) (eN<|dv 0<|pv 0) (fun _ _ _ _=>dH)<|fun _ _ _ _=>(bx ((jZ T).mono (by decide)) hr (by rfl) (by exact T.cC) (by exact T.F_show_number.kp) (by exact T.b_show_number) (ak (dv 0<|pv 0) aA<|aj<|by rfl) (by decide) (aj<|by rfl)<|ao<|by rfl)) aA<|aj<|by rfl) (by rfl) (pY<|by rfl) (by rfl) (aj<|by rfl)<|by rfl)
theorem iI (T:Txt K mg t):cH P w K mg base Ao 10 t.f_is_number_text t.d_is_number_text ["text"] (lift K bJ):=by
 have nd:=cZ.nd;refine mV (k:=9) T.F_is_number_text cZ fun cdv A outer s H E hr=>?_;have hc:=hr.calm (by decide);refine au ?_ ?_
 ·exact (gG (bT (HW<|vG hr) (dv 0<|pv 0) aQ<|bG _) (aJ<|aV xZ) bL)
 refine au ?_ ?_
 ·exact (aR (i:=1) nd (by rfl) (by exact Or.inl rfl)<|RN (eU<|yH PySem.F.slot_str_startswith PySem.F.type_str_startswith mX sH (dv 0<|pv 0) (ak aQ aA<|aj<|by rfl) (by rfl) (pY<|by rfl) (by rfl) (aj<|by rfl)<|by rfl) (Nb (dv 0<|pv 0) (pP aL) Fv)<|dv 0<|pv 0)
 refine au ?_ ?_
 ·exact (gG (pI (bT G7 (aW Bt (by rfl) (by exact T.z_len) WX (ak (dv 1<|pv 1) aA<|aj<|by rfl) (by decide) (by decide) (aj<|by rfl)<|ao<|by rfl) aL<|bG _)<|pI (bT Qi (aW Bt (by rfl) (by exact T.z_len) WX (ak (dv 1<|pv 1) aA<|aj<|by rfl) (by decide) (by decide) (aj<|by rfl)<|ao<|by rfl) (dc (v:=.int 60) (iD (by rfl) T.g_MOST_FIGURES ⟨_,rfl⟩)<|fun _ _=>Rr)<|bG _)<|nC<|eU<|yH PySem.F.slot_str_startswith PySem.F.type_str_startswith mX sH (dv 1<|pv 1) (ak aQ aA<|aj<|by rfl) (by rfl) (pY<|by rfl) (by rfl) (aj<|by rfl)<|by rfl).pt (aJ<|aV xZ) bL)
 refine aJ ?_;exact (aV<|aW (zK hc) (by rfl) (by exact T.z_all) boot_all (ak (Dc [] hc (bN<|by rfl) j5 (j6<|bN<|by rfl) (Jg<|dv 1<|pv 1) (fun _ _ _ _=>dH)<|fun _ _ _ _=>(zq Nt (dv 0<|pv 0) (dc (v:=.str "0123456789") (iD (by rfl) T.g_FIGURES ⟨_,rfl⟩)<|fun _ _=>by rw [JI])<|by with_unfolding_all rfl)) aA<|aj<|by rfl) (by decide) (by decide) (aj<|by rfl)<|ao<|by rfl)
theorem gR (T:Txt K mg t):cH P w K mg base (CXX P w) 13 t.f_read_spot t.d_read_spot ["text"] (tQ K aZ):=by
 have nd:=iT.nd;refine PL (k:=12) T.F_read_spot iT fun cdv A outer s H E hr=>?_;have hc:=hr.calm (by decide);refine eF (fun _=>trivial) ?_ ?_
 ·exact (uP (gU<|eU<|aW BZ (by rfl) (by exact T.z_isinstance) Vs (ak (dv 0<|pv 0) (ak (dc (dM (v:=.ty "str") (by rfl) (by exact T.z_str) boot_str<|by rfl)<|fun _ _=>by rw [JI]) aA<|aj<|by rfl)<|aj<|by rfl) (by decide) (by decide) (aj<|by rfl)<|ao<|by rfl) (gA<|jL hc (by rfl) T.xm_NoText T.xq_NoText T.xc_NoText) lY)
 refine eF (fun _=>trivial) ?_ ?_
 ·exact (wX<|aR (i:=1) nd (by rfl) (by exact Or.inl rfl)<|yH PySem.F.slot_str_split PySem.F.type_str_split yU s_split (dv 0<|pv 0) (ak aQ aA<|aj<|by rfl) (by rfl) (pY<|by rfl) (by rfl) (aj<|by rfl)<|by rfl)
 refine eF (fun _=>trivial) ?_ ?_
 ·exact (uP (pI (bT (Hi<|vG hr) (aW vU (by rfl) (by exact T.z_len) WX (ak (dv 1<|pv 1) aA<|aj<|by rfl) (by decide) (by decide) (aj<|by rfl)<|ao<|by rfl) aL<|bG _)<|nC<|gU<|eU<|aW (zK hc) (by rfl) (by exact T.z_all) boot_all (ak (Dc [] hc (bN<|by rfl) j5 (j6<|bN<|by rfl) (eN<|dv 1<|pv 1) (fun _ _ _ _=>dH)<|fun _ _ _ _=>(bx ((iI T).mono (by decide)) hr (by rfl) (by exact T.bJ) (by exact T.F_is_number_text.kp) (by exact T.b_is_number_text) (ak (dv 0<|pv 0) aA<|aj<|by rfl) (by decide) (aj<|by rfl)<|ao<|by rfl)) aA<|aj<|by rfl) (by decide) (by decide) (aj<|by rfl)<|ao<|by rfl).pt (gA<|jL hc (by rfl) T.xm_NoText T.xq_NoText T.xc_NoText) lY)
 refine eF (fun _=>trivial) ?_ ?_
 ·exact (wX<|aR (i:=2) nd (by rfl) (by exact Or.inl rfl)<|cF xO (by rfl) (by exact T.z_tuple) boot_tuple (ak (Dc [] hc (bN<|by rfl) j5 (j6<|bN<|by rfl) (eN<|dv 1<|pv 1) (fun _ _ _ _=>dH)<|fun _ _ _ _=>(cF Jj (by rfl) (by exact T.z_int) boot_int (ak (dv 0<|pv 0) aA<|aj<|by rfl) (by decide) (by decide) (aj<|by rfl)<|ao<|by rfl)) aA<|aj<|by rfl) (by decide) (by decide) (aj<|by rfl)<|ao<|by rfl)
 refine eF (fun _=>trivial) ?_ ?_
 ·exact (uP (gU<|eU<|bx ((qe T).mono (by decide)) hr (by rfl) (by exact T.eZ) (by exact T.F_is_plain.kp) (by exact T.b_is_plain) (ak (dv 2<|pv 2) (ak aL aA<|aj<|by rfl)<|aj<|by rfl) (by decide) (aj<|by rfl)<|ao<|by rfl) (gA<|jL hc (by rfl) T.xm_NoText T.xq_NoText T.xc_NoText) lY)
 refine gA ?_;exact (wX<|aV<|dv 2<|pv 2)
theorem oV (T:Txt K mg t):cH P w K mg base Ao 13 t.f_read_spot t.d_read_spot ["text"] (lift K aZ):=(gR T).tame
theorem o8 (T:Txt K mg t):cH P w K mg base Ao 10 t.f_l_cell_at t.d_l_cell_at ["_law_script", "_law_k"] (lift K dj):=by
 have nd:=jc.nd;refine mV (k:=9) T.F_l_cell_at jc fun cdv A outer s H E hr=>?_;have hc:=hr.calm (by decide);refine au ?_ ?_
 ·exact (gG (bT G7 (dv 1<|pv 1) (aW vU (by rfl) (by exact T.z_len) WX (ak (dv 0<|pv 0) aA<|aj<|by rfl) (by decide) (by decide) (aj<|by rfl)<|ao<|by rfl)<|bG _) (aJ<|aV<|tO (dv 0<|pv 0) (dv 1<|pv 1) (by intro _ _;rfl)) bL)
 refine aJ ?_;exact (aV aL)
theorem qY (T:Txt K mg t):cH P w K mg base Ao 10 t.f_l_bag t.d_l_bag ["_law_cell"] (lift K iH):=by
 have nd:=rH.nd;refine mV (k:=9) T.F_l_bag rH fun cdv A outer s H E hr=>?_;have hc:=hr.calm (by decide);refine au ?_ ?_
 ·exact (gG (bT G7 (dv 0<|pv 0) (bU wR aL aL)<|bG _) (aJ<|aV<|xu<|ak aL (ak (bU fQ (bU qx (dv 0<|pv 0) aL) aL) aA<|aj<|by rfl)<|aj<|by rfl) bL)
 refine aJ ?_;exact (aV<|xu<|ak (dv 0<|pv 0) (ak aL aA<|aj<|by rfl)<|aj<|by rfl)
theorem dh (T:Txt K mg t):cH P w K mg base Ao 10 t.f_l_draw t.d_l_draw ["_law_bag_here", "_law_many"] (lift K bW):=by
 have nd:=pD.nd;refine mV (k:=9) T.F_l_draw pD fun cdv A outer s H E hr=>?_;have hc:=hr.calm (by decide);refine au ?_ ?_
 ·exact (gG (bT Qi (tO (dv 0 (pv 0)) aL (by intro _ _;rfl)) aL (bG _)) (au (aR (i:=2) nd (by rfl) (by exact Or.inl rfl) (bU qx (tO (dv 0 (pv 0)) aL (by intro _ _;rfl)) (dv 1 (pv 1))))
  (au (qW (bU sW (tO (dv 0 (pv 0)) aL (by intro _ _;rfl)) (dv 1 (pv 1))) (rJ (dv 0 (pv 0)) aL set_list jl))
  (aJ (aV (dv 2 (pv 2)))))) bL)
 refine au ?_ ?_
 ·exact (qW (bU qx (bU fQ (bU Dy (tO (dv 0<|pv 0) aL (by intro _ _;rfl)) aL) aL) aL)<|rJ (dv 0<|pv 0) aL set_list jl)
 refine aJ ?_;exact (aV<|bU qx (bU sW (bU qx (bU Dy (tO (dv 0<|pv 0) aL (by intro _ _;rfl))<|bU fQ (bU sW (tO (dv 0<|pv 0) aL (by intro _ _;rfl)) aL) aL) aL) aL)<|dv 1<|pv 1)
theorem uc (T:Txt K mg t):cH P w K mg base Ao 10 t.f_l_whole t.d_l_whole ["_law_found"] (lift K gY):=by
 have nd:=kJ.nd;refine mV (k:=9) T.F_l_whole kJ fun cdv A outer s H E hr=>?_;have hc:=hr.calm (by decide);refine aJ ?_;exact (aV<|pU (aW sX (by rfl) (by exact T.z_isinstance) Vs (ak (dv 0<|pv 0) (ak (dc (dM (v:=.ty "int") (by rfl) (by exact T.z_int) boot_int<|by rfl)<|fun _ _=>by rw [JI]) aA<|aj<|by rfl)<|aj<|by rfl) (by decide) (by decide) (aj<|by rfl)<|ao<|by rfl)<|xR<|zf<|aW sX (by rfl) (by exact T.z_isinstance) Vs (ak (dv 0<|pv 0) (ak (dc (dM (v:=.ty "bool") (by rfl) (by exact T.z_bool) boot_bool<|by rfl)<|fun _ _=>by rw [JI]) aA<|aj<|by rfl)<|aj<|by rfl) (by decide) (by decide) (aj<|by rfl)<|ao<|by rfl)
theorem sY (T:Txt K mg t):cH P w K mg base Ao 10 t.f_l_plain t.d_l_plain ["_law_row"] (lift K iy):=by
 have nd:=kZ.nd;refine mV (k:=9) T.F_l_plain kZ fun cdv A outer s H E hr=>?_;have hc:=hr.calm (by decide);refine au ?_ ?_
 ·exact (aR (i:=1) nd (by rfl) (by exact Or.inr rfl) aL)
 refine au ?_ ?_
 ·exact (qP V4 hc (eN (dv 0 (pv 0))) (lQ (jH (i:=2) nd (by rfl) (by exact Or.inl rfl))) (au (aR (i:=3) nd (by rfl) (by exact Or.inl rfl) (aW yM (by rfl) (by exact T.z_abs) boot_abs (ak (dv 2 (pv 2)) aA (aj (by rfl))) (by decide) (by decide) (aj (by rfl)) (ao (by rfl))))
  (au (aR (i:=4) nd (by rfl) (by exact Or.inl rfl) (dv 1 (pv 1)))
  (au (mR V4 (bT Qi (dv 4 (pv 4)) aL (bG _)) (aJ (vX (Hs (i:=3) (j:=4) hc nd (by rfl) (by rfl) (by decide) (by rfl) (by rfl) (ak (dv 4 (pv 4)) (ak (bU qx (dv 3 (pv 3)) (dv 4 (pv 4))) aA (aj (by rfl))) (aj (by rfl))) (by rfl)))))
  (aJ (aR (i:=1) nd (by rfl) (by exact Or.inr rfl) (dv 3 (pv 3))))))))
 refine au ?_ ?_
 ·exact (HS [1] (i:=5) nd (by rfl) (by exact Or.inl rfl) hc (bN<|by rfl) j5 (j6<|bN<|by rfl) (eN<|dv 0<|pv 0) (fun _ _ _ _=>dH)<|fun _ _ _ _=>(bU sW (dv 0<|pv 0)<|dv 1<|pv 1))
 refine au ?_ ?_
 ·exact (gG (bT G7 (tO (Dc [] hc (bN<|by rfl) j5 (j6<|bN<|by rfl) (eN<|dv 5<|pv 5) (fun _ _ _ _=>(Gy<|bT (Hi<|vG hr) (dv 0<|pv 0) aL<|bG _))<|fun _ _ _ _=>(dv 0<|pv 0)) (Ox aL) (by intro _ _;rfl)) aL<|bG _) (aJ<|HS [] (i:=5) nd (by rfl) (by exact Or.inl rfl) hc (bN<|by rfl) j5 (j6<|bN<|by rfl) (eN<|dv 5<|pv 5) (fun _ _ _ _=>dH)<|fun _ _ _ _=>(bU Gm aL<|dv 0<|pv 0)) bL)
 refine aJ ?_;exact (aV<|cF xO (by rfl) (by exact T.z_tuple) boot_tuple (ak (dv 5<|pv 5) aA<|aj<|by rfl) (by decide) (by decide) (aj<|by rfl)<|ao<|by rfl)
theorem vA (T:Txt K mg t):cH P w K mg base Ao 11 t.f_l_spot t.d_l_spot ["_law_cell"] (lift K jq):=by
 have nd:=mZ.nd;refine mV (k:=10) T.F_l_spot mZ fun cdv A outer s H E hr=>?_;have hc:=hr.calm (by decide);refine au ?_ ?_
 ·exact (aR (i:=1) nd (by rfl) (by exact Or.inr rfl)<|bx ((qY T).mono (by decide)) hr (by rfl) (by exact T.iH) (by exact T.F_l_bag.kp) (by exact T.b_l_bag) (ak (dv 0<|pv 0) aA<|aj<|by rfl) (by decide) (aj<|by rfl)<|ao<|by rfl)
 refine au ?_ ?_
 ·exact (aR (i:=2) nd (by rfl) (by exact Or.inr rfl)<|tO (j7<|ak aL (ak aL (ak (bU Gm (bU Dy aL<|bU wR aL aL) aL) aA<|aj<|by rfl)<|aj<|by rfl)<|aj<|by rfl) (bx ((dh T).mono (by decide)) hr (by rfl) (by exact T.bW) (by exact T.F_l_draw.kp) (by exact T.b_l_draw) (ak (dv 1<|pv 1) (ak aL aA<|aj<|by rfl)<|aj<|by rfl) (by decide) (aj<|by rfl)<|ao<|by rfl) (by intro _ _;rfl))
 refine au ?_ ?_
 ·exact (Im [1,2] (i:=3) nd (by rfl) (by exact Or.inl rfl) hc (bN<|by rfl) j5 (j6<|bN<|by rfl) (vC (by rfl) (by exact T.z_range) (ak aL aA<|aj<|by rfl)<|Cw<|by rfl) (fun _ _ _ _=>dH)<|fun _ _ _ _=>(bU Gm (bx ((dh T).mono (by decide)) hr (by rfl) (by exact T.bW) (by exact T.F_l_draw.kp) (by exact T.b_l_draw) (ak (dv 1<|pv 1) (ak (dv 2<|pv 2) aA<|aj<|by rfl)<|aj<|by rfl) (by decide) (aj<|by rfl)<|ao<|by rfl)<|bU sW (dv 2<|pv 2) aL))
 refine au ?_ ?_
 ·exact (gG (bT (HW<|vG hr) (bx ((dh T).mono (by decide)) hr (by rfl) (by exact T.bW) (by exact T.F_l_draw.kp) (by exact T.b_l_draw) (ak (dv 1<|pv 1) (ak aL aA<|aj<|by rfl)<|aj<|by rfl) (by decide) (aj<|by rfl)<|ao<|by rfl) aL<|bG _) (aJ<|qW aL<|rJ (dv 3<|pv 3) aL set_list jl) bL)
 refine au ?_ ?_
 ·exact (gG (bT (HW<|vG hr) (dv 3<|pv 3) (j7<|ak aL (ak aL (ak aL aA<|aj<|by rfl)<|aj<|by rfl)<|aj<|by rfl)<|bG _) (aJ<|qW aL<|rJ (dv 3<|pv 3) (bx ((dh T).mono (by decide)) hr (by rfl) (by exact T.bW) (by exact T.F_l_draw.kp) (by exact T.b_l_draw) (ak (dv 1<|pv 1) (ak aL aA<|aj<|by rfl)<|aj<|by rfl) (by decide) (aj<|by rfl)<|ao<|by rfl) set_list jl) bL)
 refine aJ ?_;exact (aV<|bx ((sY T).mono (by decide)) hr (by rfl) (by exact T.iy) (by exact T.F_l_plain.kp) (by exact T.b_l_plain) (ak (dv 3<|pv 3) aA<|aj<|by rfl) (by decide) (aj<|by rfl)<|ao<|by rfl)
theorem zV (T:Txt K mg t):cH P w K mg base Ao 11 t.f_l_odd t.d_l_odd ["_law_bag_here", "_law_text"] (lift K lE):=by
 have nd:=rQ.nd;refine mV (k:=10) T.F_l_odd rQ fun cdv A outer s H E hr=>?_;have hc:=hr.calm (by decide);refine au ?_ ?_
 ·exact (aR (i:=2) nd (by rfl) (by exact Or.inl rfl)<|cF vP (by rfl) (by exact T.z_str) boot_str (ak (bU fQ aL<|bx ((dh T).mono (by decide)) hr (by rfl) (by exact T.bW) (by exact T.F_l_draw.kp) (by exact T.b_l_draw) (ak (dv 0<|pv 0) (ak (bU wR aL aL) aA<|aj<|by rfl)<|aj<|by rfl) (by decide) (aj<|by rfl)<|ao<|by rfl) aA<|aj<|by rfl) (by decide) (by decide) (aj<|by rfl)<|ao<|by rfl)
 refine au ?_ ?_
 ·exact (aR (i:=3) nd (by rfl) (by exact Or.inl rfl)<|j7<|ak aQ (ak aQ (ak aQ (ak (dv 2<|pv 2) (ak (bU bM (bU bM (dv 2<|pv 2) aQ)<|dv 2<|pv 2) (ak (bU bM (dv 1<|pv 1) aQ) (ak (bU bM aQ<|dv 1<|pv 1) (ak (bU bM (bU bM (dv 1<|pv 1) aQ)<|dv 2<|pv 2) (ak (bU bM aQ<|dv 1<|pv 1) (ak (bU bM (dv 1<|pv 1) aQ) aA<|aj<|by rfl)<|aj<|by rfl)<|aj<|by rfl)<|aj<|by rfl)<|aj<|by rfl)<|aj<|by rfl)<|aj<|by rfl)<|aj<|by rfl)<|aj<|by rfl)<|aj<|by rfl)
 refine au ?_ ?_
 ·exact (aR (i:=3) nd (by rfl) (by exact Or.inl rfl)<|bU fQ (dv 3<|pv 3)<|j7<|ak (bU bM (bU bM (dv 2<|pv 2) aQ)<|dv 2<|pv 2) (ak aQ (ak aQ (ak aQ (ak (bU bM (bU bM (dv 2<|pv 2) aQ)<|dv 2<|pv 2) (ak (bU bM (bU bM aQ<|dv 2<|pv 2) aQ) (ak aQ (ak aQ aA<|aj<|by rfl)<|aj<|by rfl)<|aj<|by rfl)<|aj<|by rfl)<|aj<|by rfl)<|aj<|by rfl)<|aj<|by rfl)<|aj<|by rfl)
 refine au ?_ ?_
 ·exact (aR (i:=3) nd (by rfl) (by exact Or.inl rfl)<|bU fQ (dv 3<|pv 3)<|j7<|ak aQ (ak aQ (ak aQ (ak aQ (ak aQ (ak aQ (ak aQ (ak aQ (ak aQ (ak aQ aA<|aj<|by rfl)<|aj<|by rfl)<|aj<|by rfl)<|aj<|by rfl)<|aj<|by rfl)<|aj<|by rfl)<|aj<|by rfl)<|aj<|by rfl)<|aj<|by rfl)<|aj<|by rfl)
 refine au ?_ ?_
 ·first
  | (with_reducible exact (aR (hs:=by with_unfolding_all rfl) (hf:=by with_unfolding_all first | exact .inl rfl | exact .inr rfl) (i:=3) (by with_unfolding_all exact nd) (by with_unfolding_all rfl) (by with_unfolding_all exact Or.inl rfl) (bU fQ (dv 3 (by with_unfolding_all exact pv 3)) (j7 (ak (bU bM (bU Bk aQ aL) aQ) (ak aQ (ak aQ (ak (j7 (ak (dv 1 (by with_unfolding_all exact pv 1)) aA (aj (by with_unfolding_all rfl)))) (ak Lk (ak aL (ak xZ (ak (JF (ak aL (ak aL (ak aL aA (aj (by with_unfolding_all rfl))) (aj (by with_unfolding_all rfl))) (aj (by with_unfolding_all rfl)))) aA (aj (by with_unfolding_all rfl))) (aj (by with_unfolding_all rfl))) (aj (by with_unfolding_all rfl))) (aj (by with_unfolding_all rfl))) (aj (by with_unfolding_all rfl))) (aj (by with_unfolding_all rfl))) (aj (by with_unfolding_all rfl))) (aj (by with_unfolding_all rfl)))))))
  | (exact (aR (i:=3) nd (by rfl) (by exact Or.inl rfl) (bU fQ (dv 3 (pv 3)) (j7 (ak (bU bM (bU Bk aQ aL) aQ) (ak aQ (ak aQ (ak (j7 (ak (dv 1 (pv 1)) aA (aj (by rfl)))) (ak Lk (ak aL (ak xZ (ak (JF (ak aL (ak aL (ak aL aA (aj (by rfl))) (aj (by rfl))) (aj (by rfl)))) aA (aj (by rfl))) (aj (by rfl))) (aj (by rfl))) (aj (by rfl))) (aj (by rfl))) (aj (by rfl))) (aj (by rfl))) (aj (by rfl)))))))
 refine aJ ?_;exact (aV<|tO (dv 3<|pv 3) (bx ((dh T).mono (by decide)) hr (by rfl) (by exact T.bW) (by exact T.F_l_draw.kp) (by exact T.b_l_draw) (ak (dv 0<|pv 0) (ak (aW vU (by rfl) (by exact T.z_len) WX (ak (dv 3<|pv 3) aA<|aj<|by rfl) (by decide) (by decide) (aj<|by rfl)<|ao<|by rfl) aA<|aj<|by rfl)<|aj<|by rfl) (by decide) (aj<|by rfl)<|ao<|by rfl) (by intro _ _;rfl))
theorem n6 (T:Txt K mg t):cH P w K mg base Ao 14 t.f_l_refused t.d_l_refused ["_law_thing"] (lift K dG):=by
 have nd:=ji.nd;refine mV (k:=13) T.F_l_refused ji fun cdv A outer s H E hr=>?_;have hc:=hr.calm (by decide);refine au ?_ ?_
 ·exact (La (i:=1) nd (by rfl) (by rfl) (by rfl) T.xm_EaselError T.xd_EaselError ⟨rfl,rfl⟩ rfl (fun pins xe Z0=>(gA (zu (Gk ((gR T).mono (by decide)) hr (by rfl) (by exact T.aZ) (by exact T.F_read_spot.kp) (by exact T.b_read_spot) (ak (dv 0 (pv 0)) aA (aj (by rfl))) (by decide) (aj (by rfl)) (ao (by rfl)))))) (fun a o u=>by
  have hr:=zp (a:=a) hr (by decide);exact (aJ (aV (pU (Bx (by rfl) (by exact T.z_isinstance) (dv 1 (pv 1)) (iD (v:=.ref t.x_NoText) (by rfl) T.xm_NoText (by rfl)) (uD.own T.xd_NoText) (aj (by rfl)) (aj (by rfl)) (ao (by rfl))) (pU (Bx (by rfl) (by exact T.z_isinstance) (dv 1 (pv 1)) (dM (v:=.ty "ValueError") (by rfl) (by exact T.z_ValueError) PyProof.Rows.Boot.«ValueError» (by rfl)) uD.val (aj (by rfl)) (aj (by rfl)) (ao (by rfl))) (xR (zf (HF (by rfl) (by exact T.z_isinstance) (dv 1 (pv 1)) (Dm.cons (iD (v:=.ref t.x_NoName) (by rfl) T.xm_NoName (by rfl)) (uD.own T.xd_NoName) (Dm.cons (iD (v:=.ref t.x_Nothing) (by rfl) T.xm_Nothing (by rfl)) (uD.own T.xd_Nothing) (Dm.cons (iD (v:=.ref t.x_Short) (by rfl) T.xm_Short (by rfl)) (uD.own T.xd_Short) Dm.nil (aj (by rfl))) (aj (by rfl))) (aj (by rfl))) (by exact Xa rfl) (aj (by rfl)) (aj (by rfl)) (ao (by rfl)))))))))))
 refine aJ ?_;exact (aV xZ)
theorem ou (T:Txt K mg t):cH P w K mg base Ao 14 t.f_l_read t.d_l_read ["_law_text", "_law_spot_here"] (lift K gZ):=by
 have nd:=oN.nd;refine mV (k:=13) T.F_l_read oN fun cdv A outer s H E hr=>?_;have hc:=hr.calm (by decide);refine au ?_ ?_
 ·exact (aR (i:=2) nd (by rfl) (by exact Or.inl rfl)<|bx ((oV T).mono (by decide)) hr (by rfl) (by exact T.aZ) (by exact T.F_read_spot.kp) (by exact T.b_read_spot) (ak (dv 0<|pv 0) aA<|aj<|by rfl) (by decide) (aj<|by rfl)<|ao<|by rfl)
 refine aJ ?_;exact (aV<|pU (aW sX (by rfl) (by exact T.z_isinstance) Vs (ak (dv 2<|pv 2) (ak (dc (dM (v:=.ty "tuple") (by rfl) (by exact T.z_tuple) boot_tuple<|by rfl)<|fun _ _=>by rw [JI]) aA<|aj<|by rfl)<|aj<|by rfl) (by decide) (by decide) (aj<|by rfl)<|ao<|by rfl)<|pU (zq (HW<|vG hr) (dv 2<|pv 2) (dv 1<|pv 1)<|bG _)<|xR<|aW (zK hc) (by rfl) (by exact T.z_all) boot_all (ak (Dc [] hc (bN<|by rfl) j5 (j6<|bN<|by rfl) (eN<|dv 2<|pv 2) (fun _ _ _ _=>dH)<|fun _ _ _ _=>(bx ((uc T).mono (by decide)) hr (by rfl) (by exact T.gY) (by exact T.F_l_whole.kp) (by exact T.b_l_whole) (ak (dv 0<|pv 0) aA<|aj<|by rfl) (by decide) (aj<|by rfl)<|ao<|by rfl)) aA<|aj<|by rfl) (by decide) (by decide) (aj<|by rfl)<|ao<|by rfl)
theorem JH (T:Txt K mg t):cH P w K mg base Ao 15 t.f_law t.d_law ["_law_script"] (lift K yJ):=by
 have nd:=Br.nd;refine mV (k:=14) T.F_law Br fun cdv A outer s H E hr=>?_;have hc:=hr.calm (by decide);refine au ?_ ?_
 ·exact (aR (i:=1) nd (by rfl) (by exact Or.inl rfl)<|bx ((vA T).mono (by decide)) hr (by rfl) (by exact T.jq) (by exact T.F_l_spot.kp) (by exact T.b_l_spot) (ak (bx ((o8 T).mono (by decide)) hr (by rfl) (by exact T.dj) (by exact T.F_l_cell_at.kp) (by exact T.b_l_cell_at) (ak (dv 0<|pv 0) (ak aL aA<|aj<|by rfl)<|aj<|by rfl) (by decide) (aj<|by rfl)<|ao<|by rfl) aA<|aj<|by rfl) (by decide) (aj<|by rfl)<|ao<|by rfl)
 refine au ?_ ?_
 ·exact (aR (i:=2) nd (by rfl) (by exact Or.inl rfl)<|bU bM (bU bM (bU bM (bU bM (cF vP (by rfl) (by exact T.z_str) boot_str (ak (tO (dv 1<|pv 1) aL (by intro _ _;rfl)) aA<|aj<|by rfl) (by decide) (by decide) (aj<|by rfl)<|ao<|by rfl) aQ)<|cF vP (by rfl) (by exact T.z_str) boot_str (ak (tO (dv 1<|pv 1) aL (by intro _ _;rfl)) aA<|aj<|by rfl) (by decide) (by decide) (aj<|by rfl)<|ao<|by rfl) aQ)<|cF vP (by rfl) (by exact T.z_str) boot_str (ak (tO (dv 1<|pv 1) aL (by intro _ _;rfl)) aA<|aj<|by rfl) (by decide) (by decide) (aj<|by rfl)<|ao<|by rfl)
 refine au ?_ ?_
 ·exact (aR (i:=3) nd (by rfl) (by exact Or.inl rfl)<|bx ((nR T).mono (by decide)) hr (by rfl) (by exact T.dJ) (by exact T.F_show_spot.kp) (by exact T.b_show_spot) (ak (dv 1<|pv 1) aA<|aj<|by rfl) (by decide) (aj<|by rfl)<|ao<|by rfl)
 refine au ?_ ?_
 ·exact (gG (pI (gU<|eU<|aW BZ (by rfl) (by exact T.z_isinstance) Vs (ak (dv 3<|pv 3) (ak (dc (dM (v:=.ty "str") (by rfl) (by exact T.z_str) boot_str<|by rfl)<|fun _ _=>by rw [JI]) aA<|aj<|by rfl)<|aj<|by rfl) (by decide) (by decide) (aj<|by rfl)<|ao<|by rfl)<|pI (bT (Hi<|vG hr) (dv 3<|pv 3) (dv 2<|pv 2)<|bG _)<|nC<|gU<|eU<|bx ((ou T).mono (by decide)) hr (by rfl) (by exact T.gZ) (by exact T.F_l_read.kp) (by exact T.b_l_read) (ak (dv 2<|pv 2) (ak (dv 1<|pv 1) aA<|aj<|by rfl)<|aj<|by rfl) (by decide) (aj<|by rfl)<|ao<|by rfl).pt (aJ<|aV xZ) bL)
 refine au ?_ ?_
 ·exact (qP V4 hc (eN<|bU fQ (NQ (dv 0<|pv 0) (pP aL)<|pP aL)<|j7<|ak aL aA<|aj<|by rfl) (lQ<|jH (i:=4) nd (by rfl)<|by exact Or.inl rfl)<|aJ<|gG (pI (gU<|eU<|bx ((n6 T).mono (by decide)) hr (by rfl) (by exact T.dG) (by exact T.F_l_refused.kp) (by exact T.b_l_refused) (ak (bx ((zV T).mono (by decide)) hr (by rfl) (by exact T.lE) (by exact T.F_l_odd.kp) (by exact T.b_l_odd) (ak (bx ((qY T).mono (by decide)) hr (by rfl) (by exact T.iH) (by exact T.F_l_bag.kp) (by exact T.b_l_bag) (ak (dv 4<|pv 4) aA<|aj<|by rfl) (by decide) (aj<|by rfl)<|ao<|by rfl) (ak (dv 2<|pv 2) aA<|aj<|by rfl)<|aj<|by rfl) (by decide) (aj<|by rfl)<|ao<|by rfl) aA<|aj<|by rfl) (by decide) (aj<|by rfl)<|ao<|by rfl)<|nC<|gU<|eU<|bx ((ou T).mono (by decide)) hr (by rfl) (by exact T.gZ) (by exact T.F_l_read.kp) (by exact T.b_l_read) (ak (dv 2<|pv 2) (ak (dv 1<|pv 1) aA<|aj<|by rfl)<|aj<|by rfl) (by decide) (aj<|by rfl)<|ao<|by rfl).pt (aJ<|aV xZ) bL)
 refine aJ ?_;exact (aV xZ)
end
def fO (x:Str)(s:Stmt)(oc:Tw)(od:Option Addr)(kV dc pm:Tw)(an:Option Addr)(cd ct:Tw)(sl:Array (Option Tw)):Option Obj:=Dn ⟨oc,od,.func (WT x x (jU s) (d9 s) (aH s) .none kV dc pm an cd ct),sl⟩
def sR (f:Addr):Option (Option Tw):=Dn (Dn (.ref f))
open PySem.W (nsIn codeIn keepIn) in
theorem all_mk {l:PySem.W.OpenLaw}{w:Uv}{K:Tt}{h:Heap}{mg:Str->Option Tw}{fa:Addr}(hlaw:∀ ns:List Int,ns.length<=63->yJ [.kls (ns.map W.int)] g0 (fun w _=>w=.bl true) EF)(X:K.In h)(G:h.Ns T4 mg)(hfa:mg "law" = Dn (.ref fa))
  {f0 f1 f2 f3 f4 f5 f6 f7 f8 f9 f10 f11 f12 f13 f14 f15 f16 f17 f18:Addr} {od0 an0 od1 an1 od2 an2 od3 an3 od4 an4 od5 an5 od6 an6 od7 an7 od8 an8 od9 an9 od10 an10 od11 an11 od12 an12 od13 an13 od14 an14 od15 an15 od16 an16 od17 an17 od18 an18:Option Addr} {sl0 sl1 sl2 sl3 sl4 sl5 sl6 sl7 sl8 sl9 sl10 sl11 sl12 sl13 sl14 sl15 sl16 sl17 sl18:Array (Option Tw)} {oc0 kV0 dc0 pm0 cd0 ct0 oc1 kV1 dc1 pm1 cd1 ct1 oc2 kV2 dc2 pm2 cd2 ct2 oc3 kV3 dc3 pm3 cd3 ct3 oc4 kV4 dc4 pm4 cd4 ct4 oc5 kV5 dc5 pm5 cd5 ct5 oc6 kV6 dc6 pm6 cd6 ct6 oc7 kV7 dc7 pm7 cd7 ct7 oc8 kV8 dc8 pm8 cd8 ct8 oc9 kV9 dc9 pm9 cd9 ct9 oc10 kV10 dc10 pm10 cd10 ct10 oc11 kV11 dc11 pm11 cd11 ct11 oc12 kV12 dc12 pm12 cd12 ct12 oc13 kV13 dc13 pm13 cd13 ct13 oc14 kV14 dc14 pm14 cd14 ct14 oc15 kV15 dc15 pm15 cd15 ct15 oc16 kV16 dc16 pm16 cd16 ct16 oc17 kV17 dc17 pm17 cd17 ct17 oc18 kV18 dc18 pm18 cd18 ct18:Tw}
  {n_FIGURES:Tok}
  {n_MOST_FIGURES:Tok}
  {x_EaselError:Addr}
  {x_Nothing:Addr}
  {x_NoText:Addr}
  {x_NoName:Addr}
  {x_Short:Addr}
  (a0:nsIn K T4 "is_whole" = sR f0) (l0:K.lookup f0=fO "is_whole" eY oc0 od0 kV0 dc0 pm0 an0 cd0 ct0 sl0) (c0:codeIn K cd0 "is_whole" = true) (k0:keepIn K (.ref f0)=true)
  (a1:nsIn K T4 "divisor_of_two" = sR f1) (l1:K.lookup f1=fO "divisor_of_two" bH oc1 od1 kV1 dc1 pm1 an1 cd1 ct1 sl1) (c1:codeIn K cd1 "divisor_of_two" = true) (k1:keepIn K (.ref f1)=true)
  (a2:nsIn K T4 "divisor" = sR f2) (l2:K.lookup f2=fO "divisor" gQ oc2 od2 kV2 dc2 pm2 an2 cd2 ct2 sl2) (c2:codeIn K cd2 "divisor" = true) (k2:keepIn K (.ref f2)=true)
  (a3:nsIn K T4 "ends_below" = sR f3) (l3:K.lookup f3=fO "ends_below" cN oc3 od3 kV3 dc3 pm3 an3 cd3 ct3 sl3) (c3:codeIn K cd3 "ends_below" = true) (k3:keepIn K (.ref f3)=true)
  (a4:nsIn K T4 "is_plain" = sR f4) (l4:K.lookup f4=fO "is_plain" fD oc4 od4 kV4 dc4 pm4 an4 cd4 ct4 sl4) (c4:codeIn K cd4 "is_plain" = true) (k4:keepIn K (.ref f4)=true)
  (a5:nsIn K T4 "show_number" = sR f5) (l5:K.lookup f5=fO "show_number" cG oc5 od5 kV5 dc5 pm5 an5 cd5 ct5 sl5) (c5:codeIn K cd5 "show_number" = true) (k5:keepIn K (.ref f5)=true)
  (a6:nsIn K T4 "show_spot" = sR f6) (l6:K.lookup f6=fO "show_spot" dI oc6 od6 kV6 dc6 pm6 an6 cd6 ct6 sl6) (c6:codeIn K cd6 "show_spot" = true) (k6:keepIn K (.ref f6)=true)
  (a7:nsIn K T4 "is_number_text" = sR f7) (l7:K.lookup f7=fO "is_number_text" bK oc7 od7 kV7 dc7 pm7 an7 cd7 ct7 sl7) (c7:codeIn K cd7 "is_number_text" = true) (k7:keepIn K (.ref f7)=true)
  (a8:nsIn K T4 "read_spot" = sR f8) (l8:K.lookup f8=fO "read_spot" dN oc8 od8 kV8 dc8 pm8 an8 cd8 ct8 sl8) (c8:codeIn K cd8 "read_spot" = true) (k8:keepIn K (.ref f8)=true)
  (a9:nsIn K T4 "_law_cell_at" = sR f9) (l9:K.lookup f9=fO "_law_cell_at" dz oc9 od9 kV9 dc9 pm9 an9 cd9 ct9 sl9) (c9:codeIn K cd9 "_law_cell_at" = true) (k9:keepIn K (.ref f9)=true)
  (a10:nsIn K T4 "_law_bag" = sR f10) (l10:K.lookup f10=fO "_law_bag" lJ oc10 od10 kV10 dc10 pm10 an10 cd10 ct10 sl10) (c10:codeIn K cd10 "_law_bag" = true) (k10:keepIn K (.ref f10)=true)
  (a11:nsIn K T4 "_law_draw" = sR f11) (l11:K.lookup f11=fO "_law_draw" jm oc11 od11 kV11 dc11 pm11 an11 cd11 ct11 sl11) (c11:codeIn K cd11 "_law_draw" = true) (k11:keepIn K (.ref f11)=true)
  (a12:nsIn K T4 "_law_whole" = sR f12) (l12:K.lookup f12=fO "_law_whole" gW oc12 od12 kV12 dc12 pm12 an12 cd12 ct12 sl12) (c12:codeIn K cd12 "_law_whole" = true) (k12:keepIn K (.ref f12)=true)
  (a13:nsIn K T4 "_law_plain" = sR f13) (l13:K.lookup f13=fO "_law_plain" gq oc13 od13 kV13 dc13 pm13 an13 cd13 ct13 sl13) (c13:codeIn K cd13 "_law_plain" = true) (k13:keepIn K (.ref f13)=true)
  (a14:nsIn K T4 "_law_spot" = sR f14) (l14:K.lookup f14=fO "_law_spot" jt oc14 od14 kV14 dc14 pm14 an14 cd14 ct14 sl14) (c14:codeIn K cd14 "_law_spot" = true) (k14:keepIn K (.ref f14)=true)
  (a15:nsIn K T4 "_law_odd" = sR f15) (l15:K.lookup f15=fO "_law_odd" lR oc15 od15 kV15 dc15 pm15 an15 cd15 ct15 sl15) (c15:codeIn K cd15 "_law_odd" = true) (k15:keepIn K (.ref f15)=true)
  (a16:nsIn K T4 "_law_refused" = sR f16) (l16:K.lookup f16=fO "_law_refused" dR oc16 od16 kV16 dc16 pm16 an16 cd16 ct16 sl16) (c16:codeIn K cd16 "_law_refused" = true) (k16:keepIn K (.ref f16)=true)
  (a17:nsIn K T4 "_law_read" = sR f17) (l17:K.lookup f17=fO "_law_read" jr oc17 od17 kV17 dc17 pm17 an17 cd17 ct17 sl17) (c17:codeIn K cd17 "_law_read" = true) (k17:keepIn K (.ref f17)=true)
  (a18:nsIn K T4 "law" = sR f18) (l18:K.lookup f18=fO "law" yK oc18 od18 kV18 dc18 pm18 an18 cd18 ct18 sl18) (c18:codeIn K cd18 "law" = true) (k18:keepIn K (.ref f18)=true)
  (z_ValueError:Vc K T4 "ValueError" = Dn Go)
  (z_abs:Vc K T4 "abs" = Dn Go)
  (z_all:Vc K T4 "all" = Dn Go)
  (z_bool:Vc K T4 "bool" = Dn Go)
  (z_int:Vc K T4 "int" = Dn Go)
  (z_isinstance:Vc K T4 "isinstance" = Dn Go)
  (z_len:Vc K T4 "len" = Dn Go)
  (z_range:Vc K T4 "range" = Dn Go)
  (z_reversed:Vc K T4 "reversed" = Dn Go)
  (z_str:Vc K T4 "str" = Dn Go)
  (z_tuple:Vc K T4 "tuple" = Dn Go)
  (gk_FIGURES:Vc K T4 "FIGURES" = Dn (Dn (.str "0123456789" n_FIGURES)))
  (gk_MOST_FIGURES:Vc K T4 "MOST_FIGURES" = Dn (Dn (.int 60 n_MOST_FIGURES)))
  (gx_EaselError:nsIn K T4 "EaselError" = sR x_EaselError) (xd_EaselError:mD K x_EaselError "EaselError" = true)
  (gx_Nothing:nsIn K T4 "Nothing" = sR x_Nothing) (xd_Nothing:mD K x_Nothing "Nothing" = true)
  (gx_NoText:nsIn K T4 "NoText" = sR x_NoText) (xd_NoText:mD K x_NoText "NoText" = true)
  (xc_NoText:mJ K x_NoText "NoText" = true) (xq_NoText:W8 K x_NoText Ed "ValueError.__new__" = true)
  (gx_NoName:nsIn K T4 "NoName" = sR x_NoName) (xd_NoName:mD K x_NoName "NoName" = true)
  (gx_Short:nsIn K T4 "Short" = sR x_Short) (xd_Short:mD K x_Short "Short" = true)
  : ∃ fd:Uw,(∀ (s:Tz) (v:Tw),BindsTo s fd ⟨[v],[]⟩ [("_law_script",v)])/\∀ base:Heap,K.In base->base.Ns T4 mg->cH l.prog w K mg base Ao 15 fa fd ["_law_script"] (zJ K):=by
 have e:=hfa.symm.trans (Uj X G a18);cases e;have F0:=bR (st:=eY) l0 c0 k0;have b0:=F0.binds (ps:=["thing"]) fun _ _ _ _ _ _ us hl=>match us,hl with | [_],_=>rfl
 have F1:=bR (st:=bH) l1 c1 k1;have b1:=F1.binds (ps:=["one", "other"]) fun _ _ _ _ _ _ us hl=>match us,hl with | [_,_],_=>rfl
 have F2:=bR (st:=gQ) l2 c2 k2;have b2:=F2.binds (ps:=["numbers"]) fun _ _ _ _ _ _ us hl=>match us,hl with | [_],_=>rfl
 have F3:=bR (st:=cN) l3 c3 k3;have b3:=F3.binds (ps:=["numbers"]) fun _ _ _ _ _ _ us hl=>match us,hl with | [_],_=>rfl
 have F4:=bR (st:=fD) l4 c4 k4;have b4:=F4.binds (ps:=["thing", "many"]) fun _ _ _ _ _ _ us hl=>match us,hl with | [_,_],_=>rfl
 have F5:=bR (st:=cG) l5 c5 k5;have b5:=F5.binds (ps:=["number"]) fun _ _ _ _ _ _ us hl=>match us,hl with | [_],_=>rfl
 have F6:=bR (st:=dI) l6 c6 k6;have b6:=F6.binds (ps:=["spot"]) fun _ _ _ _ _ _ us hl=>match us,hl with | [_],_=>rfl
 have F7:=bR (st:=bK) l7 c7 k7;have b7:=F7.binds (ps:=["text"]) fun _ _ _ _ _ _ us hl=>match us,hl with | [_],_=>rfl
 have F8:=bR (st:=dN) l8 c8 k8;have b8:=F8.binds (ps:=["text"]) fun _ _ _ _ _ _ us hl=>match us,hl with | [_],_=>rfl
 have F9:=bR (st:=dz) l9 c9 k9;have b9:=F9.binds (ps:=["_law_script", "_law_k"]) fun _ _ _ _ _ _ us hl=>match us,hl with | [_,_],_=>rfl
 have F10:=bR (st:=lJ) l10 c10 k10;have b10:=F10.binds (ps:=["_law_cell"]) fun _ _ _ _ _ _ us hl=>match us,hl with | [_],_=>rfl
 have F11:=bR (st:=jm) l11 c11 k11;have b11:=F11.binds (ps:=["_law_bag_here", "_law_many"]) fun _ _ _ _ _ _ us hl=>match us,hl with | [_,_],_=>rfl
 have F12:=bR (st:=gW) l12 c12 k12;have b12:=F12.binds (ps:=["_law_found"]) fun _ _ _ _ _ _ us hl=>match us,hl with | [_],_=>rfl
 have F13:=bR (st:=gq) l13 c13 k13;have b13:=F13.binds (ps:=["_law_row"]) fun _ _ _ _ _ _ us hl=>match us,hl with | [_],_=>rfl
 have F14:=bR (st:=jt) l14 c14 k14;have b14:=F14.binds (ps:=["_law_cell"]) fun _ _ _ _ _ _ us hl=>match us,hl with | [_],_=>rfl
 have F15:=bR (st:=lR) l15 c15 k15;have b15:=F15.binds (ps:=["_law_bag_here", "_law_text"]) fun _ _ _ _ _ _ us hl=>match us,hl with | [_,_],_=>rfl
 have F16:=bR (st:=dR) l16 c16 k16;have b16:=F16.binds (ps:=["_law_thing"]) fun _ _ _ _ _ _ us hl=>match us,hl with | [_],_=>rfl
 have F17:=bR (st:=jr) l17 c17 k17;have b17:=F17.binds (ps:=["_law_text", "_law_spot_here"]) fun _ _ _ _ _ _ us hl=>match us,hl with | [_,_],_=>rfl
 have F18:=bR (st:=yK) l18 c18 k18;have b18:=F18.binds (ps:=["_law_script"]) fun _ _ _ _ _ _ us hl=>match us,hl with | [_],_=>rfl
 have T:Txt K mg ⟨f0,_,f1,_,f2,_,f3,_,f4,_,f5,_,f6,_,f7,_,f8,_,f9,_,f10,_,f11,_,f12,_,f13,_,f14,_,f15,_,f16,_,f17,_,fa,_,n_FIGURES,n_MOST_FIGURES,x_EaselError,x_Nothing,x_NoText,x_NoName,x_Short⟩:=⟨F0,Uj X G a0,b0,F1,Uj X G a1,b1,F2,Uj X G a2,b2,F3,Uj X G a3,b3,F4,Uj X G a4,b4,F5,Uj X G a5,b5,F6,Uj X G a6,b6,F7,Uj X G a7,b7,F8,Uj X G a8,b8,F9,Uj X G a9,b9,F10,Uj X G a10,b10,F11,Uj X G a11,b11,F12,Uj X G a12,b12,F13,Uj X G a13,b13,F14,Uj X G a14,b14,F15,Uj X G a15,b15,F16,Uj X G a16,b16,F17,Uj X G a17,b17,F18,Uj X G a18,b18,U9 X G z_ValueError,U9 X G z_abs,U9 X G z_all,U9 X G z_bool,U9 X G z_int,U9 X G z_isinstance,U9 X G z_len,U9 X G z_range,U9 X G z_reversed,U9 X G z_str,U9 X G z_tuple,Uj X G gk_FIGURES,Uj X G gk_MOST_FIGURES,Uj X G gx_EaselError,xd_EaselError,Uj X G gx_Nothing,xd_Nothing,Uj X G gx_NoText,xd_NoText,xc_NoText,xq_NoText,Uj X G gx_NoName,xd_NoName,Uj X G gx_Short,xd_Short⟩
 exact ⟨_,fun s v=>.of_eq rfl,fun base _ _=>zaS hlaw<|JH T⟩
theorem walk {l:PySem.W.OpenLaw}{q:T8}{loose:List Str}{XP:(Str->Option Tw)->Heap->Prop}{YP:Uv->Heap->Prop}{d:DefRec}{K:Params->Tt}(hn:l.most=Dn 63)(hdf:d.params.defaults=[])
  (hY:∀ (w:Uv) (h:Heap),YP w h->(K w.params).In h)
  (F:∀ (w:Uv) (mg:Str->Option Tw) (fa:Addr) (h:Heap),(K w.params).In h->h.Ns T4 mg->mg d.name=Dn (.ref fa) ->
   ∃ fd:Uw,(∀ (s:Tz) (u:Tw),BindsTo s fd ⟨[u],[]⟩ [("_law_script",u)])/\∀ base:Heap,(K w.params).In base->base.Ns T4 mg->cH l.prog w (K w.params) mg base Ao 15 fa fd ["_law_script"] (zJ (K w.params))) :
  PySem.W.WalkO q loose XP YP l.row.toRowW d [] (fun f vs=>PySem.call f vs):=
 L2.yg (n:=63) (k:=15) (x := "_law_script") (CX:=fun _=>Ao) (sp:=fun w=>zJ (K w.params)) hn (by decide) hdf ⟨fun _=>rfl,by decide,by decide⟩ hY F (fun _ _ a ns hl hO hS=>⟨a,ns,rfl,hS,hO,hl,fun _=>rfl⟩) fun _ _ _ _ _ z=>z
local macro_rules | `(tactic| trivial) => `(tactic| with_reducible exact Sm.lit (by decide))
local macro_rules | `(tactic| trivial) => `(tactic| with_reducible exact Sm.zero)
local macro_rules | `(tactic| trivial) => `(tactic| with_reducible exact Sm.neg (by trivial))
local macro_rules | `(tactic| trivial) => `(tactic| with_reducible exact Sm.sub (by trivial) (by trivial))
local macro_rules | `(tactic| trivial) => `(tactic| with_reducible exact Sm.add (by trivial) (by trivial))
local macro_rules | `(tactic| trivial) => `(tactic| with_reducible exact Sm.mul (by trivial) (by trivial))
local macro_rules | `(tactic| trivial) => `(tactic| with_reducible assumption)
theorem z7 (h:Gh)(n:Nat)(c:Cell):(h.set n c).c n=Dn c:=by show (if n=n then Dn c else h.c n)=Dn c;rw [if_pos rfl]
theorem wz {h:Gh}{n m:Nat}{c:Cell}(e:m≠n):(h.set n c).c m=h.c m:=by show (if m=n then Dn c else h.c m)=_;rw [if_neg e]
theorem Dk (h:Gh)(c:Cell):(h.new c).c h.nx=Dn c:=by show (if h.nx=h.nx then Dn c else h.c h.nx)=Dn c;rw [if_pos rfl]
theorem wG {h:Gh}{m:Nat}{c:Cell}(e:m≠h.nx):(h.new c).c m=h.c m:=by show (if m=h.nx then Dn c else h.c m)=_;rw [if_neg e]
theorem lB {h:Gh}{n:Nat}{ws:List W}(e:h.c n=Dn (.lst ws)):view h (.loc n)=Dn ws:=by simp only [view,cD,e]
def Oth (n:Nat)(h h':Gh):Prop:=h'.nx=h.nx/\∀ m,m≠n->h'.c m=h.c m
theorem Oth.set {n:Nat}{h:Gh}{c:Cell}:Oth n h (h.set n c):=⟨rfl,fun _ e=>wz e⟩
theorem fj {a b:Int}(h:0<b):a.fmod b=a % b:=Int.fmod_eq_emod_of_nonneg a (Xy h)
theorem qJ {a b:Int}(h:0<b):a.fdiv b=a / b:=Int.fdiv_eq_ediv_of_nonneg a (Xy h)
theorem Av {A B:Prop}{c:Bool}(e:c=true)(h:A):CJ c A B:=by subst e;exact h
theorem Pu {A B:Prop}{c:Bool}(e:c=false)(h:B):CJ c A B:=by subst e;exact h
theorem vK {ws ws0:List W}{g:MG}{b:MS}{D:aX}(I:Nat->Sw->Gh->Prop)
  (step:∀ (i:Nat) (w:W) (Z : Sw) (h:Gh) (N:Sw->Gh->Prop),(∀ Z' h',I (i+1) Z' h'->N Z' h')->ws[i]?=Dn w->I i Z h->g w Z h fun Z1 h1=>b { D with nx:=N,ct:=N,bk:=D.nx } Z1 h1)
  (fin:∀ Z h,I ws.length Z h->D.nx Z h):∀ {Z : Sw} {h:Gh},I 0 Z h->cX ⟨ws0,Go⟩ g b D ws Z h:=by
 induction ws generalizing I with
 | nil=>intro Z h h0;exact fin Z h h0
 | cons w ws ih=>
  intro Z h h0;refine step 0 w Z h _ (fun Z' h' q=>?_) rfl h0;exact ih (fun i=>I<|i+1) (fun i w Z h N hN e hi=>step (i+1) w Z h N hN (by simpa using e) hi) (fun Z h q=>fin Z h q) q
theorem ni {ws ws0:List W}{own:W->Option (List W)}{ix:List Nat}{tt:MT}{te:ME}{Z : Sw}{Q:WK}(I:Nat->List W->Gh->Prop)
  (step:∀ (i:Nat) (w:W) (acc:List W) (h:Gh) (N:List W->Gh->Prop),(∀ acc' h',I (i+1) acc' h'->N acc' h')->ws[i]?=Dn w->I i acc h ->
   ∃ vs,own w=Dn vs/\tt (vs.map Dn++jY ix Z) h fun c h1=>CJ c (te (vs.map Dn++jY ix Z) h1 fun v h2=>N (acc++[v]) h2) (N acc h1))
  (fin:∀ acc h,I ws.length acc h->Q (.lst acc) h):∀ {acc:List W} {h:Gh},I 0 acc h->jo ⟨ws0,Go⟩ own ix tt te Z Q ws acc h:=by
 induction ws generalizing I with
 | nil=>intro acc h h0;exact fin acc h h0
 | cons w ws ih=>
  intro acc h h0;obtain ⟨vs,ev,q⟩:=step 0 w acc h _ (fun acc' h' q=>ih (fun i=>I (i+1)) (fun i w acc h N hN e hi=>step (i+1) w acc h N hN (by simpa using e) hi) (fun acc h q=>fin acc h q) q) rfl h0;show (match own w with
   | some vs=>_
   | none=>False)
  rw [ev];exact q
theorem zas {lo:Int}{n i:Nat}{w:W}(e:(vB lo n)[i]?=Dn w):i<n/\w=.int (lo+(i:Int)):=by
 have hi:i<n:=by
  have:=(Uq.mp e).1
  simpa [vB] using this
 unfold vB at e;rw [Ut,List.getElem?_range hi] at e;exact ⟨hi,(T7 e).symm⟩
theorem rY {lo:Int}{n:Nat}:(vB lo n).length=n:=by simp [vB]
theorem zB {ns:List Int}{k:Int}(h0:0<=k)(h1:k<((ns.map W.int).length:Int)):DW (ns.map W.int) k=Dn (.int (ns.getD k.toNat 0)):=by
 have hk:k.toNat<ns.length:=by rw [Ub] at h1;lia
 have e:(ns.map W.int)[k.toNat]?=Dn (.int (ns.getD k.toNat 0)):=by
  rw [Ut,Uk hk,Vz,Uk hk];rfl
 have:=xM e
 rwa [show ((k.toNat:Nat):Int)=k by lia] at this
def gF (f n:Int):Int:=((WM n f:Nat):Int)
def gL (ns:List Int):Int:=ns.foldl gF 0
theorem xX (ns:List Int)(n:Int):gL (ns++[n])=gF (gL ns) n:=by unfold gL;rw [List.foldl_append];rfl
theorem Kl (f n:Int):0<=gF f n:=Int.natCast_nonneg _
theorem LR (ns:List Int):0<=gL ns:=by
 rcases List.eq_nil_or_concat ns with rfl | ⟨l,a,rfl⟩
 ·exact Int.le_refl _
 ·rw [List.concat_eq_append,xX];exact Kl _ _
theorem rC {x y:Int}(hx:0<=x)(hy:0<y):WM y (x.fmod y)=WM x y/\0<=x.fmod y/\x.fmod y<y:=by
 rw [Int.fmod_eq_emod_of_nonneg x (Xy hy)];refine ⟨?_,WQ _<|by lia,Wa _ hy⟩;obtain ⟨m,rfl⟩:=Int.eq_ofNat_of_zero_le hx;obtain ⟨n,rfl⟩:=Int.eq_ofNat_of_zero_le (Xy hy);rw [<-Int.natCast_emod,Int.gcd_natCast_natCast,Int.gcd_natCast_natCast,Nat.gcd_comm m n,Nat.gcd_rec n m,Nat.gcd_comm]
theorem wU (a:Int):0<=(if a<0 then -a else a):=by split <;> lia
theorem abs_eq (a:Int):(if a<0 then -a else a)=(a.natAbs:Int):=by split <;> lia
theorem zaG (a b:Int):WM (if a<0 then -a else a) (if b<0 then -b else b)=WM a b:=by
 rw [abs_eq,abs_eq];simp [WM]
theorem jE {x:Int}(h:0<=x):((WM x 0:Nat):Int)=x:=by
 rw [Int.gcd_zero_right];lia
def Ik (c:SX):Prop:=∀ {h:Gh} {a b:Int} {Q:WK} {E:Tq},Q (.int (gF b a)) h->c [.int a,.int b] h Q E
theorem Qu:Ik dW:=by
 intro h a b Q E q;conv=>whnf
 refine ⟨fun m Z h'=>h'=h/\∃ x y r,Z = [Dn<|.int x,Dn<|.int y,r]/\0<=x/\0<=y/\WM x y=WM a b/\m=y.toNat,⟨_,rfl,_,_,Go,rfl,wU a,wU b,zaG a b,rfl⟩,?_⟩;rintro m Z h' ⟨rfl,x,y,r,rfl,x0,y0,hg,rfl⟩;refine ⟨fun e=>?_,fun e=>?_⟩
 ·have hy:y≠0:=by simpa [Af] using e
  obtain ⟨g1,g2,g3⟩:=rC x0 (by lia:0<y);conv=>whnf
  refine ⟨hy,?_⟩;refine ⟨(x.fmod y).toNat,by lia,rfl,y,x.fmod y,_,rfl,y0,g2,g1.trans hg,rfl⟩
 ·have hy:y=0:=by simpa [Af] using e
  subst hy;have:gF b a=x:=by unfold gF;rw [<-hg];exact jE x0
  rw [this] at q;exact q
def Ints (w:W)(ns:List Int):Prop:=w=.lst (ns.map .int)\/w=.tup (ns.map .int)
def nA (c:SX):Prop:=∀ {h:Gh} {w:W} {ns:List Int} {Q:WK} {E:Tq},Ints w ns->Q (.int (gL ns)) h->c [w] h Q E
theorem ints_get {ns:List Int}{i:Nat}{w:W}(e:(ns.map W.int)[i]?=Dn w):∃ n,ns[i]?=Dn n/\w=.int n:=by
 rw [Ut] at e;cases q:ns[i]? with
 | none=>rw [q] at e;cases e
 | some n=>rw [q] at e;exact ⟨n,rfl,(T7 e).symm⟩
theorem uJ {ns:List Int}{i:Nat}{n:Int}(e:ns[i]?=Dn n):gL (ns.take (i+1))=gF (gL (ns.take i)) n:=by
 rw [VF,e,<-xX];rfl
theorem vD {tw:SX}(ht:Ik tw):nA (nH tw):=by
 intro h w ns Q E hw q;have key:cX ⟨ns.map .int,Go⟩ (Oj 2) (cI (bB tw E (aq (aF 2) (aq (aF 1) aP))) (Oj 1)) { nx:=jQ tw E { nx:=fun _ h'=>Q .non h',rt:=fun w h'=>Q w h' },rt:=fun w h'=>Q w h' } (ns.map .int) [Dn w,Dn (.int 0),Go] h:=by
  refine vK (fun i Z h'=>h'=h/\∃ o,Z = [Dn w,Dn<|.int<|gL<|ns.take i,o]) ?_ ?_ ⟨rfl,Go,rfl⟩
  ·rintro i x Z h' N hN e ⟨rfl,o,rfl⟩;obtain ⟨n,en,rfl⟩:=ints_get e;conv=>whnf
   refine ht ?_;refine hN _ _ ⟨rfl,Dn<|.int n,?_⟩;rw [uJ en];rfl
  ·rintro Z h' ⟨rfl,o,rfl⟩;rw [Ub,Vm];exact q
 rcases hw with rfl | rfl <;> exact key
theorem Km (f n k:Int)(hf:0<=f):gF (f*(k.natAbs:Int)) (n*k)=gF f n*(k.natAbs:Int):=by
 unfold gF;rw [<-Int.natCast_mul];congr 1
 unfold WM;rw [Int.natAbs_mul,Int.natAbs_mul,V9,Nat.gcd_mul_right]
theorem Ay (k:Int)(ns:List Int):gL (ns.map (· * k))=gL ns*(k.natAbs:Int):=by
 have:∀ (ns:List Int) (f:Int),0<=f->(ns.map (· * k)).foldl gF (f*(k.natAbs:Int))=ns.foldl gF f*(k.natAbs:Int):=by
  intro ns;induction ns with
  | nil=>intro f _;rfl
  | cons n ns ih=>intro f hf;rw [Uy,List.foldl_cons,List.foldl_cons,Km f n k hf];exact ih _ (Kl _ _)
 have h:=this ns 0 (Int.le_refl _);rw [Int.zero_mul] at h;exact h
theorem Od {m:Nat}{f n:Int}(hf:Sm m f)(hn:Sm m n):Sm m (gF f n):=by
 unfold gF Sm at *;rw [V9];unfold WM;by_cases e:n.natAbs=0
 ·rw [e,Nat.gcd_zero_left];exact hf
 ·exact V8 (Nat.gcd_le_left _<|Nat.pos_of_ne_zero e) hn
theorem Nk {m:Nat}{ns:List Int}(h:∀ n∈ns,Sm m n):Sm m (gL ns):=by
 have:∀ (ns:List Int) (f:Int),Sm m f->(∀ n∈ns,Sm m n)->Sm m (ns.foldl gF f):=by
  intro ns;induction ns with
  | nil=>intro f hf _;exact hf
  | cons n ns ih=>intro f hf h;exact ih _ (Od hf (h n (by simp))) fun x hx=>h x (by simp [hx])
 exact this ns 0 Sm.zero h
def eG:List Int->Int
 | []=>0
 | n::ns=>if n=0 then eG ns else n
def cA (ns:List Int):Int:=eG ns.reverse
def Df (ns:List Int):Prop:=gL ns=1/\0<cA ns
def NZ (ns:List Int):Prop:=∃ n∈ns,n≠0
theorem jf {k:Int}(hk:k≠0)(x:Int):x*k=0↔x=0:=by
 rw [Int.mul_eq_zero];exact ⟨fun h=>h.elim id fun h=>absurd h hk,.inl⟩
theorem oF {k:Int}(hk:k≠0):∀ ns:List Int,eG (ns.map (· * k))=eG ns*k
 | []=>(Int.zero_mul k).symm
 | n::ns=>by
  rw [Uy,eG,eG];by_cases h:n=0
  ·rw [if_pos h,if_pos ((jf hk n).mpr h),oF hk ns]
  ·rw [if_neg h,if_neg (fun e=>h ((jf hk n).mp e))]
theorem oH {k:Int}(hk:k≠0)(ns:List Int):cA (ns.map (· * k))=cA ns*k:=by
 unfold cA;rw [<-List.map_reverse,oF hk]
theorem yG {ns:List Int}(h:NZ ns):eG ns≠0:=by
 induction ns with
 | nil=>obtain ⟨n,hn,_⟩:=h;cases hn
 | cons a ns ih=>
  rw [eG];by_cases e:a=0
  ·rw [if_pos e];refine ih ?_;obtain ⟨n,hn,n0⟩:=h;rcases Ur.mp hn with rfl | hn
   ·exact absurd e n0
   ·exact ⟨n,hn,n0⟩
  ·rw [if_neg e];exact e
theorem lC {ns:List Int}(h:NZ ns):cA ns≠0:=by
 obtain ⟨n,hn,n0⟩:=h;exact yG ⟨n,List.mem_reverse.mpr hn,n0⟩
theorem Bh (f n:Int):gF f n ∣ f/\gF f n ∣ n:=⟨Int.gcd_dvd_right ..,Int.gcd_dvd_left ..⟩
theorem Cj {ns:List Int}:∀ n∈ns,gL ns ∣ n:=by
 have:∀ (ns:List Int) (f:Int),ns.foldl gF f ∣ f/\∀ n∈ns,ns.foldl gF f ∣ n:=by
  intro ns;induction ns with
  | nil=>intro f;exact ⟨Int.dvd_refl _,fun n hn=>absurd hn (by simp)⟩
  | cons a ns ih=>
   intro f;obtain ⟨h1,h2⟩:=ih (gF f a);refine ⟨Int.dvd_trans h1 (Bh f a).1,fun n hn=>?_⟩;rcases Ur.mp hn with rfl | hn
   ·exact Int.dvd_trans h1 (Bh f n).2
   ·exact h2 n hn
 exact (this ns 0).2
theorem Gx {ns:List Int}(h:NZ ns):0<gL ns:=by
 have h0:=LR ns;obtain ⟨n,hn,n0⟩:=h;have hd:=Cj n hn;by_cases e:gL ns=0
 ·rw [e] at hd;exact absurd (Int.zero_dvd.mp hd) n0
 ·lia
theorem Df.nz {ns:List Int}(h:Df ns):NZ ns:=by
 have:∀ l:List Int,0<eG l->NZ l:=by
  intro l;induction l with
  | nil=>intro h;exact absurd h (by decide)
  | cons a l ih=>
   intro h;rw [eG] at h;by_cases e:a=0
   ·rw [if_pos e] at h;obtain ⟨n,hn,n0⟩:=ih h;exact ⟨n,Uu _ hn,n0⟩
   ·exact ⟨a,by simp,e⟩
 obtain ⟨n,hn,n0⟩:=this _ h.2;exact ⟨n,List.mem_reverse.mp hn,n0⟩
theorem Cz {ns:List Int}{by':Int}(h:NZ ns)(hb:by'=if cA ns<0 then 0 - gL ns else gL ns) :
  by'≠0/\Df (ns.map (·.fdiv by'))/\ns=(ns.map (·.fdiv by')).map (· * by'):=by
 have g0:=Gx h;have hn:by'≠0:=by rw [hb];split <;> lia
 have hd:∀ t,gL ns ∣ t->by' ∣ t:=fun t ht=>by
  rw [hb];split
  ·rw [Int.zero_sub];exact Int.neg_dvd.mpr ht
  ·exact ht
 have e:ns=(ns.map (·.fdiv by')).map (· * by'):=by
  rw [Xu];conv=>lhs;rw [<-List.map_id ns]
  refine Ws fun n hn'=>?_;obtain ⟨m,hm⟩:=hd n (Cj n hn');show n=n.fdiv by'*by'
  conv=>lhs;rw [hm]
  conv=>rhs;rw [hm]
  rw [Int.mul_fdiv_cancel_left _ hn,Int.mul_comm]
 refine ⟨hn,?_,e⟩;generalize hms:ns.map (·.fdiv by')=ms at e;have e1:gL ns=gL ms*(by'.natAbs:Int):=by rw [e];exact Ay by' ms
 have e2:(by'.natAbs:Int)=gL ns:=by rw [hb];split <;> lia
 have e3:cA ns=cA ms*by':=by rw [e];exact oH hn ms
 have l0:=lC h;refine ⟨?_,?_⟩
 ·rw [e2] at e1;have e1':gL ms*gL ns=1*gL ns:=by rw [<-e1,Int.one_mul]
  exact Int.eq_of_mul_eq_mul_right (by lia) e1'
 ·by_cases hs:cA ns<0
  ·rw [if_pos hs] at hb;have:by'<0:=by lia
   rw [e3] at hs;by_cases q:0<cA ms
   ·exact q
   ·have:=Int.mul_nonneg_of_nonpos_of_nonpos (show cA ms<=0 by lia) (Xy this)
    lia
  ·rw [if_neg hs] at hb;have:0<by':=by lia
   have hp:0<cA ns:=by lia
   rw [e3] at hp;by_cases q:0<cA ms
   ·exact q
   ·have:=Int.mul_nonpos_of_nonpos_of_nonneg (show cA ms<=0 by lia) (Xy this)
    lia
theorem bV (a b:Int):Af (.int a) (.int b)=(a==b):=by rw [Af]
theorem zZ {ns:List Int}(h:NZ ns):DW ((ns.filter (·≠0)).map W.int) (-1)=Dn (.int (cA ns)):=by
 have key:∀ l:List Int,eG l≠0->∃ r,l.filter (·≠0)=eG l::r:=by
  intro l;induction l with
  | nil=>intro h;exact absurd rfl h
  | cons a l ih=>
   intro h;rw [eG] at h |-
   by_cases e:a=0
   ·rw [if_pos e] at h |-
    obtain ⟨r,hr⟩:=ih h;exact ⟨r,by rw [List.filter_cons,if_neg<|by simp [e]];exact hr⟩
   ·rw [if_neg e];exact ⟨_,by rw [List.filter_cons,if_pos<|by simp [e]]⟩
 obtain ⟨r,hr⟩:=key ns.reverse (lC h);have hf:ns.filter (·≠0)=r.reverse++[cA ns]:=by
  rw [List.filter_reverse] at hr;have:=congrArg List.reverse hr
  rw [List.reverse_reverse,WY] at this;exact this
 rw [hf,List.map_append];exact zar _ _
def K9 (c0:SX):Prop:=∀ {h:Gh} {w:W} {ns:List Int} {Q:WK} {E:Tq},Ints w ns->Q (.bl (decide (cA ns<0))) h->c0 [w] h Q E
theorem zaT:K9 iW:=by
 intro h w ns Q E hw q;have key:∀ (l:List Int) (s:Src) (o:Option W),s.cell=Go->Q (.bl (decide (eG l<0))) h->cX s (Oj 1) (jW (cu (Tn Dg (aF 1) (mC (.int 0)))) (eH (Tn kLt (aF 1) (mC (.int 0)))) cM)
   { nx:=fL E { nx:=fun _ h'=>Q .non h',rt:=fun w h'=>Q w h' },rt:=fun w h'=>Q w h' } (l.map .int) [Dn w,o] h:=by
  intro l;induction l with
  | nil=>
   intro s o hs q;obtain ⟨ws,ix⟩:=s;cases hs;exact q
  | cons n l ih=>
   intro s o hs q;obtain ⟨ws,ix⟩:=s;cases hs;rw [eG] at q;refine ⟨fun e=>?_,fun e=>?_⟩
   ·rw [bV] at e;rw [if_neg (by simpa using e)] at q;exact q
   ·rw [bV] at e;rw [if_pos (by simpa using e)] at q;exact ih _ _ rfl q
 have k2:=key ns.reverse ⟨(ns.map .int).reverse,Go⟩ Go rfl q;rw [List.map_reverse] at k2;rcases hw with rfl | rfl <;> exact k2
abbrev Tr:=Int×Int×Int
def tl (t:Tr):List Int:=[t.1,t.2.1,t.2.2]
def tw (t:Tr):W:=.tup [.int t.1,.int t.2.1,.int t.2.2]
def Pl (t:Tr):Prop:=Df (tl t)
def Em (m:Nat)(t:Tr):Prop:=Sm m t.1/\Sm m t.2.1/\Sm m t.2.2
def sc (k:Int)(t:Tr):Tr:=(t.1*k,t.2.1*k,t.2.2*k)
def Par (u t:Tr):Prop:=∃ k,k≠0/\u=sc k t
def crs (p q:Tr):Tr:=(p.2.1*q.2.2 - p.2.2*q.2.1,p.2.2*q.1 - p.1*q.2.2,p.1*q.2.1 - p.2.1*q.1)
def El (p q:Tr):Int:=p.1*q.1+p.2.1*q.2.1+p.2.2*q.2.2
theorem Em.all {m:Nat}{t:Tr}(h:Em m t):∀ n∈tl t,Sm m n:=by
 intro n hn;simp only [tl,Ur,Vn,or_false] at hn;rcases hn with rfl | rfl | rfl
 ·exact h.1
 ·exact h.2.1
 ·exact h.2.2
theorem GC {t:Tr}:t=(0,0,0)↔t.1=0/\t.2.1=0/\t.2.2=0:=by
 obtain ⟨a,b,c⟩:=t;simp
theorem KD {t:Tr}(h:t≠(0,0,0)):NZ (tl t):=by
 by_cases a:t.1=0
 ·by_cases b:t.2.1=0
  ·by_cases c:t.2.2=0
   ·exact absurd (GC.mpr ⟨a,b,c⟩) h
   ·exact ⟨_,by simp [tl],c⟩
  ·exact ⟨_,by simp [tl],b⟩
 ·exact ⟨_,by simp [tl],a⟩
theorem Hy {t:Tr}{k:Int}{ms:List Int}(e:tl t=ms.map (· * k)):∃ u:Tr,ms=tl u/\t=sc k u:=by
 match ms,congrArg List.length e,e with
 | [a,b,c],_,e=>
  simp only [tl,Uy,Vw,List.cons.injEq,and_true] at e;exact ⟨(a,b,c),rfl,by obtain ⟨x,y,z⟩:=t;simp only [sc];simp only at e;rw [e.1,e.2.1,e.2.2]⟩
theorem Pl.ne {t:Tr}(h:Pl t):t≠(0,0,0):=by
 rintro rfl;obtain ⟨n,hn,n0⟩:=h.nz;simp [tl] at hn;exact n0 hn
theorem Ku (p q:Tr):Af (tw p) (tw q)=decide (p=q):=by
 obtain ⟨a,b,c⟩:=p;obtain ⟨x,y,z⟩:=q;unfold tw;rw [Af,j8,j8,j8,j8,bV,bV,bV];by_cases ha:a=x <;> by_cases hb:b=y <;> by_cases hc:c=z <;> simp [ha,hb,hc]
theorem Qx (a b c:Int):Af (.lst [.int a,.int b,.int c]) (.lst [.int 0,.int 0,.int 0])=decide (a=0/\b=0/\c=0):=by
 rw [Af,j8,j8,j8,j8,bV,bV,bV];by_cases ha:a=0 <;> by_cases hb:b=0 <;> by_cases hc:c=0 <;> simp [ha,hb,hc]
def JoinOk (c0:SX):Prop:=∀ {h:Gh} {p q:Tr} {m:Nat} {Q:WK} {E:Tq},m<=3900->Em m p->Em m q->Pl p->Pl q->p≠q->(∀ t:Tr,Pl t->Par (crs p q) t->Em (m+m+1) t->Q (tw t) h)->c0 [tw p,tw q] h Q E
theorem xg:∀ bs:List Bool,wF (bs.map W.bl)=Dn bs
 | []=>rfl
 | b::bs=>by rw [Uy,wF,xg bs];rfl
theorem zaX {s:Src}{ws:List W}{own:W->Option (List W)}{ix:List Nat}{tt:MT}{te:ME}{Z : Sw}{Q:WK}(I:Nat->List W->Gh->Prop)
  (go:∀ i acc h,I i acc h->∀ P:Prop,P->s.go h P)
  (step:∀ (i:Nat) (w:W) (acc:List W) (h:Gh) (N:List W->Gh->Prop),(∀ acc' h',I (i+1) acc' h'->N acc' h')->ws[i]?=Dn w->I i acc h ->
   ∃ vs,own w=Dn vs/\tt (vs.map Dn++jY ix Z) h fun c h1=>CJ c (te (vs.map Dn++jY ix Z) h1 fun v h2=>N (acc++[v]) h2) (N acc h1))
  (fin:∀ acc h,I ws.length acc h->Q (.lst acc) h):∀ {acc:List W} {h:Gh},I 0 acc h->jo s own ix tt te Z Q ws acc h:=by
 induction ws generalizing I with
 | nil=>intro acc h h0;exact go 0 acc h h0 _ (fin acc h h0)
 | cons w ws ih=>
  intro acc h h0;obtain ⟨vs,ev,q⟩:=step 0 w acc h _ (fun acc' h' q=>ih (fun i=>I (i+1)) (fun i=>go (i+1)) (fun i w acc h N hN e hi=>step (i+1) w acc h N hN (by simpa using e) hi) (fun acc h q=>fin acc h q) q) rfl h0;refine go 0 acc h h0 _ ?_;show (match own w with
   | some vs=>_
   | none=>False)
  rw [ev];exact q
theorem yQ {s:Src}{ws:List W}{g:MG}{b:MS}{D:aX}(I:Nat->Sw->Gh->Prop)(go:∀ i Z h,I i Z h->∀ P:Prop,P->s.go h P)
  (step:∀ (i:Nat) (w:W) (Z : Sw) (h:Gh) (N:Sw->Gh->Prop),(∀ Z' h',I (i+1) Z' h'->N Z' h')->ws[i]?=Dn w->I i Z h->g w Z h fun Z1 h1=>b { D with nx:=N,ct:=N,bk:=D.nx } Z1 h1)
  (fin:∀ Z h,I ws.length Z h->D.nx Z h):∀ {Z : Sw} {h:Gh},I 0 Z h->cX s g b D ws Z h:=by
 induction ws generalizing I with
 | nil=>intro Z h h0;exact go 0 Z h h0 _ (fin Z h h0)
 | cons w ws ih=>
  intro Z h h0;refine go 0 Z h h0 _ ?_;refine step 0 w Z h _ (fun Z' h' q=>?_) rfl h0;exact ih (fun i=>I<|i+1) (fun i=>go<|i+1) (fun i w Z h N hN e hi=>step (i+1) w Z h N hN (by simpa using e) hi) (fun Z h q=>fin Z h q) q
theorem Lr {h:Gh}{n:Nat}{us:List W}{w:W}{Q:WK}(e:h.c n=Dn (.lst us))(hz:us.length<Ua)(k:Q .non (h.set n (.lst (us++[w])))):fV (.loc n) [w] h Q:=by
 show (match h.c n with
  | some (Cell.lst us)=>_
  | _=>False)
 rw [e];exact ⟨hz,k⟩
theorem K1 {ma:MA}{j:Int}{own:W->Option (List W)}{ix:List Nat}{tt:MT}{te:ME}{Z : Sw}{h:Gh}{Q:WK}(hm:∀ R,ma Z h R=R [.int j] h)(h1:-(2^62)<=j)(h2:j<2^62)(hz:j.toNat<=Ua)(I:Nat->List W->Gh->Prop)
  (step:∀ (i:Nat) (acc:List W) (h:Gh) (N:List W->Gh->Prop),(∀ acc' h',I (i+1) acc' h'->N acc' h')->i<j.toNat->I i acc h ->
   ∃ vs,own (.int (i:Int))=Dn vs/\tt (vs.map Dn++jY ix Z) h fun c h1=>CJ c (te (vs.map Dn++jY ix Z) h1 fun v h2=>N (acc++[v]) h2) (N acc h1))
  (fin:∀ acc h,I j.toNat acc h->Q (.lst acc) h) (h0:I 0 [] h):CK own ix (wK ma) tt te Z h Q:=by
 unfold CK wK;rw [hm];refine yV.mk h1 h2<|iz.mk (by rw [rY];exact hz) ?_
 refine ni I (fun i w acc h N hN e hi=>?_) (fun acc h q=>fin acc h (by rw [rY] at q;exact q)) h0;obtain ⟨hlt,rfl⟩:=zas e;rw [Int.zero_add];exact step i acc h N hN hlt hi
abbrev Mt:=Tr×Tr×Tr
def vm (M:Mt)(v:Tr):Tr:=(El M.1 v,El M.2.1 v,El M.2.2 v)
def tr (M:Mt):Mt:=((M.1.1,M.2.1.1,M.2.2.1),(M.1.2.1,M.2.1.2.1,M.2.2.2.1),(M.1.2.2,M.2.1.2.2,M.2.2.2.2))
def mm (M N:Mt):Mt:=(vm (tr N) M.1,vm (tr N) M.2.1,vm (tr N) M.2.2)
def ml (M:Mt):List Int:=tl M.1++(tl M.2.1++tl M.2.2)
def lF (h:Gh)(w:W)(ns:List Int):Prop:=w=.lst (ns.map .int)\/w=.tup (ns.map .int)\/∃ n,w=.loc n/\h.c n=Dn (.lst (ns.map .int))
theorem lF.src {h:Gh}{w:W}{ns:List Int}(e:lF h w ns):∃ s:Src,Bv h w=Dn s/\s.ws=ns.map .int/\∀ h',lF h' w ns->∀ P:Prop,P->s.go h' P:=by
 rcases e with rfl | rfl | ⟨n,rfl,e⟩
 ·exact ⟨_,rfl,rfl,fun _ _ _ p=>p⟩
 ·exact ⟨_,rfl,rfl,fun _ _ _ p=>p⟩
 ·refine ⟨⟨ns.map .int,Dn (n,ns.map .int)⟩,by simp only [Bv,e],rfl,fun h' e' P p=>⟨?_,p⟩⟩;rcases e' with e' | e' | ⟨m,e',q⟩
  ·cases e'
  ·cases e'
  ·cases e';exact q
theorem zU {i:Nat}{g:MG}{b:MS}{D:aX}{Z : Sw}{h:Gh}{w:W}{ns:List Int}(hv:Z[i]?=Dn (Dn w))(e:lF h w ns)(I:Nat->Sw->Gh->Prop)
  (go:∀ i Z h',I i Z h'->lF h' w ns)
  (step:∀ (i:Nat) (t:Int) (Z : Sw) (h:Gh) (N:Sw->Gh->Prop),(∀ Z' h',I (i+1) Z' h'->N Z' h')->ns[i]?=Dn t->I i Z h->g (.int t) Z h fun Z1 h1=>b { D with nx:=N,ct:=N,bk:=D.nx } Z1 h1)
  (fin:∀ Z h,I ns.length Z h->D.nx Z h) (h0:I 0 Z h):zL (CZ (aF i)) g b D Z h:=by
 unfold zL CZ aF;rw [hv];dsimp only;obtain ⟨s,es,ew,hg⟩:=e.src;rw [es];show cX s g b D s.ws Z h;rw [ew];refine yQ I (fun i Z h' hi=>hg h'<|go i Z h' hi) (fun i w Z h N hN e hi=>?_) (fun Z h q=>fin Z h<|by rwa [Ub] at q) h0;obtain ⟨t,et,rfl⟩:=ints_get e;exact step i t Z h N hN et hi
theorem qd {i:Nat}{ix:List Nat}{tt:MT}{te:ME}{Z : Sw}{h:Gh}{Q:WK}{w:W}{ns:List Int}(hv:Z[i]?=Dn (Dn w))(e:lF h w ns)(hz:ns.length<=Ua)(I:Nat->List W->Gh->Prop)
  (go:∀ i acc h',I i acc h'->lF h' w ns)
  (step:∀ (i:Nat) (t:Int) (acc:List W) (h:Gh) (N:List W->Gh->Prop),(∀ acc' h',I (i+1) acc' h'->N acc' h')->ns[i]?=Dn t->I i acc h ->
   tt (Dn (.int t)::jY ix Z) h fun c h1=>CJ c (te (Dn (.int t)::jY ix Z) h1 fun v h2=>N (acc++[v]) h2) (N acc h1))
  (fin:∀ acc h,I ns.length acc h->Q (.lst acc) h) (h0:I 0 [] h):CK DX ix (CZ (aF i)) tt te Z h Q:=by
 unfold CK CZ aF;rw [hv];dsimp only;obtain ⟨s,es,ew,hg⟩:=e.src;rw [es];show iz s.ws.length (jo s DX ix tt te Z Q s.ws [] h);rw [ew];refine iz.mk (by rw [Ub];exact hz) ?_;refine zaX I (fun i acc h' hi=>hg h'<|go i acc h' hi) (fun i w acc h N hN e hi=>?_) (fun acc h q=>fin acc h<|by rwa [Ub] at q) h0;obtain ⟨t,et,rfl⟩:=ints_get e;exact ⟨[.int t],rfl,step i t acc h N hN et hi⟩
def tH:W->Bool
 | .non | .bl _ | .int _ | .str _ | .tup _ | .lst _=>true
 | _=>false
def fP:W->Bool
 | .int _=>true
 | _=>false
def jA (c0:SX):Prop:=∀ {h:Gh} {w:W} {Q:WK} {E:Tq},tH w=true->Q (.bl (fP w)) h->c0 [w] h Q E
theorem zaK:jA kY:=by
 intro h w Q E hs q;cases w <;> first | exact q | cases hs
theorem zaq:jA oG:=by
 intro h w Q E hs q;cases w <;> first | exact q | cases hs
def intsOf:List W->Option (List Int)
 | []=>Dn []
 | .int n::ws=>(intsOf ws).map (n::·)
 | _=>Go
theorem iQ:∀ ns:List Int,intsOf (ns.map W.int)=Dn ns
 | []=>rfl
 | n::ns=>by rw [Uy,intsOf,iQ ns];rfl
theorem iV:∀ {ws:List W},ws.all fP=true->∃ ns:List Int,ws=ns.map W.int
 | [],_=>⟨[],rfl⟩
 | w::ws,h=>by
  rw [Xl,Uo] at h;obtain ⟨ns,rfl⟩:=iV h.2;cases w with
  | int n=>exact ⟨n::ns,rfl⟩
  | _=>exact absurd h.1 Ue
theorem lg:∀ {ws:List W},ws.all fP=false->intsOf ws=Go
 | [],h=>by simp at h
 | w::ws,h=>by
  cases w with
  | int n=>
   have:ws.all fP=false:=by simpa [Xl,fP] using h
   rw [intsOf,lg this];rfl
  | _=>rfl
instance (ns:List Int):Decidable (Df ns):=inferInstanceAs (Decidable (_/\_))
def Mr (many:Int):W->Bool
 | .tup ws=>decide ((ws.length:Int)=many)&&(match intsOf ws with
  | some ns=>decide (Df ns)
  | none=>false)
 | _=>false
def okW (m:Nat):W->Prop
 | .tup ws=>ws.length<=1000/\m<=8000/\(∀ w∈ws,tH w=true)/\∀ n,W.int n∈ws->Sm m n
 | w=>tH w=true
theorem sI {wh:SX}(hwh:jA wh){ix:List Nat}{i:Nat}{Z : Sw}{h:Gh}{E:Tq}{Q:WK}{w:W}{ws:List W}(hv:Z[i]?=Dn (Dn w))(hs:Bv h w=Dn ⟨ws,Go⟩)(hz:ws.length<=Ua)(hw:∀ w∈ws,tH w=true)(k:Q (.lst ((ws.map fP).map .bl)) h) :
  CK DX ix (CZ (aF i)) pH (bB wh E (aq (aF 0) aP)) Z h Q:=by
 unfold CK CZ aF;rw [hv];dsimp only;rw [hs];refine iz.mk hz ?_;refine ni (fun i acc h'=>h'=h/\acc=((ws.take i).map fP).map W.bl) ?_ ?_ ⟨rfl,rfl⟩
 ·rintro i w acc h' N hN e ⟨rfl,rfl⟩;refine ⟨[w],rfl,?_⟩;refine hwh (hw w<|VP e) ?_;refine hN _ _ ⟨rfl,?_⟩;rw [VF,e];simp
 ·rintro acc h' ⟨rfl,rfl⟩;rw [Vm];exact k
theorem lK {us:List Bool}{h:Gh}{Q:WK}(k:Q (.bl (us.all id)) h):Ab [.lst (us.map .bl)] h Q:=by
 show (match wF (us.map W.bl) with
  | some bs=>Q (.bl (bs.all id)) h
  | none=>False)
 rw [xg];exact k
theorem Jx (ws:List W):(ws.map fP).all id=ws.all fP:=by rw [Xv];rfl
def Hq (c0:SX):Prop:=∀ {h:Gh} {w:W} {many:Int} {m:Nat} {Q:WK} {E:Tq},okW m w->Q (.bl (Mr many w)) h->c0 [w,.int many] h Q E
theorem RQ {a b:Int}:(!Af (.int a) (.int b)) = !decide (a=b):=by rw [bV];rfl
theorem sZ {wh dv en:SX}(hwh:jA wh)(hdv:nA dv)(hen:K9 en):Hq (kE wh dv en):=by
 intro h w many m Q E ok q;cases w with
 | tup ws=>
  obtain ⟨hl,hm,hs,hn⟩:=ok;refine pG rfl ?_;show br (!Af (.int (ws.length:Int)) (.int many)) _ _;rw [RQ];dsimp only [Mr] at q;by_cases e:(ws.length:Int)=many
  ·rw [decide_eq_true e,Bool.true_and] at q;refine pG (by rw [decide_eq_true e];rfl) ?_;show CK DX [] (CZ (aF 0)) pH (bB wh E (aq (aF 0) aP)) [Dn (.tup ws),Dn (.int many)] h _;refine sI hwh (w:=.tup ws) rfl rfl (Uc hl<|by decide) hs ?_;dsimp only [aP];refine lK ?_;rw [Jx];cases ea:ws.all fP with
   | false=>
    rw [lg ea] at q;exact uE rfl q
   | true=>
    refine pG rfl ?_;obtain ⟨ns,rfl⟩:=iV ea;rw [iQ] at q;show dv [.tup (ns.map .int)] h _ _;refine hdv (.inr rfl) ?_;show (match W.bl (Af (.int (gL ns)) (.int 1)) with
     | .bl true=>_
     | .bl false=>_
     | _=>False)
    rw [bV];by_cases e1:gL ns=1
    ·rw [show (gL ns==1)=true by simpa using e1];show en [.tup (ns.map .int)] h _ _;refine hen (.inr rfl) ?_;have e2:decide (Df ns) = !decide (cA ns<0):=by
      have l0:cA ns≠0:=lC (by
       by_cases z:NZ ns
       ·exact z
       ·exfalso;have:∀ l:List Int,(¬ NZ l)->gL l=0:=by
         intro l hl;have hz:∀ n∈l,n=0:=fun n hn=>by
          by_cases e:n=0
          ·exact e
          ·exact absurd ⟨n,hn,e⟩ hl
         have:l=l.map (· * 0):=by
          conv=>lhs;rw [<-List.map_id l]
          exact Ws fun n hn=>by rw [hz n hn];rfl
         rw [this,Ay];simp
        rw [this ns z] at e1;exact absurd e1 (by decide))
      by_cases e3:cA ns<0
      ·rw [decide_eq_true e3];exact decide_eq_false fun z=>by have:=z.2;lia
      ·rw [decide_eq_false e3];exact decide_eq_true ⟨e1,by lia⟩
     dsimp only at q;rw [e2] at q;exact q
    ·rw [show (gL ns==1)=false by simpa using e1];dsimp only at q;rw [decide_eq_false fun z=>e1 z.1] at q;exact q
  ·rw [decide_eq_false e,Bool.false_and] at q;exact uE (by rw [decide_eq_false e];rfl) q
 | _=>first | (refine uE rfl (uE rfl ?_);exact q) | cases ok
def tK (Q:Bool->Gh->Prop):WK:=fun w h=>match w with
 | .bl c=>Q c h
 | _=>False
def uK (Q:Bool->Gh->Prop):WK:=fun w h=>match M7 h w with
 | some b=>Q b h
 | none=>False
def aK (b:ME)(Z : Sw)(Q:WK):WK:=fun x h=>match x with
 | .bl true=>b Z h Q
 | .bl false=>Q (.bl false) h
 | _=>False
def oK (b:ME)(Z : Sw)(Q:WK):WK:=fun x h=>match x with
 | .bl false=>b Z h Q
 | .bl true=>Q (.bl true) h
 | _=>False
def nK (Q:WK):WK:=fun x h=>match x with
 | .bl c=>Q (.bl (!c)) h
 | _=>False
def iK (R:Src->Gh->Prop):WK:=fun w h=>match Bv h w with
 | some s=>R s h
 | none=>False
def xK (f:Str->Bool)(Q:WK):WK:=fun w h=>match w with
 | .exc n=>Q (.bl (f n)) h
 | .exa n _=>Q (.bl (f n)) h
 | _=>False
def pK (Q:Option Int->Gh->Prop):WK:=fun w h=>match w with
 | .int i=>Q (Dn i) h
 | _=>False
def QL (g:MG)(b:MS)(D:aX)(Z : Sw):Src->Gh->Prop:=fun s h=>cX s g b D s.ws Z h
def lcK (own:W->Option (List W))(ix:List Nat)(tt:MT)(te:ME)(Z : Sw)(Q:WK):Src->Gh->Prop:=fun s h=>iz s.ws.length (jo s own ix tt te Z Q s.ws [] h)
def rgK (R:Src->Gh->Prop):List W->Gh->Prop:=fun ws h=>match ws with
 | [.int j]=>yV j (R ⟨vB 0 j.toNat,Go⟩ h)
 | _=>False
def zpK (R:Src->Gh->Prop):List W->Gh->Prop:=fun ws h=>match ws with
 | [x,y]=>(match G8 h x y with
  | some s=>R s h
  | none=>False)
 | _=>False
theorem bC {m u:MS}{D:aX}{Z : Sw}{h:Gh}(x:m { D with nx:=u D } Z h):bO m u D Z h:=x
theorem jX {N b c:Sw->Gh->Prop}{r:WK}{Z : Sw}{h:Gh}(x:N Z h):aX.nx ⟨N,r,b,c⟩ Z h:=x
theorem S9 {N b c:Sw->Gh->Prop}{r:WK}{Z : Sw}{h:Gh}(x:b Z h):aX.bk ⟨N,r,b,c⟩ Z h:=x
theorem R6 {N b c:Sw->Gh->Prop}{r:WK}{Z : Sw}{h:Gh}(x:c Z h):aX.ct ⟨N,r,b,c⟩ Z h:=x
theorem Oh {N b c:Sw->Gh->Prop}{r:WK}{w:W}{h:Gh}(x:r w h):aX.rt ⟨N,r,b,c⟩ w h:=x
theorem FT {D:aX}{w:W}{h:Gh}(x:D.rt w h):aX.rt (aX.lost D) w h:=x
theorem Fx {D:aX}{Z : Sw}{h:Gh}(x:D.nx (Z.map fun _=>Go) h):aX.nx (aX.lost D) Z h:=x
theorem dO {D:aX}{Z : Sw}{h:Gh}(x:D.nx Z h):cM D Z h:=x
theorem eE {m:ME}{g:MG}{D:aX}{Z : Sw}{h:Gh}(x:m Z h fun w h1=>g w Z h1 D.nx):cI m g D Z h:=x
theorem lZ {m:ME}{D:aX}{Z : Sw}{h:Gh}(x:m Z h fun _ h1=>D.nx Z h1):tR m D Z h:=x
theorem fM {m:ME}{D:aX}{Z : Sw}{h:Gh}(x:m Z h D.rt):eH m D Z h:=x
theorem jk {c:Str}{E:Tq}{D:aX}{Z : Sw}{h:Gh}(x:E ⟨c,[]⟩ h):jB c E D Z h:=x
theorem fH {t:MT}{a b:MS}{D:aX}{Z : Sw}{h:Gh}(x:t Z h fun c h1=>br c (a D Z h1) (b D Z h1)):jW t a b D Z h:=x
theorem LK {t:MT}{a b:ME}{Q:WK}{Z : Sw}{h:Gh}(x:t Z h fun c h1=>br c (a Z h1 Q) (b Z h1 Q)):mIf t a b Z h Q:=x
theorem Ca {i:Nat}{d:Str}{mb:Tq->MS}{mh:MS}{D:aX}{Z : Sw}{h:Gh}(x:mb (fun x h'=>CJ (Al x.cls d) (mh D.lost (Z.set i (Dn (yC x))) h') False) D Z h):Nr i d mb mh D Z h:=x
theorem Gz {n:Nat}{g:Du}{w:W}{ws:List W}{Z : Sw}{h:Gh}{N:Sw->Gh->Prop}(e:w=.tup ws)(b:XH ws.length n=true)(x:g ws Z h N):Ac n g w Z h N:=by
 subst e;unfold Ac;dsimp only;rw [b];exact x
theorem Gf {n:Nat}{g:Du}{w:W}{ws:List W}{Z : Sw}{h:Gh}{N:Sw->Gh->Prop}(e:w=.lst ws)(b:XH ws.length n=true)(x:g ws Z h N):Ac n g w Z h N:=by
 subst e;unfold Ac;dsimp only;rw [b];exact x
theorem JQ {n:Nat}{g:Du}{w:W}{ws:List W}{Z : Sw}{h:Gh}{N:Sw->Gh->Prop}(e:w=.tup ws)(b:XH ws.length n=true)(x:g ws Z h N):QS n g w Z h N:=by
 subst e;unfold QS;dsimp only;rw [b];exact x
theorem zaL {g:MG}{r:Du}{w:W}{ws:List W}{Z : Sw}{h:Gh}{N:Sw->Gh->Prop}(x:g w Z h fun Z1 h1=>r ws Z1 h1 N):Nv g r (w::ws) Z h N:=x
theorem JD {Z : Sw}{h:Gh}{N:Sw->Gh->Prop}(x:N Z h):S6 [] Z h N:=x
theorem aU {i:Nat}{w:W}{Z : Sw}{h:Gh}{Q:WK}(e:Z[i]?=Dn (Dn w))(x:Q w h):aF i Z h Q:=by
 unfold aF;rw [e];exact x
theorem pQ {w:W}{Z : Sw}{h:Gh}{Q:WK}(x:Q w h):mC w Z h Q:=x
theorem jO {r:M2}{ma mb:ME}{Z : Sw}{h:Gh}{Q:WK}(x:ma Z h fun a h1=>mb Z h1 fun b h2=>r a b h2 Q):Tn r ma mb Z h Q:=x
theorem Pn {r:W->Gh->WK->Prop}{ma:ME}{Z : Sw}{h:Gh}{Q:WK}(x:ma Z h fun a h1=>r a h1 Q):mUn r ma Z h Q:=x
theorem Mi {i:Int}{h:Gh}{Q:WK}(x:Q (.int (-i)) h):Nu (.int i) h Q:=x
theorem aN {a:ME}{r:MA}{Z : Sw}{h:Gh}{Q:List W->Gh->Prop}(x:a Z h fun w h1=>r Z h1 fun ws h2=>Q (w::ws) h2):aq a r Z h Q:=x
theorem bD {Z : Sw}{h:Gh}{Q:List W->Gh->Prop}(x:Q [] h):aP Z h Q:=x
theorem oZ {n:Nat}{P:Prop}(e:Nat.ble n 1000=true)(x:P):iz n P:=by
 unfold iz;rw [e];exact x
theorem Ig {t:MA}{Z : Sw}{h:Gh}{Q:WK}(x:t Z h fun ws h1=>iz ws.length (Q (.tup ws) h1)):Py t Z h Q:=x
theorem Cr {t:MA}{Z : Sw}{h:Gh}{Q:WK}(x:t Z h fun ws h1=>iz ws.length (Q (.lst ws) h1)):yw t Z h Q:=x
theorem cT {c:SX}{E:Tq}{ma:MA}{Z : Sw}{h:Gh}{Q:WK}(x:ma Z h fun ws h1=>c ws h1 Q E):bB c E ma Z h Q:=x
theorem j4 {r:MC}{ma:MA}{Z : Sw}{h:Gh}{Q:WK}(x:ma Z h fun ws h1=>r ws h1 Q):Aj r ma Z h Q:=x
theorem dF {m:ME}{Z : Sw}{h:Gh}{Q:Bool->Gh->Prop}(x:m Z h (tK Q)):cu m Z h Q:=x
theorem M6 {c:Bool}{h:Gh}{Q:Bool->Gh->Prop}(x:Q c h):tK Q (.bl c) h:=x
theorem fK {m:ME}{Z : Sw}{h:Gh}{Q:Bool->Gh->Prop}(x:m Z h (uK Q)):qI m Z h Q:=x
theorem Mz {w:W}{b:Bool}{h:Gh}{Q:Bool->Gh->Prop}(e:M7 h w=Dn b)(x:Q b h):uK Q w h:=by
 unfold uK;rw [e];exact x
theorem jg {t:MT}{Z : Sw}{h:Gh}{Q:Bool->Gh->Prop}(x:t Z h fun c h1=>Q (!c) h1):wQ t Z h Q:=x
theorem Lz {t u:MT}{Z : Sw}{h:Gh}{Q:Bool->Gh->Prop}(x:t Z h fun c h1=>br c (u Z h1 Q) (Q false h1)):Sg t u Z h Q:=x
theorem qD {t u:MT}{Z : Sw}{h:Gh}{Q:Bool->Gh->Prop}(x:t Z h fun c h1=>br c (Q true h1) (u Z h1 Q)):Dq t u Z h Q:=x
theorem Lq {Z : Sw}{h:Gh}{Q:Bool->Gh->Prop}(x:Q true h):pH Z h Q:=x
theorem jR {a b:ME}{Z : Sw}{h:Gh}{Q:WK}(x:a Z h (aK b Z Q)):jM a b Z h Q:=x
theorem Kz {a b:ME}{Z : Sw}{h:Gh}{Q:WK}(x:a Z h (oK b Z Q)):Rp a b Z h Q:=x
theorem xP {a:ME}{Z : Sw}{h:Gh}{Q:WK}(x:a Z h (nK Q)):p8 a Z h Q:=x
theorem Ke {b:ME}{Z : Sw}{h:Gh}{Q:WK}{c:Bool}(x:br c (b Z h Q) (Q (.bl false) h)):aK b Z Q (.bl c) h:=by
 cases c with
 | true=>exact x.1 rfl
 | false=>exact x.2 rfl
theorem Tc {b:ME}{Z : Sw}{h:Gh}{Q:WK}{c:Bool}(x:br c (Q (.bl true) h) (b Z h Q)):oK b Z Q (.bl c) h:=by
 cases c with
 | true=>exact x.1 rfl
 | false=>exact x.2 rfl
theorem QK {h:Gh}{Q:WK}{c:Bool}(x:Q (.bl (!c)) h):nK Q (.bl c) h:=x
theorem qK {f:Str->Bool}{m:ME}{Z : Sw}{h:Gh}{Q:WK}(x:m Z h (xK f Q)):Aq f m Z h Q:=x
theorem Mx {f:Str->Bool}{n:Str}{h:Gh}{Q:WK}(x:Q (.bl (f n)) h):xK f Q (.exc n) h:=x
theorem yO {a b:Prop}(x:a):br true a b:=uE rfl x
theorem JR {a b:Prop}(x:b):br false a b:=pG rfl x
theorem KZ {a b:Prop}(x:b):br (!true) a b:=JR x
theorem Ko {a b:Prop}(x:a):br (!false) a b:=yO x
theorem Kv {a b:Prop}(x:a):CJ true a b:=x
theorem Kg {a b:Prop}(x:b):CJ false a b:=x
theorem Ir {i j:Int}{h:Gh}{Q:WK}(x:Q (.int (i - j)) h):Hf (.int i) (.int j) h Q:=x
theorem Ep {i j:Int}{h:Gh}{Q:WK}(x:Q (.int (i+j)) h):gM (.int i) (.int j) h Q:=x
theorem Ie {i j:Int}{h:Gh}{Q:WK}(c:n8 i j)(x:Q (.int (i*j)) h):Gw (.int i) (.int j) h Q:=⟨c,x⟩
theorem Ip {i j:Int}{h:Gh}{Q:WK}(c:vg i j)(x:Q (.int (i.fdiv j)) h):zA (.int i) (.int j) h Q:=⟨c,x⟩
theorem J6 {i j:Int}{h:Gh}{Q:WK}(c:j≠0)(x:Q (.int (i.fmod j)) h):yc (.int i) (.int j) h Q:=⟨c,x⟩
theorem JC {i j:Int}{h:Gh}{Q:WK}(x:Q (.bl (decide (i<j))) h):kLt (.int i) (.int j) h Q:=x
theorem Nz {i j:Int}{h:Gh}{Q:WK}(x:Q (.bl (decide (i>j))) h):Ej (.int i) (.int j) h Q:=x
theorem Qp {i j:Int}{h:Gh}{Q:WK}(x:Q (.bl (decide (i=j))) h):Di (.int i) (.int j) h Q:=by
 have e:Af (.int i) (.int j)=decide (i=j):=bV i j;show Q (.bl (Af (.int i) (.int j))) h;rw [e];exact x
theorem Ks {i j:Int}{h:Gh}{Q:WK}(x:Q (.bl (decide (i≠j))) h):Dg (.int i) (.int j) h Q:=by
 have e:(!Af (.int i) (.int j))=decide (i≠j):=by rw [bV];by_cases z:i=j <;> simp [z]
 show Q (.bl (!Af (.int i) (.int j))) h;rw [e];exact x
theorem Qq {i j:Bool}{h:Gh}{Q:WK}(x:Q (.bl (decide (i=j))) h):Di (.bl i) (.bl j) h Q:=by
 have e:Af (.bl i) (.bl j)=decide (i=j):=by rw [Af];cases i <;> cases j <;> rfl
 show Q (.bl (Af (.bl i) (.bl j))) h;rw [e];exact x
theorem PK {i j:Bool}{h:Gh}{Q:WK}(x:Q (.bl (decide (i≠j))) h):Dg (.bl i) (.bl j) h Q:=by
 have e:(!Af (.bl i) (.bl j))=decide (i≠j):=by rw [Af];cases i <;> cases j <;> rfl
 show Q (.bl (!Af (.bl i) (.bl j))) h;rw [e];exact x
theorem Fl {p q:Tr}{h:Gh}{Q:WK}(x:Q (.bl (decide (p=q))) h):Di (tw p) (tw q) h Q:=by
 show Q (.bl (Af (tw p) (tw q))) h;rw [Ku];exact x
theorem Mq {p q:Tr}{h:Gh}{Q:WK}(x:Q (.bl (decide (p≠q))) h):Dg (tw p) (tw q) h Q:=by
 have e:(!Af (tw p) (tw q))=decide (p≠q):=by rw [Ku];by_cases z:p=q <;> simp [z]
 show Q (.bl (!Af (tw p) (tw q))) h;rw [e];exact x
theorem Pa {p:Tr}{a b c:Int}{h:Gh}{Q:WK}(x:Q (.bl (decide (p=(a,b,c)))) h):Di (tw p) (.tup [.int a,.int b,.int c]) h Q:=Fl (q:=(a,b,c)) x
theorem N8 {p:Tr}{a b c:Int}{h:Gh}{Q:WK}(x:Q (.bl (decide (p≠(a,b,c)))) h):Dg (tw p) (.tup [.int a,.int b,.int c]) h Q:=Mq (q:=(a,b,c)) x
theorem Gn {x w:W}{i:Int}{ws:List W}{h:Gh}{Q:WK}(e:view h x=Dn ws)(a:DW ws i=Dn w)(k:Q w h):DK x (.int i) h Q:=by
 unfold DK;dsimp only;rw [e];dsimp only;rw [a];exact k
theorem BR {w:W}{T:String}{b:Bool}{h:Gh}{Q:WK}(e:Ms h w T=Dn b)(x:Q (.bl b) h):yt [w,.ty T] h Q:=by
 unfold yt;dsimp only;rw [e];exact x
theorem BP {w:W}{xs:List W}{h:Gh}{Q:WK}(e:view h w=Dn xs)(x:Q (.int (xs.length:Int)) h):DR [w] h Q:=by
 unfold DR;dsimp only;rw [e];exact x
theorem qG {us:List W}{h:Gh}{Q:WK}(x:Q (.tup us) h):oM [.lst us] h Q:=x
theorem Ja {w:W}{us:List W}{bs:List Bool}{h:Gh}{Q:WK}(e:cD h w=Dn us)(b:wF us=Dn bs)(x:Q (.bl (bs.any id)) h):QW [w] h Q:=by
 unfold QW;dsimp only;rw [e];dsimp only;rw [b];exact x
theorem Kq {w:W}{us:List W}{bs:List Bool}{h:Gh}{Q:WK}(e:cD h w=Dn us)(b:wF us=Dn bs)(x:Q (.bl (bs.all id)) h):Ab [w] h Q:=by
 unfold Ab;dsimp only;rw [e];dsimp only;rw [b];exact x
theorem JT {w:W}{us:List W}{ns:List Int}{h:Gh}{Q:WK}(e:cD h w=Dn us)(b:En us=Dn ns)(x:Q (.int ns.sum) h):Rh [w] h Q:=by
 unfold Rh;dsimp only;rw [e];dsimp only;rw [b];exact x
theorem Cp {i:Int}{h:Gh}{Q:WK}(x:Q (.int (if i<0 then -i else i)) h):Bb [.int i] h Q:=x
theorem Kf {b:Bool}{h:Gh}{Q:WK}(x:Q (.int (if b then 1 else 0)) h):M8 [.bl b] h Q:=x
theorem Cu {mi:MI}{g:MG}{b:MS}{D:aX}{Z : Sw}{h:Gh}(x:mi Z h (QL g b D Z)):zL mi g b D Z h:=x
theorem Bs {ws:List W}{o:Option (Nat×List W)}{g:MG}{b:MS}{D:aX}{Z : Sw}{h:Gh}(x:cX ⟨ws,o⟩ g b D ws Z h):QL g b D Z ⟨ws,o⟩ h:=x
theorem zaY {ws:List W}{g:MG}{b:MS}{D:aX}{Z : Sw}{h:Gh}(x:D.nx Z h):cX ⟨ws,Go⟩ g b D [] Z h:=x
theorem Et {ws r:List W}{w:W}{g:MG}{b:MS}{D:aX}{Z : Sw}{h:Gh}(x:g w Z h fun Z1 h1=>b { D with nx:=cX ⟨ws,Go⟩ g b D r,ct:=cX ⟨ws,Go⟩ g b D r,bk:=D.nx } Z1 h1):cX ⟨ws,Go⟩ g b D (w::r) Z h:=x
theorem Ib {m:ME}{R:Src->Gh->Prop}{Z : Sw}{h:Gh}(x:m Z h (iK R)):CZ m Z h R:=x
theorem Qo {w:W}{ws:List W}{o:Option (Nat×List W)}{h:Gh}{R:Src->Gh->Prop}(e:Bv h w=Dn ⟨ws,o⟩)(x:R ⟨ws,o⟩ h):iK R w h:=by
 unfold iK;rw [e];exact x
theorem Ft {ma:MA}{R:Src->Gh->Prop}{Z : Sw}{h:Gh}(x:ma Z h (rgK R)):wK ma Z h R:=x
theorem Pg {R:Src->Gh->Prop}{h:Gh}(x:R ⟨[.int 0,.int 1,.int 2],Go⟩ h):rgK R [.int 3] h:=x
theorem PJ {R:Src->Gh->Prop}{h:Gh}(x:R ⟨[.int 0,.int 1],Go⟩ h):rgK R [.int 2] h:=x
theorem Kc {ma:MA}{R:Src->Gh->Prop}{Z : Sw}{h:Gh}(x:ma Z h (zpK R)):Ti ma Z h R:=x
theorem Qz {a b:W}{as bs:List W}{zs:List W}{R:Src->Gh->Prop}{h:Gh}(e:qj a=Dn as)(e':qj b=Dn bs)(z:tM as bs=zs)(x:R ⟨zs,Go⟩ h):zpK R [a,b] h:=by
 subst z;have es:G8 h a b=Dn ⟨tM as bs,Go⟩:=by unfold G8;rw [e,e']
 unfold zpK;dsimp only;rw [es];exact x
theorem N6 {n:Nat}{b:W}{as bs:List W}{zs:List W}{R:Src->Gh->Prop}{h:Gh}(e:h.c n=Dn (.lst as))(e':qj b=Dn bs)(z:tM as bs=zs)(x:R ⟨zs,Dn (n,as)⟩ h):zpK R [.loc n,b] h:=by
 subst z;have es:G8 h (.loc n) b=Dn ⟨tM as bs,Dn (n,as)⟩:=by unfold G8;rw [e'];dsimp only [qj];rw [e]
 unfold zpK;dsimp only;rw [es];exact x
theorem QV {bs:List W}:tM [] bs=[]:=by cases bs <;> rfl
theorem QF {a:W}{as:List W}:tM (a::as) []=[]:=rfl
theorem Pz {a b:W}{as bs l:List W}(e:tM as bs=l):tM (a::as) (b::bs)=.tup [a,b]::l:=by rw [tM,e]
theorem Pb {own:W->Option (List W)}{ix:List Nat}{mi:MI}{tt:MT}{te:ME}{Z : Sw}{h:Gh}{Q:WK}(x:mi Z h (lcK own ix tt te Z Q)):CK own ix mi tt te Z h Q:=x
theorem Oq {ws:List W}{o:Option (Nat×List W)}{own:W->Option (List W)}{ix:List Nat}{tt:MT}{te:ME}{Z : Sw}{h:Gh}{Q:WK}(e:Nat.ble ws.length 1000=true)(x:jo ⟨ws,o⟩ own ix tt te Z Q ws [] h):lcK own ix tt te Z Q ⟨ws,o⟩ h:=oZ e x
theorem Jf {ws acc:List W}{own:W->Option (List W)}{ix:List Nat}{tt:MT}{te:ME}{Z : Sw}{h:Gh}{Q:WK}(x:Q (.lst acc) h):jo ⟨ws,Go⟩ own ix tt te Z Q [] acc h:=x
theorem Ky {ws r acc vs:List W}{w:W}{own:W->Option (List W)}{ix:List Nat}{tt:MT}{te:ME}{Z : Sw}{h:Gh}{Q:WK}(e:own w=Dn vs)(x:tt (vs.map Dn++jY ix Z) h fun c h1=>CJ c (te (vs.map Dn++jY ix Z) h1 fun v h2=>jo ⟨ws,Go⟩ own ix tt te Z Q r (acc++[v]) h2) (jo ⟨ws,Go⟩ own ix tt te Z Q r acc h1)):jo ⟨ws,Go⟩ own ix tt te Z Q (w::r) acc h:=by
 unfold jo;show match own w with
  | some vs=>tt (vs.map Dn++jY ix Z) h fun c h1=>CJ c (te (vs.map Dn++jY ix Z) h1 fun v h2=>jo ⟨ws,Go⟩ own ix tt te Z Q r (acc++[v]) h2) (jo ⟨ws,Go⟩ own ix tt te Z Q r acc h1)
  | none=>False
 rw [e];exact x
theorem uo {n N:Nat}{body:Tq->MS}{ws:List W}{h:Gh}{Q:WK}{E:Tq}(hl:XH ws.length n=true)(x:body E { nx:=fun _ h'=>Q .non h',rt:=Q } (ws.map Dn++U4 (N - ws.length) Go) h):CP n N false body ws h Q E:=by
 unfold CP;rw [hl];exact x
theorem KN {r:W->Option Int->Option Int->Gh->WK->Prop}{m:ME}{l u:MO}{Z : Sw}{h:Gh}{Q:WK}(x:m Z h fun a h1=>l Z h1 fun lo h2=>u Z h2 fun hi h3=>r a lo hi h3 Q):mSl r m l u Z h Q:=x
theorem p7 {m:ME}{Z : Sw}{h:Gh}{Q:Option Int->Gh->Prop}(x:m Z h (pK Q)):vN m Z h Q:=x
theorem Ol {i:Int}{h:Gh}{Q:Option Int->Gh->Prop}(x:Q (Dn i) h):pK Q (.int i) h:=x
def p3K (i j k:Nat)(D:aX)(Z : Sw):List W->Gh->Prop:=fun ws h=>match ws with
 | [x,y,z]=>D.nx (((Z.set i (Dn x)).set j (Dn y)).set k (Dn z)) h
 | _=>False
theorem zaM {i j k:Nat}{ta:MA}{D:aX}{Z : Sw}{h:Gh}(x:ta Z h (p3K i j k D Z)):NT i j k ta D Z h:=x
theorem Hl {xs:List W}{n:Int}{a b:Prop}(e:decide ((xs.length:Int)≠n)=false)(x:b):br (decide ((xs.length:Int)≠n)) a b:=pG e x
theorem zbe {bs:List Bool}{a b:Prop}(e:bs.all id=true)(x:b):br (!(bs.all id)) a b:=pG (by rw [e];rfl) x
theorem Qv {n d:Str}{a b:Prop}(e:Al n d=true)(x:a):CJ (Al n d) a b:=Av e x
theorem Qf {n d:Str}{a b:Prop}(e:Al n d=true)(x:a):br (Al n d) a b:=uE e x
theorem Pj {n d:Str}{a b:Prop}(e:Al n d=false)(x:b):br (Al n d) a b:=pG e x
theorem Jz {α : Type}{a x:α}{l:List α}:(a::l).set 0 x=x::l:=rfl
theorem Kw {α : Type}{a x:α}{l l':List α}{n:Nat}(e:l.set n x=l'):(a::l).set (n+1) x=a::l':=by rw [List.set_cons_succ,e]
theorem cj {i:Nat}{w:W}{Z Z':Sw}{h:Gh}{N:Sw->Gh->Prop}(e:Z.set i (Dn w) = Z')(x:N Z' h):Oj i w Z h N:=by
 subst e;exact x
theorem Qe {i j k:Nat}{D:aX}{Z Z1 Z2 Z3:Sw}{h:Gh}{x y z:W}(e1:Z.set i (Dn x) = Z1)(e2:Z1.set j (Dn y) = Z2)(e3:Z2.set k (Dn z) = Z3)(q:D.nx Z3 h):p3K i j k D Z [x,y,z] h:=by
 subst e1 e2 e3;exact q
def ini (ws:List W)(n:Nat):Sw:=ws.map Dn++U4 (n - ws.length) Go
theorem Q9:ini [] 0=[]:=rfl
theorem QX {n:Nat}{l:Sw}(e:ini [] n=l):ini [] (n+1)=Go::l:=by
 subst e;rfl
theorem QG {n:Nat}{w:W}{ws:List W}{l:Sw}(e:ini ws n=l):ini (w::ws) (n+1)=Dn w::l:=by
 subst e;unfold ini;rw [UJ,Nat.add_sub_add_right];rfl
theorem Qg {n N:Nat}{body:Tq->MS}{ws:List W}{Z : Sw}{h:Gh}{Q:WK}{E:Tq}(hl:XH ws.length n=true)(e:ini ws N = Z)(x:body E { nx:=fun _ h'=>Q .non h',rt:=Q } Z h):CP n N false body ws h Q E:=by
 subst e;exact uo hl x
theorem N5 {i:Nat}{n d:Str}{fs:List (Str×W)}{mh:MS}{D:aX}{Z Z':Sw}{h:Gh}(e:Al n d=true)(s:Z.set i (Dn (yC ⟨n,fs⟩)) = Z')(x:mh D Z' h):CJ (Al (Xw.mk n fs).cls d) (mh D (Z.set i (Dn (yC (Xw.mk n fs)))) h) False:=by
 subst s;exact Av e x
theorem Cm {own:W->Option (List W)}{ix:List Nat}{mi:MI}{tt:MT}{te:ME}{Z : Sw}{h:Gh}{Q:WK}(x:CK own ix mi tt te Z h (M4 Q)):MJ own ix mi tt te Z h Q:=x
theorem JK {us:List W}{h:Gh}{Q:WK}(x:∀ g:Gh,g.c h.nx=Dn (.lst us)->(∀ n,n≠h.nx->g.c n=h.c n)->g.nx=h.nx+1->Q (.loc h.nx) g):M4 Q (.lst us) h:=x _ (Dk _ _) (fun _ e=>wG e) rfl
theorem Kh {mo mi:ME}{ms:Il}{w:W}{Z : Sw}{h:Gh}{N:Sw->Gh->Prop}(x:mo Z h fun o h1=>mi Z h1 fun i h2=>ms o i w h2 fun h3=>N Z h3):Hg mo mi ms w Z h N:=x
theorem mG {n j:Nat}{k:Int}{w:W}{ws ws':List W}{h:Gh}{N:Gh->Prop}(e:h.c n=Dn (.lst ws))(i:Dj ws.length k=Dn j)(s:ws.set j w=ws')(x:∀ g:Gh,g.c n=Dn (.lst ws')->(∀ m,m≠n->g.c m=h.c m)->g.nx=h.nx->N g):pL (.loc n) (.int k) w h N:=by
 subst s;show (match h.c n with
  | some (Cell.lst ws)=>(match Dj ws.length k with
   | some j=>N (h.set n (.lst (ws.set j w)))
   | none=>False)
  | _=>False)
 rw [e];dsimp only;rw [i];exact x _ (z7 _ _ _) (fun _ e=>wz e) rfl
theorem zY {ws r us:List W}{n:Nat}{w:W}{g:MG}{b:MS}{D:aX}{Z : Sw}{h:Gh}(e:h.c n=Dn (.lst us))(x:g w Z h fun Z1 h1=>b { D with nx:=cX ⟨ws,Dn (n,us)⟩ g b D r,ct:=cX ⟨ws,Dn (n,us)⟩ g b D r,bk:=D.nx } Z1 h1):cX ⟨ws,Dn (n,us)⟩ g b D (w::r) Z h:=⟨e,x⟩
theorem z8 {ws us:List W}{n:Nat}{g:MG}{b:MS}{D:aX}{Z : Sw}{h:Gh}(e:h.c n=Dn (.lst us))(x:D.nx Z h):cX ⟨ws,Dn (n,us)⟩ g b D [] Z h:=⟨e,x⟩
theorem GJ {ws us acc:List W}{n:Nat}{own:W->Option (List W)}{ix:List Nat}{tt:MT}{te:ME}{Z : Sw}{h:Gh}{Q:WK}(e:h.c n=Dn (.lst us))(x:Q (.lst acc) h):jo ⟨ws,Dn (n,us)⟩ own ix tt te Z Q [] acc h:=⟨e,x⟩
theorem zaQ {ws us r acc vs:List W}{n:Nat}{w:W}{own:W->Option (List W)}{ix:List Nat}{tt:MT}{te:ME}{Z : Sw}{h:Gh}{Q:WK}(ec:h.c n=Dn (.lst us))(e:own w=Dn vs)(x:tt (vs.map Dn++jY ix Z) h fun c h1=>CJ c (te (vs.map Dn++jY ix Z) h1 fun v h2=>jo ⟨ws,Dn (n,us)⟩ own ix tt te Z Q r (acc++[v]) h2) (jo ⟨ws,Dn (n,us)⟩ own ix tt te Z Q r acc h1)):jo ⟨ws,Dn (n,us)⟩ own ix tt te Z Q (w::r) acc h:=by
 unfold jo;refine ⟨ec,?_⟩;show match own w with
  | some vs=>tt (vs.map Dn++jY ix Z) h fun c h1=>CJ c (te (vs.map Dn++jY ix Z) h1 fun v h2=>jo ⟨ws,Dn (n,us)⟩ own ix tt te Z Q r (acc++[v]) h2) (jo ⟨ws,Dn (n,us)⟩ own ix tt te Z Q r acc h1)
  | none=>False
 rw [e];exact x
theorem RL {n:Nat}{ws:List W}{h:Gh}{R:Src->Gh->Prop}(e:h.c n=Dn (.lst ws))(x:R ⟨ws,Dn (n,ws)⟩ h):iK R (.loc n) h:=Qo (by simp only [Bv,e]) x
theorem NK {n:Nat}{w:W}{i:Int}{ws:List W}{h:Gh}{Q:WK}(e:h.c n=Dn (.lst ws))(a:DW ws i=Dn w)(k:Q w h):DK (.loc n) (.int i) h Q:=Gn (lB e) a k
theorem BW {n N:Nat}{body:Tq->MS}{ws:List W}{Z : Sw}{h:Gh}{Q:WK}{E:Tq}(hl:XH ws.length n=true)(e:ini ws N = Z)(x:body E { nx:=fun _ h'=>iB true h .non h' Q,rt:=fun w h'=>iB true h w h' Q } Z h):CP n N true body ws h Q E:=by
 subst e;unfold CP;rw [hl];exact x
theorem Fi {a b:List W}{h:Gh}{Q:WK}(e:Nat.ble (a.length+b.length) 1000=true)(x:Q (.lst (a++b)) h):gM (.lst a) (.lst b) h Q:=oZ e x
theorem Qt {a b:Bool}{h:Gh}{Q:WK}(x:Q (.bl (a==b)) h):kIs (.bl a) (.bl b) h Q:=x
theorem zaD {a b:Bool}{h:Gh}{Q:WK}(x:Q (.bl (!(a==b))) h):Ow (.bl a) (.bl b) h Q:=x
theorem NP {a b:Str}{h:Gh}{Q:WK}(x:Q (.bl (decide (a=b))) h):Di (.str a) (.str b) h Q:=by
 have e:Af (.str a) (.str b)=decide (a=b):=by rw [Af];by_cases z:a=b <;> simp [z]
 show Q (.bl (Af (.str a) (.str b))) h;rw [e];exact x
theorem Px {a b:Str}{h:Gh}{Q:WK}(x:Q (.bl (decide (a≠b))) h):Dg (.str a) (.str b) h Q:=by
 have e:(!Af (.str a) (.str b))=decide (a≠b):=by rw [Af];by_cases z:a=b <;> simp [z]
 show Q (.bl (!Af (.str a) (.str b))) h;rw [e];exact x
theorem J4 {bs:List Bool}{a b:Prop}(e:bs.any id=false)(x:b):br (bs.any id) a b:=pG e x
local macro_rules | `(tactic| rfl') => `(tactic| repeat (first
 | with_reducible (first | refine bC ?_ | refine eE ?_ | refine cT ?_ | refine aN ?_ | refine bD ?_)
 | ((with_reducible apply aU);exact rfl) | with_reducible refine pQ ?_ | with_reducible refine jO ?_ | with_reducible refine cj (by repeat (first | with_reducible exact Jz | with_reducible apply Kw)) ?_ | with_reducible (first | refine FT ?_ | refine Fx ?_ | refine jX ?_ | refine Oh ?_ | refine S9 ?_ | refine R6 ?_)
 | with_reducible (first | refine fH ?_ | refine LK ?_ | refine fM ?_ | refine lZ ?_ | refine dO ?_ | refine Ca ?_ | refine jk ?_)
 | with_reducible (first | refine dF ?_ | refine M6 ?_ | refine fK ?_) | ((with_reducible apply Mz);exact rfl) | with_reducible (first | refine jg ?_ | refine Lz ?_ | refine qD ?_ | refine Lq ?_)
 | with_reducible (first | refine jR ?_ | refine Kz ?_ | refine xP ?_ | refine Ke ?_ | refine Tc ?_ | refine QK ?_ | refine qK ?_ | refine Mx ?_)
 | with_reducible (first | refine yO ?_ | refine JR ?_ | refine KZ ?_ | refine Ko ?_ | refine Kv ?_ | refine Kg ?_)
 | with_reducible refine Ig ?_ | with_reducible refine Cr ?_ | ((with_reducible apply oZ);exact rfl) | with_reducible (first | refine j4 ?_ | refine Pn ?_ | refine Mi ?_)
 | ((with_reducible apply Gz);exact rfl;exact rfl) | ((with_reducible apply Gf);exact rfl;exact rfl) | ((with_reducible apply JQ);exact rfl;exact rfl) | with_reducible refine zaL ?_ | with_reducible refine JD ?_
 | with_reducible refine Ir ?_ | with_reducible refine Ep ?_ | ((with_reducible apply Ie);exact n8.of (by trivial) (by trivial) (by lia) (by lia)) | with_reducible refine JC ?_ | with_reducible refine Nz ?_
 | with_reducible (first | refine Qp ?_ | refine Ks ?_ | refine Qq ?_ | refine PK ?_ | refine Fl ?_ | refine Mq ?_ | refine Pa ?_ | refine N8 ?_)
 | ((with_reducible apply Gn);exact rfl;exact rfl) | ((with_reducible apply BR);exact rfl) | ((with_reducible apply BP);exact rfl) | with_reducible refine qG ?_ | ((with_reducible apply Ja);exact rfl;exact rfl) | ((with_reducible apply Kq);exact rfl;exact rfl) | ((with_reducible apply JT);exact rfl;exact rfl) | with_reducible refine Kf ?_ | with_reducible refine Cp ?_
 | with_reducible (first | refine Cu ?_ | refine Bs ?_ | refine zaY ?_ | refine Et ?_ | refine Ib ?_) | ((with_reducible apply Qo);exact rfl) | with_reducible (first | refine Ft ?_ | refine Pg ?_ | refine PJ ?_ | refine Kc ?_) | ((with_reducible apply Qz);exact rfl;exact rfl;(repeat (first | with_reducible exact QV | with_reducible exact QF | with_reducible apply Pz)))
 | with_reducible refine Pb ?_ | ((with_reducible apply Oq);exact rfl) | with_reducible refine Jf ?_ | ((with_reducible apply Ky);exact rfl) | ((with_reducible apply Qg);exact rfl;repeat (first | with_reducible exact Q9 | with_reducible apply QG | with_reducible apply QX)) | with_reducible (first | refine KN ?_ | refine p7 ?_ | refine Ol ?_ | refine zaM ?_) | with_reducible refine Qe (by repeat (first | with_reducible exact Jz | with_reducible apply Kw)) (by repeat (first | with_reducible exact Jz | with_reducible apply Kw)) (by repeat (first | with_reducible exact Jz | with_reducible apply Kw)) ?_ | ((with_reducible apply Hl);exact rfl) | ((with_reducible apply zbe);exact rfl) | ((with_reducible apply N5);decide +kernel;(repeat (first | with_reducible exact Jz | with_reducible apply Kw))) | ((with_reducible apply Qv);decide +kernel) | ((with_reducible apply Qf);decide +kernel) | ((with_reducible apply Pj);decide +kernel) | with_reducible refine Cm ?_ | with_reducible refine Kh ?_ | ((with_reducible apply RL);(with_reducible assumption)) | ((with_reducible apply zY);(with_reducible assumption)) | ((with_reducible apply z8);(with_reducible assumption)) | ((with_reducible apply GJ);(with_reducible assumption)) | ((with_reducible apply zaQ);(with_reducible assumption);exact rfl) | ((with_reducible apply NK);(with_reducible assumption);exact rfl) | ((with_reducible apply N6);(with_reducible assumption);exact rfl;(repeat (first | with_reducible exact QV | with_reducible exact QF | with_reducible apply Pz))) | ((with_reducible apply BW);exact rfl;(repeat (first | with_reducible exact Q9 | with_reducible apply QG | with_reducible apply QX))) | ((with_reducible apply Fi);exact rfl) | with_reducible (first | refine Qt ?_ | refine zaD ?_ | refine NP ?_ | refine Px ?_) | ((with_reducible apply J4);decide +kernel)))
abbrev cs (x:Str):List Nat:=x.cps.toList
def tx (l:List Nat):Str:=⟨l.toArray⟩
theorem Gi (l:List Nat):cs (tx l)=l:=by simp [cs,tx]
theorem Ae (x:Str):tx (cs x)=x:=by cases x;simp [cs,tx]
theorem wu {x y:Str}(h:cs x=cs y):x=y:=by rw [<-Ae x,<-Ae y,h]
theorem aY (x y:Str):cs (x++y)=cs x++cs y:=by
 show (x.cps++y.cps).toList=_;rw [Array.toList_append]
theorem eO (x:Str):(cs x).length=x.length:=V0
def cut (c:Nat):List Nat->List (List Nat)
 | []=>[[]]
 | x::xs=>if x=c then []::cut c xs else match cut c xs with
  | p::ps=>(x::p)::ps
  | []=>[[x]]
def glue (c:Nat):List (List Nat)->List Nat
 | []=>[]
 | [p]=>p
 | p::q::ps=>p++c::glue c (q::ps)
theorem bY {c:Nat}:∀ {p:List Nat},c∉p->cut c p=[p]
 | [],_=>rfl
 | x::p,h=>by
  rw [cut,if_neg fun e=>h (by rw [e];exact UG),bY fun e=>h (Uu _ e)]
theorem cQ {c:Nat}{b:List Nat}:∀ {a:List Nat},c∉a->cut c (a++c::b)=a::cut c b
 | [],_=>by rw [List.nil_append,cut,if_pos rfl]
 | x::a,h=>by
  rw [Xc,cut,if_neg fun e=>h (by rw [e];exact UG),cQ fun e=>h (Uu _ e)]
theorem rz {c:Nat}:∀ {ps:List (List Nat)},ps≠[]->(∀ p∈ps,c∉p)->cut c (glue c ps)=ps
 | [],h,_=>absurd rfl h
 | [p],_,h=>by rw [glue,bY (h p UG)]
 | p::q::ps,_,h=>by
  rw [glue,cQ (h p UG),rz (List.cons_ne_nil _ _) fun r hr=>h r (Uu _ hr)]
theorem wL {c:Nat}:∀ ps:List Str,cs (Str.join ⟨#[c]⟩ ps)=glue c (ps.map cs)
 | []=>rfl
 | [p]=>rfl
 | p::q::ps=>by
  show cs (p++⟨#[c]⟩++Str.join ⟨#[c]⟩ (q::ps))=_;rw [aY,aY,wL (q::ps)];show cs p++[c]++glue c _=cs p++c::glue c _;rw [Vx];rfl
theorem wA (x:Str)(c:Nat):Wo x ⟨#[c]⟩=(cut c (cs x)).map tx:=by
 have h1:=congrArg cs (StrLaws.join_split x ⟨#[c]⟩);rw [wL] at h1;have h2:(Wo x ⟨#[c]⟩).map cs≠[]:=by
  have:=split_pos x ⟨#[c]⟩
  intro e;rw [List.map_eq_nil_iff] at e;rw [e] at this;exact absurd this<|by decide
 have h3:=rz (c:=c) h2 fun p hp=>by
  obtain ⟨y,hy,e⟩:=Xr.mp hp;rw [<-e];exact StrLaws.split_free x c y hy
 rw [h1] at h3;rw [h3,Xu];exact (List.map_id' _).symm.trans (Ws fun y _=>(Ae y).symm)
def dg (n:Nat):List Nat:=(Nat.toDigits 10 n).map Char.toNat
theorem Dv {n:Nat}(h:n<10):dg n=[48+n]:=by
 unfold dg;rw [Nat.toDigits_of_lt_base h];have:∀ d:Nat,d<10->[Nat.digitChar d].map Char.toNat=[48+d]:=by decide
 exact this n h
theorem PX {n:Nat}(h:10<=n):dg n=dg (n / 10)++[48+n % 10]:=by
 have e:n=10*(n / 10)+n % 10:=(Nat.div_add_mod n 10).symm;have hp:0<n / 10:=Nat.div_pos h (by decide);have hm:n % 10<10:=Nat.mod_lt _ (by decide);have:=Nat.toDigits_append_toDigits (b:=10) (by decide) hp hm
 rw [<-e] at this;rw [<-Dv hm];unfold dg;rw [<-this,List.map_append]
theorem rT {P:Nat->List Nat->Prop}(h0:∀ n,n<10->P n [48+n])(h1:∀ n l,10<=n->P (n / 10) l->P n (l++[48+n % 10]))(n:Nat):P n (dg n):=by
 induction n using Nat.strongRecOn with
 | ind n ih=>
  by_cases h:n<10
  ·rw [Dv h];exact h0 n h
  ·rw [PX (Nat.le_of_not_lt h)];exact h1 n _ (Nat.le_of_not_lt h)<|ih _<|Nat.div_lt_self (by lia)<|by decide
theorem rD (n:Nat):Wc (dg n):=rT (P:=fun _ l=>Wc l) (fun n h c hc=>by rw [Va] at hc;lia) (fun n l _ ih c hc=>by
 rcases Wd.mp hc with h | h
 ·exact ih c h
 ·rw [Va] at h;have:=Nat.mod_lt n (show 10>0 by decide)
  lia) n
theorem Bj (n:Nat):Vu (dg n)=n:=rT (P:=fun n l=>Vu l=n) (fun n _=>by
 show 0*10+(48+n - 48)=n;lia) (fun n l _ ih=>by
 unfold Vu at ih |-
 rw [List.foldl_append,ih];show n / 10*10+(48+n % 10 - 48)=n;lia) n
theorem xV (n:Nat):∀ k,1<=k->n<10^k->(dg n).length<=k:=rT (P:=fun n l=>∀ k,1<=k->n<10^k->l.length<=k) (fun _ _ k hk _=>hk) (fun n l hn ih k hk h=>by
 rw [Vb,List.length_singleton];match k,hk with
 | 1,_=>lia
 | k+2,_=>
  have:=ih (k+1) (by lia) (by rw [Nat.pow_succ] at h;lia)
  lia) n
theorem vL (n:Nat)(h:0<n):∃ c r,dg n=c::r/\49<=c/\c<=57:=rT (P:=fun n l=>0<n->∃ c r,l=c::r/\49<=c/\c<=57) (fun n h h0=>⟨_,_,rfl,by lia,by lia⟩) (fun n l hn ih _=>by
 obtain ⟨c,r,e,h1,h2⟩:=ih (Nat.div_pos hn (by decide));exact ⟨c,r++[48+n % 10],by rw [e];rfl,h1,h2⟩) n h
def nm (i:Int):List Nat:=if i<0 then 45::dg i.natAbs else dg i.natAbs
theorem G6 (s:String):cs (Vo s)=s.toList.map Char.toNat:=by
 rw [Str.ofString_eq_toList]
theorem Ci (n:Nat):cs (Vo (X4 n))=dg n:=by
 rw [G6];show (Nat.repr n).toList.map Char.toNat=_;unfold Nat.repr dg;rw [String.toList_ofList]
theorem cB (i:Int):cs (Vo (X4 i))=nm i:=by
 unfold nm;cases i with
 | ofNat n=>rw [if_neg (show ¬ Int.ofNat n<0 from Int.not_lt.mpr (Int.natCast_nonneg n))];exact Ci n
 | negSucc n=>
  rw [if_pos (Int.negSucc_lt_zero n),G6];show (("-" : String)++Nat.repr (n+1)).toList.map Char.toNat=_;rw [String.toList_append,List.map_append];have:=Ci (n+1)
  rw [G6] at this;rw [show (Nat.repr (n+1)).toList.map Char.toNat=dg (n+1) from this];rfl
theorem Qa (i:Int):∀ c∈nm i,c=45\/(48<=c/\c<=57):=by
 unfold nm;intro c hc;split at hc
 ·rcases Ur.mp hc with h | h
  ·exact .inl h
  ·exact .inr<|rD _ c h
 ·exact .inr<|rD _ c hc
def isF (c:Nat):Bool:=decide (48<=c/\c<=57)
def yu (f:List Nat):Bool:=!decide (f.length<1)&&!decide (60<f.length)&&!decide (f.head?=Dn 48)&&f.all isF
def jV (l:List Nat):Bool:=if l=[48] then true else yu (if l.head?=Dn 45 then l.tail else l)
theorem uX:("-" : Str)=⟨#[45]⟩:=by decide +kernel
theorem kO:("0" : Str)=⟨#[48]⟩:=by decide +kernel
theorem uQ:("," : Str)=⟨#[44]⟩:=by decide +kernel
theorem zx:cs ("0123456789" : Str)=[48,49,50,51,52,53,54,55,56,57]:=by decide +kernel
theorem kW (x:Str)(c:Nat):Wn x ⟨#[c]⟩=decide ((cs x).head?=Dn c):=by
 have:=StrLaws.subAt_one x c 0
 rw [Xn,decide_eq_true_eq,List.head?_eq_getElem?,<-this];unfold Wn;rw [Uo,decide_eq_true_eq]
theorem Ey (c:Nat):Txt.contains ("0123456789" : Str) ⟨#[c]⟩=isF c:=by
 have:Txt.contains ("0123456789" : Str) ⟨#[c]⟩=decide (c∈cs ("0123456789" : Str)):=StrLaws.found_one _ c
 rw [this,zx];unfold isF;rw [decide_eq_decide];simp only [Ur,Vn,or_false];lia
theorem HX {x:Str}(h:1<=x.length):cs (VH x (Dn 1) Go)=(cs x).tail:=by
 have hl:=eO x;rw [StrLaws.sliceText_from (i:=1) ⟨by decide,by show (1:Int)<=((cs x).length:Int);lia⟩];show ((cs x).drop 1).take _=_;rw [List.drop_one,List.take_of_length_le];rw [List.length_tail];show (cs x).length - 1<=(((cs x).length:Int) - 1).toNat;lia
theorem str_beq {x y:Str}:(x==y)=decide (x=y):=by
 rw [Xn,beq_iff_eq,decide_eq_true_eq]
theorem Jk {x y:Str}{h:Gh}{Q:WK}(k:Q (.bl (decide (x=y))) h):Di (.str x) (.str y) h Q:=by
 show Q (.bl (x==y)) h;rw [str_beq];exact k
theorem Ld {x y:Str}{h:Gh}{Q:WK}(k:Q (.bl (decide (x≠y))) h):Dg (.str x) (.str y) h Q:=by
 show Q (.bl (!(x==y))) h;rw [str_beq]
 simpa using k
def NtX (c0:SX):Prop:=∀ {h:Gh} {x:Str} {Q:WK} {E:Tq},x.length<=1000->Q (.bl (jV (cs x))) h->c0 [.str x] h Q E
theorem Jt {x:Str}{ix:List Nat}{Z : Sw}{h:Gh}{Q:WK}(hv:Z[1]?=Dn (Dn (.str x)))(hz:x.length<=1000)(k:Q (.lst (((cs x).map isF).map .bl)) h) :
  CK DX ix (MN (aF 1)) pH (Tn Mv (aF 0) (mC (.str "0123456789"))) Z h Q:=by
 unfold CK MN aF;rw [hv];dsimp only;have hl:(L2.signs x).length=(cs x).length:=by simp [L2.signs]
 refine iz.mk (by rw [hl,eO];exact Uc hz (by decide)) ?_;refine ni (fun i acc h'=>h'=h/\acc=(((cs x).take i).map isF).map W.bl) ?_ ?_ ⟨rfl,rfl⟩
 ·rintro i w acc h' N hN e ⟨rfl,rfl⟩;unfold L2.signs at e;rw [Ut,WL] at e;obtain ⟨c,ec,rfl⟩:=e;refine ⟨[_],rfl,?_⟩;show N (_++[W.bl (Txt.contains ("0123456789" : Str) ⟨#[c]⟩)]) _;rw [Ey];refine hN _ _ ⟨rfl,?_⟩;rw [VF,show (cs x)[i]?=Dn c from ec];simp
 ·rintro acc h' ⟨rfl,rfl⟩;rw [hl,Vm];exact k
theorem nG {y:Str}{h:Gh}{D:aX}{E:Tq}{a:Option W}(hz:y.length<=1000)(k:D.rt (.bl (yu (cs y))) h) :
  (bO (jW (Dq (cu (Tn kLt (Aj uw (aq (aF 1) aP)) (mC (.int 1)))) (Dq (cu (Tn Ej (Aj uw (aq (aF 1) aP)) (mC (.int 60)))) (qI (CT ju (aF 1) (aq (mC (.str "0")) aP))))) (eH (mC (.bl false))) cM) (bQ E)) D [a,Dn (.str y)] h:=by
 have hl:=eO y;unfold yu at k;refine bC<|fH<|qD ?_
 refine dF ?_;refine ⟨Uc hz<|by decide,?_⟩;show br (decide ((y.length:Int)<1)) _ _;refine ⟨fun e=>?_,fun e=>?_⟩
 ·refine uE rfl ?_;have:decide ((cs y).length<1)=true:=by
   rw [decide_eq_true_eq] at e |-
   lia
  rw [this] at k;exact k
 ·have e1:decide ((cs y).length<1)=false:=by
   rw [decide_eq_false_iff_not] at e |-
   lia
  rw [e1] at k;refine qD<|dF ?_
  refine ⟨Uc hz<|by decide,?_⟩;show br (decide ((y.length:Int)>60)) _ _;refine ⟨fun e=>?_,fun e=>?_⟩
  ·refine uE rfl ?_;have:decide (60<(cs y).length)=true:=by
    rw [decide_eq_true_eq] at e |-
    lia
   rw [this] at k;exact k
  ·have e2:decide (60<(cs y).length)=false:=by
    rw [decide_eq_false_iff_not] at e |-
    lia
   rw [e2] at k;refine fK ?_;show br (Wn y "0") _ _;rw [kO,kW];refine ⟨fun e=>?_,fun e=>?_⟩
   ·rw [e] at k;exact k
   ·rw [e] at k;refine dO<|jX ?_
    unfold bQ;refine fM<|j4<|aN ?_
    refine Jt (x:=y) rfl hz ?_;refine bD<|lK ?_
    have:((cs y).map isF).all id=(cs y).all isF:=by rw [Xv];rfl
    rw [this]
    simpa using k
theorem KR:NtX dU:=by
 intro h x Q E hz k;refine uo rfl<|bC<|fH<|dF ?_
 refine jO<|aU (w:=.str x) rfl<|pQ<|Jk ?_
 have e0:(x = "0")↔cs x=[48]:=by
  rw [kO];exact ⟨fun e=>by rw [e],fun e=>wu e⟩
 show br (decide (x = "0")) _ _;refine ⟨fun e=>?_,fun e=>?_⟩
 ·rw [decide_eq_true_eq,e0] at e;unfold jV at k;rw [if_pos e] at k;exact k
 ·rw [decide_eq_false_iff_not,e0] at e;unfold jV at k;rw [if_neg e] at k;refine dO<|jX ?_
  unfold cP;refine bC<|eE<|LK<|fK ?_
  show br (Wn x "-") _ _;rw [uX,kW];refine ⟨fun e=>?_,fun e=>?_⟩
  ·have e':=e;rw [decide_eq_true_eq] at e';rw [if_pos e'] at k;have hp:1<=x.length:=by
    rw [<-eO];cases ex:cs x with
    | nil=>rw [ex] at e';cases e'
    | cons a l=>exact Nat.succ_le_succ (Wh _)
   have ht:=HX hp;have hl:(VH x (Dn 1) Go).length<=1000:=by
    rw [<-eO,ht,List.length_tail,eO];lia
   refine ⟨Uc hl<|by decide,?_⟩;refine nG hl ?_;rw [ht];exact k
  ·rw [decide_eq_false_iff_not] at e;rw [if_neg e] at k;exact nG hz k
def pF (p:List Nat):Int:=if p.head?=Dn 45 then -((Vu p.tail:Nat):Int) else ((Vu p:Nat):Int)
theorem JW:∀ (l:List Nat) (a k:Nat),Wc l->a<10^k->l.foldl (fun acc c=>acc*10+(c - 48)) a<10^(k+l.length)
 | [],a,k,_,h=>h
 | c::l,a,k,hd,h=>by
  have hc:=hd.head;have:=JW l (a*10+(c - 48)) (k+1) hd.tail (by rw [Nat.pow_succ];lia)
  rw [List.foldl_cons,UJ,show k+(l.length+1)=k+1+l.length by lia];exact this
theorem Hj {l:List Nat}(hd:Wc l)(hl:l.length<=60):Vu l<2^200:=by
 have h1:=JW l 0 0 hd (by decide);rw [Nat.zero_add] at h1;have h2:10^l.length<=10^60:=Xk (by decide) hl;have h3:10^60<2^200:=by decide
 exact TQ h1<|Uc h2<|Xx h3
theorem Ga {l:List Nat}(h:l.all isF=true):Wc l:=fun c hc=>by
 have:=Vh.mp h c hc
 unfold isF at this;exact of_decide_eq_true this
theorem vM {f:List Nat}(h:yu f=true):f≠[]/\f.length<=60/\Wc f:=by
 unfold yu at h;rw [Uo,Uo,Uo,Vj,Vj,decide_eq_false_iff_not,decide_eq_false_iff_not] at h;refine ⟨fun e=>?_,by lia,Ga h.2⟩;rw [e] at h;exact h.1.1.1<|by decide
theorem sO {p:List Nat}(h:jV p=true):p.length<=61/\intText? (tx p)=Dn (pF p)/\Sm 200 (pF p):=by
 have hx:(tx p).length=p.length:=by rw [<-eO,Gi]
 have hp:(tx p).cps.toList=p:=Gi p;unfold jV at h;split at h
 ·rename_i e;subst e;exact ⟨by decide,by decide +kernel,by unfold Sm;decide⟩
 ·by_cases h45:p.head?=Dn 45
  ·rw [if_pos h45] at h;obtain ⟨h1,h2,h3⟩:=vM h;cases p with
   | nil=>cases h45
   | cons a q=>
    rw [Wf] at h45;cases h45;rw [List.tail_cons] at h1 h2 h3;have hl:(45::q).length<=61:=Nat.succ_le_succ h2;refine ⟨hl,?_,?_⟩
    ·rw [intText_neg hp h3 h1 (by rw [hx];lia)];rfl
    ·show (-((Vu q:Nat):Int)).natAbs<2^200;have:=Hj h3 h2
     rw [Int.natAbs_neg,V9];exact this
  ·rw [if_neg h45] at h;obtain ⟨h1,h2,h3⟩:=vM h;refine ⟨by lia,?_,?_⟩
   ·rw [intText_digits (by rw [hp];exact h3) (by rw [hp];exact h1) (by rw [hx];lia),hp];unfold pF;rw [if_neg h45]
   ·unfold pF;rw [if_neg h45];show (((Vu p:Nat):Int)).natAbs<2^200;rw [V9];exact Hj h3 h2
def oO (l:List Nat):Bool:=decide ((cut 44 l).length=3)&&(cut 44 l).all jV
def j9 (l:List Nat):List Int:=(cut 44 l).map pF
def bA (l:List Nat):Bool:=oO l&&decide (Df (j9 l))
def Cg:W->Bool
 | .str _=>true
 | _=>false
def Ar (c0:SX):Prop:=∀ {h:Gh} {x:Str} {Q:WK} {E:Tq},x.length<=900->(bA (cs x)=true->Q (.tup ((j9 (cs x)).map .int)) h)->(bA (cs x)=false->E ⟨"NoText",[]⟩ h)->c0 [.str x] h Q E
def Ez (c0:SX):Prop:=∀ {h:Gh} {w:W} {Q:WK} {E:Tq},tH w=true->Cg w=false->E ⟨"NoText",[]⟩ h->c0 [w] h Q E
theorem GK {pl nt:SX}:Ez (fY pl nt):=by
 intro h w Q E hs hn k;cases w <;> first | exact absurd hs Ue | exact absurd hn Xe | exact ⟨rfl,⟨fun _=>k,fun e=>Xe e⟩⟩
theorem J7 {nt:SX}(hnt:NtX nt){ix:List Nat}{i:Nat}{Z : Sw}{h:Gh}{E:Tq}{Q:WK}{ys:List Str}(hv:Z[i]?=Dn (Dn (.lst (ys.map W.str))))(hz:ys.length<=Ua)(hy:∀ y∈ys,y.length<=1000)(k:Q (.lst ((ys.map fun y=>jV (cs y)).map .bl)) h) :
  CK DX ix (CZ (aF i)) pH (bB nt E (aq (aF 0) aP)) Z h Q:=by
 unfold CK CZ aF;rw [hv];show iz (ys.map W.str).length _;refine iz.mk (by rw [Ub];exact hz) ?_;refine ni (fun i acc h'=>h'=h/\acc=((ys.take i).map fun y=>jV<|cs y).map W.bl) ?_ ?_ ⟨rfl,rfl⟩
 ·rintro i w acc h' N hN e ⟨rfl,rfl⟩;rw [Ut,WL] at e;obtain ⟨y,ey,rfl⟩:=e;refine ⟨[_],rfl,?_⟩;refine hnt (hy y<|VP ey) ?_;refine hN _ _ ⟨rfl,?_⟩;rw [VF,ey];simp
 ·rintro acc h' ⟨rfl,rfl⟩;rw [Ub,Vm];exact k
theorem Ls {ix:List Nat}{i:Nat}{Z : Sw}{h:Gh}{Q:WK}{ys:List Str}(hv:Z[i]?=Dn (Dn (.lst (ys.map W.str))))(hz:ys.length<=Ua)(hy:∀ y∈ys,jV (cs y)=true)(k:Q (.lst ((ys.map fun y=>pF (cs y)).map .int)) h) :
  CK DX ix (CZ (aF i)) pH (Aj yZ (aq (aF 0) aP)) Z h Q:=by
 unfold CK CZ aF;rw [hv];show iz (ys.map W.str).length _;refine iz.mk (by rw [Ub];exact hz) ?_;refine ni (fun i acc h'=>h'=h/\acc=((ys.take i).map fun y=>pF<|cs y).map W.int) ?_ ?_ ⟨rfl,rfl⟩
 ·rintro i w acc h' N hN e ⟨rfl,rfl⟩;rw [Ut,WL] at e;obtain ⟨y,ey,rfl⟩:=e;refine ⟨[_],rfl,?_⟩;obtain ⟨h1,h2,_⟩:=sO (hy y (VP ey));rw [Ae] at h2;rw [eO] at h1;show y.length<=640/\(match intText? y with
   | some n=>N (_++[W.int n]) _
   | none=>False)
  rw [h2];refine ⟨by lia,hN _ _ ⟨rfl,?_⟩⟩;rw [VF,ey];simp
 ·rintro acc h' ⟨rfl,rfl⟩;rw [Ub,Vm];exact k
theorem Gv {pl nt:SX}(hpl:Hq pl)(hnt:NtX nt):Ar (fY pl nt):=by
 intro h x Q E hz k1 k2;refine uo rfl<|bC<|fH<|jg<|fK ?_
 refine ⟨rfl,pG rfl ?_⟩;refine dO<|jX ?_
 unfold gD;refine bC<|eE ?_
 have hc0:(("," : Str).length==0)=false:=by decide +kernel
 have hcut:=wA x 44;rw [<-uQ] at hcut;have hlen:(Wo x ",").length<=1000:=by
  have:=split_le x ","
  lia
 have hsh:∀ y∈Wo x ",",y.length<=1000:=fun y hy=>by
  have:=part_short hy
  lia
 refine ⟨hc0,Uc hz<|by decide,Uc hlen<|by decide,?_⟩;generalize hys:Wo x "," = ys at hcut hlen hsh;have hcs:ys.map cs=cut 44 (cs x):=by
  rw [hcut,Xu];exact (Ws fun l _=>Gi l).trans (List.map_id' _)
 have hl3:ys.length=(cut 44 (cs x)).length:=by rw [<-hcs,Ub]
 have hall:(ys.map fun y=>jV (cs y)).all id=(cut 44 (cs x)).all jV:=by
  rw [<-hcs,Xv,Xv];rfl
 have hrow:(ys.map fun y=>pF (cs y))=j9 (cs x):=by
  unfold j9;rw [<-hcs,Xu];rfl
 refine cj rfl<|jX ?_
 refine bC<|fH<|qD<|dF ?_
 refine jO<|j4<|aN<|aU (w:=.lst (ys.map W.str)) rfl<|bD<|BP (xs:=ys.map W.str) rfl<|pQ<|Ks<|M6 ?_
 rw [Ub];refine ⟨fun e=>?_,fun e=>?_⟩
 ·refine uE rfl ?_;refine jk<|k2 ?_
  rw [decide_eq_true_eq] at e;unfold bA oO;rw [decide_eq_false (by lia)];rfl
 ·have e3:(cut 44 (cs x)).length=3:=by
   have:=of_decide_eq_false e
   lia
  refine jg<|fK ?_
  refine j4<|aN ?_
  refine J7 hnt (ys:=ys) rfl (Uc hlen<|by decide) hsh ?_;refine bD<|lK ?_
  rw [hall];show br (!(cut 44 (cs x)).all jV) _ _;refine ⟨fun e=>?_,fun e=>?_⟩
  ·refine jk<|k2 ?_
   unfold bA oO;rw [Vj] at e;rw [e,VG];rfl
  ·have ea:(cut 44 (cs x)).all jV=true:=by simpa using e
   have hgood:oO (cs x)=true:=by
    unfold oO;rw [decide_eq_true e3,ea];rfl
   have hnum:∀ y∈ys,jV (cs y)=true:=fun y hy=>by
    rw [<-hcs,Xv] at ea;exact Vh.mp ea y hy
   refine dO<|jX ?_
   unfold gB;refine bC<|eE<|j4<|aN ?_
   refine Ls (ys:=ys) rfl (Uc hlen<|by decide) hnum ?_;refine bD<|qG ?_
   rw [hrow];refine cj rfl<|jX ?_
   refine bC<|fH<|jg<|fK ?_
   refine cT<|aN<|aU (w:=.tup ((j9<|cs x).map W.int)) rfl<|aN<|pQ<|bD ?_
   have hrl:(j9 (cs x)).length=3:=by unfold j9;rw [Ub];exact e3
   refine hpl (m:=200) ⟨by rw [Ub,hrl];decide,by decide,fun w hw=>?_,fun n hn=>?_⟩ ?_
   ·obtain ⟨n,_,rfl⟩:=Xr.mp hw;rfl
   ·obtain ⟨n',hn',e'⟩:=Xr.mp hn;cases e'
    rw [<-hrow] at hn';obtain ⟨y,hy,rfl⟩:=Xr.mp hn';exact (sO<|hnum y hy).2.2
   ·have hb:Mr 3 (.tup ((j9 (cs x)).map W.int))=decide (Df (j9 (cs x))):=by
     unfold Mr;dsimp only;rw [iQ,Ub,hrl];rfl
    rw [hb];show br (!decide (Df (j9 (cs x)))) _ _;refine ⟨fun e=>?_,fun e=>?_⟩
    ·refine jk<|k2 ?_
     unfold bA;rw [Vj] at e;rw [e,VG]
    ·refine dO<|jX ?_
     unfold g8;refine fM<|aU (w:=.tup ((j9<|cs x).map W.int)) rfl<|Oh<|k1 ?_
     unfold bA;rw [hgood]
     simpa using e
theorem uR {ma:MA}{ws:List W}{Z : Sw}{h:Gh}{Q:WK}(hm:∀ R,ma Z h R=R ws h)(hz:Nat.ble ws.length 1000=true)(x:∀ g:Gh,g.c h.nx=Dn (.lst ws)->(∀ n,n≠h.nx->g.c n=h.c n)->g.nx=h.nx+1->Q (.loc h.nx) g):pW ma Z h Q:=by
 unfold pW;rw [hm];exact oZ hz<|x _ (Dk _ _) (fun _ e=>wG e) rfl
def Ea (h:Gh)(n:Nat):Prop:=∃ a b,h.c n=Dn (.lst [.int a,.int b])/\0<=b/\b<4294967296
def sS (c:SX):Prop:=∀ {h:Gh} {n:Nat} {many:Int} {Q:WK} {E:Tq},Ea h n->0<many->Sm 210 many->(∀ d h',0<=d->d<many->Ea h' n->Oth n h h'->Q (.int d) h')->c [.loc n,.int many] h Q E
theorem Bw:sS rK:=by
 intro h n many Q E hb hm hs k;obtain ⟨a,b,e,b0,b1⟩:=hb;have hm0:many≠0:=by lia
 have ev:=lB e;have bag:∀ {h':Gh} {a b:Int},h'.c n=Dn (.lst [.int a,.int b])->0<=b->b<4294967296->Ea h' n:=fun e h0 h1=>⟨_,_,e,h0,h1⟩
 show (match view h (.loc n) with
  | some ws=>_
  | none=>False)
 rw [ev];refine J9 (fun _=>?_)<|fun _=>?_
 ·show (match view h (.loc n) with
   | some ws=>_
   | none=>False)
  rw [ev];refine And.intro hm0 ?_;show (match view h (.loc n) with
   | some ws=>_
   | none=>False)
  rw [ev];refine And.intro ⟨hm0,210,by decide,hs⟩ ?_;show (match h.c n with
   | some (Cell.lst ws)=>_
   | _=>False)
  rw [e];show Q (.int (a.fmod many)) (h.set n _);rw [fj hm];exact k _ _ (WQ _ hm0) (Wa _ hm) (bag (z7 _ _ _) b0 b1) Oth.set
 ·show (match view h (.loc n) with
   | some ws=>_
   | none=>False)
  rw [ev];refine And.intro (.of (m:=33) (n:=64) (Fg (by lia)<|by lia) (.lit rfl) (by decide)<|by decide) ?_;refine And.intro (show (2147483647:Int)≠0 by decide) ?_;show (match h.c n with
   | some (Cell.lst ws)=>_
   | _=>False)
  rw [e];have c0:0<=(b*48271+15731).fmod 2147483647:=by rw [fj (by decide)];exact WQ _ (by decide)
  have c1:(b*48271+15731).fmod 2147483647<2147483647:=by rw [fj (by decide)];exact Wa _ (by decide)
  have e2:(h.set n (.lst [.int a,.int ((b*48271+15731).fmod 2147483647)])).c n=Dn (.lst [.int a,.int ((b*48271+15731).fmod 2147483647)]):=z7 _ _ _;have ev2:=lB e2;have o2:Oth n h (h.set n (.lst [.int a,.int ((b*48271+15731).fmod 2147483647)])):=Oth.set;show (match view (h.set n (.lst [.int a,.int ((b*48271+15731).fmod 2147483647)])) (.loc n) with
   | some ws=>_
   | none=>False)
  rw [ev2];show (match view (h.set n (.lst [.int a,.int ((b*48271+15731).fmod 2147483647)])) (.loc n) with
   | some ws=>_
   | none=>False)
  rw [ev2];generalize (b*48271+15731).fmod 2147483647=c at *;refine And.intro ⟨by decide,64,by decide,.lit rfl⟩ ?_;have q0:0<=c.fdiv 32768:=by rw [qJ (by decide)];lia
  have q1:c.fdiv 32768<2147483647:=by rw [qJ (by decide)];lia
  refine And.intro (.of (m:=31) (n:=40) (Fg (by lia)<|by lia) (Fg (by lia)<|by lia) (by decide)<|by decide) ?_;refine And.intro (show (2147483629:Int)≠0 by decide) ?_;refine And.intro ⟨by decide,64,by decide,.lit rfl⟩ ?_;refine And.intro hm0 ?_;show Q (.int (Int.fmod _ many)) (h.set n (.lst [.int a,.int c]));rw [fj hm];exact k _ _ (WQ _ hm0) (Wa _ hm) (bag e2 c0<|by lia) o2
def uO (c:SX):Prop:=∀ {h:Gh} {ns:List Int} {k:Int} {Q:WK} {E:Tq},0<=k->Q (.int (ns.getD k.toNat 0)) h->c [.kls (ns.map .int),.int k] h Q E
theorem GZ:uO jy:=by
 intro h ns k Q E h0 q;show br (decide (k<((ns.map W.int).length:Int))) _ _;refine J9 (fun hk=>?_)<|fun hk=>?_
 ·conv=>whnf
  rw [zB h0 hk];exact q
 ·have e:ns.getD k.toNat 0=0:=by
   rw [Vz,List.getElem?_eq_none (by rw [Ub] at hk;lia)];rfl
  rw [e] at q;exact q
theorem qT {i j:Int}{h:Gh}{Q:WK}(c:Ny i j)(x:Q (.int (i^j.toNat)) h):Bg (.int i) (.int j) h Q:=⟨c,x⟩
theorem GD {t:MA}{Z : Sw}{h:Gh}{Q:WK}(x:t Z h fun ws h1=>iz ws.length (Q (.loc h1.nx) (h1.new (.lst ws)))):pW t Z h Q:=x
def Dz (c0:SX):Prop:=∀ {h:Gh} {a:Int} {Q:WK} {E:Tq},(∀ h',Ea h' h.nx->h'.nx=h.nx+1->(∀ m,m≠h.nx->h'.c m=h.c m)->Q (.loc h.nx) h')->c0 [.int a] h Q E
theorem Ce:Dz qz:=by
 intro h a Q E k;unfold qz;rfl'
 refine qT ⟨by decide,by decide,by decide⟩ ?_;rfl'
 refine J9 (fun _=>?_)<|fun _=>?_
 ·refine fM<|GD ?_
  rfl'
  refine J6 (by decide) ?_;rfl'
  have c0:0<=a.fmod 2147483647:=by rw [fj (by decide)];exact WQ _ (by decide)
  have c1:a.fmod 2147483647<2147483647:=by rw [fj (by decide)];exact Wa _ (by decide)
  exact k _ ⟨_,_,Dk _ _,by lia,by lia⟩ rfl fun m hm=>wG hm
 ·rfl'
  unfold nW;refine fM<|uR (ws:=[.int a,.int 7]) (fun R=>rfl) rfl fun g gc go gn=>?_
  exact k g ⟨_,_,gc,by decide,by decide⟩ gn go
def LpH (c0:SX):Prop:=∀ {h:Gh} {w:W} {v:Tr} {m:Nat} {Q:WK} {E:Tq},lF h w (tl v)->v≠(0,0,0)->Em m v->m<=8000->(∀ u,Pl u->Par v u->Q (tw u) h)->c0 [w] h Q E
theorem za {ns:List Int}(h0:NZ ns):∃ (us:List Int) (s:Int),(s=1\/s = -1)/\Df us/\ns=us.map (· * (s*gL ns))/\ns.map (·.fdiv (gL ns))=us.map (· * s):=by
 have hg:=Gx h0;have fd:∀ (us:List Int) (s:Int),ns=us.map (· * (s*gL ns))->ns.map (·.fdiv (gL ns))=us.map (· * s):=by
  intro us s e;have e2:ns.map (·.fdiv (gL ns))=(us.map (· * (s*gL ns))).map (·.fdiv (gL ns)):=congrArg _ e;rw [e2,Xu];refine Ws fun x _=>?_;show (x*(s*gL ns)).fdiv (gL ns)=x*s;rw [<-Int.mul_assoc];exact Int.mul_fdiv_cancel _<|by lia
 by_cases hl:cA ns<0
 ·obtain ⟨_,pl,eq⟩:=Cz h0 (by':=0 - gL ns) (by rw [if_pos hl]);have e1:ns=(ns.map (·.fdiv (0 - gL ns))).map (· * (-1*gL ns)):=by rw [show (-1*gL ns)=0 - gL ns by lia];exact eq
  exact ⟨_,-1,.inr rfl,pl,e1,fd _ _ e1⟩
 ·obtain ⟨_,pl,eq⟩:=Cz h0 (by':=gL ns) (by rw [if_neg hl]);have e1:ns=(ns.map (·.fdiv (gL ns))).map (· * (1*gL ns)):=by rw [Int.one_mul];exact eq
  exact ⟨_,1,.inl rfl,pl,e1,fd _ _ e1⟩
theorem u6 {E:Tq}{Q:WK}{h:Gh}{x0:W}{v:Tr}{m:Nat}{o2 o3 o4 o5:Option W}(hw:lF h x0 (tl v))(h0:v≠(0,0,0))(hs:Em m v)(hm:m<=8000)(k:∀ u,Pl u->Par v u->Q (tw u) h) :
  dD E { nx:=fun _ h'=>Q .non h',rt:=fun w h'=>Q w h' } [Dn x0,Dn (.int (gL (tl v))),o2,o3,o4,o5] h:=by
 have nz:=KD h0;obtain ⟨us,s,hs1,pl,e1,e2⟩:=za nz;have hg0:=Gx nz;have hgs:Sm m (gL (tl v)):=Nk hs.all;have s0:s≠0:=by rcases hs1 with rfl | rfl <;> decide
 obtain ⟨u,rfl,eu⟩:=Hy e1;have fin:Q (tw u) h:=k u pl ⟨_,Int.mul_ne_zero s0 (by lia),eu⟩;have nzm:NZ ((tl u).map (· * s)):=by
  obtain ⟨x,hx,hx0⟩:=KD (Pl.ne (t:=u) pl);exact ⟨x*s,Xr.mpr ⟨x,hx,rfl⟩,Int.mul_ne_zero hx0 s0⟩
 have hlast:cA ((tl u).map (· * s))=cA (tl u)*s:=oH s0 _;have hpos:0<cA (tl u):=pl.2;unfold dD;refine bC<|eE ?_
 refine qd (w:=x0) (ns:=tl v) rfl hw (show (3:Nat)<=Ua by rw [X5];decide) (fun i acc h'=>h'=h/\acc=(((tl v).take i).map (·.fdiv (gL<|tl v))).map W.int) (fun i acc h' e=>by rw [e.1];exact hw) ?_ ?_ ⟨rfl,rfl⟩
 ·rintro i x acc h' N hN et ⟨rfl,rfl⟩;refine And.intro ⟨by lia,m,hm,hgs⟩ ?_;refine hN _ _ ⟨rfl,?_⟩;rw [VF,et];simp
 ·rintro acc h' ⟨rfl,rfl⟩;rw [Vm,e2];refine cj (Z':=[Dn x0,Dn<|.int<|gL<|tl v,o2,o3,o4,Dn<|.lst<|((tl u).map (· * s)).map W.int]) rfl<|jX ?_
  refine bC<|fH<|dF<|jO<|jO ?_
  refine qd (w:=.lst (((tl u).map (· * s)).map W.int)) (ns:=(tl u).map (· * s)) rfl (.inl rfl) (show (3:Nat)<=Ua by rw [X5];decide) (fun i acc h2=>h2=h'/\acc=((((tl u).map (· * s)).take i).filter (·≠0)).map W.int) (fun i acc h' e=>.inl rfl) ?_ ?_ ⟨rfl,rfl⟩
  ·rintro i x acc h2 N hN en ⟨rfl,rfl⟩;show CJ (!Af (.int x) (.int 0)) (N (_++[W.int x]) h2) _;rw [bV];by_cases h0:x=0
   ·refine Pu (by simp [h0])<|hN _ _ ⟨rfl,?_⟩
    rw [VF,en];simp [h0]
   ·refine Av (by simp [h0])<|hN _ _ ⟨rfl,?_⟩
    rw [VF,en];simp [h0]
  ·rintro acc h2 ⟨rfl,rfl⟩;rw [Vm];have el:=zZ nzm;generalize (((tl u).map (· * s)).filter (·≠0)).map W.int=F at el;show (match DW F (-1) with
     | some w=>_
     | none=>False)
   rw [el,hlast];rcases hs1 with rfl | rfl
   ·refine pG (decide_eq_false<|by lia) ?_;rfl'
    unfold gk;rfl'
    have:((tl u).map (· * (1:Int))).map W.int=(tl u).map W.int:=by simp
    rw [this];exact fin
   ·refine uE (decide_eq_true<|by lia) ?_;refine eE ?_;refine qd (w:=.lst (((tl u).map (· * -1)).map W.int)) (ns:=(tl u).map (· * -1)) rfl (.inl rfl) (show (3:Nat)<=Ua by rw [X5];decide) (fun i acc h3=>h3=h2/\acc=((((tl u).map (· * -1)).take i).map (fun x=>0 - x)).map W.int) (fun i acc h' e=>.inl rfl) ?_ ?_ ⟨rfl,rfl⟩
    ·rintro i x acc h3 N hN en ⟨rfl,rfl⟩;refine hN _ _ ⟨rfl,?_⟩;rw [VF,en];simp
    ·rintro acc h3 ⟨rfl,rfl⟩;have e3:((((tl u).map (· * -1)).take ((tl u).map (· * -1)).length).map (fun x=>0 - x))=tl u:=by
      rw [Vm,Xu];have:((fun x:Int=>0 - x) ∘ (· * -1))=id:=by funext x;show 0 - x * -1=x;lia
      rw [this,List.map_id]
     rw [e3];refine cj (Z':=[Dn x0,Dn<|.int<|gL<|tl v,o2,o3,o4,Dn<|.lst<|(tl u).map W.int]) rfl<|jX ?_
     unfold gk;rfl'
     exact fin
theorem FJ (n f:Int):WM (if n<0 then -n else n) f=WM n f:=by
 rw [abs_eq];simp [WM]
theorem ud:LpH nO:=by
 intro h x0 v m Q E hw h0 hs hm k;have key:∀ D:aX,D.nx=dD E { nx:=fun _ h'=>Q .non h',rt:=fun w h'=>Q w h' } ->
   zL (CZ (aF 0)) (Oj 2) (bO (cI (Aj Bb (aq (aF 2) aP)) (Oj 3))
    (bO (cI (aF 1) (Oj 4))
    (bO (pA (cu (Tn Ej (aF 4) (mC (.int 0)))) (Nq 3 4 (aq (aF 4) (aq (Tn yc (aF 3) (aF 4)) aP))))
    (cI (aF 3) (Oj 1))))) D [Dn x0,Dn (.int 0),Go,Go,Go,Go] h:=by
  intro D hD;refine zU (w:=x0) (ns:=tl v) rfl hw (fun i Z h'=>h'=h/\∃ o p r,Z = [Dn x0,Dn<|.int<|gL<|(tl v).take i,o,p,r,Go]) (fun i Z h' e=>by rw [e.1];exact hw) ?_ ?_ ⟨rfl,Go,Go,Go,rfl⟩
  ·rintro i n Z h' N hN en ⟨rfl,o,p,r,rfl⟩;have f0:=LR ((tl v).take i);generalize hf:gL ((tl v).take i)=f at f0;conv=>whnf
   refine ⟨fun m Z h2=>h2=h'/\∃ x y,Z = [Dn x0,Dn<|.int f,Dn<|.int n,Dn<|.int x,Dn<|.int y,Go]/\0<=x/\0<=y/\WM x y=WM n f/\m=y.toNat,⟨_,rfl,_,_,rfl,wU n,f0,FJ n f,rfl⟩,?_⟩
   ·rintro m Z h2 ⟨rfl,x,y,rfl,x0,y0,hg,rfl⟩;refine ⟨fun e=>?_,fun e=>?_⟩
    ·have hy:0<y:=by simpa using e
     obtain ⟨g1,g2,g3⟩:=rC x0 hy;conv=>whnf
     refine ⟨by lia,?_⟩;refine ⟨(x.fmod y).toNat,by lia,rfl,y,x.fmod y,rfl,y0,g2,g1.trans hg,rfl⟩
    ·have hy:y=0:=by
      have:¬ 0<y:=by simpa using e
      lia
     subst hy;refine hN _ _ ⟨rfl,Dn<|.int n,Dn<|.int x,Dn<|.int 0,?_⟩;have:gL ((tl v).take (i+1))=x:=by rw [uJ en,hf];unfold gF;rw [<-hg];exact jE x0
     rw [this];rfl
  ·rintro Z h' ⟨rfl,o,p,r,rfl⟩;rw [Vm];rw [hD];exact u6 hw h0 hs hm k
 exact key _ rfl
theorem Bl {r:MM}{mo:ME}{ma:MA}{Z : Sw}{h:Gh}{Q:WK}(x:mo Z h fun x h1=>uq h1 x (ma Z h1 fun xs h2=>r x xs h2 Q)):JL r mo ma Z h Q:=x
theorem vq {n:Nat}{us:List W}{h:Gh}{P:Prop}(e:h.c n=Dn (.lst us))(p:P):uq h (.loc n) P:=by
 simp only [uq,e];exact p
theorem JX {h:Gh}{n:Nat}{us:List W}{w:W}{Q:WK}(e:h.c n=Dn (.lst us))(hz:us.length<=1000)(k:∀ g:Gh,g.c n=Dn (.lst (us++[w]))->(∀ m,m≠n->g.c m=h.c m)->g.nx=h.nx->Q .non g):fV (.loc n) [w] h Q:=
 Lr e (V8 hz (by decide)) (k _ (z7 _ _ _) (fun _ e=>wz e) rfl)
abbrev stI (i:Int):Str:=Vo (X4 i)
theorem Gq (ys:List Str):cs (WD "" ys)=(ys.map cs).flatten:=by
 have e:WD "" ys=Str.join "" ys:=PySem.StrLaws.glued_eq_join "" ys;have e0:cs ("" : Str)=[]:=by decide +kernel
 rw [e];induction ys with
 | nil=>rfl
 | cons y ys ih=>
  cases ys with
  | nil=>simp [Str.join]
  | cons z zs=>
   have ih':=ih (PySem.StrLaws.glued_eq_join "" _);show cs (y ++ ""++Str.join "" (z::zs))=_;rw [aY,aY,ih',e0,Wy];rfl
theorem rR {i:Int}(hi:i.natAbs<10^60):(nm i).length<=61:=by
 have:=xV i.natAbs 60 (by decide) hi
 unfold nm;split
 ·rw [UJ];lia
 ·lia
theorem jK {i:Int}(hi:i.natAbs<10^60):(stI i).length<=61:=by
 rw [<-eO,cB];exact rR hi
theorem nM {n:Nat}(h:n<10^60):n.log2<1920:=by
 by_cases h0:n=0
 ·subst h0;decide
 ·rw [Nat.log2_lt h0];exact TQ (Nat.lt_trans h<|show 10^60<2^200 by decide)<|Xk (by decide)<|by decide
def JZ (c0:SX):Prop:=∀ {h:Gh} {i:Int} {Q:WK} {E:Tq},i.natAbs<10^60->Q (.str (stI i)) h->c0 [.int i] h Q E
theorem Je (i:Int):(if i<0 then -i else i)=(i.natAbs:Int):=by
 split <;> lia
theorem c64:(10:Int)^(64:Int).toNat=10000000000000000000000000000000000000000000000000000000000000000:=by decide
theorem nZ {i:Int}(hi:i.natAbs<10^60){h g:Gh}{Q:WK}{E:Tq}{L:Nat}{o1 o2:Option W}{us:List W}{ys:List Str}(ec:g.c L=Dn (.lst us))(ey:lU us.reverse=Dn ys)(hs:(ys.map cs).flatten=nm i)
  (hz:(ys.map fun x=>x.length).sum<=1000) (o:∀ m,m<h.nx->g.c m=h.c m) (k:Q (.str (stI i)) h) :
  cJ E { nx:=fun _ h'=>iB true h .non h' Q,rt:=fun w h'=>iB true h w h' Q } [o1,Dn (.loc L),o2] g:=by
 unfold cJ;refine fM ?_;have ev:cD g (.loc L)=Dn us:=by simp only [cD,ec]
 show (match cD g (.loc L) with
  | some us=>(match lU us.reverse with
   | some ys=>(ys.map fun x=>x.length).sum+ys.length*("" : Str).length<=16777216/\iB true h (.str (WD "" ys)) g Q
   | none=>False)
  | none=>False)
 rw [ev];dsimp only;rw [ey];dsimp only;have e:WD "" ys=stI i:=wu (by rw [Gq,hs,cB]);rw [e];refine ⟨?_,fun m c hm e=>(o m hm).trans e,.inl ⟨by simp [Lo],k⟩⟩;have:("" : Str).length=0:=by decide +kernel
 rw [this];lia
theorem zaW:JZ gw:=by
 intro h i Q E hi k;refine BW rfl rfl ?_;refine bC<|eE ?_
 refine uR (ws:=[]) (fun R=>rfl) rfl fun g gc go gn=>?_;refine cj rfl<|jX ?_
 refine bC<|eE<|j4<|aN<|aU (w:=.int i) rfl<|bD<|Cp ?_
 rw [Je];refine cj rfl<|jX ?_
 refine bC ?_;refine ⟨fun _ Z' h'=>Z'=[Dn<|.int i,Dn<|.loc h.nx,Dn<|.int (i.natAbs:Int)]/\h'=g,⟨0,rfl,rfl⟩,?_⟩;rintro m Z h' ⟨rfl,rfl⟩;refine dF<|jO<|aU (w:=.int (i.natAbs:Int)) rfl<|jO<|pQ<|pQ<|qT ⟨by decide,by decide,by decide⟩ ?_
 show br (decide ((10:Int)^(64:Int).toNat<=(i.natAbs:Int))) _ _;refine pG (decide_eq_false ?_) ?_
 ·rw [c64];have:(10:Nat)^60=1000000000000000000000000000000000000000000000000000000000000:=by decide
  lia
 refine jX ?_;unfold dZ;refine bC<|lZ<|Bl<|aU (w:=.loc h.nx) rfl<|vq gc ?_
 refine aN<|j4<|aN<|aU (w:=.int (i.natAbs:Int)) rfl<|bD ?_
 refine ⟨nM (by rw [V9];exact hi),?_⟩;refine bD<|JX gc (by decide) fun g2 c2 o2 n2=>?_
 have oo:∀ m,m<h.nx->g2.c m=h.c m:=fun m hm=>(o2 m (Ud hm)).trans (go m (Ud hm))
 have en:cs (Vo (X4 (i.natAbs:Int)))=dg i.natAbs:=by
  rw [cB];unfold nm;rw [if_neg (Int.not_lt.mpr (Int.natCast_nonneg _)),V9]
 have hdl:(Vo (X4 (i.natAbs:Int))).length<=60:=by
  rw [<-eO,en];exact xV _ 60 (by decide) hi
 refine jX ?_;refine bC<|fH<|dF<|jO<|aU (w:=.int i) rfl<|pQ<|JC<|M6 ?_
 refine ⟨fun e=>?_,fun e=>?_⟩
 ·rw [decide_eq_true_eq] at e;refine lZ<|Bl<|aU (w:=.loc h.nx) rfl<|vq c2 ?_
  refine aN<|pQ<|bD<|JX c2 (Xa rfl) fun g3 c3 o3 n3=>?_
  refine jX ?_;refine nZ hi (ys:=["-",Vo<|X4 (i.natAbs:Int)]) c3 rfl ?_ ?_ (fun m hm=>(o3 m<|Ud hm).trans (oo m hm)) k
  ·have em:cs ("-" : Str)=[45]:=by decide +kernel
   rw [Uy,Uy,Vw,em,en];unfold nm;rw [if_pos e];simp
  ·have em:("-" : Str).length=1:=by decide +kernel
   simp only [Uy,Vw,List.sum_cons,List.sum_nil,em];lia
 ·rw [decide_eq_false_iff_not] at e;refine dO<|jX ?_
  refine nZ hi (ys:=[Vo<|X4 (i.natAbs:Int)]) c2 rfl ?_ ?_ oo k
  ·rw [Uy,Vw,en];unfold nm;rw [if_neg e];simp
  ·simp only [Uy,Vw,List.sum_cons,List.sum_nil];lia
def spT (a b c:Int):Str:=stI a ++ ","++stI b ++ ","++stI c
theorem fC:cs ("," : Str)=[44]:=by decide +kernel
theorem m9 (a b c:Int):cs (spT a b c)=nm a++44::(nm b++44::nm c):=by
 unfold spT;rw [aY,aY,aY,aY,fC,cB,cB,cB];simp
theorem bF (i:Int):44∉nm i:=fun hm=>by
 rcases Qa i 44 hm with h | h
 ·exact absurd h<|by decide
 ·exact absurd h.1<|by decide
theorem jx (a b c:Int):cut 44 (cs (spT a b c))=[nm a,nm b,nm c]:=by
 rw [m9,cQ (bF a),cQ (bF b),bY (bF c)]
theorem zav:dg 0=[48]:=Dv (by decide)
theorem uZ {n:Nat}(h0:0<n)(h:n<10^60):yu (dg n)=true:=by
 obtain ⟨c,r,e,h1,h2⟩:=vL n h0;have hl:=xV n 60 (by decide) h;have ha:(dg n).all isF=true:=Vh.mpr fun d hd=>by
  unfold isF;exact decide_eq_true<|rD n d hd
 unfold yu;rw [ha,decide_eq_false (show ¬ 60<(dg n).length by lia)];rw [e] at hl |-
 rw [decide_eq_false (show ¬ (c::r).length<1 by rw [UJ];lia),Wf,decide_eq_false (show ¬ Dn c=Dn 48 from fun e=>by cases e;lia)];rfl
theorem qC {i:Int}(h:i.natAbs<10^60):jV (nm i)=true:=by
 unfold jV;split
 ·rfl
 ·rename_i hne;unfold nm at hne |-
  split
  ·rename_i hi;rw [if_pos (by rw [Wf]),List.tail_cons];exact uZ (by lia) h
  ·rename_i hi;rw [if_neg hi] at hne;have h0:0<i.natAbs:=by
    by_cases e:i.natAbs=0
    ·rw [e] at hne;exact absurd zav hne
    ·lia
   obtain ⟨c,r,e,h1,h2⟩:=vL _ h0;have hh:(dg i.natAbs).head?≠Dn 45:=by
    rw [e,Wf];intro e';cases e'
    lia
   rw [if_neg hh];exact uZ h0 h
theorem mj (i:Int):pF (nm i)=i:=by
 unfold nm;split
 ·rename_i hi;unfold pF;rw [if_pos (by rw [Wf]),List.tail_cons,Bj];lia
 ·rename_i hi;have hh:(dg i.natAbs).head?≠Dn 45:=fun e=>by
   have:=rD i.natAbs 45 (List.mem_of_mem_head? e)
   lia
  unfold pF;rw [if_neg hh,Bj];lia
theorem wC (a b c:Int):j9 (cs (spT a b c))=[a,b,c]:=by
 unfold j9;rw [jx];simp only [Uy,Vw,mj]
theorem zN {a b c:Int}(ha:a.natAbs<10^60)(hb:b.natAbs<10^60)(hc:c.natAbs<10^60):bA (cs (spT a b c))=decide (Df [a,b,c]):=by
 unfold bA oO;rw [wC,jx];simp only [Xl,List.all_nil,qC ha,qC hb,qC hc];simp
theorem xY {a b c:Int}(ha:a.natAbs<10^60)(hb:b.natAbs<10^60)(hc:c.natAbs<10^60):(spT a b c).length<=185:=by
 have h1:=rR ha;have h2:=rR hb;have h3:=rR hc;rw [<-eO,m9,Vb,UJ,Vb,UJ];lia
theorem zG (a b c:Int):WD "," [stI a,stI b,stI c]=spT a b c:=by
 have e:WD "," [stI a,stI b,stI c]=Str.join "," [stI a,stI b,stI c]:=PySem.StrLaws.glued_eq_join "," _;rw [e];show stI a ++ ","++(stI b ++ ","++stI c)=spT a b c;refine wu ?_;rw [m9,aY,aY,aY,aY,fC,cB,cB,cB];simp
theorem Jh {r:MM}{mo:ME}{ma:MA}{Z : Sw}{h:Gh}{Q:WK}(x:mo Z h fun w h1=>isStr w (ma Z h1 fun xs h2=>r w xs h2 Q)):CT r mo ma Z h Q:=x
theorem zbd {x:Str}{P:Prop}(p:P):isStr (.str x) P:=p
theorem zaI {a:Str}{w:W}{us:List W}{ys:List Str}{h:Gh}{Q:WK}(e:cD h w=Dn us)(e':lU us=Dn ys)(hz:(ys.map fun x=>x.length).sum+ys.length*a.length<=16777216)(k:Q (.str (WD a ys)) h):zX (.str a) [w] h Q:=by
 show (match cD h w with
  | some us=>(match lU us with
   | some ys=>(ys.map fun x=>x.length).sum+ys.length*a.length<=16777216/\Q (.str (WD a ys)) h
   | none=>False)
  | none=>False)
 rw [e];dsimp only;rw [e'];exact ⟨hz,k⟩
def Iz (c0:SX):Prop:=∀ {h:Gh} {a b c:Int} {Q:WK} {E:Tq},a.natAbs<10^60->b.natAbs<10^60->c.natAbs<10^60->Q (.str (spT a b c)) h->c0 [.tup [.int a,.int b,.int c]] h Q E
theorem zaV {sn:SX}(hsn:JZ sn):Iz (gj sn):=by
 intro h a b c Q E ha hb hc k;unfold gj;refine uo rfl<|fM ?_
 refine Jh<|pQ<|zbd<|aN ?_
 rfl'
 refine hsn ha ?_;rfl'
 refine hsn hb ?_;rfl'
 refine hsn hc ?_;rfl'
 refine zaI (ys:=[stI a,stI b,stI c]) rfl rfl ?_ ?_
 ·have h1:=jK ha;have h2:=jK hb;have h3:=jK hc;have hl:("," : Str).length=1:=by decide +kernel
  simp only [Uy,Vw,List.sum_cons,List.sum_nil,UJ,List.length_nil,hl];lia
 ·rw [zG];exact k
def LrX (c0:SX):Prop:=∀ {h:Gh} {a b c:Int} {Q:WK} {E:Tq},a.natAbs<10^60->b.natAbs<10^60->c.natAbs<10^60->Df [a,b,c]->Q (.bl true) h->c0 [.str (spT a b c),.tup [.int a,.int b,.int c]] h Q E
theorem GQ {rd wh:SX}(hrd:Ar rd)(hwh:jA wh):LrX (sE rd wh):=by
 intro h a b c Q E ha hb hc hp k;have hl:=xY ha hb hc;have hr:=zN ha hb hc;rw [decide_eq_true hp] at hr;refine uo rfl<|bC<|eE<|cT<|aN<|aU (w:=.str (spT a b c)) rfl<|bD ?_
 refine hrd (by lia) (fun _=>?_)<|fun e=>absurd (hr.symm.trans e) Xe
 rw [wC];refine cj rfl<|jX<|fM<|jR<|j4<|aN<|aU (w:=.tup [.int a,.int b,.int c]) rfl<|aN<|pQ<|bD ?_
 refine BR (b:=true) rfl<|Ke<|yO<|jR<|jO<|aU (w:=.tup [.int a,.int b,.int c]) rfl<|aU (w:=.tup [.int a,.int b,.int c]) rfl ?_
 refine Fl (p:=(a,b,c)) (q:=(a,b,c))<|Ke<|uE (decide_eq_true rfl) ?_
 refine j4<|aN ?_
 refine sI hwh (w:=.tup [.int a,.int b,.int c]) (ws:=[.int a,.int b,.int c]) rfl rfl (show 3<=Ua by decide) ?_ ?_
 ·intro w hw;simp only [Ur,Vn,or_false] at hw;rcases hw with rfl | rfl | rfl <;> rfl
 ·exact bD<|lK (us:=[true,true,true])<|Oh k
def uy (w:W):Prop:=(∃ x:Str,w=.str x/\x.length<=900/\bA (cs x)=false)\/(tH w=true/\Cg w=false)
def RfX (c0:SX):Prop:=∀ {h:Gh} {w:W} {Q:WK} {E:Tq},uy w->Q (.bl true) h->c0 [w] h Q E
theorem vQ {rd:SX}(hrd:Ar rd)(hrn:Ez rd):RfX (jT rd):=by
 intro h w Q E hb k;refine uo rfl<|bC<|Ca<|lZ<|cT<|aN<|aU (w:=w) rfl<|bD ?_
 have key:CJ (Al ("NoText" : Str) "EaselError") (eH (jM (Aq (fun n=>(Al n "NoText")) (aF 1)) (jM (Aq (fun n=>true) (aF 1)) (p8 (Aq (fun n=>((Al n "NoName")||((Al n "Nothing")||((Al n "Short")||false)))) (aF 1)))))
   (aX.lost { nx:=gJ rd E { nx:=fun _ h'=>Q .non h',rt:=Q },rt:=Q }) [Dn w,Dn (.exc "NoText")] h) False:=by
  refine Av (show Al "NoText" "EaselError" = true by decide +kernel) ?_;refine fM<|jR<|qK<|aU (w:=.exc "NoText") rfl<|Mx<|Ke<|uE (show Al "NoText" "NoText" = true by decide +kernel) ?_
  refine jR<|qK<|aU (w:=.exc "NoText") rfl<|Mx<|Ke<|yO ?_
  refine xP<|qK<|aU (w:=.exc "NoText") rfl<|Mx<|QK ?_
  rw [show (Al "NoText" "NoName"||(Al "NoText" "Nothing"||(Al "NoText" "Short"||false)))=false by decide +kernel];exact k
 rcases hb with ⟨x,rfl,hx,hr⟩ | ⟨hs,hn⟩
 ·exact hrd hx (fun e=>absurd (hr.symm.trans e) Xe) fun _=>key
 ·exact hrn hs hn key
theorem jC {x:Str}(h:(cut 44 (cs x)).length≠3):bA (cs x)=false:=by
 unfold bA oO;rw [decide_eq_false h];rfl
theorem qU {x:Str}{p:List Nat}(h:p∈cut 44 (cs x))(hp:jV p=false):bA (cs x)=false:=by
 have:(cut 44 (cs x)).all jV=false:=by
  rw [W0];intro e;have:=Vh.mp e p h
  rw [hp] at this;exact Xe this
 unfold bA oO;rw [this,VG];rfl
theorem qw {x:Str}(h:¬ Df (j9 (cs x))):bA (cs x)=false:=by
 unfold bA;rw [decide_eq_false h,VG]
theorem Gg {l:List Nat}:jV (32::l)=false:=by
 unfold jV;rw [if_neg (by intro e;cases e),if_neg (by rw [Wf];intro e;cases e)];unfold yu;rw [Xl,show isF 32=false by decide,Bool.false_and,VG]
theorem zaE {i:Int}:jV (nm i++[32])=false:=by
 have hm:32∈nm i++[32]:=U0 _ (Va.mpr rfl);have hF:∀ f:List Nat,32∈f->yu f=false:=fun f hf=>by
  have:f.all isF=false:=by
   rw [W0];intro e;exact absurd (Vh.mp e 32 hf)<|by decide
  unfold yu;rw [this,VG]
 unfold jV;rw [if_neg (fun e=>by rw [e] at hm;exact absurd hm (by decide))];split
 ·rename_i h45;refine hF _ ?_;cases e:nm i++[32] with
  | nil=>rw [e] at hm;cases hm
  | cons a l=>
   rw [e] at hm h45;rw [Wf] at h45;cases h45;rcases Ur.mp hm with h | h
   ·exact absurd h<|by decide
   ·exact h
 ·exact hF _ hm
theorem Sy (n:Int):bA (cs (stI n))=false:=jC (by rw [cB,bY (bF n)];simp)
theorem SM (n m:Int):bA (cs (stI n ++ ","++stI m))=false:=jC (by
 rw [aY,aY,fC,cB,cB,Vx,W7,cQ (bF n),bY (bF m)];simp)
theorem uW {l r:List Nat}:(cut 44 (l++44::r)).length=(cut 44 l).length+(cut 44 r).length:=by
 have ne:∀ l:List Nat,cut 44 l≠[]:=fun l=>by
  cases l with
  | nil=>exact List.cons_ne_nil _ _
  | cons x l=>
   rw [cut];split
   ·exact List.cons_ne_nil _ _
   ·split <;> exact List.cons_ne_nil _ _
 induction l with
 | nil=>
  have e:cut 44 (44::r)=[]::cut 44 r:=by rw [cut,if_pos rfl]
  have e0:(cut 44 ([]:List Nat)).length=1:=rfl;rw [List.nil_append,e,UJ,e0];lia
 | cons x l ih=>
  rw [Xc,cut,cut];by_cases e:x=44
  ·rw [if_pos e,if_pos e,UJ,UJ,ih];lia
  ·rw [if_neg e,if_neg e];cases h1:cut 44 (l++44::r) with
   | nil=>exact absurd h1 (ne _)
   | cons p ps=>
    cases h2:cut 44 l with
    | nil=>exact absurd h2 (ne _)
    | cons q qs=>
     rw [h1,h2] at ih
     simpa using ih
theorem R7 (a b c:Int):bA (cs (spT a b c ++ ","))=false:=jC (by
 rw [aY,fC,uW,jx];exact (by decide:(3+1:Nat)≠3))
theorem RK (a b c:Int):bA (cs (","++spT a b c))=false:=jC (by
 rw [aY,fC,W7,cut,if_pos rfl,jx];simp)
theorem Tg (a b c n:Int):bA (cs (spT a b c ++ ","++stI n))=false:=jC (by
 rw [aY,aY,fC,cB,Vx,W7,uW,jx,bY (bF n)];simp)
theorem rM:cs (" " : Str)=[32]:=by decide +kernel
theorem RM (a b c:Int):bA (cs (" "++spT a b c))=false:=qU (p:=32::nm a) (by
 rw [aY,rM,m9,W7,<-Xc,cQ (fun h=>by
  rcases Ur.mp h with h | h
  ·exact absurd h<|by decide
  ·exact bF a h)]
 exact UG) Gg
theorem Te (a b c:Int):bA (cs (spT a b c ++ " "))=false:=qU (p:=nm c++[32]) (by
 rw [aY,rM,m9,Vx,Xc,Vx,Xc,cQ (bF a),cQ (bF b),bY (fun h=>by
  rcases Wd.mp h with h | h
  ·exact bF c h
  ·exact absurd h (by decide))]
 simp) zaE
theorem qO {k:Int}:∀ (ns:List Int) (a:Int),k ∣ a->(∀ x∈ns,k ∣ x)->k ∣ ns.foldl gF a
 | [],_,h,_=>h
 | n::ns,a,h,hn=>qO ns _ (Int.dvd_coe_gcd (hn n UG) h) fun x hx=>hn x (Uu _ hx)
theorem yq {k:Int}{ns:List Int}(h:∀ x∈ns,k ∣ x):k ∣ gL ns:=qO ns 0 (Int.dvd_zero _) h
theorem RV:cs (",0," : Str)=[44,48,44]:=by decide +kernel
theorem Oo:cs (",1,-" : Str)=[44,49,44,45]:=by decide +kernel
theorem Pq:cs ("0," : Str)=[48,44]:=by decide +kernel
theorem Pk:cs (",0" : Str)=[44,48]:=by decide +kernel
theorem v48:pF [48]=0:=by decide
theorem Sh {n:Int}(h:2<=n):bA (cs (stI n ++ ",0,"++stI n))=false:=qw (by
 have e:j9 (cs (stI n ++ ",0,"++stI n))=[n,0,n]:=by
  unfold j9;rw [aY,aY,RV,cB,Vx];show (cut 44 (nm n++44::([48]++44::nm n))).map pF=_;rw [cQ (bF n),cQ (by decide),bY (bF n)];simp only [Uy,Vw,mj,v48]
 rw [e];intro hp;have h1:=hp.1;have:(n:Int) ∣ gL [n,0,n]:=yq fun x hx=>by
  simp only [Ur,Vn,or_false] at hx;rcases hx with rfl | rfl | rfl
  ·exact Int.dvd_refl _
  ·exact Int.dvd_zero _
  ·exact Int.dvd_refl _
 rw [h1] at this;have:=Int.le_of_dvd (by decide) this
 lia)
theorem Rt {n:Int}(h:2<=n):bA (cs (stI n ++ ",1,-"++stI n))=false:=qw (by
 have e:j9 (cs (stI n ++ ",1,-"++stI n))=[n,1,-n]:=by
  unfold j9;rw [aY,aY,Oo,cB,Vx];have en:nm n=dg n.natAbs:=by unfold nm;rw [if_neg (by lia)]
  have em:45::nm n=nm (-n):=by
   rw [en];unfold nm;rw [if_pos (by lia),Int.natAbs_neg]
  show (cut 44 (nm n++44::([49]++44::45::nm n))).map pF=_;rw [em,cQ (bF n),cQ (by decide),bY (bF _)];simp only [Uy,Vw,mj];rfl
 rw [e];intro hp;have h2:=hp.2;have:cA [n,1,-n] = -n:=by
  show eG [-n,1,n] = -n;unfold eG;rw [if_neg (by lia)]
 lia)
theorem Qk {n:Int}(h:2<=n):bA (cs ("0,"++stI n ++ ",0"))=false:=qw (by
 have e:j9 (cs ("0,"++stI n ++ ",0"))=[0,n,0]:=by
  unfold j9;rw [aY,aY,Pq,Pk,cB,Vx];show (cut 44 ([48]++44::(nm n++44::[48]))).map pF=_;rw [cQ (by decide),cQ (bF n),bY (by decide)];simp only [Uy,Vw,mj,v48]
 rw [e];intro hp;have h1:=hp.1;have:(n:Int) ∣ gL [0,n,0]:=yq fun x hx=>by
  simp only [Ur,Vn,or_false] at hx;rcases hx with rfl | rfl | rfl
  ·exact Int.dvd_zero _
  ·exact Int.dvd_refl _
  ·exact Int.dvd_zero _
 rw [h1] at this;have:=Int.le_of_dvd (by decide) this
 lia)
theorem R0:(["", ",", ",,", "0,0,0", "0,0,-1", "0,-1,0", "00,0,1", "-0,0,1", "+1,0,1", "1,0,01", "1, 0,1", "1;0;1", "1,0,1.0", "1,0,1/1", "a,0,1", "1,,1", "--1,0,1", "1-,0,1", "1,0,-1", "-,0,1"]:List Str).all (fun x=>!bA (cs x)&&decide (x.length<=900))=true:=by decide +kernel
theorem fX {a b:Str}{h:Gh}{Q:WK}(hz:a.length+b.length<=Ua)(k:Q (.str (a++b)) h):cL (.str a) (.str b) h Q:=⟨hz,k⟩
theorem sG {i:Int}{h:Gh}{Q:WK}(hz:i.natAbs.log2<1920)(k:Q (.str (stI i)) h):BJ [.int i] h Q:=⟨hz,k⟩
def ones:Str:=⟨List.foldl (fun x1 x2=>x1++x2) #[] (U4 (61:Int).toNat ("1" : Str).cps)⟩
theorem FW {h:Gh}{Q:WK}(k:Q (.str ones) h):z9 (.str "1") (.int 61) h Q:=⟨by decide,by decide,by decide +kernel,by decide +kernel,k⟩
theorem Oe:bA (cs (ones ++ ",0,1"))=false:=by decide +kernel
theorem jj {x:Str}(h:x.length<=900)(e:bA (cs x)=false):uy (.str x):=.inl ⟨x,rfl,h,e⟩
theorem cV {x:Str}(h:x∈(["", ",", ",,", "0,0,0", "0,0,-1", "0,-1,0", "00,0,1", "-0,0,1", "+1,0,1", "1,0,01", "1, 0,1", "1;0;1", "1,0,1.0", "1,0,1/1", "a,0,1", "1,,1", "--1,0,1", "1-,0,1", "1,0,-1", "-,0,1"]:List Str)):uy (.str x):=by
 have:=Vh.mp R0 x h
 rw [Uo,Vj,decide_eq_true_eq] at this;exact jj this.2 this.1
theorem HB {ws:List W}{j:Int}(h0:0<=j)(h1:j<(ws.length:Int)):∃ w,w∈ws/\DW ws j=Dn w:=by
 have hl:j.toNat<ws.length:=by lia
 refine ⟨ws[j.toNat],List.getElem_mem hl,?_⟩;have:=xM (Uk hl)
 rwa [show ((j.toNat:Nat):Int)=j by lia] at this
theorem dY {w:W}{ws:List W}(a:uy w)(b:∀ x∈ws,uy x):∀ x∈w::ws,uy x:=List.forall_mem_cons.mpr ⟨a,b⟩
theorem M9:∀ x∈([]:List W),uy x:=fun _ h=>by cases h
theorem Og {us ws:List W}(a:∀ x∈us,uy x)(b:∀ x∈ws,uy x):∀ x∈us++ws,uy x:=fun x h=>(Wd.mp h).elim (a x) (b x)
def OdX (c0:SX):Prop:=∀ {h:Gh} {n:Nat} {a b c:Int} {Q:WK} {E:Tq},a.natAbs<10^60->b.natAbs<10^60->c.natAbs<10^60->Ea h n->(∀ w h',uy w->Oth n h h'->Q w h')->c0 [.loc n,.str (spT a b c)] h Q E
theorem fZ {x:Nat}(h:x<=1000):x<=Ua:=Uc h (by decide)
theorem c20:(10:Int)^(20:Int).toNat=100000000000000000000:=by decide
theorem PB {dr:SX}(hdr:sS dr):OdX (pN dr):=by
 intro h n a b c Q E ha hb hc bag k;have ht:=xY ha hb hc;generalize hs:spT a b c=t at ht;unfold pN;rfl'
 refine qT ⟨by decide,by decide,by decide⟩ ?_;rfl'
 refine hdr bag (by rw [c20];decide) (by rw [c20];unfold Sm;decide +kernel) fun d h1 d0 d1 bag1 o1=>?_;rw [c20] at d1;rfl'
 have hm:(2+d).natAbs<10^60:=by
  have:(10:Nat)^60=1000000000000000000000000000000000000000000000000000000000000:=by decide
  lia
 have hm2:2<=2+d:=by lia
 refine sG (nM hm) ?_;have hl:=jK hm;generalize 2+d=m at hm hm2 hl;generalize hv:stI m=v at hl;have l1:("," : Str).length=1:=by decide +kernel
 have l2:(" " : Str).length=1:=by decide +kernel
 have l3:(",0," : Str).length=3:=by decide +kernel
 have l4:(",1,-" : Str).length=4:=by decide +kernel
 have l5:("0," : Str).length=2:=by decide +kernel
 have l6:(",0" : Str).length=2:=by decide +kernel
 have l7:(",0,1" : Str).length=4:=by decide +kernel
 have l8:ones.length=61:=by decide +kernel
 iterate 8
  rfl'
  refine fX (fZ (by simp only [Uh,l1,l2];lia)) ?_
 rfl'
 iterate 6
  rfl'
  refine fX (fZ (by simp only [Uh,l3,l4,l5,l6];lia)) ?_
 rfl'
 refine FW ?_;rfl'
 refine fX (fZ (by simp only [l7,l8];lia)) ?_;rfl'
 refine hdr (many:=36) bag1 (by decide) (by unfold Sm;decide) fun j h2 j0 j1 b2 o2=>?_;have q1:bA (cs v)=false:=hv ▸ Sy m;have q2:bA (cs (v ++ ","++v))=false:=hv ▸ SM m m;have q3:bA (cs (t ++ ","))=false:=hs ▸ R7 a b c;have q4:bA (cs (","++t))=false:=hs ▸ RK a b c;have q5:bA (cs (t ++ ","++v))=false:=hs ▸ hv ▸ Tg a b c m;have q6:bA (cs (" "++t))=false:=hs ▸ RM a b c;have q7:bA (cs (t ++ " "))=false:=hs ▸ Te a b c;have q8:bA (cs (v ++ ",0,"++v))=false:=hv ▸ Sh hm2;have q9:bA (cs (v ++ ",1,-"++v))=false:=hv ▸ Rt hm2;have q10:bA (cs ("0,"++v ++ ",0"))=false:=hv ▸ Qk hm2;have fin:∀ ws:List W,(∀ w∈ws,uy w)->ws.length=36->DK (.lst ws) (.int j) h2 Q:=fun ws hb hl=>by
  obtain ⟨w,hw,e⟩:=HB (ws:=ws) j0 (by rw [hl];exact j1);exact Gn (ws:=ws) rfl e<|k w h2 (hb w hw) ⟨o2.1.trans o1.1,fun m hm=>(o2.2 m hm).trans (o1.2 m hm)⟩
 refine fin _ ?_ rfl;refine Og (Og (Og ?_ ?_) ?_) ?_
 ·exact (dY (cV (T5 (by decide +kernel)))
   (dY (cV (T5 (by decide +kernel)))
   (dY (cV (T5 (by decide +kernel)))
   (dY (jj (by lia) q1)
   (dY (jj (by simp only [Uh,l1,l2,l3,l4,l5,l6,l7,l8];lia) (q2))
   (dY (jj (by simp only [Uh,l1,l2,l3,l4,l5,l6,l7,l8];lia) (q3))
   (dY (jj (by simp only [Uh,l1,l2,l3,l4,l5,l6,l7,l8];lia) (q4))
   (dY (jj (by simp only [Uh,l1,l2,l3,l4,l5,l6,l7,l8];lia) (q5))
   (dY (jj (by simp only [Uh,l1,l2,l3,l4,l5,l6,l7,l8];lia) (q6))
   (dY (jj (by simp only [Uh,l1,l2,l3,l4,l5,l6,l7,l8];lia) (q7))
   M9))))))))))
 ·exact (dY (jj (by simp only [Uh,l1,l2,l3,l4,l5,l6,l7,l8];lia) (q8))
   (dY (cV (T5 (by decide +kernel)))
   (dY (cV (T5 (by decide +kernel)))
   (dY (cV (T5 (by decide +kernel)))
   (dY (jj (by simp only [Uh,l1,l2,l3,l4,l5,l6,l7,l8];lia) (q9))
   (dY (jj (by simp only [Uh,l1,l2,l3,l4,l5,l6,l7,l8];lia) (q10))
   (dY (cV (T5 (by decide +kernel)))
   (dY (cV (T5 (by decide +kernel)))
   M9))))))))
 ·exact (dY (cV (T5 (by decide +kernel)))
   (dY (cV (T5 (by decide +kernel)))
   (dY (cV (T5 (by decide +kernel)))
   (dY (cV (T5 (by decide +kernel)))
   (dY (cV (T5 (by decide +kernel)))
   (dY (cV (T5 (by decide +kernel)))
   (dY (cV (T5 (by decide +kernel)))
   (dY (cV (T5 (by decide +kernel)))
   (dY (cV (T5 (by decide +kernel)))
   (dY (cV (T5 (by decide +kernel)))
   M9))))))))))
 ·exact (dY (jj (by simp only [Uh,l1,l2,l3,l4,l5,l6,l7,l8];lia) (Oe))
   (dY (cV (T5 (by decide +kernel)))
   (dY (cV (T5 (by decide +kernel)))
   (dY (.inr ⟨rfl,rfl⟩)
   (dY (.inr ⟨rfl,rfl⟩)
   (dY (.inr ⟨rfl,rfl⟩)
   (dY (.inr ⟨rfl,rfl⟩)
   (dY (.inr ⟨rfl,rfl⟩)
   M9))))))))
theorem Jl {n:Nat}{a b c:Int}{h:Gh}{Q:WK}(e:h.c n=Dn (.lst [.int a,.int b,.int c]))(k:Q (.bl (decide ((a,b,c)=((0,0,0):Tr)))) h):Di (.loc n) (.lst [.int 0,.int 0,.int 0]) h Q:=by
 have d:Bd h (.loc n)=Dn (.lst [.int a,.int b,.int c]):=by
  show (match h.c n with
   | some (.lst ws)=>Dn (W.lst ws)
   | _=>Go)=_
  rw [e]
 unfold Di;rw [d];show Q (.bl (Af (.lst [.int a,.int b,.int c]) (.lst [.int 0,.int 0,.int 0]))) h;rw [Qx,show decide (a=0/\b=0/\c=0)=decide ((a,b,c)=((0,0,0):Tr)) from decide_eq_decide.mpr (by simp)];exact k
theorem P0 {L:Nat}{t:Tr}:Lo L (tw t):=by
 show Lo L (.tup [.int t.1,.int t.2.1,.int t.2.2]);simp only [Lo,Dp,and_self]
theorem Ba {ga gb:Gh}{b:Nat}(e:gb.c b=ga.c b)(x:Ea ga b):Ea gb b:=let ⟨p,q,e1,r⟩:=x;⟨p,q,e.trans e1,r⟩
def Sx (x:Int):Prop:=x.natAbs<10^60
def Ec (u:Tr):Prop:=Sx u.1/\Sx u.2.1/\Sx u.2.2
theorem Fp {x:Int}(h:Sx x):Sm 200 x:=Nat.lt_trans h (by decide)
theorem Om {u:Tr}(h:Ec u):Em 200 u:=⟨Fp h.1,Fp h.2.1,Fp h.2.2⟩
theorem wg {k x:Int}(hk:k≠0)(h:Sx (x*k)):Sx x:=by
 rw [Int.mul_comm] at h;unfold Sx at h |-
 rw [Int.natAbs_mul] at h;have:1*x.natAbs<=k.natAbs*x.natAbs:=Nat.mul_le_mul_right _ (by lia)
 lia
theorem Lf {v u:Tr}(p:Par v u)(s:Ec v):Ec u:=by
 obtain ⟨k,hk,rfl⟩:=p;exact ⟨wg hk s.1,wg hk s.2.1,wg hk s.2.2⟩
def LsX (c0:SX):Prop:=∀ {h:Gh} {a:Int} {Q:WK} {E:Tq},(∀ v,Pl v->Ec v->Q (tw v) h)->c0 [.int a] h Q E
theorem rN {cb cd cp:SX}(hd:sS cd)(hp:LpH cp){h g:Gh}{L r:Nat}{u:Tr}{Q:WK}{E:Tq}{a0 a2:Option W}{N0 B0 C0:Sw->Gh->Prop}(k:∀ v,Pl v->Ec v->Q (tw v) h)
  (bag:Ea g L) (e:g.c r=Dn (.lst ((tl u).map .int))) (rL:r≠L) (hL:h.nx<=L) (hr:h.nx<=r) (su:Ec u) (o:∀ m,m<h.nx->g.c m=h.c m) :
  iG cb cd cp E ⟨N0,fun w h'=>iB true h w h' Q,B0,C0⟩ [a0,Dn (.loc L),a2,Dn (.loc r)] g:=by
 obtain ⟨a,b,c⟩:=u;have t7:∀ {g2:Gh} {w:Tr},g2.c r=Dn (.lst ((tl w).map .int))->w≠(0,0,0)->Ec w->(∀ m,m<h.nx->g2.c m=h.c m)->eX cb cd cp E ⟨N0,fun w h'=>iB true h w h' Q,B0,C0⟩ [a0,Dn (.loc L),a2,Dn (.loc r)] g2:=by
  intro g2 w e2 w0 sw o2;unfold eX;rfl'
  refine hp (v:=w) (.inr<|.inr ⟨r,rfl,e2⟩) w0 (Om sw) (by decide) fun v pv par=>?_;exact ⟨fun m c hm ec=>(o2 m hm).trans ec,.inl ⟨P0,k v pv<|Lf par sw⟩⟩
 unfold iG;rfl'
 refine Jl e ?_;rfl'
 refine J9 (fun z=>?_) fun z=>?_
 ·rfl'
  refine hd bag (by decide) (by unfold Sm;decide) fun j g2 j0 j1 bag2 x2=>?_;simp only [Prod.mk.injEq] at z;obtain ⟨rfl,rfl,rfl⟩:=z;have e2:=(x2.2 r rL).trans e;have o2:∀ m,m<h.nx->g2.c m=h.c m:=fun m hm=>(x2.2 m (Ud (TQ hm hL))).trans (o m hm)
  have o0:Sx 0:=(by unfold Sx;decide)
  have o1:Sx 1:=(by unfold Sx;decide)
  have fin:∀ {w:Tr} {g3:Gh},g3.c r=Dn (.lst ((tl w).map .int))->w≠(0,0,0)->Ec w->(∀ m,m≠r->g3.c m=g2.c m)->eX cb cd cp E ⟨N0,fun w h'=>iB true h w h' Q,B0,C0⟩ [a0,Dn (.loc L),a2,Dn (.loc r)] g3:=fun e3 w0 sw o3=>t7 e3 w0 sw fun m hm=>(o3 m (Ud (TQ hm hr))).trans (o2 m hm)
  rcases (show j=0\/j=1\/j=2 by lia) with rfl | rfl | rfl
  ·refine mG e2 (j:=0) rfl rfl fun g3 e3 o3 _=>?_;exact fin (w:=(1,0,0)) e3 (by decide) ⟨o1,o0,o0⟩ o3
  ·refine mG e2 (j:=1) rfl rfl fun g3 e3 o3 _=>?_;exact fin (w:=(0,1,0)) e3 (by decide) ⟨o0,o1,o0⟩ o3
  ·refine mG e2 (j:=2) rfl rfl fun g3 e3 o3 _=>?_;exact fin (w:=(0,0,1)) e3 (by decide) ⟨o0,o0,o1⟩ o3
 ·rfl'
  exact t7 e z su o
theorem QJ:(10:Int)^60=1000000000000000000000000000000000000000000000000000000000000:=by decide
theorem QT:(10:Nat)^60=1000000000000000000000000000000000000000000000000000000000000:=by decide
theorem ix3 {r:Int}{h:Gh}{Q:WK}(h0:0<=r)(h1:r<3)(k:∀ j:Int,0<j->j<2*10^60->Q (.int j) h):DK (.lst [.int 17,.int 17,.int (2*10^60 - 1)]) (.int r) h Q:=by
 rcases (show r=0\/r=1\/r=2 by lia) with rfl | rfl | rfl
 ·exact k 17 (by decide)<|by decide
 ·exact k 17 (by decide)<|by decide
 ·exact k (2*10^60 - 1) (by decide)<|by decide
theorem GX {cb cd cp:SX}(hb:Dz cb)(hd:sS cd)(hp:LpH cp):LsX (mQ cb cd cp):=by
 intro h a Q E k;unfold mQ;rfl'
 refine hb fun h1 bag1 nx1 o1=>?_;have o1':∀ m,m<h.nx->h1.c m=h.c m:=fun m hm=>o1 m (Ud hm)
 rfl'
 refine qT ⟨by decide,by decide,by decide⟩ ?_;refine (show Gw (.int 2) (.int<|10^60) h1 _ from ⟨.of (m:=64) (n:=210) (.lit rfl) (by unfold Sm;decide) (by decide)<|by decide,?_⟩);rfl'
 refine hd bag1 (by decide) (by unfold Sm;decide) fun w g w0 w1 bag x2=>?_;have o:∀ m,m<h.nx->g.c m=h.c m:=fun m hm=>(x2.2 m (Ud hm)).trans (o1' m hm)
 have Ln:h.nx<g.nx:=by rw [x2.1,nx1];exact Nat.lt_succ_self _
 obtain ⟨L,hLe⟩:∃ L,h.nx=L:=⟨_,rfl⟩
 have hL:h.nx<=L:=Nat.le_of_eq hLe;rw [hLe] at bag Ln x2 |-
 refine ix3 w0 w1 fun s s0 s1=>?_;have ss:Sm 210 s:=by
  have h210:(10:Nat)^60*2<2^210:=by decide
  unfold Sm;rw [QJ] at s1;rw [QT] at h210;lia
 refine cj rfl<|jX ?_
 refine bC<|eE<|Cm ?_
 refine K1 (j:=3) (fun R=>rfl) (by decide) (by decide) (by rw [X5];decide) (fun i acc g2=>∃ ns:List Int,acc=ns.map .int/\ns.length=i/\(∀ x∈ns,Sx x)/\Ea g2 L/\g2.nx=g.nx/\∀ m,m≠L->g2.c m=g.c m) ?_ ?_ ⟨[],rfl,rfl,fun _ hx=>absurd hx Vn,bag,rfl,fun _ _=>rfl⟩
 ·rintro i acc g2 N hN hi ⟨ns,rfl,hlen,hsm,bag2,nx2,o2⟩;refine ⟨[.int (i:Int)],rfl,?_⟩;rfl'
  refine hd bag2 s0 ss fun x g3 x0 x1 bag3 x3=>?_;rfl'
  refine Ip ⟨by decide,64,by decide,.lit rfl⟩ ?_;rfl'
  refine hN _ _ ⟨ns++[x - s.fdiv 2],by rw [List.map_append];rfl,by rw [Vb,hlen];rfl,fun y hy=>?_,bag3,x3.1.trans nx2,fun m hm=>(x3.2 m hm).trans (o2 m hm)⟩;rcases Wd.mp hy with hy | hy
  ·exact hsm y hy
  ·rw [Va.mp hy];have f2:s.fdiv 2=s / 2:=Int.fdiv_eq_ediv_of_nonneg _ (by decide);unfold Sx;rw [f2,QT];rw [QJ] at s1;lia
 ·rintro acc g2 ⟨ns,rfl,hlen,hsm,bag2,nx2,o2⟩;obtain ⟨x,y,z,rfl⟩:∃ x y z,ns=[x,y,z]:=by
   match ns,hlen with
   | [x,y,z],_=>exact ⟨x,y,z,rfl⟩
  refine JK fun g3 c3 o3 n3=>?_;have bag3:Ea g3 L:=Ba (o3 L (Ud (by rw [nx2];exact Ln))) bag2;have rL:g2.nx≠L:=W9 (by rw [nx2];exact Ln);have hr:h.nx<=g2.nx:=by rw [nx2];lia
  have o3':∀ m,m<h.nx->g3.c m=h.c m:=fun m hm=>by rw [o3 m (Ud (TQ hm hr)),o2 m (Ud (TQ hm hL)),o m hm]
  generalize g2.nx=r at *;have su:Ec (x,y,z):=⟨hsm x (by simp),hsm y (by simp),hsm z (by simp)⟩
  rfl'
  refine hd bag3 (by decide) (by unfold Sm;decide) fun j g4 j0 j1 bag4 x4=>?_;have c4:=(x4.2 r rL).trans c3;have o4:∀ m,m<h.nx->g4.c m=h.c m:=fun m hm=>(x4.2 m (Ud (TQ hm hL))).trans (o3' m hm)
  rfl'
  refine J9 (fun _=>?_)<|fun _=>?_
  ·rfl'
   refine mG c4 (j:=2) rfl rfl fun g5 e5 o5 n5=>?_;exact rN (u:=(x,y,0)) hd hp k (Ba (o5 L<|VR rL) bag4) e5 rL hL hr ⟨su.1,su.2.1,show Sx 0 from (by unfold Sx;decide)⟩ fun m hm=>(o5 m<|Ud<|TQ hm hr).trans (o4 m hm)
  ·rfl'
   exact rN (u:=(x,y,z)) hd hp k bag4 c4 rL hL hr su o4
theorem yL {a b:List W}{h:Gh}{Q:WK}(hz:a.length+b.length<=1000)(x:Q (.lst (a++b)) h):gM (.lst a) (.lst b) h Q:=iz.mk (Uc hz (by decide:1000<=Ua)) x
theorem yF {ws:List W}{lo hi:Option Int}{w:W}(h:w∈rF ws lo hi):w∈ws:=by
 unfold rF at h;exact List.mem_of_mem_drop<|List.mem_of_mem_take h
theorem zan {ws:List W}{lo hi:Option Int}:(rF ws lo hi).length<=ws.length:=by
 unfold rF;rw [List.length_take,List.length_drop];lia
theorem JN {ws:List W}{lo hi:Option Int}{h:Gh}{Q:WK}(x:Q (.lst (rF ws lo hi)) h):Qh (.kls ws) lo hi h Q:=x
theorem KQ {x y z:Int}(h:Pl (x,y,z)):Df [x,y,z]:=by
 first | exact h | exact pl_tl.mp h | exact (plL_iff).mp h
theorem Qc {ss ca bg sp od rf rd:SX}(hss:Iz ss)(hca:uO ca)(hbg:Dz bg)(hsp:LsX sp)(hod:OdX od)(hrf:RfX rf)(hrd:LrX rd)(ns:List Int)(hn:ns.length<=63) :
  Eh ss ca bg sp od rf rd [.kls (ns.map W.int)] g0 (fun w _=>w=.bl true) EF:=by
 unfold Eh;rfl'
 refine hca (by decide) ?_;rfl'
 refine hsp fun v pv bv=>?_;obtain ⟨x,y,z⟩:=v;obtain ⟨hx,hy,hz⟩:=bv;have hx:x.natAbs<10^60:=hx;have hy:y.natAbs<10^60:=hy;have hz:z.natAbs<10^60:=hz;have l1:("," : Str).length=1:=by decide +kernel
 have lx:=jK hx;have ly:=jK hy;have lz:=jK hz;rfl'
 refine sG (nM hx) ?_;rfl'
 refine fX (fZ (by simp only [l1];lia)) ?_;rfl'
 refine sG (nM hy) ?_;rfl'
 refine fX (fZ (by simp only [Uh,l1];lia)) ?_;rfl'
 refine fX (fZ (by simp only [Uh,l1];lia)) ?_;rfl'
 refine sG (nM hz) ?_;refine fX (fZ (by simp only [Uh,l1];lia)) ?_;have pl:Df [x,y,z]:=KQ pv;refine cj (Z':=[Dn<|.kls<|ns.map W.int,Dn<|.tup [.int x,.int y,.int z],Dn<|.str<|spT x y z,Go,Go]) rfl<|jX ?_
 refine bC<|eE<|cT<|aN<|aU (w:=.tup [.int x,.int y,.int z]) rfl<|bD ?_
 refine hss hx hy hz ?_;refine cj (Z':=[Dn<|.kls<|ns.map W.int,Dn<|.tup [.int x,.int y,.int z],Dn<|.str<|spT x y z,Dn<|.str<|spT x y z,Go]) rfl<|jX ?_
 refine bC<|fH<|qD<|jg<|fK ?_
 refine j4<|aN<|aU (w:=.str (spT x y z)) rfl<|aN<|pQ<|bD ⟨rfl,?_⟩
 refine pG rfl ?_;refine qD<|dF<|jO<|aU (w:=.str (spT x y z)) rfl<|aU (w:=.str (spT x y z)) rfl<|Ld<|M6<|pG (decide_eq_false<|fun e=>e rfl) ?_
 refine jg<|fK<|cT<|aN<|aU (w:=.str (spT x y z)) rfl<|aN<|aU (w:=.tup [.int x,.int y,.int z]) rfl<|bD ?_
 refine hrd hx hy hz pl ?_;refine Mz (b:=true) rfl<|pG rfl ?_
 refine dO<|jX ?_
 unfold vR;refine bC<|Cu<|Ib ?_
 refine jO<|KN<|aU (w:=.kls (ns.map W.int)) rfl<|p7<|pQ<|Ol<|p7<|pQ<|Ol ?_
 refine JN ?_;refine Cr<|aN<|pQ<|bD<|oZ rfl<|yL ?_ ?_
 ·have:=zan (ws:=ns.map W.int) (lo:=Dn 1) (hi:=Dn 13)
  rw [Ub] at this;show _+1<=1000;lia
 refine Qo rfl<|Bs ?_
 refine vK (fun _ Z _=>∃ o,Z = [Dn<|.kls<|ns.map W.int,Dn<|.tup [.int x,.int y,.int z],Dn<|.str<|spT x y z,Dn<|.str<|spT x y z,o]) ?_ ?_ ⟨Go,rfl⟩
 ·rintro i w Z h N hN e ⟨o,rfl⟩;have hw:∃ a,w=.int a:=by
   rcases Wd.mp (VP e) with hm | hm
   ·obtain ⟨a,_,e'⟩:=Xr.mp (yF hm);exact ⟨a,e'.symm⟩
   ·exact ⟨0,Va.mp hm⟩
  obtain ⟨a,rfl⟩:=hw;refine cj (Z':=[Dn<|.kls<|ns.map W.int,Dn<|.tup [.int x,.int y,.int z],Dn<|.str<|spT x y z,Dn<|.str<|spT x y z,Dn<|.int a]) rfl ?_;refine fH<|qD<|jg<|fK<|cT<|aN<|cT<|aN<|cT<|aN<|aU (w:=.int a) rfl<|bD ?_
  refine hbg fun h1 bag _ _=>?_;refine aN<|aU (w:=.str (spT x y z)) rfl<|bD ?_
  refine hod hx hy hz bag fun w h2 bw _=>?_;refine bD<|hrf bw ?_
  refine Mz (b:=true) rfl<|pG rfl ?_
  refine jg<|fK<|cT<|aN<|aU (w:=.str (spT x y z)) rfl<|aN<|aU (w:=.tup [.int x,.int y,.int z]) rfl<|bD ?_
  refine hrd hx hy hz pl ?_;refine Mz (b:=true) rfl<|pG rfl ?_
  exact dO<|hN _ _ ⟨_,rfl⟩
 ·rintro Z h ⟨o,rfl⟩;refine jX ?_;unfold uG;exact fM<|pQ rfl
theorem Jr (ns:List Int)(hn:ns.length<=63):yJ [.kls (ns.map W.int)] g0 (fun w _=>w=.bl true) EF:=by
 have rx:Ar aZ:=Gv (sZ zaK (vD Qu) zaT) KR;have rn:Ez aZ:=GK;exact Qc (zaV zaW) GZ Ce (GX Ce Bw ud) (PB Bw) (vQ rx rn) (GQ rx zaq) ns hn
end My
namespace PySem.W.Fast
def tw6025394142526683452:=()
def tw16963009950184676754:=()
def tw10135218035448478938:=()
def tw14225125810178412481:=()
def tw109382490995991708:=()
def tw834713805948321079:=()
def tw16350832321867013611:=()
def tw5314838632397256633:=()
def tw1082120196168256902:=()
def tw8818013891683224502:=()
def tw10122882427031830865:=()
def tw2958975478405980885:=()
def tw10716079108005421625:=()
def tw14127173087275641444:=()
def tw4068169762397879584:=()
def tw7151023133224831511:=()
def tw16782123239128534766:=()
def tw13812619829870045039:=()
def tw3520540439436199944:=()
def tw18023838837558329428:=()
def tw2980271187833349027:=()
def tw5834410265963504883:=()
def tw12205477822807061821:=()
def tw15840204904136610561:=()
def tw7728924150995144151:=()
def tw14454048955797625369:=()
def tw10132475770311308886:=()
def tw13616233889257719772:=()
def tw16891246130124775334:=()
def tw1826821326482647934:=()
def tw5085213928543035471:=()
def tw8248716808966407096:=()
def tw7551257440409893837:=()
def tw947271835229508002:=()
def tw14113076053426059180:=()
def tw2523599681855233067:=()
def tw15203564852082937769:=()
def tw2914878413648840119:=()
def tw4372130713711444279:=()
def tw10103913516436707758:=()
def tw7009332415816801083:=()
def tw18264417933557562808:=()
def tw3189467655264361765:=()
def tw5151533606093165778:=()
def tw17996293251784385401:=()
def tw4368325353736126508:=()
def tw7820058105537011377:=()
def tw10753964452451172867:=()
def tw5322695504799789023:=()
def tw15111738034708361972:=()
def tw12687093467751482398:=()
def tw11927305489924349866:=()
def tw8302655488417333652:=()
def tw11090688266683428224:=()
def tw5329868885420819517:=()
def tw4476704281107395632:=()
def tw6581175078346675137:=()
end PySem.W.Fast
open PySem PySem.W PyProof.Rows
theorem PySem.Challenge.cw_easelroom_k90_spots_written_and_read_holds : PySem.Challenge.rw_easelroom_k90_spots_written_and_read.Holds := by
 w_on;o_law;k_head;(case hw=>w_witness2)
 k_fill
 refine My.walk (l:=PySem.Challenge.rw_easelroom_k90_spots_written_and_read) rfl rfl (fun w h Y=>PySem.W.kIn_of Y) ?F
 case F=>
  intro w mg fa h KX G hmg;refine' My.all_mk My.Jr KX G hmg ?a0 ?l0 ?c0 ?k0 ?a1 ?l1 ?c1 ?k1 ?a2 ?l2 ?c2 ?k2 ?a3 ?l3 ?c3 ?k3 ?a4 ?l4 ?c4 ?k4 ?a5 ?l5 ?c5 ?k5 ?a6 ?l6 ?c6 ?k6 ?a7 ?l7 ?c7 ?k7 ?a8 ?l8 ?c8 ?k8 ?a9 ?l9 ?c9 ?k9 ?a10 ?l10 ?c10 ?k10 ?a11 ?l11 ?c11 ?k11 ?a12 ?l12 ?c12 ?k12 ?a13 ?l13 ?c13 ?k13 ?a14 ?l14 ?c14 ?k14 ?a15 ?l15 ?c15 ?k15 ?a16 ?l16 ?c16 ?k16 ?a17 ?l17 ?c17 ?k17 ?a18 ?l18 ?c18 ?k18 ?z_ValueError ?z_abs ?z_all ?z_bool ?z_int ?z_isinstance ?z_len ?z_range ?z_reversed ?z_str ?z_tuple ?gk_FIGURES ?gk_MOST_FIGURES ?gx_EaselError ?xd_EaselError ?gx_Nothing ?xd_Nothing ?gx_NoText ?xd_NoText ?xc_NoText ?xq_NoText ?gx_NoName ?xd_NoName ?gx_Short ?xd_Short
  (case a0 | l0 | c0 | k0 | a1 | l1 | c1 | k1 | a2 | l2 | c2 | k2 | a3 | l3 | c3 | k3 | a4 | l4 | c4 | k4 | a5 | l5 | c5 | k5 | a6 | l6 | c6 | k6 | a7 | l7 | c7 | k7 | a8 | l8 | c8 | k8 | a9 | l9 | c9 | k9=>k_is)
  (case a10 | l10 | c10 | k10 | a11 | l11 | c11 | k11 | a12 | l12 | c12 | k12 | a13 | l13 | c13 | k13 | a14 | l14 | c14 | k14 | a15 | l15 | c15 | k15 | a16 | l16 | c16 | k16 | a17 | l17 | c17 | k17 | a18 | l18 | c18 | k18 | z_ValueError | z_abs | z_all | z_bool=>k_is)
  (case z_int | z_isinstance | z_len | z_range | z_reversed | z_str | z_tuple | gk_FIGURES | gk_MOST_FIGURES | gx_EaselError=>k_is)
  (case xd_EaselError=>kernel_rfl)
  (case gx_Nothing=>k_is)
  (case xd_Nothing=>kernel_rfl)
  (case gx_NoText=>k_is)
  (case xd_NoText | xc_NoText=>kernel_rfl)
  (case xq_NoText=>k_exc)
  (case gx_NoName=>k_is)
  (case xd_NoName=>kernel_rfl)
  (case gx_Short=>k_is)
  (case xd_Short=>kernel_rfl)
