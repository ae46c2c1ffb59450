import PyProof.Rows.All
import Wide.All
import OpenK.AllK
import Wide.FinOn
import Lean
import PyProof.EqAt
import PyProof.EqKinds
import PyProof.TupleCall
import PySem.Challenge.RW_easelroom_k26_whole_of_one_floor
set_option Elab.async false
set_option linter.all false
set_option maxRecDepth 100000
set_option maxHeartbeats 0
local macro_rules | `(tactic| lia) => `(tactic| first | lia (splits := 9) | omega)
open Option renaming some→Dn,none→FN
open PySem.W renaming Frag→BZ,mg_of→IV,mg_none_of→QG,nsIn→Ot,keepIn→Qt,findIn→T9,fnOf→U3
open PySem renaming wpAny_bind→Bl,Value→FX,Shared→AP,Spec→aeE,mainGlobals→Ck,wpAny_pure→HY,FuncData→DR,starEach→HI,Program→Dr,sizeLine→Ig,Around→Dp,NameKind→LQ,wpAny→Bs,Builtin→Qu,boot_len→Mx,World→Ci,model→Cj,wpAny_field→Lw,wpAny_newObj_type→Pn,cellsFrom→Kh,wpAny_callSpecial?_slot→Tc,mem_of_lookup→S8,assignEach→MH,PassesOwn→Vm,compareOp→M8,wpAny_call_entry→S5,wpAny_holding→Qc,wpAny_mono→Oi,wpAny_Call_Name_kw→U6,binaryOp→N7,backTo→Kp,wpAny_seqItems→Tp,wpAny_setField_rec→Us,wpAny_passesOwn→UL,builtinLookup_eq_fast→V6,bootBuiltins→TJ,foldedSetIterable→Uq,attributeBase→Tn,SetTable→Vf,wpAny_of_eq→T7,wpAny_attempt→U0,wpAny_pyIter_list→Ux,isSubtype_type→Ub,Paired→Tw,behindInMarks→UW,typeLookup_type→Uu,sliceBounds→Tv,rawInt→O4,Keyword→Ph,cLine→Lp,IsPair→OD,wpAny_setField→V3,firstArgMember→V2,wpAny_rule→U5,keywordEach→Uc,pyNext→Oz
open PySem.Heap renaming get?_push_of_some→J6,lt_size→Il,get?_push_size→Lf,size_push→Qe,SameBut→UG,get?_update_self→VH,ExtBut→Ue
open List renaming getElem?_eq_getElem→KY,length_map→Iu,size_toArray→Jr,mem_cons→K9,getD_eq_getElem?_getD→Oc,getElem?_eq_some_iff→Ox,getElem?_map→ML,lookup_cons→MK,mem_cons_of_mem→Oq,mem_singleton→Oa,not_mem_nil→NT,mem_cons_self→Oo,length_append→Oj,all_eq_true→O8,mem_of_getElem?→Pk,take_succ→Mw,getElem?_append_right→TX,take_length→Ov,mem_append_right→Qj,map_cons→Nh,getElem?_append_left→Tt,mem_filter→QF,mem_range→QD,mem_append→Qi,length_cons→S6,range→O9,replicate→Qg,mem_map→Pj,findSome?_cons→U9,mem_iff_getElem→Uk,map_append→Tg,zip_cons_cons→Uj,length_range'→Uh,getElem?_eq_none→VJ,findSome?_eq_none_iff→Vg,nodup_cons→Um,getElem?_replicate→Vb,any_cons→U4,mem_flatMap→V0,length_take→Uz,getElem_mem→Uy,all_cons→Ua,append_nil→Uv
open Int renaming mul_ne_zero→J5,mul_eq_zero→O5,mul_comm→Qa,eq_of_mul_eq_mul_left→V4,mul_zero→TK,gcd→NQ,zero_mul→Tz
open Option.some renaming inj→Ja
open Nat renaming lt_of_lt_of_le→Kl,le_refl→Ij,le_trans→Jp,ne_of_lt→KQ,lt_irrefl→P0,lt_of_le_of_lt→Tj,ne_of_gt→Qs,beq→Mj,lt_or_gt_of_ne→Ut,eq_of_beq_eq_true→V8,zero_le→TF,ble→QB,le_succ→Ud
open Bool renaming false_ne_true→Nb,and_eq_true→O7,false_eq_true→Ug,not_eq_true→Uo
open PySem.PassesOwn renaming never→Ml
open Prod renaming ext→JT
open PySem.Builtin.SmallTypes renaming nextOf→Qx,ownedTupleIsFree→Vl
open PySem.SeqAt renaming EqAt→TY,ne_of_list_tuple→Va
open PyProof.Rows renaming slot_tuple_getitem→Tq,callWith_type1→V5,SortKind→T6,kindOf→N5,Keyed→Ls,SortSt→Od,AllBare→Qq
open Decidable renaming not_not→Pq,byContradiction→Vh
open Classical renaming propDecidable→Ul
open PySem.F renaming slot_tuple_iterator_next→Ve,slot_zip_next→VP
open PySem.Obj renaming data_mapFields→U7,isFreed_of_fields→VN
open Prod.mk renaming injEq→T8
open PySem.Builtin.Slice renaming slicePlaces→Vd
open PySem.Heap.SameBut renaming update→VF
open PySem.Builtin.Tuple renaming tupleExact→Vj
open PySem.Str renaming ofString→TQ
open False renaming elim→Qd
open Ne renaming symm→N8
open PySem.SetTable renaming bits→UJ
namespace L2
open PySem PySem.Spec PyProof.Rows
abbrev Key:=Sum Int Str
def Ye:Key->FX->Bool
 | .inl k,v=>Value.isInt k v
 | .inr x,v=>Value.isStrOf x v
def aeo (w:Ci):Key->Int
 | .inl k=>hashInt k
 | .inr x=>hashStr w x
theorem cM:∀ {k:Key} {v:FX},Ye k v=true->(∃ i t,k=Sum.inl i/\v=Value.int i t)\/(∃ x t,k=Sum.inr x/\v=Value.str x t)
 | .inl i,v,h=>by
  obtain ⟨t,e⟩:=Value.isInt_shape (k:=i) (v:=v) h
  exact .inl ⟨i,t,rfl,e⟩
 | .inr x,v,h=>by
  obtain ⟨t,e⟩:=Value.isStrOf_shape (x:=x) (v:=v) h
  exact .inr ⟨x,t,rfl,e⟩
theorem Zo (a b:Int):decide ((Sum.inl a:Key)=Sum.inl b)=(a==b):=by
 by_cases e:a=b
 ·subst e;simp
 ·have h:¬ (Sum.inl a:Key)=Sum.inl b:=fun q=>e (Sum.inl.inj q)
  rw [decide_eq_false h]
  exact (beq_eq_false_iff_ne.mpr e).symm
theorem Zd (a b:Str):decide ((Sum.inr a:Key)=Sum.inr b)=decide (a=b):=by
 by_cases e:a=b
 ·subst e;simp
 ·have h:¬ (Sum.inr a:Key)=Sum.inr b:=fun q=>e (Sum.inr.inj q)
  rw [decide_eq_false h,decide_eq_false e]
theorem Z6 (a:Int)(b:Str):decide ((Sum.inl a:Key)=Sum.inr b)=false:=decide_eq_false (fun q=>nomatch q)
theorem Zr (a:Str)(b:Int):decide ((Sum.inr a:Key)=Sum.inl b)=false:=decide_eq_false (fun q=>nomatch q)
def Et (prog:Dr)(w:Ci):PySem.KeyKind prog w Key where
 is:=Ye
 hash:=aeo w
 inj:=fun v a b ha hb=>by
  rcases cM ha with ⟨i,t,rfl,rfl⟩ | ⟨x,t,rfl,rfl⟩
  ·rcases cM hb with ⟨j,u,rfl,e⟩ | ⟨y,u,rfl,e⟩
   ·injection e with e1 _;rw [e1]
   ·exact nomatch e
  ·rcases cM hb with ⟨j,u,rfl,e⟩ | ⟨y,u,rfl,e⟩
   ·exact nomatch e
   ·injection e with e1 _;rw [e1]
 byValue:=fun k v h=>by
  rcases cM h with ⟨i,t,rfl,rfl⟩ | ⟨x,t,rfl,rfl⟩ <;> rfl
 pyHash:=fun hv h=>by
  rcases cM hv with ⟨i,t,rfl,rfl⟩ | ⟨x,t,rfl,rfl⟩
  ·exact wpAny_pyHash_int h
  ·exact wpAny_pyHash_str h
 eqBool:=fun hu hv h=>by
  rcases cM hu with ⟨i,t,rfl,rfl⟩ | ⟨x,t,rfl,rfl⟩
  ·rcases cM hv with ⟨j,u,rfl,rfl⟩ | ⟨y,u,rfl,rfl⟩
   ·rw [Zo] at h;exact wpAny_eqBool_int h
   ·rw [Z6] at h;exact SeqAt.EqAt.int_str i t y u _ _ _ _ h
  ·rcases cM hv with ⟨j,u,rfl,rfl⟩ | ⟨y,u,rfl,rfl⟩
   ·rw [Zr] at h;exact SeqAt.EqAt.str_int x t j u _ _ _ _ h
   ·rw [Zd] at h;exact wpAny_eqBool_str h
 «strs»:=fun k x t v h=>by
  rcases cM h with ⟨i,u,rfl,e⟩ | ⟨y,u,rfl,e⟩
  ·exact nomatch e
  ·injection e with e1 _
   subst e1
   cases v <;> rfl
inductive V where
 | non | bl (b:Bool) | int (i:Int) | str (x:Str) | byt (b:Array UInt8) | flt (b:UInt64) | ref (a:Addr) | ty (n:String)
 deriving DecidableEq
def RelV:V->FX->Prop
 | .non,u=>u=Value.none
 | .bl b,u=>u=Value.bool b
 | .int i,u=>∃ t,u=Value.int i t
 | .str x,u=>∃ t,u=Value.str x t
 | .byt b,u=>∃ t,u=Value.bytes b t
 | .flt b,u=>∃ t,u=Value.float b t
 | .ref a,u=>u=Value.ref a
 | .ty n,u=>u=Value.type n
abbrev Bm:List V->List FX->Prop:=Tw RelV
theorem Bm.length {xs:List V}{us:List FX}(r:Bm xs us):xs.length=us.length:=Paired.length r
theorem Bm.get:∀ {xs:List V} {us:List FX} {i:Nat} {x:V},Bm xs us->xs[i]?=Dn x->∃ u,us[i]?=Dn u/\RelV x u
 | _,_,_,_,.nil,e=>by simp at e
 | _,_,0,_,.cons r _,e=>by simp at e;subst e;exact ⟨_,rfl,r⟩
 | _,_,i+1,x,.cons _ t,e=>by
  obtain ⟨u,h1,h2⟩:=Bm.get (i:=i) (x:=x) t (by simpa using e)
  exact ⟨u,by simpa using h1,h2⟩
theorem Bm.set {x:V}{u:FX}(r:RelV x u):∀ {xs:List V} {us:List FX} (i:Nat),Bm xs us->Bm (xs.set i x) (us.set i u)
 | _,_,_,.nil=>.nil
 | _,_,0,.cons _ t=>.cons r t
 | _,_,i+1,.cons q t=>.cons q (Bm.set r i t)
theorem Bm.append:∀ {xs ys:List V} {us ws:List FX},Bm xs us->Bm ys ws->Bm (xs++ys) (us++ws)
 | _,_,_,_,.nil,s=>s
 | _,_,_,_,.cons r t,s=>.cons r (Bm.append t s)
theorem Bm.take:∀ {xs:List V} {us:List FX} (n:Nat),Bm xs us->Bm (xs.take n) (us.take n)
 | _,_,0,_=>.nil
 | _,_,_+1,.nil=>.nil
 | _,_,n+1,.cons r t=>.cons r (Bm.take n t)
theorem Bm.drop:∀ {xs:List V} {us:List FX} (n:Nat),Bm xs us->Bm (xs.drop n) (us.drop n)
 | _,_,0,r=>r
 | _,_,_+1,.nil=>.nil
 | _,_,n+1,.cons _ t=>Bm.drop n t
def adb:Option V->Option FX->Prop
 | some v,Dn u=>RelV v u
 | none,FN=>True
 | _,_=>False
def KV {κ : Type}:List (κ×V)->List (κ×FX)->Prop:=Tw fun (p:κ×V) (q:κ×FX)=>p.1=q.1/\RelV p.2 q.2
def kV:Key->V
 | .inl i=>.int i
 | .inr x=>.str x
inductive HO where
 | lst (xs:List V)
 | tup (xs:List V)
 | dK (kvs:List (Key×V)) | dT (kvs:List (List Key×V))
 | set (S:Int->Bool) (n:Nat)
 | ins (C dx:Addr) (fs:List (Str×V))
 | own (x:Addr)
 | xd (fs:List (Str×V))
 | met (f x:Addr)
 | rng (lo hi:Int)
 | frz (o:Obj) (u:HO)
 | tbl (ps:Array FX)
 | ext (φ : Heap->Prop)
abbrev Hp:=Addr->Option HO
def IW (H:Hp)(a:Addr)(o:HO):Hp:=fun b=>if b=a then Dn o else H b
theorem cR {H:Hp}{a:Addr}{o:HO}:IW H a o a=Dn o:=by unfold IW;rw [if_pos rfl]
theorem aV {H:Hp}{a b:Addr}{o:HO}(h:b≠a):IW H a o b=H b:=by unfold IW;rw [if_neg h]
theorem bf {H:Hp}{a b:Addr}{o:HO}(h:H a=Dn o)(h':H b=FN):a≠b:=by
 intro e;subst e;rw [h] at h';cases h'
section
variable (P:Dr)(w:Ci)
def Oh (h:Heap)(a:Addr)(items:Array FX):Prop:=∃ o,h.get? a=Dn o/\o.cls=.type "tuple"/\(∃ n,o.data=.seq items n)/\o.dict=FN
theorem Oh.tup {h:Heap}{a:Addr}{items:Array FX}(x:Oh h a items):IsTup h a items:=let ⟨o,ho,hc,hd,_⟩:=x;⟨o,ho,hc,hd⟩
theorem Oh.new (h:Heap)(items:Array FX):Oh (h.push { cls:=.type "tuple",data:=.seq items }) h.objs.size items:=⟨_,Lf _ rfl,rfl,⟨_,rfl⟩,rfl⟩
def pO (H:Hp)(h:Heap)(a:Addr):HO->Prop
 | .lst xs=>xs.length<=Ig/\∃ (its:List FX) (n:Nat),Bm xs its/\h.get? a=Dn { cls:=.type "list",data:=.seq its.toArray n }
 | .tup xs=>xs.length<=Ig/\∃ its:List FX,Bm xs its/\Oh h a its.toArray
 | .dK kvs=>kvs.length<=Ig/\(a==sysModules)=false/\∃ vs,KV kvs vs/\h.DictOf (Et P w) a vs
 | .dT kvs=>kvs.length<=Ig/\(a==sysModules)=false/\∃ xs:List (List Key×Addr×FX),
   Tw (fun (p:List Key×V) (q:List Key×Addr×FX)=>p.1=q.1/\H q.2.1=Dn (.tup (p.1.map kV))/\RelV p.2 q.2.2) kvs xs /\
   ∃ o es ep,h.get? a=Dn o/\o.ExactDict/\o.data=.dict es ep/\es.toList=xs.map (entryOfKey (tupleKind (Et P w)))/\(xs.map (·.1)).Nodup
 | .set S n=>h.SetOf (intKind P w) a S n
 | .ins C dx fs=>H dx=Dn (.own a)/\fs.length<=1000/\dx≠a/\h.get? a=Dn (PySem.W.instObj C dx) /\
   ∃ mA,h.Ns1 dx mA/\(∀ f,adb (fs.lookup f) (mA f))/\PySem.Within mA (fs.map (·.1))
 | .own _=>∃ o,h.get? a=Dn o
 | .xd fs=>∃ mA,h.Ns1 a mA/\∀ f,adb (fs.lookup f) (mA f)
 | .rng lo hi=>∃ t u v,h.get? a=Dn { cls:=.type "range",data:=.fields #[.int lo t,.int hi u,.int 1 v] }
 | .frz o u=>h.get? a=Dn o/\pO H h a u
 | .tbl ps=>h.get? a=Dn { cls:=.none,data:=.fields ps }
 | .met f x=>h.get? a=Dn (PySem.W.methodObj (.ref f) (.ref x))
 | .ext φ=>φ h/\(∃ o,h.get? a=Dn o)/\∀ h1 h2:Heap,φ h1->(∀ o,h1.get? a=Dn o->h2.get? a=Dn o)->φ h2
def Kw (H:Hp)(h:Heap):Prop:=∀ a o,H a=Dn o->pO P w H h a o
end
section
variable {P:Dr}{w:Ci}{H H':Hp}{h h':Heap}{a:Addr}{o:HO}
theorem pO.lt (x:pO P w H h a o):a<h.objs.size:=by
 cases o with
 | lst xs=>obtain ⟨_,_,_,_,e⟩:=x;exact Il e
 | tup xs=>obtain ⟨_,_,_,p⟩:=x;exact p.tup.lt
 | dK kvs=>obtain ⟨_,_,_,_,o,_,_,e,_⟩:=x;exact Il e
 | dT kvs=>obtain ⟨_,_,_,_,o,_,_,e,_⟩:=x;exact Il e
 | set S n=>obtain ⟨o,_,_,_,e,_⟩:=x;exact Il e
 | ins C dx fs=>obtain ⟨_,_,_,e,_⟩:=x;exact Il e
 | own y=>obtain ⟨_,e⟩:=x;exact Il e
 | xd fs=>obtain ⟨_,⟨_,_,_,e,_⟩,_⟩:=x;exact Il e
 | rng lo hi=>obtain ⟨_,_,_,e⟩:=x;exact Il e
 | frz ob u=>obtain ⟨e,_⟩:=x;exact Il e
 | tbl ps=>exact Il (show h.get? a=Dn _ from x)
 | met f y=>exact Il (show h.get? a=Dn _ from x)
 | ext φ=>obtain ⟨_,⟨_,e⟩,_⟩:=x;exact Il e
theorem Paired.mapP {α β : Type}{F G:α->β->Prop}:∀ {l₁ : List α} {l₂ : List β},Tw F l₁ l₂->(∀ a b,F a b->G a b)->Tw G l₁ l₂
 | _,_,.nil,_=>.nil
 | _,_,.cons r t,f=>.cons (f _ _ r) (Paired.mapP t f)
theorem pO.stay (x:pO P w H h a o)(k:∀ b u,(b=a\/H b=Dn (.own a))->h.get? b=Dn u->h'.get? b=Dn u)
  (ho:∀ b,H b=Dn (.own a)->H' b=Dn (.own a)) (ht:∀ b xs,H b=Dn (.tup xs)->H' b=Dn (.tup xs)):pO P w H' h' a o:=by
 induction o with
 | lst xs=>obtain ⟨z,its,n,r,e⟩:=x;exact ⟨z,its,n,r,k _ _ (.inl rfl) e⟩
 | tup xs=>obtain ⟨z,its,r,ob,e,c⟩:=x;exact ⟨z,its,r,ob,k _ _ (.inl rfl) e,c⟩
 | dK kvs=>obtain ⟨z,y,vs,r,ob,es,ep,e,c⟩:=x;exact ⟨z,y,vs,r,ob,es,ep,k _ _ (.inl rfl) e,c⟩
 | dT kvs=>
  obtain ⟨z,y,xs,r,ob,es,ep,e,c⟩:=x
  exact ⟨z,y,xs,Paired.mapP r fun p q z=>⟨z.1,ht _ _ z.2.1,z.2.2⟩,ob,es,ep,k _ _ (.inl rfl) e,c⟩
 | set S n=>obtain ⟨ob,es,ep,t,e,c⟩:=x;exact ⟨ob,es,ep,t,k _ _ (.inl rfl) e,c⟩
 | ins C dx fs=>
  obtain ⟨d,z,ne,e,mA,⟨od,es,ep,e2,c⟩,r⟩:=x
  exact ⟨ho _ d,z,ne,k _ _ (.inl rfl) e,mA,⟨od,es,ep,k _ _ (.inr d) e2,c⟩,r⟩
 | own y=>obtain ⟨ob,e⟩:=x;exact ⟨ob,k _ _ (.inl rfl) e⟩
 | xd fs=>obtain ⟨mA,⟨od,es,ep,e,c⟩,r⟩:=x;exact ⟨mA,⟨od,es,ep,k _ _ (.inl rfl) e,c⟩,r⟩
 | rng lo hi=>obtain ⟨t,u,v,e⟩:=x;exact ⟨t,u,v,k _ _ (.inl rfl) e⟩
 | frz ob u ih=>obtain ⟨e,q⟩:=x;exact ⟨k _ _ (.inl rfl) e,ih q⟩
 | tbl ps=>
  have e:h.get? a=Dn { cls:=.none,data:=.fields ps }:=x
  show h'.get? a=Dn { cls:=.none,data:=.fields ps }
  exact k a _ (.inl rfl) e
 | met f y=>
  have e:h.get? a=Dn (PySem.W.methodObj (.ref f) (.ref y)):=x
  show h'.get? a=Dn (PySem.W.methodObj (.ref f) (.ref y))
  exact k a _ (.inl rfl) e
 | ext φ=>obtain ⟨p,⟨o,e⟩,st⟩:=x;exact ⟨st _ _ p fun o q=>k _ _ (.inl rfl) q,⟨o,k _ _ (.inl rfl) e⟩,st⟩
theorem Kw.lt (x:Kw P w H h)(e:H a=Dn o):a<h.objs.size:=(x a o e).lt
theorem Kw.fresh (x:Kw P w H h)(e:h.objs.size<=a):H a=FN:=by
 cases q:H a with
 | none=>rfl
 | some u=>exact absurd (Kl (x.lt q) e) (P0 _)
theorem Kw.kept (x:Kw P w H h)(k:∀ b u,h.get? b=Dn u->h'.get? b=Dn u):Kw P w H h':=fun a o e=>
 (x a o e).stay (fun b u _ q=>k b u q) (fun _ q=>q) fun _ _ q=>q
theorem Kw.laid (x:Kw P w H h)(k:∀ b u,h.get? b=Dn u->h'.get? b=Dn u)(hp:h.objs.size<=a)(new:pO P w (IW H a o) h' a o):Kw P w (IW H a o) h':=fun b u e=>by
 have hn:=x.fresh hp
 by_cases hb:b=a
 ·subst hb;rw [cR] at e;cases e;exact new
 ·rw [aV hb] at e
  exact (x b u e).stay (fun c v _ q=>k c v q) (fun c q=>by rw [aV (bf q hn)];exact q) fun c xs q=>by rw [aV (bf q hn)];exact q
end
def Rd (H:Hp)(a:Addr)(u:HO):Prop:=H a=Dn u\/∃ o,H a=Dn (.frz o u)
theorem Rd.ok {P:Dr}{w:Ci}{H:Hp}{h:Heap}{a:Addr}{u:HO}(r:Rd H a u)(x:Kw P w H h):pO P w H h a u:=by
 rcases r with r | ⟨o,r⟩
 ·exact x a u r
 ·obtain ⟨_,q⟩:=x a _ r
  exact q
def Mut:Option HO->Prop
 | some (.lst _)=>True
 | some (.dK _)=>True
 | some (.dT _)=>True
 | some (.set _ _)=>True
 | some (.ins _ _ _)=>True
 | some (.ext _)=>True
 | _=>False
section
variable {P:Dr}{w:Ci}{H:Hp}{h h':Heap}{x e:Addr}{o':HO}
theorem Kw.write (ok:Kw P w H h)(mu:Mut (H x))(he:e=x\/H e=Dn (.own x))(k:∀ b u,b≠e->h.get? b=Dn u->h'.get? b=Dn u)(heo:∃ u,h'.get? e=Dn u)
  (new:pO P w (IW H x o') h' x o'):Kw P w (IW H x o') h':=fun b u q=>by
 have nown:∀ c y,H c=Dn (.own y)->c≠x:=fun c y r z=>by subst z;rw [r] at mu;exact mu
 have ntup:∀ c xs,H c=Dn (.tup xs)->c≠x:=fun c xs r z=>by subst z;rw [r] at mu;exact mu
 by_cases hb:b=x
 ·subst hb;rw [cR] at q;cases q;exact new
 ·rw [aV hb] at q
  by_cases hbe:b=e
  ·have q':H b=Dn (.own x):=by
    rcases he with z | z
    ·exact absurd (hbe.trans z) hb
    ·rw [hbe];exact z
   rw [q] at q';cases q'
   obtain ⟨v,hv⟩:=heo
   exact ⟨v,by rw [hbe];exact hv⟩
  ·refine (ok b u q).stay (fun c v hc r=>k c v ?_ r) (fun c r=>by rw [aV (nown c b r)];exact r) fun c xs r=>by rw [aV (ntup c xs r)];exact r
   rcases hc with rfl | hc
   ·exact hbe
   ·rintro rfl
    rcases he with z | z
    ·exact nown c b hc z
    ·rw [hc] at z;cases z;exact hb rfl
end
structure Un (fs ex:List Addr) (H H':Hp) (h h':Heap):Prop where
 keep:∀ b o,h.get? b=Dn o->H b=FN->b∉fs->b∉ex->h'.get? b=Dn o
 slot:∀ b o,h.get? b=Dn o->H b=FN->b∈fs->b∉ex->∃ sl,h'.get? b=Dn { o with slots:=sl }
 free:∀ b o,h.get? b=Dn o->H b=FN->b∉ex->H' b=FN
 there:∀ b o,h.get? b=Dn o->b∉ex->∃ o',h'.get? b=Dn o'
 tups:∀ b xs,H b=Dn (.tup xs)->H' b=Dn (.tup xs)
 frzs:∀ b o u,H b=Dn (.frz o u)->H' b=Dn (.frz o u)
 tbls:∀ b ps,H b=Dn (.tbl ps)->∃ more,H' b=Dn (.tbl (ps++more))
section
variable {fs fs' ex ex':List Addr}{H H1 H2:Hp}{h h1 h2 h':Heap}{a x e:Addr}{o:HO}
theorem Un.any (u:Un fs ex H H1 h h1){b:Addr}{ob:Obj}(q:h.get? b=Dn ob)(n:H b=FN)(hx:b∉ex):∃ sl,h1.get? b=Dn { ob with slots:=sl }:=by
 by_cases hb:b∈fs
 ·exact u.slot b ob q n hb hx
 ·exact ⟨ob.slots,u.keep b ob q n hb hx⟩
theorem Un.kept (k:∀ b u,h.get? b=Dn u->h'.get? b=Dn u):Un fs ex H H h h':=
 ⟨fun b ob q _ _ _=>k b ob q,fun b ob q _ _ _=>⟨ob.slots,k b ob q⟩,fun _ _ _ n _=>n,fun b ob q _=>⟨ob,k b ob q⟩,fun _ _ q=>q,fun _ _ _ q=>q,fun _ ps q=>⟨#[],by rw [q];simp⟩⟩
theorem Un.refl:Un fs ex H H h h:=Un.kept fun _ _ q=>q
theorem Un.laid (k:∀ b u,h.get? b=Dn u->h'.get? b=Dn u)(hp:h.objs.size<=a)(hn:H a=FN):Un fs ex H (IW H a o) h h' where
 keep:=fun b u q _ _ _=>k b u q
 slot:=fun b u q _ _ _=>⟨u.slots,k b u q⟩
 free:=fun b u q n _=>by rw [aV (KQ (Kl (Il q) hp))];exact n
 there:=fun b u q _=>⟨u,k b u q⟩
 tups:=fun b xs q=>by rw [aV (bf q hn)];exact q
 frzs:=fun b u xs q=>by rw [aV (bf q hn)];exact q
 tbls:=fun b ps q=>⟨#[],by rw [aV (bf q hn),q];simp⟩
theorem Un.write (mu:Mut (H x))(he:e=x\/H e=Dn (.own x))(k:∀ b u,b≠e->h.get? b=Dn u->h'.get? b=Dn u)(heo:∃ u,h'.get? e=Dn u):Un fs ex H (IW H x o) h h':=by
 have hx:∀ b,H b=FN->b≠x:=fun b n z=>by subst z;rw [n] at mu;exact mu
 have hb:∀ b,H b=FN->b≠e:=fun b n z=>by
  subst z
  rcases he with r | r
  ·exact hx b n r
  ·rw [n] at r;cases r
 have hm:∀ b u,H b=Dn u->¬ Mut (Dn u)->b≠x:=fun b u q nm z=>by subst z;rw [q] at mu;exact nm mu
 refine ⟨fun b u q n _ _=>k b u (hb b n) q,fun b u q n _ _=>⟨u.slots,k b u (hb b n) q⟩,fun b u q n _=>by rw [aV (hx b n)];exact n,fun b u q _=>?_,
  fun b xs q=>by rw [aV (hm b _ q fun z=>z)];exact q,fun b u xs q=>by rw [aV (hm b _ q fun z=>z)];exact q,fun b ps q=>⟨#[],by rw [aV (hm b _ q fun z=>z),q];simp⟩⟩
 by_cases hbe:b=e
 ·subst hbe;exact heo
 ·exact ⟨u,k b u hbe q⟩
end
def trk (h:Heap)(H:Hp):List Addr:=(O9 h.objs.size).filter fun a=>(H a).isSome
def Oe (h:Heap)(H:Hp):Heap:=PySem.W.hideAll h (trk h H)
theorem zaW (h:Heap)(H:Hp):(Oe h H).objs.size=h.objs.size:=PySem.W.hideAll_size _ _
theorem afh {h:Heap}{H:Hp}{b:Addr}{o:Obj}(e:h.get? b=Dn o)(n:H b=FN):(Oe h H).get? b=Dn o:=
 PySem.W.hideAll_get _ e fun hm=>by
  have q:(H b).isSome=true:=(QF.mp hm).2
  rw [n] at q;simp at q
theorem ago {h:Heap}{H:Hp}{b:Addr}{o:Obj}(e:(Oe h H).get? b=Dn o):h.get? b=Dn o/\H b=FN:=by
 have e':h.get? b=Dn o:=PySem.W.of_hideAll (trk h H) e
 refine ⟨e',?_⟩
 cases q:H b with
 | none=>rfl
 | some x=>
  have hm:b∈trk h H:=QF.mpr ⟨QD.mpr (Il e'),by simp [q]⟩
  have z:(Oe h H).get? b=FN:=PySem.W.hideAll_none (trk h H) hm
  rw [z] at e;cases e
def agl (g h:Heap)(L:Addr):List (Addr×Obj):=(O9 h.objs.size).filterMap fun a=>if a=L\/(g.get? a).isSome=true then FN else (h.get? a).map fun o=>(a,o)
def rest (g h:Heap)(L d:Addr):List (Addr×Obj):=(agl g h L).filter fun p=>decide (p.1≠d)
structure Mod (K:BZ) (mg:Str->Option FX) (base:Heap):Prop where
 kin:K.In base
 glob:base.Ns Ck mg
 blt:∃ mb,base.Ns builtinsNs mb/\∀ x:Str,x ≠ "__name__"->mb x=TJ x
 nolimit:base.NoLimit
structure Cx where
 prog:Dr
 w:Ci
 K:BZ
 mg:Str->Option FX
 base:Heap
 A:Dp
 N:List Str
 s₀ : AP
 H₀ : Hp
 env:Env
 outer:List Env
 stack:List Env
 ex:List Addr
 fn:Str->Bool
 calm:Bool
 pn:List (Addr×Obj)
 xe:FX->AP->Prop
def frs (l:List Env):List Addr:=l.filterMap (·.frame)
abbrev Cx.fs (X:Cx):List Addr:=frs X.outer
def Vis (sc:Scope)(x:Str):Prop:=sc.names.lookup x=Dn .local\/sc.names.lookup x=Dn .cell\/sc.names.lookup x=Dn .free
def Loc (sc:Scope)(x:Str):Prop:=sc.names.lookup x=Dn .local\/sc.names.lookup x=Dn .cell
def Look (env:Env)(h:Heap)(m:Str->Option FX)(x:Str)(u:FX):Prop:=
 (env.kindOf x=Dn .local/\m x=Dn u)\/((env.kindOf x=Dn .cell\/env.kindOf x=Dn .free)/\∃ c,env.cells.lookup x=Dn c/\h.IsCell c (Dn u))
def Still (H:Hp)(v:FX):Prop:=∃ (a:Addr) (o:Obj) (u:HO) (vs:Array FX),v=.ref a/\H a=Dn (.frz o u)/\o.data=.fields vs/\vs[2]?=Dn .none
def Quiet (A:Dp)(H:Hp):Prop:=∀ v,A.handled=Dn v->Still H v
structure Cx.Ok (X:Cx):Prop where
 mod:Mod X.K X.mg X.base
 kind:X.env.scope.kind=.function
 glob:X.env.globals=Ck
 blt:X.env.builtins=builtinsNs
 above:X.s₀.heap.objs.size<=X.env.locals
 inj:∀ x y c,X.env.cells.lookup x=Dn c->X.env.cells.lookup y=Dn c->x=y
 has:∀ x,(X.env.kindOf x=Dn .cell\/X.env.kindOf x=Dn .free)->∃ c,X.env.cells.lookup x=Dn c
 cab:∀ x c,X.fn x=true->X.env.cells.lookup x=Dn c->X.s₀.heap.objs.size<=c
 hd:X.calm=true->X.A.handled=FN
 qt:Quiet X.A X.H₀
 frames:X.A.frames=Dn X.stack
 stk:X.stack=X.outer\/(X.stack=X.env::X.outer/\X.env.frame=Dn X.env.locals)
 exf:∀ b∈X.ex,b≠X.env.locals/\∀ x c,X.env.cells.lookup x=Dn c->c≠b
 bs:∀ b o,X.base.get? b=Dn o->X.s₀.heap.get? b=Dn o/\X.H₀ b=FN
 bsz:X.base.objs.size<=X.s₀.heap.objs.size
 noex:∀ b o,X.base.get? b=Dn o->b∉X.ex
 exfs:∀ b∈X.ex,b∉X.fs
 funs:X.s₀.heap.FunFrames X.base X.outer
 frf:∀ b∈X.fs,X.H₀ b=FN
structure BL (X:Cx) (pins:List (Addr×Obj)) (σ : List (Option V)) (H:Hp) (s:AP):Prop where
 ok:X.Ok
 os:s.os=X.s₀.os
 bare:Qq s.gens
 base:Un X.fs X.ex X.H₀ H X.s₀.heap s.heap
 loc:∃ m,s.heap.Ns X.env.locals m/\∀ (i:Nat) (x:Str) (v:V),X.N[i]?=Dn x->σ[i]?=Dn (Dn v)->Vis X.env.scope x->∃ u,RelV v u/\Look X.env s.heap m x u
 cell:∀ x c,X.env.cells.lookup x=Dn c->∃ v,s.heap.IsCell c v
 free:H X.env.locals=FN
 freeC:∀ x c,X.env.cells.lookup x=Dn c->H c=FN
 pin:∀ p∈X.pn++pins,s.heap.get? p.1=Dn p.2/\H p.1=FN/\p.1≠X.env.locals/\p.1∉X.fs/\∀ v,p.2.data≠.cell v
 hok:Kw X.prog X.w H s.heap
 len:σ.length=X.N.length
section
variable {X:Cx}{pins:List (Addr×Obj)}{σ : List (Option V)}{H H':Hp}{s:AP}{h':Heap}
theorem Cx.Ok.nofr (ok:X.Ok){b:Addr}{o:Obj}(e:X.base.get? b=Dn o):b∉X.fs:=fun hb=>by
 have:=(ok.funs.mem hb).1
 rw [e] at this;cases this
theorem BL.bs (I:BL X pins σ H s):∀ b o,X.base.get? b=Dn o->s.heap.get? b=Dn o/\H b=FN:=fun b o e=>
 ⟨I.base.keep b o (I.ok.bs b o e).1 (I.ok.bs b o e).2 (I.ok.nofr e) (I.ok.noex b o e),I.base.free b o (I.ok.bs b o e).1 (I.ok.bs b o e).2 (I.ok.noex b o e)⟩
theorem BL.qt0 (I:BL X pins σ H s):Quiet X.A H:=fun v e=>let ⟨a,o,u,vs,h1,h2,h3⟩:=I.ok.qt v e;⟨a,o,u,vs,h1,I.base.frzs a o u h2,h3⟩
theorem BL.bk (I:BL X pins σ H s):∀ b o,X.base.get? b=Dn o->s.heap.get? b=Dn o:=fun b o e=>(I.bs b o e).1
theorem BL.mod (I:BL X pins σ H s):Mod X.K X.mg X.base:=I.ok.mod
theorem BL.kIn (I:BL X pins σ H s):X.K.In s.heap:=I.ok.mod.kin.keeps I.bk
theorem BL.lt (I:BL X pins σ H s):X.env.locals<s.heap.objs.size:=let ⟨_,hn,_⟩:=I.loc;hn.lt
theorem BL.sz (I:BL X pins σ H s):X.s₀.heap.objs.size<=s.heap.objs.size:=Jp I.ok.above (Nat.le_of_lt I.lt)
theorem BL.nofs (I:BL X pins σ H s){a:Addr}(h:s.heap.objs.size<=a):a∉X.fs:=fun hb=>by
 obtain ⟨_,o,ho,_⟩:=I.ok.funs.mem hb
 exact absurd (Kl (Il ho) (Jp I.sz h)) (P0 _)
theorem BL.cne (I:BL X pins σ H s):∀ x c,X.env.cells.lookup x=Dn c->c≠X.env.locals:=fun x c e z=>by
 obtain ⟨v,o,ho,hd⟩:=I.cell x c e
 obtain ⟨m,⟨o',es,ep,ho',hd',_⟩,_⟩:=I.loc
 rw [z,ho'] at ho;cases ho;rw [hd'] at hd;cases hd
theorem BL.funs (I:BL X pins σ H s):s.heap.FunFrames X.base X.outer:=by
 have all:∀ (l:List Env),(∀ b∈frs l,b∈X.fs)->X.s₀.heap.FunFrames X.base l->s.heap.FunFrames X.base l:=by
  intro l
  induction l with
  | nil=>intro _ _;trivial
  | cons env r ih=>
   intro hs hl
   obtain ⟨hk,⟨L,o,hf,hn,ho,hd⟩,hr⟩:=hl
   have hL:L∈X.fs:=hs L (by unfold frs;rw [List.filterMap_cons,hf];exact Oo)
   obtain ⟨sl,e⟩:=I.base.slot L o ho (I.ok.frf L hL) hL fun z=>I.ok.exfs L z hL
   exact ⟨hk,⟨L,_,hf,hn,e,hd⟩,ih (fun b hb=>hs b (by unfold frs;rw [List.filterMap_cons,hf];exact Oq _ hb)) hr⟩
 exact all X.outer (fun _ hb=>hb) I.ok.funs
theorem BL.stack (I:BL X pins σ H s):s.heap.FunFrames X.base X.stack:=by
 rcases I.ok.stk with e | ⟨e,hf⟩
 ·rw [e];exact I.funs
 ·rw [e]
  obtain ⟨m,hn,_⟩:=I.loc
  refine .cons (by rw [I.ok.kind];decide) hf hn ?_ I.funs
  exact Heap.get?_none_of_le (Jp I.ok.bsz I.ok.above)
theorem BL.stkSub (I:BL X pins σ H s):∀ b∈frs X.stack,b∈X.env.locals::X.fs:=fun b hb=>by
 rcases I.ok.stk with e | ⟨e,hf⟩
 ·rw [e] at hb;exact Oq _ hb
 ·rw [e] at hb
  unfold frs at hb
  rw [List.filterMap_cons,hf] at hb
  exact hb
theorem BL.stkFree (I:BL X pins σ H s):∀ b∈frs X.stack,H b=FN:=fun b hb=>by
 rcases K9.mp (I.stkSub b hb) with e | hb
 ·rw [e];exact I.free
 ·obtain ⟨_,o,ho,_⟩:=I.ok.funs.mem hb
  exact I.base.free b o ho (I.ok.frf b hb) fun z=>I.ok.exfs b z hb
theorem BL.stepG {g':Array GenState}{t':Nat}{d':Drawn}{ch:List Addr}(I:BL X pins σ H s)
  (hch:∀ b∈ch,(b∈X.ex\/X.s₀.heap.get? b=FN)/\b≠X.env.locals/\(∀ x c,X.env.cells.lookup x=Dn c->c≠b)/\∀ p∈X.pn++pins,p.1≠b)
  (keep:∀ b o,b≠X.env.locals->b∉X.fs->b∉ch->s.heap.get? b=Dn o->H b=FN->h'.get? b=Dn o)
  (slot:∀ b o,b≠X.env.locals->b∈X.fs->b∉ch->s.heap.get? b=Dn o->H b=FN->∃ sl,h'.get? b=Dn { o with slots:=sl }) (free:∀ b o,b∉ch->s.heap.get? b=Dn o->H b=FN->H' b=FN)
  (there:∀ b o,b∉ch->s.heap.get? b=Dn o->∃ o',h'.get? b=Dn o')
  (tups:∀ b xs,H b=Dn (.tup xs)->H' b=Dn (.tup xs)) (frzs:∀ b o u,H b=Dn (.frz o u)->H' b=Dn (.frz o u)) (tbls:∀ b ps,H b=Dn (.tbl ps)->∃ more,H' b=Dn (.tbl (ps++more)))
  (ns:∀ m,s.heap.Ns X.env.locals m->h'.Ns X.env.locals m) (hok:Kw X.prog X.w H' h') (hg:Qq g') :
  BL X pins σ H' { s with heap:=h',gens:=g',drawn:=d',toks:=t' }:=by
 have neL:∀ b o,X.s₀.heap.get? b=Dn o->b≠X.env.locals:=fun b o e=>KQ (Kl (Il e) I.ok.above)
 have neC:∀ b o,X.s₀.heap.get? b=Dn o->b∉X.ex->b∉ch:=fun b o e hx hb=>by
  rcases (hch b hb).1 with z | z
  ·exact hx z
  ·rw [z] at e;cases e
 have cellK:∀ x c,X.env.cells.lookup x=Dn c->∀ v,s.heap.IsCell c v->h'.IsCell c v:=fun x c e v ⟨o,ho,hd⟩=>by
  have nch:c∉ch:=fun z=>(hch c z).2.2.1 x c e rfl
  by_cases hc:c∈X.fs
  ·obtain ⟨sl,q⟩:=slot c o (I.cne x c e) hc nch ho (I.freeC x c e)
   exact ⟨_,q,hd⟩
  ·exact ⟨o,keep c o (I.cne x c e) hc nch ho (I.freeC x c e),hd⟩
 refine ⟨I.ok,I.os,hg,⟨fun b o e n hb hx=>?_,fun b o e n hb hx=>?_,fun b o e n hx=>?_,fun b o e hx=>?_,fun b xs e=>tups b xs (I.base.tups b xs e),fun b o xs e=>frzs b o xs (I.base.frzs b o xs e),fun b ps e=>?_⟩,?_,fun x c e=>?_,?_,fun x c e=>?_,fun p hp=>?_,hok,I.len⟩
 ·exact keep b o (neL b o e) hb (neC b o e hx) (I.base.keep b o e n hb hx) (I.base.free b o e n hx)
 ·obtain ⟨sl,e1⟩:=I.base.slot b o e n hb hx
  obtain ⟨sl',e2⟩:=slot b _ (neL b o e) hb (neC b o e hx) e1 (I.base.free b o e n hx)
  exact ⟨sl',e2⟩
 ·obtain ⟨o',e1⟩:=I.base.there b o e hx
  exact free b o' (neC b o e hx) e1 (I.base.free b o e n hx)
 ·obtain ⟨o',e1⟩:=I.base.there b o e hx
  exact there b o' (neC b o e hx) e1
 ·obtain ⟨m1,e1⟩:=I.base.tbls b ps e
  obtain ⟨m2,e2⟩:=tbls b _ e1
  exact ⟨m1++m2,by rw [e2,Array.append_assoc]⟩
 ·obtain ⟨m,hn,hl⟩:=I.loc
  refine ⟨m,ns m hn,fun i x v e1 e2 e3=>?_⟩
  obtain ⟨u,r,l⟩:=hl i x v e1 e2 e3
  refine ⟨u,r,?_⟩
  rcases l with l | ⟨k,c,e,z⟩
  ·exact .inl l
  ·exact .inr ⟨k,c,e,cellK x c e _ z⟩
 ·obtain ⟨v,z⟩:=I.cell x c e
  exact ⟨v,cellK x c e v z⟩
 ·obtain ⟨m,⟨o,_,_,ho,_⟩,_⟩:=I.loc
  exact free _ o (fun z=>(hch _ z).2.1 rfl) ho I.free
 ·obtain ⟨v,o,ho,hd⟩:=I.cell x c e
  exact free c o (fun z=>(hch c z).2.2.1 x c e rfl) ho (I.freeC x c e)
 ·obtain ⟨e,n,ne,nf,d⟩:=I.pin p hp
  have nch:p.1∉ch:=fun z=>(hch p.1 z).2.2.2 p hp rfl
  exact ⟨keep p.1 p.2 ne nf nch e n,free p.1 p.2 nch e n,ne,nf,d⟩
theorem BL.step {g':Array GenState}{t':Nat}{d':Drawn}{ch:List Addr}(I:BL X pins σ H s)
  (hch:∀ b∈ch,(b∈X.ex\/X.s₀.heap.objs.size<=b)/\b≠X.env.locals/\(∀ x c,X.env.cells.lookup x=Dn c->c≠b)/\∀ p∈X.pn++pins,p.1≠b)
  (keep:∀ b o,b≠X.env.locals->b∉X.fs->b∉ch->s.heap.get? b=Dn o->H b=FN->h'.get? b=Dn o)
  (slot:∀ b o,b≠X.env.locals->b∈X.fs->b∉ch->s.heap.get? b=Dn o->H b=FN->∃ sl,h'.get? b=Dn { o with slots:=sl }) (free:∀ b o,b∉ch->s.heap.get? b=Dn o->H b=FN->H' b=FN)
  (there:∀ b o,b∉ch->s.heap.get? b=Dn o->∃ o',h'.get? b=Dn o')
  (tups:∀ b xs,H b=Dn (.tup xs)->H' b=Dn (.tup xs)) (frzs:∀ b o u,H b=Dn (.frz o u)->H' b=Dn (.frz o u)) (tbls:∀ b ps,H b=Dn (.tbl ps)->∃ more,H' b=Dn (.tbl (ps++more)))
  (ns:∀ m,s.heap.Ns X.env.locals m->h'.Ns X.env.locals m) (hok:Kw X.prog X.w H' h') (hg:Qq g') :
  BL X pins σ H' { s with heap:=h',gens:=g',drawn:=d',toks:=t' }:=
 I.stepG (ch:=ch) (fun b z=>⟨(hch b z).1.imp id fun q=>Heap.get?_none_of_le q,(hch b z).2⟩) keep slot free there tups frzs tbls ns hok hg
theorem BL.un {t':Nat}(I:BL X pins σ H s)(u:Un X.fs [] H H' s.heap h')(hok:Kw X.prog X.w H' h'):BL X pins σ H' { s with heap:=h',toks:=t' }:=by
 obtain ⟨m,⟨o,es,ep,ho,r⟩,_⟩:=id I.loc
 obtain ⟨sl,hL⟩:=u.any ho I.free (by simp)
 exact I.step (g':=s.gens) (d':=s.drawn) (ch:=[]) (fun _ z=>nomatch z) (fun b o _ hb _ e n=>u.keep b o e n hb (by simp)) (fun b o _ hb _ e n=>u.slot b o e n hb (by simp)) (fun b o _ e n=>u.free b o e n (by simp)) (fun b o _ e=>u.there b o e (by simp)) u.tups u.frzs u.tbls (fun m' hm=>by
  obtain ⟨o',es',ep',ho',r'⟩:=hm
  rw [ho] at ho';cases ho'
  exact ⟨_,es',ep',hL,r'⟩) hok I.bare
theorem BL.call {g':Array GenState}{t':Nat}{d':Drawn}{ch:List Addr}(I:BL X pins σ H s)(u:Un (frs X.stack) ch H H' s.heap h')(hok:Kw X.prog X.w H' h')(hg:Qq g')
  (hch:∀ b∈ch,(b∈X.ex\/X.s₀.heap.objs.size<=b)/\b≠X.env.locals/\(∀ x c,X.env.cells.lookup x=Dn c->c≠b)/\∀ p∈X.pn++pins,p.1≠b) :
  BL X pins σ H' { s with heap:=h',gens:=g',drawn:=d',toks:=t' }:=by
 obtain ⟨m,⟨o,es,ep,ho,r⟩,_⟩:=id I.loc
 obtain ⟨sl,hL⟩:=u.any ho I.free fun z=>(hch _ z).2.1 rfl
 exact I.step (ch:=ch) hch (fun b o hL hb hc e n=>u.keep b o e n (fun z=>(K9.mp (I.stkSub b z)).elim hL hb) hc) (fun b o _ _ hc e n=>u.any e n hc) (fun b o hc e n=>u.free b o e n hc) (fun b o hc e=>u.there b o e hc) u.tups u.frzs u.tbls (fun m' hm=>by
  obtain ⟨o',es',ep',ho',r'⟩:=hm
  rw [ho] at ho';cases ho'
  exact ⟨_,es',ep',hL,r'⟩) hok hg
theorem BL.turned {t':Nat}{it:Addr}(I:BL X pins σ H s)(k:∀ b o,b≠it->s.heap.get? b=Dn o->h'.get? b=Dn o)(hn:H it=FN)(hL:it≠X.env.locals)
  (h1:it∈X.ex\/X.s₀.heap.objs.size<=it) (h2:∀ x c,X.env.cells.lookup x=Dn c->c≠it) (h3:∀ p∈X.pn++pins,p.1≠it):BL X pins σ H { s with heap:=h',toks:=t' }:=by
 have nit:∀ b u,H b=Dn u->b≠it:=fun b u e z=>by rw [z,hn] at e;cases e
 refine I.step (g':=s.gens) (d':=s.drawn) (ch:=[it]) (fun b hb=>?_) (fun b o _ _ hc e _=>k b o (fun z=>hc (by simp [z])) e) (fun b o _ _ hc e _=>⟨o.slots,k b o (fun z=>hc (by simp [z])) e⟩) (fun _ _ _ _ n=>n)
  (fun b o hc e=>⟨o,k b o (fun z=>hc (by simp [z])) e⟩) (fun _ _ e=>e) (fun _ _ _ e=>e) (fun b ps e=>⟨#[],by rw [e];simp⟩) (fun m hm=>?_) (fun b u e=>?_) I.bare
 ·have e:b=it:=by simpa using hb
  subst e
  exact ⟨h1,hL,h2,h3⟩
 ·obtain ⟨o,es,ep,ho,r⟩:=hm
  exact ⟨o,es,ep,k _ o (N8 hL) ho,r⟩
 ·refine (I.hok b u e).stay (fun c v hc q=>k c v ?_ q) (fun _ q=>q) fun _ _ q=>q
  rcases hc with z | z
  ·rw [z];exact nit b u e
  ·exact nit c _ z
theorem BL.tok (I:BL X pins σ H s)(t:Nat):BL X pins σ H { s with toks:=t }:=I.un (h':=s.heap) (t':=t) Un.refl I.hok
theorem BL.kept {t':Nat}(I:BL X pins σ H s)(k:∀ b u,s.heap.get? b=Dn u->h'.get? b=Dn u):BL X pins σ H { s with heap:=h',toks:=t' }:=I.un (Un.kept k) (I.hok.kept k)
theorem BL.laid {a:Addr}{o:HO}{t':Nat}(I:BL X pins σ H s)(k:∀ b u,s.heap.get? b=Dn u->h'.get? b=Dn u)(hp:s.heap.objs.size<=a)(new:pO X.prog X.w (IW H a o) h' a o) :
  BL X pins σ (IW H a o) { s with heap:=h',toks:=t' }:=I.un (Un.laid k hp (I.hok.fresh hp)) (I.hok.laid k hp new)
theorem BL.write {x e:Addr}{o:HO}{t':Nat}(I:BL X pins σ H s)(mu:Mut (H x))(he:e=x\/H e=Dn (.own x))(k:∀ b u,b≠e->s.heap.get? b=Dn u->h'.get? b=Dn u)(heo:∃ u,h'.get? e=Dn u)
  (new:pO X.prog X.w (IW H x o) h' x o):BL X pins σ (IW H x o) { s with heap:=h',toks:=t' }:=I.un (Un.write mu he k heo) (I.hok.write mu he k heo new)
theorem BL.weak {σ':List (Option V)}(I:BL X pins σ H s)(hl:σ'.length = σ.length)(w:∀ (i:Nat) v,σ'[i]?=Dn (Dn v)->σ[i]?=Dn (Dn v)):BL X pins σ' H s:=
 ⟨I.ok,I.os,I.bare,I.base,let ⟨m,hn,hl'⟩:=I.loc;⟨m,hn,fun i x v e1 e2 e3=>hl' i x v e1 (w i v e2) e3⟩,I.cell,I.free,I.freeC,I.pin,I.hok,hl.trans I.len⟩
theorem BL.pins_of {pins':List (Addr×Obj)}(I:BL X pins σ H s)(h:∀ p∈pins',s.heap.get? p.1=Dn p.2/\H p.1=FN/\p.1≠X.env.locals/\p.1∉X.fs/\∀ v,p.2.data≠.cell v):BL X pins' σ H s:=
 ⟨I.ok,I.os,I.bare,I.base,I.loc,I.cell,I.free,I.freeC,fun p hp=>(Qi.mp hp).elim (fun z=>I.pin p (List.mem_append_left _ z)) (h p),I.hok,I.len⟩
theorem GF {N:List Str}(hN:N.Nodup){i j:Nat}{x:Str}(a:N[i]?=Dn x)(b:N[j]?=Dn x):i=j:=by
 obtain ⟨h1,e1⟩:=Ox.mp a
 obtain ⟨h2,e2⟩:=Ox.mp b
 exact (List.getElem_inj hN).mp (e1.trans e2.symm)
theorem Cr {M:Model}{A:Dp}{E:FX->AP->Prop}{i:Nat}{x:Str}{v:V}{u:FX}{Q:Unit->AP->Prop}(I:BL X pins σ H s)(hN:X.N.Nodup)(hi:X.N[i]?=Dn x)(hx:Loc X.env.scope x)(r:RelV v u)
  (h:∀ s',BL X pins (σ.set i (Dn v)) H s'->(∃ a,UG a s.heap s'.heap/\(a=X.env.locals\/X.env.cells.lookup x=Dn a))->Q () s') (hf:X.fn x=true\/X.env.scope.names.lookup x=Dn .local:=by first | exact .inl rfl | exact .inr rfl | assumption):Bs M A (storeName X.env x u) Q E s:=by
 obtain ⟨m,hn,hl⟩:=id I.loc
 have hcls:(X.env.scope.kind==.class||(X.env.scope.kind==.module&&X.env.locals != X.env.globals))=false:=by rw [I.ok.kind];rfl
 have hiσ : i < σ.length:=by rw [I.len];exact (Ox.mp hi).1
 have cne:=I.cne
 have tracked:∀ {a:Addr} {h':Heap},(∃ o,s.heap.get? a=Dn o/\H a=FN)->UG a s.heap h'->Kw X.prog X.w H h':=fun {a h'} ha hs b ob e=>by
  obtain ⟨_,_,hfree⟩:=ha
  refine (I.hok b ob e).stay (fun c w' hc q=>(hs.2 c ?_).trans q) (fun _ q=>q) fun _ _ q=>q
  rintro rfl
  rcases hc with rfl | hc
  ·rw [hfree] at e;cases e
  ·rw [hfree] at hc;cases hc
 rcases hx with hk | hk
 ·refine wpAny_storeName_local hk hn (fun h' hn' hs=>?_) hcls
  obtain ⟨oL,_,_,hoL,_⟩:=id hn
  refine h _ ⟨I.ok,I.os,I.bare,⟨fun b o e n hb hx=>?_,fun b o e n hb hx=>?_,I.base.free,fun b o e hx=>?_,I.base.tups,I.base.frzs,I.base.tbls⟩,⟨_,hn',fun j y v' e1 e2 e3=>?_⟩,fun y c e=>?_,I.free,I.freeC,fun p hp=>?_,tracked ⟨oL,hoL,I.free⟩ hs,by simpa using I.len⟩ ⟨_,hs,.inl rfl⟩
  ·exact (hs.2 b (KQ (Kl (Il e) I.ok.above))).trans (I.base.keep b o e n hb hx)
  ·obtain ⟨sl,e1⟩:=I.base.slot b o e n hb hx
   exact ⟨sl,(hs.2 b (KQ (Kl (Il e) I.ok.above))).trans e1⟩
  ·obtain ⟨o',e1⟩:=I.base.there b o e hx
   exact ⟨o',(hs.2 b (KQ (Kl (Il e) I.ok.above))).trans e1⟩
  ·by_cases hj:j=i
   ·subst hj
    rw [hi] at e1;cases e1
    rw [List.getElem?_set_self hiσ] at e2
    cases e2
    exact ⟨u,r,.inl ⟨hk,by simp⟩⟩
   ·rw [List.getElem?_set_ne (N8 hj)] at e2
    obtain ⟨u',r',q⟩:=hl j y v' e1 e2 e3
    refine ⟨u',r',?_⟩
    rcases q with ⟨k,e⟩ | ⟨k,c,e,z⟩
    ·refine .inl ⟨k,?_⟩
     have:y≠x:=fun e=>hj (GF hN e1 (e ▸ hi))
     simp [this,e]
    ·exact .inr ⟨k,c,e,z.sameBut hs (cne y c e)⟩
  ·obtain ⟨w',z⟩:=I.cell y c e
   exact ⟨w',z.sameBut hs (cne y c e)⟩
  ·obtain ⟨e,n,ne,nf,d⟩:=I.pin p hp
   exact ⟨(hs.2 p.1 ne).trans e,n,ne,nf,d⟩
 ·have hfn:X.fn x=true:=by
   rcases hf with z | z
   ·exact z
   ·rw [z] at hk;cases hk
  obtain ⟨c,hc⟩:=I.ok.has x (.inl hk)
  obtain ⟨w',z⟩:=I.cell x c hc
  refine wpAny_storeName_cell I.ok.kind hk hc z (fun h' hc' hs=>?_)
  obtain ⟨oc,hoc,hocd⟩:=id z
  refine h { s with heap:=h' } ⟨I.ok,I.os,I.bare,⟨fun b o e n hb hx=>?_,fun b o e n hb hx=>?_,I.base.free,fun b o e hx=>?_,I.base.tups,I.base.frzs,I.base.tbls⟩,⟨m,hn.sameBut hs (N8 (cne x c hc)),fun j y v' e1 e2 e3=>?_⟩,fun y c' e=>?_,I.free,I.freeC,fun p hp=>?_,tracked ⟨oc,hoc,I.freeC x c hc⟩ hs,by simpa using I.len⟩ ⟨c,hs,.inr hc⟩
  ·exact (hs.2 b (KQ (Kl (Il e) (I.ok.cab x c hfn hc)))).trans (I.base.keep b o e n hb hx)
  ·obtain ⟨sl,e1⟩:=I.base.slot b o e n hb hx
   exact ⟨sl,(hs.2 b (KQ (Kl (Il e) (I.ok.cab x c hfn hc)))).trans e1⟩
  ·obtain ⟨o',e1⟩:=I.base.there b o e hx
   exact ⟨o',(hs.2 b (KQ (Kl (Il e) (I.ok.cab x c hfn hc)))).trans e1⟩
  ·by_cases hj:j=i
   ·subst hj
    rw [hi] at e1;cases e1
    rw [List.getElem?_set_self hiσ] at e2
    cases e2
    exact ⟨u,r,.inr ⟨.inl hk,c,hc,hc'⟩⟩
   ·rw [List.getElem?_set_ne (N8 hj)] at e2
    obtain ⟨u',r',q⟩:=hl j y v' e1 e2 e3
    refine ⟨u',r',?_⟩
    rcases q with q | ⟨k,c',e,z'⟩
    ·exact .inl q
    ·refine .inr ⟨k,c',e,z'.sameBut hs ?_⟩
     rintro rfl
     exact hj (GF hN e1 (I.ok.inj _ _ _ e hc ▸ hi))
  ·by_cases hcc:c'=c
   ·subst hcc;exact ⟨_,hc'⟩
   ·obtain ⟨w2,z2⟩:=I.cell y c' e
    exact ⟨w2,z2.sameBut hs hcc⟩
  ·obtain ⟨e,n,ne,nf,d⟩:=I.pin p hp
   refine ⟨(hs.2 p.1 ?_).trans e,n,ne,nf,d⟩
   intro q
   rw [q,hoc] at e
   have q':oc=p.2:=Ja e
   exact d w' (by rw [<-q'];exact hocd)
theorem uJ {M:Model}{A:Dp}{E:FX->AP->Prop}{i:Nat}{x:Str}{v:V}{u:FX}{Q:Unit->AP->Prop}(I:BL X pins σ H s)(hN:X.N.Nodup)(hi:X.N[i]?=Dn x)(hx:Loc X.env.scope x)(r:RelV v u)
  (h:∀ s',BL X pins (σ.set i (Dn v)) H s'->Q () s') (hf:X.fn x=true\/X.env.scope.names.lookup x=Dn .local:=by first | exact .inl rfl | exact .inr rfl | assumption):Bs M A (storeName X.env x u) Q E s:=
 Cr I hN hi hx r (fun s' I' _=>h s' I') hf
theorem BL.call' {s':AP}{ch:List Addr}(I:BL X pins σ H s)(ho:s'.os=s.os)(u:Un (frs X.stack) ch H H' s.heap s'.heap)(hok:Kw X.prog X.w H' s'.heap)(hg:Qq s'.gens)
  (hch:∀ b∈ch,(b∈X.ex\/X.s₀.heap.objs.size<=b)/\b≠X.env.locals/\(∀ x c,X.env.cells.lookup x=Dn c->c≠b)/\∀ p∈X.pn++pins,p.1≠b):BL X pins σ H' s':=by
 obtain ⟨h',g',d',t',o'⟩:=s'
 have e:o'=s.os:=ho
 subst e
 exact I.call (g':=g') (t':=t') (d':=d') u hok hg hch
end
abbrev XK:=FX->Option Addr->Hp->Prop
abbrev St:=List (Option V)
abbrev VK:=V->Hp->Prop
abbrev TE:=St->Hp->VK->Prop
abbrev TT:=St->Hp->(Bool->Hp->Prop)->Prop
abbrev TA:=St->Hp->(List V->Hp->Prop)->Prop
structure Ends where
 nx:St->Hp->Prop
 rt:VK
 bk:St->Hp->Prop:=fun _ _=>False
 ct:St->Hp->Prop:=fun _ _=>False
abbrev TS:=Ends->St->Hp->Prop
def EP (X:Cx)(pins:List (Addr×Obj))(σ : St)(Q:VK)(u:FX)(s':AP):Prop:=∃ v H',BL X pins σ H' s'/\RelV v u/\Q v H'
def TP (X:Cx)(pins:List (Addr×Obj))(σ : St)(Q:Bool->Hp->Prop)(b:Bool)(s':AP):Prop:=∃ H',BL X pins σ H' s'/\Q b H'
def aeC (X:Cx)(pins:List (Addr×Obj))(σ : St)(Q:List V->Hp->Prop)(us:List FX)(s':AP):Prop:=∃ vs H',BL X pins σ H' s'/\Bm vs us/\Q vs H'
def SP (X:Cx)(pins:List (Addr×Obj))(D:Ends)(f:Flow)(s':AP):Prop:=
 match f with
 | .next=>∃ σ' H',BL X pins σ' H' s'/\D.nx σ' H'
 | .brk=>∃ σ' H',BL X pins σ' H' s'/\D.bk σ' H'
 | .cont=>∃ σ' H',BL X pins σ' H' s'/\D.ct σ' H'
 | .ret u=>∃ v σ' H',BL X pins σ' H' s'/\RelV v u/\D.rt v H'
def PE (X:Cx)(e:Expr)(t:TE):Prop:=
 ∀ (pins:List (Addr×Obj)) (s:AP) (σ : St) (H:Hp) (Q:VK),BL X pins σ H s->t σ H Q->Bs (Cj X.prog X.w) X.A (eval e X.env) (EP X pins σ Q) X.xe s
def PT (X:Cx)(e:Expr)(t:TT):Prop:=
 ∀ (pins:List (Addr×Obj)) (s:AP) (σ : St) (H:Hp) (Q:Bool->Hp->Prop),BL X pins σ H s->t σ H Q->Bs (Cj X.prog X.w) X.A (isTrue e X.env (eval e X.env)) (TP X pins σ Q) X.xe s
def PW (X:Cx)(e:Expr)(t:TT):Prop:=
 ∀ (whole:Sem FX) (pins:List (Addr×Obj)) (s:AP) (σ : St) (H:Hp) (Q:Bool->Hp->Prop),BL X pins σ H s->t σ H Q->Bs (Cj X.prog X.w) X.A (isTrue e X.env whole) (TP X pins σ Q) X.xe s
theorem PW.pt {X:Cx}{e:Expr}{t:TT}(h:PW X e t):PT X e t:=h _
def PA (X:Cx)(es:List Expr)(t:TA):Prop:=
 ∀ (pos:Pos) (pins:List (Addr×Obj)) (s:AP) (σ : St) (H:Hp) (Q:List V->Hp->Prop),BL X pins σ H s->t σ H Q->Bs (Cj X.prog X.w) X.A (spliced (Kp pos (HI es X.env))) (aeC X pins σ Q) X.xe s
def PS (X:Cx)(st:Stmt)(t:TS):Prop:=
 ∀ (pins:List (Addr×Obj)) (s:AP) (σ : St) (H:Hp) (D:Ends),BL X pins σ H s->t D σ H->Bs (Cj X.prog X.w) X.A (exec st X.env) (SP X pins D) X.xe s
def Nj (X:Cx)(st:List Stmt)(t:TS):Prop:=
 ∀ (pins:List (Addr×Obj)) (s:AP) (σ : St) (H:Hp) (D:Ends),BL X pins σ H s->t D σ H->Bs (Cj X.prog X.w) X.A (execs st X.env) (SP X pins D) X.xe s
theorem Ia {α : Type}{t:Sem α}{Q Q':α->AP->Prop}{M:Model}{A:Dp}{E:FX->AP->Prop}{s:AP}(h:Bs M A t Q E s)(hQ:∀ a s,Q a s->Q' a s):Bs M A t Q' E s:=Oi h hQ fun _ _ x=>x
section
variable {X:Cx}
def aaX (i:Nat):TE:=fun σ H Q=>∃ v,σ[i]?=Dn (Dn v)/\Q v H
def tC (v:V):TE:=fun _ H Q=>Q v H
theorem Xj {i:Nat}{x:Str}{pos:Pos}(hN:X.N[i]?=Dn x)(hv:Vis X.env.scope x)(hd:(x==("__debug__" : Str))=false:=by decide)(hcd:(x==("__classdict__" : Str))=false:=by decide):PE X (.Name x pos) (aaX i):=by
 intro pins s σ H Q I h
 obtain ⟨v,e,h⟩:=h
 obtain ⟨m,hn,hl⟩:=I.loc
 obtain ⟨u,r,l⟩:=hl i x v hN e hv
 have fin:EP X pins σ Q u s:=⟨v,H,I,r,h⟩
 rcases l with ⟨hk,hm⟩ | ⟨hk,c,hc,hcell⟩
 ·exact wpAny_Name (wpAny_loadName_local I.ok.kind hk hn hm fin) hd
 ·rcases hk with hk | hk
  ·exact wpAny_Name (wpAny_loadName_cell I.ok.kind hk hc hcell fin) hd
  ·exact wpAny_Name (wpAny_loadName_free I.ok.kind hk hc hcell fin hcd) hd
theorem ZD {i j pos}:PE X (.Constant (.int i) j pos) (tC (.int i)):=fun _ _ _ H _ I h=>wpAny_Constant_int ⟨.int i,H,I.tok _,⟨_,rfl⟩,h⟩
theorem acF {b j pos}:PE X (.Constant (.bool b) j pos) (tC (.bl b)):=fun _ _ _ H _ I h=>Constant_bool ⟨.bl b,H,I,rfl,h⟩
theorem XC {j pos}:PE X (.Constant .none j pos) (tC .non):=fun _ _ _ H _ I h=>Constant_none ⟨.non,H,I,rfl,h⟩
theorem YM {x j pos}:PE X (.Constant (.str x) j pos) (tC (.str x)):=fun _ _ _ H _ I h=>Calls.Constant_str ⟨.str x,H,I.tok _,⟨_,rfl⟩,h⟩
def Gl (X:Cx)(x:Str):Prop:=X.env.kindOf x=Dn .globalImplicit
theorem Dy {E:FX->AP->Prop}{pins:List (Addr×Obj)}{s:AP}{σ : St}{H:Hp}{x:Str}{u:FX}{pos:Pos}{Q:FX->AP->Prop}(I:BL X pins σ H s)(hg:Gl X x)(hm:X.mg x=Dn u)(h:Q u s)
  (hd:(x==("__debug__" : Str))=false:=by decide):Bs (Cj X.prog X.w) X.A (eval (.Name x pos) X.env) Q E s:=
 Calls.Name_function_global I.ok.kind hg (Calls.loadGlobal_global (by rw [I.ok.glob];exact I.mod.glob.keeps I.bk) hm h) hd
theorem uY {E:FX->AP->Prop}{pins:List (Addr×Obj)}{s:AP}{σ : St}{H:Hp}{x:Str}{u:FX}{pos:Pos}{Q:FX->AP->Prop}(I:BL X pins σ H s)(hg:Gl X x)(hm:X.mg x=FN)(hv:TJ x=Dn u)(h:Q u s)
  (hn:x ≠ "__name__":=by decide) (hd:(x==("__debug__" : Str))=false:=by decide):Bs (Cj X.prog X.w) X.A (eval (.Name x pos) X.env) Q E s:=by
 obtain ⟨mb,h1,h2⟩:=I.mod.blt
 exact Calls.Name_function_global I.ok.kind hg (Calls.loadGlobal_builtin (by rw [I.ok.glob];exact I.mod.glob.keeps I.bk) hm (by rw [I.ok.blt];exact h1.keeps I.bk) ((h2 x hn).trans hv) h) hd
theorem J1 {x:Str}{v:V}{u:FX}{pos:Pos}(hg:Gl X x)(hm:X.mg x=Dn u)(r:RelV v u)(hd:(x==("__debug__" : Str))=false:=by decide):PE X (.Name x pos) (tC v):=
 fun _ _ _ H _ I h=>Dy I hg hm ⟨v,H,I,r,h⟩ hd
theorem ahe {x:Str}{v:V}{u:FX}{pos:Pos}(hg:Gl X x)(hm:X.mg x=FN)(hv:TJ x=Dn u)(r:RelV v u)(hn:x ≠ "__name__":=by decide)(hd:(x==("__debug__" : Str))=false:=by decide):PE X (.Name x pos) (tC v):=
 fun _ _ _ H _ I h=>uY I hg hm hv ⟨v,H,I,r,h⟩ hn hd
variable {a b:Expr}{ta tb:TE}{pos:Pos}
variable {tA tB':TT}{rest:List Expr}
def adG (t u:TT):TT:=fun σ H Q=>t σ H fun c H1=>if c=true then u σ H1 Q else Q false H1
def tOr (t u:TT):TT:=fun σ H Q=>t σ H fun c H1=>if c=true then Q true H1 else u σ H1 Q
def adR (t:TT):TT:=fun σ H Q=>t σ H fun c H1=>Q (!c) H1
theorem afL (ha:PT X a tA):PW X (.BoolOp .And [a] pos) tA:=by
 intro wh pins s σ H Q I h
 refine isTrue_and (Ia (ha pins s σ H Q I h) fun c s1 e=>?_)
 cases c with
 | true=>exact isTrue_and_nil e
 | false=>exact e
theorem XQ (ha:PT X a tA):PW X (.BoolOp .Or [a] pos) tA:=by
 intro wh pins s σ H Q I h
 refine isTrue_or (Ia (ha pins s σ H Q I h) fun c s1 e=>?_)
 cases c with
 | false=>exact isTrue_or_nil e
 | true=>exact e
theorem YK (ha:PT X a tA)(hb:PW X (.BoolOp .And (b::rest) pos) tB'):PW X (.BoolOp .And (a::b::rest) pos) (adG tA tB'):=by
 intro wh pins s σ H Q I h
 refine isTrue_and (Ia (ha pins s σ H _ I h) fun c s1 ⟨H1,I1,q1⟩=>?_)
 cases c with
 | true=>exact hb wh pins s1 σ H1 Q I1 q1
 | false=>exact ⟨H1,I1,q1⟩
theorem aby (ha:PT X a tA)(hb:PW X (.BoolOp .Or (b::rest) pos) tB'):PW X (.BoolOp .Or (a::b::rest) pos) (tOr tA tB'):=by
 intro wh pins s σ H Q I h
 refine isTrue_or (Ia (ha pins s σ H _ I h) fun c s1 ⟨H1,I1,q1⟩=>?_)
 cases c with
 | true=>exact ⟨H1,I1,q1⟩
 | false=>exact hb wh pins s1 σ H1 Q I1 q1
theorem aax (ha:PT X a tA):PT X (.UnaryOp .Not a pos) (adR tA):=by
 intro pins s σ H Q I h
 exact isTrue_not (ha pins s σ H (fun c H1=>Q (!c) H1) I h)
def tIf (t:TT)(ta tb:TE):TE:=fun σ H Q=>t σ H fun c H1=>if c=true then ta σ H1 Q else tb σ H1 Q
theorem afm {c:Expr}(hc:PT X c tA)(ha:PE X a ta)(hb:PE X b tb):PE X (.IfExp c a b pos) (tIf tA ta tb):=by
 intro pins s σ H Q I h
 refine wpAny_IfExp (Ia (hc pins s σ H _ I h) fun d s1 ⟨H1,I1,q1⟩=>?_)
 cases d with
 | true=>exact ha pins s1 σ H1 Q I1 q1
 | false=>exact hb pins s1 σ H1 Q I1 q1
end
def Je (K:BZ)(H:Hp)(a:Addr)(xs:List V):Prop:=
 Rd H a (.lst xs) \/
  ∃ (o:Obj) (its:Array FX) (n:Nat),K.lookup a=Dn o/\o.cls=.type "list"/\o.dict=FN/\o.data=.seq its n/\its.size<=Ig/\Bm xs its.toList
def Jg (K:BZ)(H:Hp)(a:Addr)(xs:List V):Prop:=
 Rd H a (.tup xs) \/
  ∃ (o:Obj) (its:Array FX) (n:Nat),K.lookup a=Dn o/\o.cls=.type "tuple"/\o.data=.seq its n/\its.size<=Ig/\Bm xs its.toList/\o.dict=FN
def adK:FX->Option V
 | .none=>Dn .non
 | .bool b=>Dn (.bl b)
 | .int i _=>Dn (.int i)
 | .str x _=>Dn (.str x)
 | .bytes b _=>Dn (.byt b)
 | .float b _=>Dn (.flt b)
 | .ref a=>Dn (.ref a)
 | .type n=>Dn (.ty n)
 | _=>FN
theorem RelV.abs {x:V}{u:FX}(r:RelV x u):adK u=Dn x:=by
 cases x with
 | non=>cases r;rfl
 | bl _=>cases r;rfl
 | int _=>obtain ⟨t,rfl⟩:=r;rfl
 | str _=>obtain ⟨t,rfl⟩:=r;rfl
 | byt _=>obtain ⟨t,rfl⟩:=r;rfl
 | flt _=>obtain ⟨t,rfl⟩:=r;rfl
 | ref _=>cases r;rfl
 | ty _=>cases r;rfl
theorem RelV.inj {x y:V}{u:FX}(r:RelV x u)(q:RelV y u):x=y:=Ja (r.abs.symm.trans q.abs)
theorem Bm.inj:∀ {xs ys:List V} {us:List FX},Bm xs us->Bm ys us->xs=ys
 | _,_,_,.nil,.nil=>rfl
 | _,_,_,.cons r t,.cons r' t'=>by rw [r.inj r',Bm.inj t t']
section
variable {X:Cx}{pins:List (Addr×Obj)}{σ : St}{H:Hp}{s:AP}{a:Addr}{xs ys:List V}
theorem Je.of {K:BZ}(h:H a=Dn (.lst xs)):Je K H a xs:=.inl (.inl h)
theorem Jg.of {K:BZ}(h:H a=Dn (.tup xs)):Jg K H a xs:=.inl (.inl h)
theorem BL.list (I:BL X pins σ H s)(h:Je X.K H a xs):∃ its:List FX,Bm xs its/\PlainL s.heap a its.toArray/\xs.length<=Ig:=by
 rcases h with h | ⟨o,its,n,hk,hc,hd,hs,hz,r⟩
 ·obtain ⟨z,its,n,r,e⟩:=h.ok I.hok
  exact ⟨its,r,⟨_,n,e,rfl,rfl,rfl⟩,z⟩
 ·refine ⟨its.toList,r,⟨o,n,I.kIn a o hk,hc,hd,by simpa using hs⟩,?_⟩
  have e:=r.length
  simp only [Array.length_toList] at e
  lia
theorem BL.tupO (I:BL X pins σ H s)(h:Jg X.K H a xs):∃ its:List FX,Bm xs its/\Oh s.heap a its.toArray/\xs.length<=Ig:=by
 rcases h with h | ⟨o,its,n,hk,hc,hs,hz,r,hd⟩
 ·obtain ⟨z,its,r,p⟩:=h.ok I.hok
  exact ⟨its,r,p,z⟩
 ·refine ⟨its.toList,r,⟨o,I.kIn a o hk,hc,⟨n,by simpa using hs⟩,hd⟩,?_⟩
  have e:=r.length
  simp only [Array.length_toList] at e
  lia
theorem BL.tuple (I:BL X pins σ H s)(h:Jg X.K H a xs):∃ its:List FX,Bm xs its/\IsTup s.heap a its.toArray/\xs.length<=Ig:=let ⟨its,r,p,z⟩:=I.tupO h;⟨its,r,p.tup,z⟩
theorem BL.list_inj (I:BL X pins σ H s)(h:Je X.K H a xs)(h':Je X.K H a ys):xs=ys:=by
 obtain ⟨its,r,⟨o,n,e,_,_,d⟩,_⟩:=I.list h
 obtain ⟨its',r',⟨o',n',e',_,_,d'⟩,_⟩:=I.list h'
 rw [e] at e';cases e'
 rw [d] at d'
 injection d' with d1 _
 have:its=its':=by simpa using congrArg Array.toList d1
 subst this
 exact r.inj r'
theorem BL.tuple_inj (I:BL X pins σ H s)(h:Jg X.K H a xs)(h':Jg X.K H a ys):xs=ys:=by
 obtain ⟨its,r,⟨o,e,_,n,d⟩,_⟩:=I.tuple h
 obtain ⟨its',r',⟨o',e',_,n',d'⟩,_⟩:=I.tuple h'
 rw [e] at e';cases e'
 rw [d] at d'
 injection d' with d1 _
 have:its=its':=by simpa using congrArg Array.toList d1
 subst this
 exact r.inj r'
end
abbrev Cx.wish (X:Cx)(E:FX->AP->Prop):Cx:={ X with xe:=E }
abbrev Cx.nox (X:Cx):Cx:=X.wish fun _ _=>False
theorem Cx.Ok.wish {X:Cx}(ok:X.Ok)(E:FX->AP->Prop):(X.wish E).Ok:=
 ⟨ok.mod,ok.kind,ok.glob,ok.blt,ok.above,ok.inj,ok.has,ok.cab,ok.hd,ok.qt,ok.frames,ok.stk,ok.exf,ok.bs,ok.bsz,ok.noex,ok.exfs,ok.funs,ok.frf⟩
theorem Cx.Ok.unwish {X:Cx}{E:FX->AP->Prop}(ok:(X.wish E).Ok):X.Ok:=
 ⟨ok.mod,ok.kind,ok.glob,ok.blt,ok.above,ok.inj,ok.has,ok.cab,ok.hd,ok.qt,ok.frames,ok.stk,ok.exf,ok.bs,ok.bsz,ok.noex,ok.exfs,ok.funs,ok.frf⟩
section
variable {X:Cx}{pins:List (Addr×Obj)}{σ : St}{H:Hp}{s:AP}{E:FX->AP->Prop}
theorem BL.wish (I:BL X pins σ H s)(E:FX->AP->Prop):BL (X.wish E) pins σ H s:=⟨I.ok.wish E,I.os,I.bare,I.base,I.loc,I.cell,I.free,I.freeC,I.pin,I.hok,I.len⟩
theorem BL.unwish (I:BL (X.wish E) pins σ H s):BL X pins σ H s:=⟨I.ok.unwish,I.os,I.bare,I.base,I.loc,I.cell,I.free,I.freeC,I.pin,I.hok,I.len⟩
theorem SP.unwish {D:Ends}{f:Flow}{s':AP}(h:SP (X.wish E) pins D f s'):SP X pins D f s':=by
 cases f with
 | next=>obtain ⟨σ',H',I,q⟩:=h;exact ⟨σ',H',I.unwish,q⟩
 | brk=>obtain ⟨σ',H',I,q⟩:=h;exact ⟨σ',H',I.unwish,q⟩
 | cont=>obtain ⟨σ',H',I,q⟩:=h;exact ⟨σ',H',I.unwish,q⟩
 | ret u=>obtain ⟨v,σ',H',I,r,q⟩:=h;exact ⟨v,σ',H',I.unwish,r,q⟩
theorem Nj.nox {st:List Stmt}{t:TS}(h:Nj X.nox st t):Nj X st t:=fun pins s σ H D I hw=>
 Oi (h pins s σ H D (I.wish _) hw) (fun _ _ q=>q.unwish) fun _ _ z=>Qd z
end
section
variable {X:Cx}{st:Stmt}{rest:List Stmt}{t u:TS}{e:Expr}{te:TE}{pos:Pos}
def abV:TS:=fun D σ H=>D.nx σ H
def aed (t u:TS):TS:=fun D σ H=>t { D with nx:=u D } σ H
theorem Vp:Nj X [] abV:=fun _ _ σ H _ I h=>wpAny_execs_nil ⟨σ,H,I,h⟩
theorem agt (h1:PS X st t)(h2:Nj X rest u):Nj X (st::rest) (aed t u):=by
 intro pins s σ H D I h
 refine wpAny_execs_cons (Ia (h1 pins s σ H { D with nx:=u D } I h) fun f s1 q=>?_)
 cases f with
 | next=>
  obtain ⟨σ',H',I',q⟩:=q
  exact h2 pins s1 σ' H' D I' q
 | ret v=>exact q
 | brk=>exact q
 | cont=>exact q
theorem agG (h1:PS X st t):Nj X [st] t:=by
 intro pins s σ H D I h
 refine wpAny_execs_cons (Ia (h1 pins s σ H D I h) fun f s1 q=>?_)
 cases f with
 | next=>exact wpAny_execs_nil q
 | ret v=>exact q
 | brk=>exact q
 | cont=>exact q
theorem BL.quiet {pins:List (Addr×Obj)}{σ : St}{H:Hp}{s:AP}(I:BL X pins σ H s):interactive X.env=false:=by simp [interactive,I.ok.kind]
def abl (te:TE):TS:=fun D σ H=>te σ H fun _ H1=>D.nx σ H1
theorem Wn (he:PE X e te)(hs:swapsWith e FN pos.line X.env=pure false:=by rfl):PS X (.Expr e pos) (abl te):=by
 intro pins s σ H D I h
 exact wpAny_Expr_any (Ia (he pins s σ H _ I h) fun v s1 ⟨x,H1,I1,r1,q1⟩=>⟨σ,H1,I1,q1⟩) I.quiet hs
def aea (te:TE):TS:=fun D σ H=>te σ H D.rt
theorem Ym (he:PE X e te):PS X (.Return (Dn e) pos) (aea te):=by
 intro pins s σ H D I h
 exact wpAny_Return_some (Ia (he pins s σ H _ I h) fun v s1 ⟨x,H1,I1,r1,q1⟩=>⟨x,σ,H1,I1,r1,q1⟩)
def adN (c:TT)(t u:TS):TS:=fun D σ H=>c σ H fun b H1=>if b=true then t D σ H1 else u D σ H1
theorem ace {c:Expr}{a b:List Stmt}{tc:TT}(hc:PT X c tc)(ha:Nj X a t)(hb:Nj X b u):PS X (.If c a b pos) (adN tc t u):=by
 intro pins s σ H D I h
 refine wpAny_If (Ia (hc pins s σ H _ I h) fun d s1 ⟨H1,I1,q1⟩=>?_)
 cases d with
 | true=>exact ha pins s1 σ H1 D I1 q1
 | false=>exact hb pins s1 σ H1 D I1 q1
def Xl:TS:=fun _ _ _=>False
theorem aga:PS X st Xl:=fun _ _ _ _ _ _ h=>h.elim
end
abbrev TG:=V->St->Hp->(St->Hp->Prop)->Prop
abbrev Qk:=List V->St->Hp->(St->Hp->Prop)->Prop
def PG (X:Cx)(target:Expr)(t:TG):Prop:=
 ∀ (pins:List (Addr×Obj)) (s:AP) (σ : St) (H:Hp) (v:V) (u:FX) (Q:St->Hp->Prop),BL X pins σ H s->RelV v u->t v σ H Q ->
  Bs (Cj X.prog X.w) X.A (assign target X.env u) (fun _ s'=>∃ σ' H',BL X pins σ' H' s'/\Q σ' H') X.xe s
def S9 (X:Cx)(ts:List Expr)(t:Qk):Prop:=
 ∀ (pins:List (Addr×Obj)) (s:AP) (σ : St) (H:Hp) (vs:List V) (us:List FX) (Q:St->Hp->Prop),BL X pins σ H s->Bm vs us->t vs σ H Q ->
  Bs (Cj X.prog X.w) X.A (assignInOrder ((MH ts X.env).map (·.2)) us) (fun _ s'=>∃ σ' H',BL X pins σ' H' s'/\Q σ' H') X.xe s
abbrev aac:=V->V->V->Hp->(Hp->Prop)->Prop
def acH (X:Cx)(t:aac):Prop:=
 ∀ (pins:List (Addr×Obj)) (s:AP) (σ : St) (H:Hp) (o i v:V) (ov iv u:FX) (Q:Hp->Prop),BL X pins σ H s->RelV o ov->RelV i iv->RelV v u->t o i v H Q ->
  Bs (Cj X.prog X.w) X.A (setItem ov iv u) (fun _ s'=>∃ H',BL X pins σ H' s'/\Q H') X.xe s
section
variable {X:Cx}{pos:Pos}
def Lb (i:Nat):TG:=fun v σ H Q=>Q (σ.set i (Dn v)) H
theorem bx {i:Nat}{x:Str}(hN:X.N.Nodup)(hi:X.N[i]?=Dn x)(hx:Loc X.env.scope x)(hf:X.fn x=true\/X.env.scope.names.lookup x=Dn .local:=by first | exact .inl rfl | exact .inr rfl | assumption):PG X (.Name x pos) (Lb i):=by
 intro pins s σ H v u Q I r h
 exact wpAny_assign_Name (uJ I hN hi hx r (fun s' I'=>⟨_,H,I',h⟩) hf)
def adL:Qk:=fun vs σ H Q=>vs=[]/\Q σ H
def abu (t:TG)(u:Qk):Qk:=fun vs σ H Q=>∃ v r,vs=v::r/\t v σ H fun σ' H'=>u r σ' H' Q
theorem JH:S9 X [] adL:=by
 intro pins s σ H vs us Q I r h
 obtain ⟨e,h⟩:=h
 subst e
 cases r
 exact assignInOrder_nil ⟨σ,H,I,h⟩
theorem zK {e:Expr}{es:List Expr}{t:TG}{u:Qk}(h1:PG X e t)(h2:S9 X es u)
  (hs:(MH (e::es) X.env).map (·.2)=assign e X.env::(MH es X.env).map (·.2):=by rfl):S9 X (e::es) (abu t u):=by
 intro pins s σ H vs us Q I r h
 obtain ⟨v,vr,e1,h⟩:=h
 subst e1
 cases r with
 | cons r rr=>
  rw [hs]
  refine assignInOrder_cons (Ia (h1 pins s σ H _ _ _ I r h) fun _ s1 ⟨σ1,H1,I1,q1⟩=>?_)
  exact h2 pins s1 σ1 H1 _ _ Q I1 rr q1
def ad8 (K:BZ)(n:Nat)(t:Qk):TG:=fun v σ H Q=>∃ a xs,v=.ref a/\Jg K H a xs/\xs.length=n/\t xs σ H Q
theorem W5 {es:List Expr}{k:Nat}{t:Qk}{n:Nat}(hc:X.calm=true)(h:S9 X es t)
  (hn:(MH es X.env).length=n:=by rfl) (hst:(MH es X.env).findIdx? (·.1)=FN:=by rfl):PG X (.Tuple es k pos) (ad8 X.K n t):=by
 intro pins s σ H v u Q I r hw
 obtain ⟨a,xs,e1,hq,hl,hw⟩:=hw
 subst e1
 cases r
 obtain ⟨its,rv,ht,hz⟩:=I.tuple hq
 refine assign_Tuple_tuple (I.ok.hd hc) ht (by simp [hn,<-hl,rv.length]) hst fun h' hx=>?_
 have I1:BL X pins σ H { s with heap:=h' }:=I.kept (t':=s.toks) fun b o e=>hx b o (KQ (Il e)) e
 exact h pins _ σ H xs _ Q I1 (by simpa using rv) hw
def adS (to ti:TE)(t:aac):TG:=fun v σ H Q=>to σ H fun o H1=>ti σ H1 fun i H2=>t o i v H2 fun H3=>Q σ H3
theorem X4 {o i:Expr}{to ti:TE}{t:aac}(ho:PE X o to)(hi:PE X i ti)(hs:acH X t)
  (ha:∀ v,assign (.Subscript o i pos) X.env v=(do
   let ov <-holding [v] (eval o X.env)
   let iv <-holding [v,ov] (eval i X.env)
   standAt pos
   holding [v,ov,iv] (setItem ov iv v)
   release [v,ov,iv] []):=by intro _;rfl):PG X (.Subscript o i pos) (adS to ti t):=by
 intro pins s σ H v u Q I r h
 rw [ha]
 refine Bl (Qc (Ia (ho pins s σ H _ I h) fun ov s1 ⟨x,H1,I1,r1,q1⟩=>?_))
 refine Bl (Qc (Ia (hi pins s1 σ H1 _ I1 q1) fun iv s2 ⟨y,H2,I2,r2,q2⟩=>?_))
 refine Bl (wpAny_standAt (Bl (Qc (Ia (hs pins s2 σ H2 x y v ov iv u _ I2 r1 r2 r q2) fun _ s3 ⟨H3,I3,q3⟩=>?_))))
 exact wpAny_release ⟨σ,H3,I3,q3⟩
def ZJ (te:TE)(g:TG):TS:=fun D σ H=>te σ H fun x H1=>g x σ H1 D.nx
theorem Xm {tg e:Expr}{te:TE}{g:TG}(he:PE X e te)(hg:PG X tg g)(hs:swapsWithSole [tg] e pos.line X.env=pure false:=by rfl)(hw:swappedStores [tg] e X.env=pure FN:=by rfl)
  (h1:(MH [tg] X.env).map (·.2)=[assign tg X.env]:=by rfl):PS X (.Assign [tg] e pos) (ZJ te g):=by
 intro pins s σ H D I h
 refine wpAny_Assign_stores (Ia (he pins s σ H _ I h) fun v s1 ⟨x,H1,I1,r1,q1⟩=>?_) hs hw
 rw [h1]
 exact Ia (hg pins s1 σ H1 x v _ I1 r1 q1) fun _ s2 q=>q
theorem Z1 {i:Nat}{x:Str}{e:Expr}{te:TE}{pos':Pos}(hN:X.N.Nodup)(hi:X.N[i]?=Dn x)(hx:Loc X.env.scope x)(he:PE X e te)(hs:swapsWith e (Dn (.Name x pos')) pos.line X.env=pure false:=by rfl)(hf:X.fn x=true\/X.env.scope.names.lookup x=Dn .local:=by first | exact .inl rfl | exact .inr rfl | assumption) :
  PS X (.Assign [.Name x pos'] e pos) (ZJ te (Lb i)):=by
 intro pins s σ H D I h
 refine wpAny_Assign_Name (Ia (he pins s σ H _ I h) fun v s1 ⟨y,H1,I1,r1,q1⟩=>?_) hs
 exact uJ I1 hN hi hx r1 (fun s2 I2=>⟨_,H1,I2,q1⟩) hf
def ada (i j:Nat)(ta:TA):TS:=fun D σ H=>ta σ H fun vs H1=>∃ v w,vs=[v,w]/\D.nx ((σ.set i (Dn v)).set j (Dn w)) H1
theorem ZR {i j:Nat}{x y:Str}{a b:Expr}{ta:TA}{px py pt:Pos}{kt k2 pt2}(hc:X.calm=true)(hN:X.N.Nodup)(hi:X.N[i]?=Dn x)(hj:X.N[j]?=Dn y)(hij:i≠j)
  (hx:X.env.scope.names.lookup x=Dn .local) (hy:X.env.scope.names.lookup y=Dn .local) (ha:PA X [a,b] ta)
  (hw:swappedStores [.Tuple [.Name x px,.Name y py] kt pt] (.Tuple [a,b] k2 pt2) X.env=pure (Dn [x,y]))
  (hs:swapsWithSole [.Tuple [.Name x px,.Name y py] kt pt] (.Tuple [a,b] k2 pt2) pos.line X.env=pure false:=by rfl) :
  PS X (.Assign [.Tuple [.Name x px,.Name y py] kt pt] (.Tuple [a,b] k2 pt2) pos) (ada i j ta):=by
 intro pins s σ H D I h
 rw [exec_Assign_arm]
 refine Bl (wpAny_standAt ?_)
 rw [hs]
 refine Bl (HY ?_)
 rw [if_neg (by decide)]
 refine Bl (Tuple_ (Ia (ha _ pins s σ H _ I h) fun us s1 ⟨vs,H1,I1,r1,q1⟩=>?_))
 obtain ⟨v,w,e1,q1⟩:=q1
 subst e1
 obtain ⟨u1,u2,rfl,rv,rw'⟩:∃ u1 u2,us=[u1,u2]/\RelV v u1/\RelV w u2:=by
  cases r1 with
  | cons p q=>
   cases q with
   | cons p' q'=>
    cases q'
    exact ⟨_,_,rfl,p,p'⟩
 refine Pn ?_ (by show 2<=Ig;decide)
 have I2:BL X pins σ H1 { s1 with heap:=s1.heap.push { cls:=.type "tuple",data:=.seq [u1,u2].toArray } }:=I1.kept (t':=s1.toks) fun b o e=>J6 _ e
 rw [hw]
 refine Bl (HY ?_)
 show Bs (Cj X.prog X.w) X.A (do rule "assign.swapped-stores";let items <-unpackItems (.ref s1.heap.objs.size) 2 FN;assignInOrder [fun v=>bindName X.env y v,fun v=>bindName X.env x v] items.reverse;pure Flow.next) _ _ _
 refine Bl (U5 (Bl (unpackItems_tuple (items:=#[u1,u2]) (I.ok.hd hc) (IsTup.new s1.heap _) fun h' hx'=>?_)))
 have I3:=I2.kept (h':=h') (t':=s1.toks) fun b o e=>hx' b o (KQ (Il e)) e
 show Bs _ _ (assignInOrder [fun v=>bindName X.env y v,fun v=>bindName X.env x v] [u2,u1] >>= fun _=>pure Flow.next) _ _ _
 refine Bl (assignInOrder_cons (wpAny_bindName (uJ I3 hN hj (.inl hy) rw' (fun s2 I4=>?_) (.inr hy))))
 refine assignInOrder_cons (wpAny_bindName (uJ I4 hN hi (.inl hx) rv (fun s3 I5=>assignInOrder_nil (HY ?_)) (.inr hx)))
 rw [List.set_comm _ _ (N8 hij)] at I5
 exact ⟨_,H1,I5,q1⟩
def Yl (c:TT)(tb:TS):TS:=fun D σ H=>∃ W:Nat->St->Hp->Prop,(∃ m,W m σ H)/\∀ m σ H,W m σ H ->
 c σ H fun b H1=>if b=true then ∃ N:St->Hp->Prop,(∀ σ' H',N σ' H'->∃ m',m'<m/\W m' σ' H')/\tb { D with nx:=N,ct:=N,bk:=D.nx } σ H1 else D.nx σ H1
theorem zbo {c:Expr}{body:List Stmt}{tc:TT}{tb:TS}(hp:Vm (Cj X.prog X.w) X.A X.env X.xe)(hc:PT X c tc)(hb:Nj X body tb):PS X (.While c body [] pos) (Yl tc tb):=by
 intro pins s σ H D I h
 obtain ⟨W,⟨m0,w0⟩,turn⟩:=h
 refine wpAny_While (codeAny_whileLoop (fun n s'=>∃ σ' H',BL X pins σ' H' s'/\W n σ' H') ?_ m0 ⟨σ,H,I,w0⟩)
 rintro n s1 ⟨σ1,H1,I1,w1⟩
 refine UL hp (Ia (hc pins s1 σ1 H1 _ I1 (turn n σ1 H1 w1)) fun b s2 ⟨H2,I2,q2⟩=>?_)
 cases b with
 | true=>
  obtain ⟨N,hN,q2⟩:=q2
  rw [if_pos rfl]
  refine UL hp (Ia (hb pins s2 σ1 H2 _ I2 q2) fun f s3 q3=>?_)
  cases f with
  | next=>
   obtain ⟨σ3,H3,I3,n3⟩:=q3
   obtain ⟨m',hm,w3⟩:=hN σ3 H3 n3
   exact ⟨m',hm,σ3,H3,I3,w3⟩
  | cont=>
   obtain ⟨σ3,H3,I3,n3⟩:=q3
   obtain ⟨m',hm,w3⟩:=hN σ3 H3 n3
   exact ⟨m',hm,σ3,H3,I3,w3⟩
  | brk=>exact q3
  | ret v=>exact q3
 | false=>
  rw [if_neg Nb]
  exact wpAny_execs_nil ⟨σ1,H2,I2,q2⟩
end
theorem zV:entryFor table "proto.unchain" = Dn Qu.«proto.unchain»:=entryFor_of_tree (by kernel_rfl)
def Fg (A:Dp)(h:Heap):Prop:=∀ v,A.handled=Dn v->∃ (a:Addr) (o:Obj) (vs:Array FX),v=.ref a/\h.get? a=Dn o/\o.data=.fields vs/\vs[2]?=Dn .none
theorem zau {A:Dp}{P:Dr}{w:Ci}{H:Hp}{h:Heap}(q:Quiet A H)(x:Kw P w H h):Fg A h:=fun v e=>by
 obtain ⟨a,o,u,vs,h1,h2,h3,h4⟩:=q v e
 exact ⟨a,o,vs,h1,(x a _ h2).1,h3,h4⟩
theorem zaw {α : Type}{prog:Dr}{w:Ci}{A:Dp}{E:FX->AP->Prop}{s:AP}{e:Addr}{oe:Obj}{ws:Array FX}{Q:α->AP->Prop}(hq:Fg A s.heap)(he:s.heap.get? e=Dn oe)(hd:oe.data=.fields ws)(hz:2<ws.size)(hne:∀ v,A.handled=Dn v->v≠.ref e)
  (h:∀ h',(∀ b,b≠e->h'.get? b=s.heap.get? b)->(∃ o',h'.get? e=Dn o'/\o'.cls=oe.cls)->E (.ref e) { s with heap:=h' }):Bs (Cj prog w) A (raiseNew (.ref e):Sem α) Q E s:=by
 unfold raiseNew
 refine Bl (wpAny_handled ?_)
 cases hh:A.handled with
 | none=>
  dsimp only
  refine Bl (HY (wpAny_throw ?_))
  exact h s.heap (fun _ _=>rfl) ⟨oe,he,rfl⟩
 | some v=>
  obtain ⟨a,o,vs,rfl,ho,hdo,h2⟩:=hq v hh
  dsimp only
  have ne:(Value.ref a != Value.ref e)=true:=by
   have:=hne _ hh
   simp only [bne_iff_ne,ne_eq]
   exact this
  rw [if_pos ne]
  refine Bl (Qc (wpAny_runValue (codeAny_builtin zV ?_)))
  unfold Qu.«proto.unchain»
  dsimp only
  refine Bl (Lw ho hdo h2 ?_)
  rw [if_pos (show (Value.none==Value.none)=true from rfl)]
  refine Bl (HY (HY ?_))
  dsimp only
  refine Bl ?_
  unfold updateField
  refine Bl (wpAny_load he ?_)
  rw [hd]
  dsimp only
  rw [if_pos hz]
  refine wpAny_update he (wpAny_throw ?_)
  have hd3:=U7 hd (·.setIfInBounds 2 (Value.ref a))
  exact h _ (fun b hb=>Heap.get?_update_other _ _ (N8 hb)) ⟨_,VH _ he (VN hd3),Obj.cls_mapFields _ _⟩
theorem afw {prog:Dr}{w:Ci}{A:Dp}{E:FX->AP->Prop}{s:AP}{it:Addr}{x left step:Int}{Q:Option FX->AP->Prop}(hh:Fg A s.heap)(hit:IsRangeIter s.heap it x left step)(hleft:left<=0)
  (hQ:∀ h',Ue it s.heap h'->Q FN { s with heap:=h' }):Bs (Cj prog w) A (Oz (.ref it)) Q E s:=by
 have hT:s.TypeIs (.ref it) "range_iterator":=⟨_,hit,rfl⟩
 unfold Oz
 refine Bl (U0 (Tc (name:=TQ "__next__") hT F.slot_range_iterator_next
  (S5 F.slot_range_iterator_next hT F.entry_range_iterator_next ?_ (F.args_range_iterator_next_1 _))))
 show Bs _ _ (field (.ref it) 0 >>= _) _ _ s
 refine Bl (Lw hit rfl (x:=O4 x) rfl ?_)
 show Bs _ _ (field (.ref it) 1 >>= _) _ _ s
 refine Bl (Lw hit rfl (x:=O4 left) rfl ?_)
 show Bs _ _ (field (.ref it) 2 >>= _) _ _ s
 refine Bl (Lw hit rfl (x:=O4 step) rfl ?_)
 show Bs _ _ (if left<=0 then _ else _) _ _ s
 rw [if_pos hleft]
 refine Bl (U5 ?_)
 refine Bl ?_
 show Bs _ _ (newExc (.type "StopIteration") [] >>= _) _ _ _
 refine Bl ?_
 simp only [newExc,newTuple]
 refine Bl (Pn ?_ (by size_fits))
 refine Bl (m:=V2 _ _) (T7 (a:=Value.none) (by first | rfl | (simp only [V2];rfl)) ?_)
 refine Pn ?_ (by size_fits)
 refine zaw (A:=A.in1) (fun v e=>?_) (Lf _ rfl) rfl (by simp;lia) (fun v e=>?_) fun h' h1 ⟨o',h2,h3⟩=>?_
 ·obtain ⟨a,o,vs,r1,r2,r3⟩:=hh v e
  exact ⟨a,o,vs,r1,J6 _ (J6 _ r2),r3⟩
 ·obtain ⟨a,o,vs,r1,r2,r3⟩:=hh v e
  rw [r1]
  intro q
  have q:a=_:=Value.ref.inj q
  have:=Il r2
  rw [q] at this
  exact absurd this (Nat.not_lt.mpr (by simp [Heap.push]))
 refine Bl (wpAny_isInstance (T := "StopIteration") (b:=true) ⟨_,h2,h3⟩ isSubtype_stop ?_)
 refine HY (hQ _ fun b o hb e=>?_)
 rw [h1 b ?_]
 ·exact J6 _ (J6 _ e)
 ·have:=Il e
  exact KQ (Kl this (by simp [Heap.push]))
structure It where
 go:Nat->Hp->Prop
 yld:Nat->Hp->V->Hp->Prop
 stop:Nat->Hp->Prop
 cm:Bool
def Ji (X:Cx)(pins:List (Addr×Obj))(H:Hp)(b:Addr):Prop:=
 H b=FN/\b≠X.env.locals/\b∉X.fs/\(b∈X.ex\/X.s₀.heap.objs.size<=b)/\(∀ x c,X.env.cells.lookup x=Dn c->c≠b)/\∀ p∈X.pn++pins,p.1≠b
theorem BL.fpOk {X:Cx}{pins:List (Addr×Obj)}{σ : St}{H H':Hp}{s:AP}{b:Addr}(I:BL X pins σ H s)(hb:s.heap.objs.size<=b)(hn:H' b=FN):Ji X pins H' b:=by
 refine ⟨hn,Qs (Kl I.lt hb),I.nofs hb,.inr (Jp I.sz hb),fun x c e z=>?_,fun p hp z=>?_⟩
 ·obtain ⟨v,q⟩:=I.cell x c e
  exact absurd (Kl q.lt (by rw [z];exact hb)) (P0 _)
 ·exact absurd (Kl (Il (I.pin p hp).1) (by rw [z];exact hb)) (P0 _)
structure Turn (P:Dr) (w:Ci) (K:BZ) (tg:Expr) (J:It) (fp:List Addr) (it:Addr) (tn:Nat->Heap->Prop):Prop where
 mem:it∈fp
 obj:∀ i h,tn i h->∀ b∈fp,∃ o,h.get? b=Dn o/\∀ v,o.data≠.cell v
 keep:∀ i h h',tn i h->(∀ b∈fp,∀ o,h.get? b=Dn o->h'.get? b=Dn o)->tn i h'
 item:∀ (X:Cx),X.prog=P->X.w=w->X.K=K->(J.cm=true->X.calm=true)->∀ (i:Nat) (pins:List (Addr×Obj)) (s:AP) (σ : St) (H:Hp) (E:FX->AP->Prop),BL X pins σ H s->(∀ b∈fp,Ji X pins H b)->tn i s.heap->J.go i H ->
  Bs (Cj P w) X.A (Oz (.ref it)) (fun r s1=>∃ u,r=Dn u /\
   Bs (Cj P w) X.A (letOwnedTupleGo tg (.ref it) u) (fun _ s2=>∃ x H',BL X pins σ H' s2/\RelV x u/\J.yld i H x H'/\tn (i+1) s2.heap/\∀ b∈fp,H' b=FN) E s1) E s
 done:∀ (X:Cx),X.prog=P->X.w=w->X.K=K->(J.cm=true->X.calm=true)->∀ (i:Nat) (pins:List (Addr×Obj)) (s:AP) (σ : St) (H:Hp) (E:FX->AP->Prop),BL X pins σ H s->(∀ b∈fp,Ji X pins H b)->tn i s.heap->J.stop i H ->
  Bs (Cj P w) X.A (Oz (.ref it)) (fun r s1=>r=FN/\BL X pins σ H s1) E s
 self:∀ (A:Dp) (i:Nat) (s:AP) (Q:FX->AP->Prop) (E:FX->AP->Prop),tn i s.heap->Q (.ref it) s->Bs (Cj P w) A (pyIter (.ref it)) Q E s
abbrev TI:=St->Hp->(It->Hp->Prop)->Prop
def PIE (X:Cx)(pins:List (Addr×Obj))(σ : St)(tg:Expr)(R:It->Hp->Prop)(itv:FX)(s2:AP):Prop:=
 ∃ (it:Addr) (fp:List Addr) (tn:Nat->Heap->Prop) (J:It) (H':Hp),itv=.ref it/\BL X pins σ H' s2/\Turn X.prog X.w X.K tg J fp it tn/\tn 0 s2.heap/\(∀ b∈fp,Ji X pins H' b)/\R J H'
def PI (X:Cx)(tg iter:Expr)(wi:TI):Prop:=
 ∀ (pins:List (Addr×Obj)) (s:AP) (σ : St) (H:Hp) (R:It->Hp->Prop),BL X pins σ H s->wi σ H R ->
  Bs (Cj X.prog X.w) X.A (eval iter X.env) (fun v s1=>Bs (Cj X.prog X.w) X.A (pyIter v) (PIE X pins σ tg R) X.xe s1) X.xe s
theorem M9 {M:Model}{A:Dp}{E:FX->AP->Prop}{s:AP}{tg:Expr}{it:Addr}{u:FX}{o:Obj}{n:String}{vs:Array FX}{Q:Unit->AP->Prop}(ho:s.heap.get? it=Dn o)(hc:o.cls=.type n)(hd:o.data=.fields vs)
    (hn:["enumerate", "zip", "dict_itemiterator", "dict_reverseitemiterator", "odict_iterator", "itertools.zip_longest", "itertools.pairwise"].contains n=false) (hQ:Q () s):Bs M A (letOwnedTupleGo tg (.ref it) u) Q E s:=by
  unfold letOwnedTupleGo
  cases tg <;> first
    | exact HY hQ
    | (cases u <;> first
        | exact HY hQ
        | (refine Bl (wpAny_load ho ?_)
           rw [hc,hd]
           show Bs M A (if (["enumerate", "zip", "dict_itemiterator", "dict_reverseitemiterator", "odict_iterator", "itertools.zip_longest", "itertools.pairwise"].contains n&&vs[0]?==Dn (O4 _))=true then _ else _) Q E s
           rw [if_neg (by intro h;rw [hn,Bool.false_and] at h;cases h)]
           exact HY hQ))
def Itl (K:BZ)(a:Addr):It:=
 ⟨fun i H=>∃ xs x,Je K H a xs/\xs[i]?=Dn x,fun i H x H'=>H'=H/\∀ xs,Je K H a xs->xs[i]?=Dn x,fun i H=>∃ xs,Je K H a xs/\xs.length<=i,true⟩
def Itt (K:BZ)(a:Addr):It:=
 ⟨fun i H=>∃ xs x,Jg K H a xs/\xs[i]?=Dn x,fun i H x H'=>H'=H/\∀ xs,Jg K H a xs->xs[i]?=Dn x,fun i H=>∃ xs,Jg K H a xs/\xs.length<=i,true⟩
def Itr (lo:Int)(n:Nat):It:=⟨fun i _=>i<n,fun i H x H'=>H'=H/\x=.int (lo+i),fun i _=>n<=i,false⟩
theorem zaV {P:Dr}{w:Ci}{K:BZ}{tg:Expr}(a it:Addr):Turn P w K tg (Itl K a) [it] it (fun i h=>h.IsListIter it a i) where
 mem:=by simp
 obj:=fun i h st b hb=>by
  have e:b=it:=by simpa using hb
  subst e
  obtain ⟨o,e,c,d⟩:=st
  exact ⟨o,e,fun v z=>by rw [d] at z;cases z⟩
 keep:=fun i h h' st k=>st.at fun o e=>k it (by simp) o e
 item:=by
  intro X hP hw hK hc i pins s σ H E I hf st hg
  subst hP hw hK
  obtain ⟨xs,x,hq,hx⟩:=hg
  obtain ⟨its,rv,p,hz⟩:=I.list hq
  obtain ⟨u,hu,ru⟩:=rv.get hx
  obtain ⟨f0,f1,f2,f3,f4,f5⟩:=hf it (by simp)
  refine wpAny_pyNext_list_item st p.isList (x:=u) (by simpa using hu) fun h' st' sb=>?_
  have I1:BL X pins σ H { s with heap:=h' }:=I.turned (t':=s.toks) (fun b o hb e=>(sb.2 b hb).trans e) f0 f1 f3 f4 f5
  obtain ⟨o,e,c,d⟩:=id st'
  exact ⟨u,rfl,M9 (s:={ s with heap:=h' }) e c d (by decide) ⟨x,H,I1,ru,⟨rfl,fun ys hy=>by rw [I.list_inj hy hq];exact hx⟩,st',fun b hb=>(hf b hb).1⟩⟩
 done:=by
  intro X hP hw hK hc i pins s σ H E I hf st hg
  subst hP hw hK
  obtain ⟨xs,hq,hx⟩:=hg
  obtain ⟨its,rv,p,hz⟩:=I.list hq
  obtain ⟨f0,f1,f2,f3,f4,f5⟩:=hf it (by simp)
  have hl:=rv.length
  exact wpAny_pyNext_list_end (I.ok.hd (hc rfl)) st p.isList (by simp;lia) fun h' eb=>⟨rfl,I.turned (t':=s.toks) (fun b o hb e=>eb b o hb e) f0 f1 f3 f4 f5⟩
 self:=fun _ _ _ _ _ st h=>wpAny_pyIter_listiter st h
theorem aeQ {P:Dr}{w:Ci}{K:BZ}{tg:Expr}(a it:Addr):Turn P w K tg (Itt K a) [it] it (fun i h=>h.IsTupleIter it a i) where
 mem:=by simp
 obj:=fun i h st b hb=>by
  have e:b=it:=by simpa using hb
  subst e
  obtain ⟨o,e,c,d⟩:=st
  exact ⟨o,e,fun v z=>by rw [d] at z;cases z⟩
 keep:=fun i h h' st k=>st.at fun o e=>k it (by simp) o e
 item:=by
  intro X hP hw hK hc i pins s σ H E I hf st hg
  subst hP hw hK
  obtain ⟨xs,x,hq,hx⟩:=hg
  obtain ⟨its,rv,p,hz⟩:=I.tuple hq
  obtain ⟨u,hu,ru⟩:=rv.get hx
  obtain ⟨f0,f1,f2,f3,f4,f5⟩:=hf it (by simp)
  refine wpAny_pyNext_tuple_item st (show s.heap.IsTuple a its.toArray from p) (x:=u) (by simpa using hu) fun h' st' sb=>?_
  have I1:BL X pins σ H { s with heap:=h' }:=I.turned (t':=s.toks) (fun b o hb e=>(sb.2 b hb).trans e) f0 f1 f3 f4 f5
  obtain ⟨o,e,c,d⟩:=id st'
  exact ⟨u,rfl,M9 (s:={ s with heap:=h' }) e c d (by decide) ⟨x,H,I1,ru,⟨rfl,fun ys hy=>by rw [I.tuple_inj hy hq];exact hx⟩,st',fun b hb=>(hf b hb).1⟩⟩
 done:=by
  intro X hP hw hK hc i pins s σ H E I hf st hg
  subst hP hw hK
  obtain ⟨xs,hq,hx⟩:=hg
  obtain ⟨its,rv,p,hz⟩:=I.tuple hq
  obtain ⟨f0,f1,f2,f3,f4,f5⟩:=hf it (by simp)
  have hl:=rv.length
  exact wpAny_pyNext_tuple_end (I.ok.hd (hc rfl)) st (show s.heap.IsTuple a its.toArray from p) (by simp;lia) fun h' eb=>⟨rfl,I.turned (t':=s.toks) (fun b o hb e=>eb b o hb e) f0 f1 f3 f4 f5⟩
 self:=fun _ _ _ _ _ st h=>wpAny_pyIter_tupleiter st h
theorem zav {P:Dr}{w:Ci}{K:BZ}{tg:Expr}(it:Addr)(lo:Int)(n:Nat):Turn P w K tg (Itr lo n) [it] it (fun i h=>IsRangeIter h it (lo+(i:Nat)*1) ((n:Int) - (i:Nat)) 1) where
 mem:=by simp
 obj:=fun i h st b hb=>by
  have e:b=it:=by simpa using hb
  subst e
  exact ⟨_,st,fun v z=>by
   have z':Data.fields _=Data.cell v:=z
   cases z'⟩
 keep:=fun i h h' st k=>k it (by simp) _ st
 item:=by
  intro X hP hw hK hc i pins s σ H E I hf st hg
  subst hP hw hK
  obtain ⟨f0,f1,f2,f3,f4,f5⟩:=hf it (by simp)
  refine wpAny_pyNext_range_item st (by have:i<n:=hg;lia) fun h' st' kk=>?_
  have I1:BL X pins σ H { s with heap:=h',toks:=s.toks+1 }:=I.turned (fun b o hb e=>(kk.2 b hb).trans e) f0 f1 f3 f4 f5
  have st2:IsRangeIter h' it (lo+((i+1:Nat):Int)*1) ((n:Int) - ((i+1:Nat):Int)) 1:=by
   have e1:lo+((i+1:Nat):Int)*1=lo+((i:Nat):Int)*1+1:=by lia
   have e2:(n:Int) - ((i+1:Nat):Int)=(n:Int) - ((i:Nat):Int) - 1:=by lia
   rw [e1,e2]
   exact st'
  refine ⟨_,rfl,M9 (s:={ s with heap:=h',toks:=s.toks+1 }) (n := "range_iterator") st' rfl rfl (by decide) ⟨.int (lo+i),H,I1,⟨s.toks,?_⟩,⟨rfl,rfl⟩,st2,fun b hb=>(hf b hb).1⟩⟩
  rw [Int.mul_one]
 done:=by
  intro X hP hw hK hc i pins s σ H E I hf st hg
  subst hP hw hK
  obtain ⟨f0,f1,f2,f3,f4,f5⟩:=hf it (by simp)
  exact afw (zau I.qt0 I.hok) st (by have:n<=i:=hg;lia) fun h' eb=>⟨rfl,I.turned (t':=s.toks) (fun b o hb e=>eb b o hb e) f0 f1 f3 f4 f5⟩
 self:=fun _ _ _ _ _ st h=>wpAny_pyIter_rangeiter st h
section
variable {X:Cx}{tg:Expr}
theorem Gi {pins:List (Addr×Obj)}{σ : St}{H:Hp}{s:AP}{R:It->Hp->Prop}{E:FX->AP->Prop}{lo hi:Int}{t u v:Tok}{tk:Nat}(I:BL X pins σ H s)(h1:-(2^62)<=lo)(h2:lo<2^62)(h3:-(2^62)<=hi)(h4:hi<2^62)
  (q:R (Itr lo (hi - lo).toNat) H):Bs (Cj X.prog X.w) X.A (pyIter (.ref s.heap.objs.size)) (PIE X pins σ tg R) E { s with heap:=s.heap.push { cls:=.type "range",data:=.fields #[.int lo t,.int hi u,.int 1 v] },toks:=tk }:=by
 refine wpAny_pyIter_range (IsRange.new ..) (small_one h1 h2 h3 h4) ?_
 have I1:BL X pins σ H { s with heap:=s.heap.push { cls:=.type "range",data:=.fields #[.int lo t,.int hi u,.int 1 v] },toks:=tk }:=I.kept fun b o e=>J6 _ e
 refine ⟨(s.heap.push { cls:=.type "range",data:=.fields #[.int lo t,.int hi u,.int 1 v] }).objs.size,[(s.heap.push { cls:=.type "range",data:=.fields #[.int lo t,.int hi u,.int 1 v] }).objs.size],_,_,H,rfl,
  I1.kept (t':=tk) fun b o e=>J6 _ e,zav _ lo (hi - lo).toNat,?_,fun b hb=>?_,q⟩
 ·have e1:lo+((0:Nat):Int)*1=lo:=by simp
  have e2:(((hi - lo).toNat:Nat):Int) - ((0:Nat):Int)=Builtin.Range.rangeSize lo hi 1:=by rw [rangeSize_one];split <;> lia
  show IsRangeIter _ _ (lo+((0:Nat):Int)*1) ((((hi - lo).toNat:Nat):Int) - ((0:Nat):Int)) 1
  rw [e1,e2]
  exact Lf _ rfl
 ·have e:b=(s.heap.push { cls:=.type "range",data:=.fields #[.int lo t,.int hi u,.int 1 v] }).objs.size:=by simpa using hb
  subst e
  exact I1.fpOk (Ij _) (I1.hok.fresh (Ij _))
def abf (ta:TA):TI:=fun σ H R=>ta σ H fun vs H1=>∃ j:Int,vs=[.int j]/\-(2^62)<=j/\j<2^62/\R (Itr 0 j.toNat) H1
def abj (ta:TA):TI:=fun σ H R=>ta σ H fun vs H1=>∃ i j:Int,vs=[.int i,.int j]/\(-(2^62)<=i/\i<2^62/\-(2^62)<=j/\j<2^62)/\R (Itr i (j - i).toNat) H1
theorem zaS {a:Expr}{ta:TA}{p pos:Pos}(hg:Gl X "range")(hm:X.mg "range" = FN)(ha:PA X [a] ta)(hs:HI [a] X.env=[(false,eval a X.env)]:=by rfl):PI X tg (.Call (.Name "range" p) [a] [] pos) (abf ta):=by
 intro pins s σ H R I h
 refine Call_ (uY I hg hm boot_range (V5 (Ia (ha pos pins s σ H _ I h) fun us s1 ⟨vs,H1,I1,r1,q1⟩=>?_) hs rfl))
 obtain ⟨j,e,q1,q2,q⟩:=q1
 subst e
 cases r1 with
 | cons r rr=>
  cases rr
  obtain ⟨t,rfl⟩:=r
  exact call_range_1 (Gi I1 (by lia) (by lia) q1 q2 (by simpa using q))
theorem zaB {a b:Expr}{ta:TA}{p pos:Pos}(hg:Gl X "range")(hm:X.mg "range" = FN)(ha:PA X [a,b] ta)(hs:HI [a,b] X.env=[(false,eval a X.env),(false,eval b X.env)]:=by rfl)(hs2:HI [b] X.env=[(false,eval b X.env)]:=by rfl) :
  PI X tg (.Call (.Name "range" p) [a,b] [] pos) (abj ta):=by
 intro pins s σ H R I h
 refine Call_ (uY I hg hm boot_range (V5 (Ia (ha pos pins s σ H _ I h) fun us s1 ⟨vs,H1,I1,r1,q1⟩=>?_) (by rw [hs,hs2]) (by rw [hs2];rfl)))
 obtain ⟨i,j,e,⟨q1,q2,q3,q4⟩,q⟩:=q1
 subst e
 cases r1 with
 | cons r rr=>
  cases rr with
  | cons r' rr=>
   cases rr
   obtain ⟨t,rfl⟩:=r
   obtain ⟨t',rfl⟩:=r'
   exact call_range_2 (Gi I1 q1 q2 q3 q4 q)
def ad2 (wi:TI)(g:TG)(tb:TS):TS:=fun D σ H=>wi σ H fun J H1=>∃ W:Nat->Nat->St->Hp->Prop,(∃ m,W 0 m σ H1)/\∀ i m σ H,W i m σ H ->
 (J.stop i H/\D.nx σ H)\/(J.go i H/\∃ N:St->Hp->Prop,(∀ σ' H',N σ' H'->∃ m',m'<m/\W (i+1) m' σ' H')/\∀ x H',J.yld i H x H'->g x σ H' fun σ2 H2=>tb { D with nx:=N,ct:=N,bk:=D.nx } σ2 H2)
def CQ (fp:List Addr)(h:Heap):List (Addr×Obj):=fp.filterMap fun b=>(h.get? b).map fun o=>(b,o)
theorem nT {fp:List Addr}{h:Heap}{b:Addr}{o:Obj}(hb:b∈fp)(e:h.get? b=Dn o):(b,o)∈CQ fp h:=List.mem_filterMap.mpr ⟨b,hb,by rw [e];rfl⟩
theorem agB {fp:List Addr}{h:Heap}{p:Addr×Obj}(hp:p∈CQ fp h):p.1∈fp/\h.get? p.1=Dn p.2:=by
 obtain ⟨b,hb,e⟩:=List.mem_filterMap.mp hp
 cases q:h.get? b with
 | none=>rw [q] at e;cases e
 | some o=>
  rw [q] at e
  have e':(b,o)=p:=Ja e
  subst e'
  exact ⟨hb,q⟩
theorem BL.pinned {pins:List (Addr×Obj)}{σ : St}{H:Hp}{s:AP}{fp:List Addr}(I:BL X pins σ H s)(hf:∀ b∈fp,Ji X pins H b)(ho:∀ b∈fp,∃ o,s.heap.get? b=Dn o/\∀ v,o.data≠.cell v):BL X (pins++CQ fp s.heap) σ H s:=
 I.pins_of fun p hp=>(Qi.mp hp).elim (fun z=>I.pin p (Qj _ z)) fun z=>by
  obtain ⟨hb,e⟩:=agB z
  obtain ⟨f0,f1,f2,_⟩:=hf p.1 hb
  obtain ⟨o,e',d⟩:=ho p.1 hb
  rw [e] at e';cases e'
  exact ⟨e,f0,f1,f2,d⟩
theorem BL.unpinned {pins pl:List (Addr×Obj)}{σ : St}{H:Hp}{s:AP}(I:BL X (pins++pl) σ H s):BL X pins σ H s:=I.pins_of fun p hp=>I.pin p (Qj _ (List.mem_append_left _ hp))
theorem Y9 {iter:Expr}{body:List Stmt}{wi:TI}{g:TG}{tb:TS}{pos:Pos}(hp:Vm (Cj X.prog X.w) X.A X.env X.xe)(hc:X.calm=true)(hi:PI X tg iter wi)(hg:PG X tg g)(hb:Nj X body tb)
  (hs:∀ x,Uq iter X.env x=pure x:=by intro _;rfl):PS X (.For tg iter body [] pos) (ad2 wi g tb):=by
 intro pins s σ H D I h
 refine wpAny_For (Ia (hi pins s σ H _ I h) fun v s1 h1=>Ia h1 fun itv s2 h2=>?_) hs
 obtain ⟨it,fp,tn,J,H2,e,I2,T,st2,f2,W,⟨m0,w0⟩,turn⟩:=h2
 subst e
 -- what stays true of the iterator's objects through the loop
 have stat:∀ {H':Hp},(∀ b∈fp,H' b=FN)->∀ b∈fp,Ji X pins H' b:=fun hn b hb=>⟨hn b hb,(f2 b hb).2⟩
 refine codeAny_forLoop_any (fun n s'=>∃ i σ' H',BL X pins σ' H' s'/\tn i s'.heap/\(∀ b∈fp,H' b=FN)/\W i n σ' H') ?_ m0 ⟨0,σ,H2,I2,st2,fun b hb=>(f2 b hb).1,w0⟩
 rintro n s3 ⟨i,σ3,H3,I3,st3,fr3,w3⟩
 rcases turn i n σ3 H3 w3 with ⟨stop,qn⟩ | ⟨go,N,hN,step⟩
 ·refine UL hp (Ia (T.done X rfl rfl rfl (fun _=>hc) i pins s3 σ3 H3 X.xe I3 (stat fr3) st3 stop) fun r s4 ⟨hr,I4⟩=>?_)
  subst hr
  exact wpAny_execs_nil ⟨σ3,H3,I4,qn⟩
 ·refine UL hp (Ia (T.item X rfl rfl rfl (fun _=>hc) i pins s3 σ3 H3 X.xe I3 (stat fr3) st3 go) fun r s4 ⟨u,hr,h4⟩=>?_)
  subst hr
  refine UL hp (Ia h4 fun _ s5 ⟨x,H5,I5,r5,y5,st5,fr5⟩=>?_)
  have I5':=I5.pinned (stat fr5) (T.obj _ _ st5)
  refine UL hp (Ia (hg _ s5 σ3 H5 x u _ I5' r5 (step x H5 y5)) fun _ s6 ⟨σ6,H6,I6,q6⟩=>?_)
  refine UL hp (Ia (hb _ s6 σ6 H6 _ I6 q6) fun f s7 q7=>?_)
  have again:∀ {σ7:St} {H7:Hp},BL X (pins++CQ fp s5.heap) σ7 H7 s7->N σ7 H7->∃ m,m<n/\∃ i σ' H',BL X pins σ' H' s7/\tn i s7.heap/\(∀ b∈fp,H' b=FN)/\W i m σ' H':=fun {σ7 H7} I7 n7=>by
   obtain ⟨m',hm,w7⟩:=hN σ7 H7 n7
   refine ⟨m',hm,i+1,σ7,H7,I7.unpinned,T.keep _ _ _ st5 fun b hb o e=>(I7.pin (b,o) (Qj _ (Qj _ (nT hb e)))).1,fun b hb=>?_,w7⟩
   obtain ⟨o,e,d⟩:=T.obj _ _ st5 b hb
   exact (I7.pin (b,o) (Qj _ (Qj _ (nT hb e)))).2.1
  cases f with
  | next=>obtain ⟨σ7,H7,I7,n7⟩:=q7;exact again I7 n7
  | cont=>obtain ⟨σ7,H7,I7,n7⟩:=q7;exact again I7 n7
  | brk=>obtain ⟨σ7,H7,I7,q7⟩:=q7;exact ⟨σ7,H7,I7.unpinned,q7⟩
  | ret v=>obtain ⟨x7,σ7,H7,I7,r7,q7⟩:=q7;exact ⟨x7,σ7,H7,I7.unpinned,r7,q7⟩
end
abbrev R2:=V->V->Hp->VK->Prop
def Kc (X:Cx)(f:FX->FX->Sem FX)(r:R2):Prop:=
 ∀ (pins:List (Addr×Obj)) (s:AP) (σ : St) (H:Hp) (x y:V) (v u:FX) (Q:VK),BL X pins σ H s->RelV x v->RelV y u->r x y H Q ->
  Bs (Cj X.prog X.w) X.A (f v u) (EP X pins σ Q) X.xe s
def UnR (X:Cx)(f:FX->Sem FX)(r:V->Hp->VK->Prop):Prop:=
 ∀ (pins:List (Addr×Obj)) (s:AP) (σ : St) (H:Hp) (x:V) (v:FX) (Q:VK),BL X pins σ H s->RelV x v->r x H Q ->
  Bs (Cj X.prog X.w) X.A (f v) (EP X pins σ Q) X.xe s
def mF (X:Cx)(f:FX)(r:List V->Hp->VK->Prop):Prop:=
 ∀ (pins:List (Addr×Obj)) (s:AP) (σ : St) (H:Hp) (xs:List V) (us:List FX) (Q:VK),BL X pins σ H s->Bm xs us->r xs H Q ->
  Bs (Cj X.prog X.w) X.A (call f us) (EP X pins σ Q) X.xe s
def adX (X:Cx)(r:V->Hp->(Bool->Hp->Prop)->Prop):Prop:=
 ∀ (pins:List (Addr×Obj)) (s:AP) (σ : St) (H:Hp) (x:V) (v:FX) (Q:Bool->Hp->Prop),BL X pins σ H s->RelV x v->r x H Q ->
  Bs (Cj X.prog X.w) X.A (truthy v) (TP X pins σ Q) X.xe s
def tOp (r:R2)(ta tb:TE):TE:=fun σ H Q=>ta σ H fun x H1=>tb σ H1 fun y H2=>r x y H2 Q
def tUn (r:V->Hp->VK->Prop)(ta:TE):TE:=fun σ H Q=>ta σ H fun x H1=>r x H1 Q
def rI (C:Int->Int->Prop)(g:Int->Int->V):R2:=fun x y H Q=>∃ i j,x=.int i/\y=.int j/\C i j/\Q (g i j) H
def rI0 (g:Int->Int->V):R2:=fun x y H Q=>∃ i j,x=.int i/\y=.int j/\Q (g i j) H
def rU (g:Int->V):V->Hp->VK->Prop:=fun x H Q=>∃ i,x=.int i/\Q (g i) H
section
variable {X:Cx}{a b c:Expr}{ta tb tc:TE}{pos:Pos}
theorem aa0 (ha:PE X a ta)(hb:PE X b tb){pins:List (Addr×Obj)}{s:AP}{σ : St}{H:Hp}{R:V->V->Hp->Prop}(I:BL X pins σ H s)
  (h:ta σ H fun x H1=>tb σ H1 fun y H2=>R x y H2) {Q:FX->AP->Prop} {f:FX->FX->Sem FX}
  (hf:∀ v u s2 x y H2,BL X pins σ H2 s2->RelV x v->RelV y u->R x y H2->Bs (Cj X.prog X.w) X.A (f v u) Q X.xe s2) :
  Bs (Cj X.prog X.w) X.A (eval a X.env) (fun v s₁=>Bs (Cj X.prog X.w) X.A (eval b X.env) (fun u s₂=>Bs (Cj X.prog X.w) X.A (f v u) Q X.xe s₂) X.xe s₁) X.xe s:=by
 refine Ia (ha pins s σ H _ I h) fun v s1 ⟨x,H1,I1,r1,q1⟩=>?_
 refine Ia (hb pins s1 σ H1 _ I1 q1) fun u s2 ⟨y,H2,I2,r2,q2⟩=>?_
 exact hf v u s2 x y H2 I2 r1 r2 q2
theorem acj {op:Operator}{r:R2}(ho:Kc X (N7 op) r)(ha:PE X a ta)(hb:PE X b tb):PE X (.BinOp a op b pos) (tOp r ta tb):=by
 intro pins s σ H Q I h
 exact wpAny_BinOp (aa0 ha hb I h fun v u s2 x y H2 I2 rx ry q=>ho pins s2 σ H2 x y v u Q I2 rx ry q)
theorem abh {op:UnaryOp}{r:V->Hp->VK->Prop}(ho:UnR X (unaryOp op) r)(ha:PE X a ta):PE X (.UnaryOp op a pos) (tUn r ta):=by
 intro pins s σ H Q I h
 exact UnaryOp_ (Ia (ha pins s σ H _ I h) fun v s1 ⟨x,H1,I1,r1,q1⟩=>ho pins s1 σ H1 x v Q I1 r1 q1)
theorem opI {f:FX->FX->Sem FX}{C:Int->Int->Prop}{g:Int->Int->Int}
  (rule:∀ (i j:Int) (t u:Tok) (s:AP) (Q:FX->AP->Prop) (E:FX->AP->Prop),C i j->Q (.int (g i j) s.toks) { s with toks:=s.toks+1 }->Bs (Cj X.prog X.w) X.A (f (.int i t) (.int j u)) Q E s) :
  Kc X f (rI C fun i j=>.int (g i j)):=by
 intro pins s σ H x y v u Q I rx ry h
 obtain ⟨i,j,rfl,rfl,hc,q⟩:=h
 obtain ⟨t,rfl⟩:=rx
 obtain ⟨t',rfl⟩:=ry
 exact rule i j t t' s _ _ hc ⟨.int (g i j),H,I.tok _,⟨_,rfl⟩,q⟩
theorem acX {f:FX->FX->Sem FX}{g:Int->Int->Int}
  (rule:∀ (i j:Int) (t u:Tok) (s:AP) (Q:FX->AP->Prop) (E:FX->AP->Prop),Q (.int (g i j) s.toks) { s with toks:=s.toks+1 }->Bs (Cj X.prog X.w) X.A (f (.int i t) (.int j u)) Q E s) :
  Kc X f (rI0 fun i j=>.int (g i j)):=by
 intro pins s σ H x y v u Q I rx ry h
 obtain ⟨i,j,rfl,rfl,q⟩:=h
 obtain ⟨t,rfl⟩:=rx
 obtain ⟨t',rfl⟩:=ry
 exact rule i j t t' s _ _ ⟨.int (g i j),H,I.tok _,⟨_,rfl⟩,q⟩
theorem acT {f:FX->FX->Sem FX}{g:Int->Int->Bool}
  (rule:∀ (i j:Int) (t u:Tok) (s:AP) (Q:FX->AP->Prop) (E:FX->AP->Prop),Q (.bool (g i j)) s->Bs (Cj X.prog X.w) X.A (f (.int i t) (.int j u)) Q E s) :
  Kc X f (rI0 fun i j=>.bl (g i j)):=by
 intro pins s σ H x y v u Q I rx ry h
 obtain ⟨i,j,rfl,rfl,q⟩:=h
 obtain ⟨t,rfl⟩:=rx
 obtain ⟨t',rfl⟩:=ry
 exact rule i j t t' s _ _ ⟨.bl (g i j),H,I,rfl,q⟩
def ach (i j:Int):Prop:=0<=j/\j<=1000000/\i.natAbs<2^64
theorem Yh:Kc X (N7 .Add) (rI0 fun i j=>.int (i+j)):=acX fun _ _ _ _ _ _ _ q=>add_int q
theorem Zc:Kc X (N7 .Sub) (rI0 fun i j=>.int (i - j)):=acX fun _ _ _ _ _ _ _ q=>sub_int q
theorem agV:Kc X (N7 .Mod) (rI (fun _ j=>j≠0) fun i j=>.int (i.fmod j)):=opI fun _ _ _ _ _ _ _ hc q=>mod_int' hc q
theorem ZP:Kc X (N7 .Pow) (rI ach fun i j=>.int (i^j.toNat)):=opI fun _ _ _ _ _ _ _ hc q=>pow_int_small hc.1 hc.2.1 hc.2.2 q
theorem unI {f:FX->Sem FX}{g:Int->Int}
  (rule:∀ (i:Int) (t:Tok) (s:AP) (Q:FX->AP->Prop) (E:FX->AP->Prop),Q (.int (g i) s.toks) { s with toks:=s.toks+1 }->Bs (Cj X.prog X.w) X.A (f (.int i t)) Q E s) :
  UnR X f (rU fun i=>.int (g i)):=by
 intro pins s σ H x v Q I rx h
 obtain ⟨i,rfl,q⟩:=h
 obtain ⟨t,rfl⟩:=rx
 exact rule i t s _ _ ⟨.int (g i),H,I.tok _,⟨_,rfl⟩,q⟩
theorem Y5:UnR X (unaryOp .USub) (rU fun i=>.int (-i)):=unI fun _ _ _ _ _ q=>neg_int q
theorem yj {pins:List (Addr×Obj)}{σ : St}{H:Hp}{s:AP}{Q:VK}{k k':Bool}(I:BL X pins σ H s)(q:Q (.bl k) H)(e:k=k'):EP X pins σ Q (.bool k') s:=by
 subst e
 exact ⟨.bl k,H,I,rfl,q⟩
theorem abd:Kc X (M8 .Lt) (rI0 fun i j=>.bl (decide (i<j))):=acT fun _ _ _ _ _ _ _ q=>lt_int q
theorem abx:Kc X (M8 .Gt) (rI0 fun i j=>.bl (decide (j<i))):=acT fun _ _ _ _ _ _ _ q=>gt_int q
theorem aay:Kc X (M8 .Is) (fun x y H Q=>y=.non/\Q (.bl (decide (x=.non))) H):=by
 intro pins s σ H x y v u Q I rx ry h
 obtain ⟨rfl,q⟩:=h
 cases ry
 refine is_none_gen (yj I q ?_)
 cases x <;> first
  | (cases rx;rfl)
  | (obtain ⟨t,rfl⟩:=rx;rfl)
theorem aho:Kc X (M8 .IsNot) (fun x y H Q=>y=.non/\Q (.bl (!decide (x=.non))) H):=by
 intro pins s σ H x y v u Q I rx ry h
 obtain ⟨rfl,q⟩:=h
 cases ry
 refine isnot_none_gen (yj I q ?_)
 cases x <;> first
  | (cases rx;rfl)
  | (obtain ⟨t,rfl⟩:=rx;rfl)
theorem Kc.or {f:FX->FX->Sem FX}{r r':R2}(h:Kc X f r)(h':Kc X f r'):Kc X f (fun x y H Q=>r x y H Q\/r' x y H Q):=by
 intro pins s σ H x y v u Q I rx ry q
 rcases q with q | q
 ·exact h pins s σ H x y v u Q I rx ry q
 ·exact h' pins s σ H x y v u Q I rx ry q
theorem aW (b:Expr){op:CmpOp}(h:op≠.In:=by decide)(h2:op≠.NotIn:=by decide):UW op b=false:=by
 have e1:(op==CmpOp.In)=false:=by cases op <;> first | rfl | exact absurd rfl h
 have e2:(op==CmpOp.NotIn)=false:=by cases op <;> first | rfl | exact absurd rfl h2
 cases b <;> simp [UW,e1,e2]
theorem afU {op:CmpOp}{r:R2}(ho:Kc X (M8 op) r)(ha:PE X a ta)(hb:PE X b tb)(hm:UW op b=false):PE X (.Compare a [op] [b] pos) (tOp r ta tb):=by
 intro pins s σ H Q I h
 exact wpAny_Compare1 (aa0 ha hb I h fun v u s2 x y H2 I2 rx ry q=>ho pins s2 σ H2 x y v u Q I2 rx ry q) hm
def abW (t:TE):TT:=fun σ H Q=>t σ H fun x H'=>∃ k,x=.bl k/\Q k H'
theorem agU {op:CmpOp}{r:R2}(ho:Kc X (M8 op) r)(ha:PE X a ta)(hb:PE X b tb)(hm:UW op b=false):PT X (.Compare a [op] [b] pos) (abW (tOp r ta tb)):=by
 intro pins s σ H Q I h
 refine wpAny_isTrue_Compare1 (Ia (ha pins s σ H _ I h) fun v s1 ⟨x,H1,I1,r1,q1⟩=>Ia (hb pins s1 σ H1 _ I1 q1) fun u s2 ⟨y,H2,I2,r2,q2⟩=>
  Ia (ho pins s2 σ H2 x y v u _ I2 r1 r2 q2) fun c s3 ⟨z,H3,I3,r3,k,e,q3⟩=>?_) hm
 subst e
 cases r3
 exact wpAny_truthy_bool ⟨H3,I3,q3⟩
def ac4 (K:BZ)(x:V)(H:Hp)(k:Bool):Prop:=
 match x with
 | .non=>k=false
 | .bl b=>k=b
 | .int i=>k=(i != 0)
 | .str y=>y.length<=Ig/\k=((y.length:Int) != 0)
 | .byt y=>y.size<=Ig/\k=((y.size:Int) != 0)
 | .ref p=>(∃ xs,Je K H p xs/\k = !xs.isEmpty)\/(∃ xs,Jg K H p xs/\k = !xs.isEmpty)\/∃ kvs,H p=Dn (.dK kvs)/\k = !kvs.isEmpty
 | _=>False
theorem aeM {κ : Type}{kvs:List (κ×V)}{vs:List (κ×FX)}(r:KV kvs vs):(!vs.isEmpty) = !kvs.isEmpty:=by
 cases r <;> rfl
theorem yw {xs:List V}{its:List FX}(r:Bm xs its):(!its.toArray.isEmpty) = !xs.isEmpty:=by
 cases r <;> simp
theorem tW:(Ig:Nat)<2^63:=by rw [sizeLine_eq];decide
theorem Zb:adX X (fun x H Q=>∃ k,ac4 X.K x H k/\Q k H):=by
 intro pins s σ H x v Q I rx h
 obtain ⟨k,e,q⟩:=h
 have hl:=tW
 have hs:Ig=16777216:=sizeLine_eq
 cases x with
 | non=>
  cases rx
  have e':k=false:=e
  subst e'
  exact truthy_none ⟨H,I,q⟩
 | bl b=>
  cases rx
  have e':k=b:=e
  subst e'
  exact wpAny_truthy_bool ⟨H,I,q⟩
 | int i=>
  obtain ⟨t,rfl⟩:=rx
  have e':k=(i != 0):=e
  subst e'
  exact PySem.P.truthy_int ⟨H,I,q⟩
 | str y=>
  obtain ⟨t,rfl⟩:=rx
  obtain ⟨hy,e'⟩:y.length<=Ig/\k=((y.length:Int) != 0):=e
  subst e'
  exact PySem.P.truthy_str (by lia) ⟨H,I.tok _,q⟩
 | byt y=>
  obtain ⟨t,rfl⟩:=rx
  obtain ⟨hy,e'⟩:y.size<=Ig/\k=((y.size:Int) != 0):=e
  subst e'
  exact PySem.W.truthy_bytes (by lia) ⟨H,I.tok _,q⟩
 | ref p=>
  cases rx
  have e':(∃ xs,Je X.K H p xs/\k = !xs.isEmpty)\/(∃ xs,Jg X.K H p xs/\k = !xs.isEmpty)\/∃ kvs,H p=Dn (.dK kvs)/\k = !kvs.isEmpty:=e
  rcases e' with ⟨xs,hx,e'⟩ | ⟨xs,hx,e'⟩ | ⟨kvs,hx,e'⟩
  ·subst e'
   obtain ⟨its,r,pl,hz⟩:=I.list hx
   have hlen:=r.length
   exact wpAny_truthy_list pl.isList (by simp only [Jr];lia) ⟨H,I.tok _,by rw [yw r];exact q⟩
  ·subst e'
   obtain ⟨its,r,pl,hz⟩:=I.tuple hx
   have hlen:=r.length
   exact truthy_tuple pl (by simp only [Jr];lia) ⟨H,I.tok _,by rw [yw r];exact q⟩
  ·subst e'
   obtain ⟨hz,hS,vs,r,m⟩:kvs.length<=Ig/\(p==sysModules)=false/\∃ vs,KV kvs vs/\s.heap.DictOf (Et X.prog X.w) p vs:=I.hok p _ hx
   have hlen:kvs.length=vs.length:=Paired.length r
   exact wpAny_truthy_dict hS m (by lia) ⟨H,I.tok _,by rw [aeM r];exact q⟩
 | _=>exact (show False from e).elim
theorem afT (ha:PE X a ta)(he:∀ whole,isTrue a X.env whole=(do let v <-whole;standAt a.pos;holding [v] (truthy v))) :
  PT X a (fun σ H Q=>ta σ H fun x H'=>∃ k,ac4 X.K x H' k/\Q k H'):=by
 intro pins s σ H Q I h
 exact isTrue_plain (Ia (ha pins s σ H _ I h) fun v s1 ⟨x,H1,I1,r1,q1⟩=>Zb pins s1 σ H1 x v Q I1 r1 q1) (he _)
theorem vals1 {x:V}{us:List FX}(r:Bm [x] us):∃ u,us=[u]/\RelV x u:=by
 cases r with
 | cons r1 r2=>cases r2;exact ⟨_,rfl,r1⟩
theorem vals2 {x y:V}{us:List FX}(r:Bm [x,y] us):∃ u w',us=[u,w']/\RelV x u/\RelV y w':=by
 cases r with
 | cons r1 r2=>
  cases r2 with
  | cons r3 r4=>cases r4;exact ⟨_,_,rfl,r1,r3⟩
theorem zbl:mF X (.builtin "abs") (fun xs H Q=>∃ i,xs=[.int i]/\Q (.int (if i<0 then -i else i)) H):=by
 intro pins s σ H xs us Q I r h
 obtain ⟨i,rfl,q⟩:=h
 obtain ⟨u,rfl,t,rfl⟩:=vals1 r
 exact call_abs_int fun u tk=>⟨.int (if i<0 then -i else i),H,I.tok _,⟨_,rfl⟩,q⟩
theorem Cp (hc:X.calm=true):mF X (.builtin "max") (fun xs H Q=>∃ i j,xs=[.int i,.int j]/\Q (.int (if j>i then j else i)) H):=by
 intro pins s σ H xs us Q I r h
 obtain ⟨i,j,rfl,q⟩:=h
 obtain ⟨u,w',rfl,⟨t,rfl⟩,⟨t',rfl⟩⟩:=vals2 r
 refine max_two_ints (I.ok.hd hc) fun h' tk k=>⟨_,H,I.kept k,?_,q⟩
 by_cases hj:j>i
 ·rw [if_pos hj,if_pos hj];exact ⟨_,rfl⟩
 ·rw [if_neg hj,if_neg hj];exact ⟨_,rfl⟩
theorem afl (hc:X.calm=true):mF X (.builtin "min") (fun xs H Q=>∃ i j,xs=[.int i,.int j]/\Q (.int (if j<i then j else i)) H):=by
 intro pins s σ H xs us Q I r h
 obtain ⟨i,j,rfl,q⟩:=h
 obtain ⟨u,w',rfl,⟨t,rfl⟩,⟨t',rfl⟩⟩:=vals2 r
 refine min_two_ints (I.ok.hd hc) fun h' tk k=>⟨_,H,I.kept k,?_,q⟩
 by_cases hj:j<i
 ·rw [if_pos hj,if_pos hj];exact ⟨_,rfl⟩
 ·rw [if_neg hj,if_neg hj];exact ⟨_,rfl⟩
end
structure aey (h:Heap) (x dx C:Addr) (mA:Str->Option FX):Prop where
 obj:h.get? x=Dn (PySem.W.instObj C dx)
 ns:h.Ns1 dx mA
 ne:dx≠x
section
variable {prog:Dr}{w:Ci}{A:Dp}{E:FX->AP->Prop}{s:AP}{K:BZ}{x dx C f:Addr}{mA:Str->Option FX}{name:Str}{v:FX}
end
section
variable {P:Dr}{w:Ci}{H H':Hp}{h h':Heap}{a C dx:Addr}{fs fs':List (Str×V)}
end
structure Cls (K:BZ) (C:Addr):Prop where
 pg:PySem.W.plainGet K C Str.empty=true
 hd:PySem.W.hasDictIn K C=true
 po:PySem.W.plainOver K C=true
 sa:T9 K (.ref C) "__setattr__" = Dn (Dn (.builtin "object.__setattr__"))
structure Con (K:BZ) (C:Addr) (f:Str) (v:V) (u:FX):Prop where
 at_:T9 K (.ref C) f=Dn (Dn u)
 rel:RelV v u
 get:PySem.W.specialIn K u "__get__" = Dn FN
 cp:PySem.W.copiedNames.contains f=false
structure Meth (K:BZ) (C:Addr) (m:Str) (f:Addr):Prop where
 at_:T9 K (.ref C) m=Dn (Dn (.ref f))
 fn:PySem.W.isFn K (.ref f)=true
 kp:Qt K (.ref f)=true
section
variable {X:Cx}{pins:List (Addr×Obj)}{σ : St}{H:Hp}{s:AP}{a C dx:Addr}{fs:List (Str×V)}{f:Str}{v:V}{A:Dp}{E:FX->AP->Prop}
end
section
variable {X:Cx}{o e value:Expr}{f:Str}{pos pos' tpos:Pos}{ta tv:TE}
end
section
variable {X:Cx}{pins:List (Addr×Obj)}{σ : St}{H:Hp}{s:AP}{A:Dp}{E:FX->AP->Prop}{Q:FX->AP->Prop}{c:FX}{b:Bool}
inductive Lz (K:BZ) (H:Hp):V->FX->Prop where
 | non:Lz K H .non (.type "NoneType")
 | bl (x:Bool):Lz K H (.bl x) (.type "bool")
 | int (i:Int):Lz K H (.int i) (.type "int")
 | str (x:Str):Lz K H (.str x) (.type "str")
 | flt (x:UInt64):Lz K H (.flt x) (.type "float")
 | lst {a:Addr} {xs:List V} (e:H a=Dn (.lst xs)):Lz K H (.ref a) (.type "list")
 | frz {a:Addr} {o:Obj} {xs:List V} (e:H a=Dn (.frz o (.lst xs))):Lz K H (.ref a) (.type "list")
 | tup {a:Addr} {xs:List V} (e:H a=Dn (.tup xs)):Lz K H (.ref a) (.type "tuple")
 | dK {a:Addr} {kvs:List (Key×V)} (e:H a=Dn (.dK kvs)):Lz K H (.ref a) (.type "dict")
 | dT {a:Addr} {kvs:List (List Key×V)} (e:H a=Dn (.dT kvs)):Lz K H (.ref a) (.type "dict")
 | ins {a C dx:Addr} {fs:List (Str×V)} (e:H a=Dn (.ins C dx fs)) (cl:Cls K C) (ha:T9 K (.ref C) "__class__" = Dn (Dn (.builtin "object.__class__")))
   (hn:PySem.W.specialIn K (.builtin "object.__class__") "__get__" = Dn (Dn (.builtin "getset_descriptor.__get__"))) (htk:PySem.W.takesIn K (.builtin "object.__class__")=Dn true)
   (hm:PySem.W.mroIn K C (.type "object")=Dn true):Lz K H (.ref a) (.ref C)
end
structure ud (k:Nat) (A:Dp):Prop where
 hd:9<=k->A.handled=FN
 dp:A.depth+3*k+5<recursionLimit
 un:A.units+16*k+200<Lp
theorem ud.mono {j k:Nat}{A:Dp}(r:ud k A)(h:j<=k):ud j A:=⟨fun z=>r.hd (Jp z h),by have:=r.dp;lia,by have:=r.un;lia⟩
theorem ud.deeper {k:Nat}{A:Dp}(r:ud (k+1) A)(env:Env):ud k (A.deeper env):=
 ⟨fun z=>r.hd (Nat.le_succ_of_le z),by have:=r.dp;show A.depth+1+3*k+5<_;lia,by have:=r.un;show A.units+3+16*k+200<_;lia⟩
theorem ud.calm {k:Nat}{A:Dp}(r:ud k A)(h:9<=k):A.handled.isNone=true:=by rw [r.hd h];rfl
theorem ud.depth {k:Nat}{A:Dp}(r:ud k A):A.depth<recursionLimit:=by have:=r.dp;lia
theorem ud.units {k:Nat}{A:Dp}(r:ud k A):A.units+64<Lp:=by have:=r.un;lia
def acW:TA:=fun _ H Q=>Q [] H
def acd (ta:TE)(tr:TA):TA:=fun σ H Q=>ta σ H fun x H1=>tr σ H1 fun xs H2=>Q (x::xs) H2
section
variable {X:Cx}{e:Expr}{es:List Expr}{te:TE}{t:TA}{pos:Pos}
theorem YZ:PA X [] acW:=fun _ _ _ _ H Q I h=>Calls.spliced_nil ⟨[],H,I,.nil,h⟩
theorem afV (ha:PE X e te)(hr:PA X es t)(hs:HI (e::es) X.env=(false,eval e X.env)::HI es X.env:=by rfl):PA X (e::es) (acd te t):=by
 intro pos pins s σ H Q I h
 rw [hs]
 show Bs _ _ (spliced ((false,eval e X.env)::Kp pos (HI es X.env))) _ _ s
 refine Calls.spliced_cons (Ia (ha pins s σ H _ I h) fun u s1 ⟨x,H1,I1,r1,q1⟩=>?_)
 exact Ia (hr pos pins s1 σ H1 _ I1 q1) fun us s2 ⟨xs,H2,I2,r2,q2⟩=>⟨x::xs,H2,I2,.cons r1 r2,q2⟩
def ad1 (t:TA):TE:=fun σ H Q=>t σ H fun xs H1=>xs.length<=Ig/\∀ p,H1 p=FN->Q (.ref p) (IW H1 p (.tup xs))
def ad5 (t:TA):TE:=fun σ H Q=>t σ H fun xs H1=>xs.length<=Ig/\∀ p,H1 p=FN->Q (.ref p) (IW H1 p (.lst xs))
theorem W4 {x1}(h:PA X es t):PE X (.Tuple es x1 pos) (ad1 t):=by
 intro pins s σ H Q I hq
 refine wpAny_Tuple_spliced (Ia (h pos pins s σ H _ I hq) fun us s1 ⟨xs,H1,I1,r,z,q⟩=>⟨by rw [<-r.length];exact z,?_⟩)
 have hf:H1 s1.heap.objs.size=FN:=I1.hok.fresh (Ij _)
 refine ⟨.ref s1.heap.objs.size,IW H1 s1.heap.objs.size (.tup xs),I1.laid (t':=s1.toks) (fun b u e=>J6 _ e) (Ij _) ?_,rfl,q _ hf⟩
 exact ⟨z,us,r,⟨_,Lf _ rfl,rfl,⟨_,rfl⟩,rfl⟩⟩
theorem Ru (h:PA X es t):PE X (.List es pos) (ad5 t):=by
 intro pins s σ H Q I hq
 refine wpAny_List_spliced (Ia (h pos pins s σ H _ I hq) fun us s1 ⟨xs,H1,I1,r,z,q⟩=>⟨by rw [<-r.length];exact z,?_⟩)
 have hf:H1 s1.heap.objs.size=FN:=I1.hok.fresh (Ij _)
 refine ⟨.ref s1.heap.objs.size,IW H1 s1.heap.objs.size (.lst xs),I1.laid (t':=s1.toks) (fun b u e=>J6 _ e) (Ij _) ?_,rfl,q _ hf⟩
 exact ⟨z,us,0,r,Lf _ rfl⟩
end
abbrev Sp:=List V->Hp->VK->XK->Prop
abbrev PL:=List Env->Hp->AP->XK->FX->AP->Prop
structure aaW (P:Dr) (w:Ci) (K:BZ) (mg:Str->Option FX) (base:Heap) (A:Dp) (outer:List Env) (s:AP) (H:Hp):Prop where
 frames:A.frames=Dn outer
 mod:Mod K mg base
 bs:∀ b o,base.get? b=Dn o->s.heap.get? b=Dn o/\H b=FN
 bsz:base.objs.size<=s.heap.objs.size
 funs:s.heap.FunFrames base outer
 frf:∀ b∈frs outer,H b=FN
 hok:Kw P w H s.heap
 bare:Qq s.gens
 qt:Quiet A H
def CE (outer:List Env)(P:Dr)(w:Ci)(H:Hp)(s:AP)(Q:VK)(u:FX)(s':AP):Prop:=
 ∃ v H',s'.os=s.os/\Qq s'.gens/\Un (frs outer) [] H H' s.heap s'.heap/\Kw P w H' s'.heap/\RelV v u/\Q v H'
def zal (CX:PL)(outer:List Env)(P:Dr)(w:Ci)(H:Hp)(s:AP)(Q:VK)(E:XK)(r:Result)(s':AP):Prop:=
 match r with
 | .ok (.ret u)=>CE outer P w H s Q u s'
 | .ok _=>False
 | .error e=>CX outer H s E e s'
structure cA (P:Dr) (w:Ci) (K:BZ) (mg:Str->Option FX) (base:Heap) (CX:PL) (k:Nat) (f:Addr) (fd:DR) (ps:List Str) (sp:Sp):Prop where
 len:∀ vs H Q E,sp vs H Q E->vs.length=ps.length
 run:∀ (A:Dp) (outer:List Env) (s:AP) (H:Hp) (args:Args) (us:List FX) (vs:List V) (Q:VK) (E:XK),ud k A->aaW P w K mg base A outer s H->BindsTo s fd args (ps.zip us)->Bm vs us->sp vs H Q E ->
  codeAny (Cj P w) A (.call (.ref f) args) (zal CX outer P w H s Q E) s
theorem cA.mono {P:Dr}{w:Ci}{K:BZ}{mg:Str->Option FX}{base:Heap}{CX:PL}{j k:Nat}{f:Addr}{fd:DR}{ps:List Str}{sp:Sp}(F:cA P w K mg base CX j f fd ps sp)(h:j<=k) :
  cA P w K mg base CX k f fd ps sp:=⟨F.len,fun A outer s H args us vs Q E hr=>F.run A outer s H args us vs Q E (hr.mono h)⟩
theorem cA.imp {P:Dr}{w:Ci}{K:BZ}{mg:Str->Option FX}{base:Heap}{CX:PL}{k:Nat}{f:Addr}{fd:DR}{ps:List Str}{sp sp':Sp}(F:cA P w K mg base CX k f fd ps sp)
  (h:∀ vs H Q E,sp' vs H Q E->sp vs H Q E):cA P w K mg base CX k f fd ps sp':=
 ⟨fun vs H Q E q=>F.len vs H Q E (h _ _ _ _ q),fun A outer s H args us vs Q E hr he hb hv hs=>F.run A outer s H args us vs Q E hr he hb hv (h _ _ _ _ hs)⟩
section
variable {X:Cx}{pins:List (Addr×Obj)}{σ : St}{H:Hp}{s s':AP}
theorem BL.env0 (I:BL X pins σ H s):aaW X.prog X.w X.K X.mg X.base X.A X.stack s H:=
 ⟨I.ok.frames,I.ok.mod,I.bs,Jp I.ok.bsz I.sz,I.stack,I.stkFree,I.hok,I.bare,I.qt0⟩
theorem BL.after {Q:VK}{u:FX}(I:BL X pins σ H s)(h:CE X.stack X.prog X.w H s Q u s'):EP X pins σ Q u s':=by
 obtain ⟨v,H',os,bare,un,hok,r,q⟩:=h
 obtain ⟨hh,g,d,t,os'⟩:=s'
 obtain rfl:os'=s.os:=os
 exact ⟨v,H',I.call (h':=hh) (g':=g) (d':=d) (t':=t) (ch:=[]) un hok bare (fun b z=>absurd z (by simp)),r,q⟩
end
def VD (sp:Sp)(dvs:List V)(E:XK)(t:TA):TE:=fun σ H Q=>t σ H fun vs H1=>sp (vs++dvs) H1 Q E
def Binds (K:BZ)(fd:DR)(ps:List Str)(ds:List FX):Prop:=
 ∀ (s:AP) (us:List FX),K.In s.heap->(us++ds).length=ps.length->BindsTo s fd ⟨us,[]⟩ (ps.zip (us++ds))
theorem Binds.all {K:BZ}{fd:DR}{ps:List Str}(h:∀ us:List FX,us.length=ps.length->bindArgs fd ⟨us,[]⟩=pure (ps.zip us)):Binds K fd ps []:=fun s us _ hl=>by
 rw [Uv] at hl |-
 exact .of_eq (h us hl)
def Passes (CX:PL)(X:Cx)(E:XK):Prop:=∀ (pins:List (Addr×Obj)) (σ : St) (H:Hp) (s:AP) (e:FX) (s':AP),BL X pins σ H s->CX X.stack H s E e s'->X.xe e s'
section
variable {X:Cx}{CX:PL}{k:Nat}{f C:Addr}{fd:DR}{ps:List Str}{sp:Sp}{dvs:List V}{ds:List FX}{E:XK}{x m:Str}{p pos apos:Pos}{e o:Expr}{es:List Expr}{ta:TE}{t:TA}
theorem JQ {pins:List (Addr×Obj)}{σ : St}{H:Hp}{s:AP}{Q:VK}{us:List FX}{vs:List V}(F:cA X.prog X.w X.K X.mg X.base CX k f fd ps sp)(hr:ud k X.A)(hb:Binds X.K fd ps ds)(hd:Bm dvs ds)(hx:Passes CX X E)
  (I:BL X pins σ H s) (r:Bm vs us) (h:sp (vs++dvs) H Q E):Bs (Cj X.prog X.w) X.A (call (.ref f) us) (EP X pins σ Q) X.xe s:=by
 have r2:Bm (vs++dvs) (us++ds):=r.append hd
 have hl:(us++ds).length=ps.length:=by rw [<-r2.length];exact F.len _ _ _ _ h
 refine wpAny_call (codeAny_mono (F.run X.A X.stack s H ⟨us,[]⟩ (us++ds) (vs++dvs) Q E hr I.env0 (hb s us I.kIn hl) r2 h) fun r s' hq=>?_)
 cases r with
 | error e=>exact hx pins σ H s e s' I hq
 | ok fl=>
  cases fl with
  | ret u=>exact I.after hq
  | next=>exact Qd hq
  | brk=>exact Qd hq
  | cont=>exact Qd hq
theorem agT (F:cA X.prog X.w X.K X.mg X.base CX k f fd ps sp)(hr:ud k X.A)(hg:Gl X x)(hm:X.mg x=Dn (.ref f))(hk:Qt X.K (.ref f)=true)(hb:Binds X.K fd ps ds)(hd:Bm dvs ds)(hx:Passes CX X E)
  (ha:PA X (e::es) t) (hdb:(x==("__debug__" : Str))=false:=by decide) (he:HI (e::es) X.env=(false,eval e X.env)::HI es X.env:=by rfl) (hpl:(Kp pos (HI es X.env)).any (·.1)=false:=by rfl) :
  PE X (.Call (.Name x p) (e::es) [] pos) (VD sp dvs E t):=by
 intro pins s σ H Q I h
 refine U6 (Dy I hg hm ?_ hdb)
 refine PySem.W.callWith_K (h₀:=X.base) I.ok.mod.kin hk (Ia (ha pos pins s σ H _ I h) fun us s1 ⟨vs,H1,I1,r,q⟩=>⟨I1.kIn,?_⟩) he hpl
 exact JQ F hr hb hd hx I1 r q
theorem zbb (F:cA X.prog X.w X.K X.mg X.base CX k f fd ps sp)(hr:ud k X.A)(hg:Gl X x)(hm:X.mg x=Dn (.ref f))(hk:Qt X.K (.ref f)=true)(hb:Binds X.K fd ps ds)(hd:Bm dvs ds)(hx:Passes CX X E)
  (hdb:(x==("__debug__" : Str))=false:=by decide):PE X (.Call (.Name x p) [] [] pos) (VD sp dvs E acW):=by
 intro pins s σ H Q I h
 refine U6 (Dy I hg hm ?_ hdb)
 exact PySem.W.callWith_K0 I.kIn hk (JQ (us:=[]) F hr hb hd hx I .nil h)
structure zad (K:BZ) (C f:Addr):Prop where
 makes:PySem.W.makesIn K C=true
 init:T9 K (.ref C) "__init__" = Dn (Dn (.ref f))
 fn:PySem.W.isFn K (.ref f)=true
 kp:Qt K (.ref C)=true
end
section
variable {X:Cx}{CX:PL}{k:Nat}{f C:Addr}{fd:DR}{ps ks:List Str}{sp:Sp}{E:XK}{x m:Str}{p pos apos kpos:Pos}{e o:Expr}{es:List Expr}{kws:List Ph}{te ta:TE}{t tk:TA}{nm:Option Str}
structure ac5 (K:BZ) (fd:DR) (ps ks:List Str) (g:List FX->List FX->List FX) (gV:List V->List V->List V):Prop where
 to:∀ (s:AP) (us ws:List FX),K.In s.heap->(g us ws).length=ps.length->BindsTo s fd ⟨us,ks.zip ws⟩ (ps.zip (g us ws))
 rel:∀ {vs:List V} {us:List FX} {zs:List V} {ws:List FX},Bm vs us->Bm zs ws->Bm (gV vs zs) (g us ws)
variable {g:List FX->List FX->List FX}{gV:List V->List V->List V}
end
structure aN (N P:List Str) (sc:Scope):Prop where
 kind:sc.kind=.function
 co:sc.isCoroutine=false
 gen:sc.isGenerator=false
 nd:N.Nodup
 pre:N.take P.length=P
 par:∀ x∈P,sc.names.lookup x=Dn .local\/sc.names.lookup x=Dn .cell
 nofree:∀ y∈sc.names,y.2≠.free
theorem Bc {N5:Str->Option LQ}{x:Str}:∀ {binds:List (Str×FX)} {m:Str->Option FX},(∀ v,(x,v)∉binds)->bindL N5 binds m x=m x
 | [],_,_=>rfl
 | (n,v)::r,m,h=>by
  unfold bindL
  rw [Bc fun w hw=>h w (Oq _ hw)]
  split
  ·have:x≠n:=by rintro rfl;exact h v Oo
   simp [this]
  ·rfl
theorem BW {N5:Str->Option LQ}{x:Str}:∀ {binds:List (Str×FX)} {m:Str->Option FX},(∀ v,(x,v)∉binds)->bindC N5 binds m x=m x
 | [],_,_=>rfl
 | (n,v)::r,m,h=>by
  unfold bindC
  rw [BW fun w hw=>h w (Oq _ hw)]
  split
  ·rfl
  ·have:x≠n:=by rintro rfl;exact h v Oo
   simp [this]
theorem Cw {N5:Str->Option LQ}{x:Str}{v:FX}:∀ {P:List Str} {vs:List FX} {i:Nat} {m:Str->Option FX},P.Nodup->P[i]?=Dn x->vs[i]?=Dn v->N5 x=Dn .local ->
  bindL N5 (P.zip vs) m x=Dn v
 | [],_,_,_,_,h,_,_=>by simp at h
 | _::_,[],_,_,_,_,h,_=>by simp at h
 | p::P,w::vs,0,m,nd,h1,h2,hk=>by
  simp at h1 h2;subst h1;subst h2
  show bindL N5 ((p,w)::P.zip vs) m p=_
  unfold bindL
  rw [Bc fun v hv=>(Um.mp nd).1 (List.of_mem_zip hv).1,if_pos hk]
  simp
 | p::P,w::vs,i+1,m,nd,h1,h2,hk=>by
  show bindL N5 ((p,w)::P.zip vs) m x=_
  unfold bindL
  exact Cw (i:=i) (Um.mp nd).2 (by simpa using h1) (by simpa using h2) hk
theorem Ao {N5:Str->Option LQ}{x:Str}{v:FX}:∀ {P:List Str} {vs:List FX} {i:Nat} {m:Str->Option FX},P.Nodup->P[i]?=Dn x->vs[i]?=Dn v->N5 x≠Dn .local ->
  bindC N5 (P.zip vs) m x=Dn v
 | [],_,_,_,_,h,_,_=>by simp at h
 | _::_,[],_,_,_,_,h,_=>by simp at h
 | p::P,w::vs,0,m,nd,h1,h2,hk=>by
  simp at h1 h2;subst h1;subst h2
  show bindC N5 ((p,w)::P.zip vs) m p=_
  unfold bindC
  rw [BW fun v hv=>(Um.mp nd).1 (List.of_mem_zip hv).1,if_neg hk]
  simp
 | p::P,w::vs,i+1,m,nd,h1,h2,hk=>by
  show bindC N5 ((p,w)::P.zip vs) m x=_
  unfold bindC
  exact Ao (i:=i) (Um.mp nd).2 (by simpa using h1) (by simpa using h2) hk
def start (N:List Str)(vs:List V):St:=vs.map Dn++Qg (N.length - vs.length) FN
def Ur (CX:PL)(P:Dr)(w:Ci)(K:BZ)(mg:Str->Option FX)(base:Heap)(N:List Str)(qual:Str)(scope:Scope)(f:Addr)(cd:FX)(A:Dp)(outer:List Env)(s:AP)(H:Hp)(E:XK):Cx where
 prog:=P
 w:=w
 K:=K
 mg:=mg
 base:=base
 A:=A.deeper (envOfC qual scope s.heap.objs.size f cd)
 N:=N
 s₀:=s
 H₀:=H
 env:=envOfC qual scope s.heap.objs.size f cd
 outer:=outer
 stack:=envOfC qual scope s.heap.objs.size f cd::outer
 ex:=[]
 calm:=A.handled.isNone
 fn:=fun _=>true
 pn:=[]
 xe:=fun e s'=>Bs (Cj P w) (A.deeper (envOfC qual scope s.heap.objs.size f cd)) (leaving (envOfC qual scope s.heap.objs.size f cd) e) (fun _ s''=>CX outer H s E e s'') (fun e' s''=>CX outer H s E e' s'') s'
theorem Ge {sc:Scope}{n:Nat}{x:Str}(h:sc.names.lookup x=Dn .cell):∃ c,(Kh n sc.names []).lookup x=Dn c:=by
 have q:=PySem.W.cellsFrom_some sc.names n [] (.inl h)
 exact Option.isSome_iff_exists.mp q
theorem zaM {CX:PL}{P:Dr}{w:Ci}{K:BZ}{mg:Str->Option FX}{base:Heap}{N ps:List Str}{qual:Str}{scope:Scope}{f:Addr}{cd:FX}{A:Dp}{outer:List Env}{s s1:AP}{H:Hp}{E:XK}{us:List FX}{vs:List V}
  (S:aN N ps scope) (e0:aaW P w K mg base A outer s H) (hl:vs.length=ps.length) (r:Bm vs us)
  (x:InCallC s s.heap.objs.size (bindL (envOfC qual scope s.heap.objs.size f cd).kindOf (ps.zip us) fun _=>FN) (Kh (s.heap.objs.size+1) scope.names []) (bindC (envOfC qual scope s.heap.objs.size f cd).kindOf (ps.zip us) fun _=>FN) s1) :
  BL (Ur CX P w K mg base N qual scope f cd A outer s H E) [] (start N vs) H s1:=by
 have hpl:ps.length<=N.length:=by have:=congrArg List.length S.pre;rw [Uz] at this;lia
 obtain ⟨h1,tk,rfl,hk⟩:=x.done
 have noA:∀ b:Addr,b∉(Ur CX P w K mg base N qual scope f cd A outer s H E).ex:=fun b z=>absurd (show b∈([]:List Addr) from z) (by simp)
 refine ⟨⟨e0.mod,S.kind,rfl,rfl,Ij _,fun y z c h1 h2=>?_,fun y hy=>?_,fun y c _ h=>?_,fun z=>Option.isNone_iff_eq_none.mp (show A.handled.isNone=true from z),e0.qt,Around.frames_deeper e0.frames,.inr ⟨rfl,rfl⟩,fun b z=>absurd z (noA b),e0.bs,e0.bsz,fun b _ _=>noA b,fun b z=>absurd z (noA b),e0.funs,e0.frf⟩,
  rfl,e0.bare,Un.kept hk,⟨_,x.toInCall.ns,fun i y v h1 h2 h3=>?_⟩,fun y c h=>⟨_,x.cell y c h⟩,e0.hok.fresh (Ij _),fun y c h=>?_,fun p hp=>absurd (show p∈([]:List (Addr×Obj)) from hp) (by simp),e0.hok.kept hk,?_⟩
 ·exact name_of_addr x.apart (S8 h1) (S8 h2)
 ·have hy:scope.names.lookup y=Dn .cell\/scope.names.lookup y=Dn .free:=hy
  rcases hy with hy | hy
  ·exact Ge hy
  ·exact absurd rfl (S.nofree _ (S8 hy))
 ·exact Nat.le_of_lt (x.above y c (S8 h))
 ·have hi:i<vs.length:=by
   unfold start at h2
   by_cases hi:i<vs.length
   ·exact hi
   ·rw [TX (by simpa using hi)] at h2
    rw [Vb] at h2
    split at h2 <;> cases h2
  have ha:vs[i]?=Dn v:=by
   unfold start at h2
   rw [Tt (by simpa using hi),ML] at h2
   cases e:vs[i]? with
   | none=>rw [e] at h2;cases h2
   | some a=>rw [e] at h2;cases h2;rfl
  obtain ⟨u,hu,rv⟩:=r.get ha
  have hp:ps[i]?=Dn y:=by
   rw [<-S.pre,List.getElem?_take_of_lt (by lia)];exact h1
  have ndP:ps.Nodup:=by rw [<-S.pre];exact S.nd.sublist (List.take_sublist _ _)
  refine ⟨u,rv,?_⟩
  rcases S.par y (Pk hp) with k | k
  ·exact .inl ⟨k,Cw ndP hp hu k⟩
  ·obtain ⟨c,e⟩:=Ge (n:=s.heap.objs.size+1) k
   refine .inr ⟨.inl k,c,e,?_⟩
   have q:=x.cell y c e
   rw [Ao ndP hp hu (by show scope.names.lookup y≠_;rw [k];decide)] at q
   exact q
 ·exact e0.hok.fresh (Nat.le_of_lt (x.above y c (S8 h)))
 ·unfold start
  show _=N.length
  rw [Oj,Iu,List.length_replicate]
  lia
theorem acv {CX:PL}{P:Dr}{w:Ci}{K:BZ}{mg:Str->Option FX}{base:Heap}{k:Nat}{f:Addr}{name qual:Str}{params:Arguments}{body:List Stmt}{scope:Scope}{dV kV doc pm cdv ct oc:FX}{an od:Option Addr}
  {osl:Array (Option FX)} {N ps:List Str} {sp:Sp} (lk:K.lookup f=Dn ⟨oc,od,.func (U3 name qual params body scope dV kV doc pm an cdv ct),osl⟩) (hcd:PySem.W.codeIn K cdv qual=true) (S:aN N ps scope)
  (len:∀ vs H Q E,sp vs H Q E->vs.length=ps.length)
  (hbody:∀ (A:Dp) (outer:List Env) (s:AP) (H:Hp) (vs:List V) (Q:VK) (E:XK),ud k (A.deeper (envOfC qual scope s.heap.objs.size f cdv))->sp vs H Q E ->
   ∃ t,Nj (Ur CX P w K mg base N qual scope f cdv A outer s H E) body t/\t { nx:=fun _ H'=>Q .non H',rt:=Q } (start N vs) H) :
  cA P w K mg base CX (k+1) f (U3 name qual params body scope dV kV doc pm an cdv ct) ps sp:=by
 refine ⟨len,fun A outer s H args us vs Q E hr e0 hb r hsp=>?_⟩
 have hl:=len _ _ _ _ hsp
 have KX:K.In s.heap:=e0.mod.kin.keeps fun b o e=>(e0.bs b o e).1
 have lim:s.heap.NoLimit:=e0.mod.nolimit.keeps fun b o e=>(e0.bs b o e).1
 have hkind:∀ y∈ps.zip us,scope.names.lookup y.1=Dn .local\/(scope.names.lookup y.1=Dn .cell/\((Kh (s.heap.objs.size+1) scope.names []).lookup y.1).isSome=true):=fun ⟨n,v⟩ hy=>by
  rcases S.par n (List.of_mem_zip hy).1 with q | q
  ·exact .inl q
  ·exact .inr ⟨q,PySem.W.cellsFrom_some _ _ _ (.inl q)⟩
 refine codeAny_call_function hr.depth (KX _ _ lk) rfl S.co S.gen rfl (PySem.W.codeRec_of KX hcd) (hb _ _ _ _ ?_)
 refine wpAny_newFunctionEnv_cells S.kind hkind fun env he s1 x=>?_
 subst he
 refine ⟨lim.keeps x.toInCall.keep,codeAny_func ?_⟩
 obtain ⟨t,ht,hq⟩:=hbody A outer s H vs Q E (hr.deeper _) hsp
 have I:BL (Ur CX P w K mg base N qual scope f cdv A outer s H E) [] (start N vs) H s1:=zaM S e0 hl r x
 refine Oi (ht [] s1 (start N vs) H _ I hq) (fun fl s' hs=>?_) fun e s' hs=>hs
 have fin:∀ {σ':St} {H':Hp} {v:V} {u:FX},BL (Ur CX P w K mg base N qual scope f cdv A outer s H E) [] σ' H' s'->RelV v u->Q v H'->CE outer P w H s Q u s':=
  fun {σ' H' v u} J rv q=>⟨v,H',J.os,J.bare,J.base,J.hok,rv,q⟩
 cases fl with
 | ret u=>
  obtain ⟨v,σ',H',J,rv,q⟩:=hs
  exact fin J rv q
 | next=>
  obtain ⟨σ',H',J,q⟩:=hs
  exact fin (v:=V.non) (u:=Value.none) J rfl q
 | brk=>
  obtain ⟨_,_,_,q⟩:=hs
  exact Qd q
 | cont=>
  obtain ⟨_,_,_,q⟩:=hs
  exact Qd q
section
variable {X:Cx}{x:Str}{p pos:Pos}{e:Expr}{es:List Expr}{t:TA}{id T:String}{r:List V->Hp->VK->Prop}
def tCB (r:List V->Hp->VK->Prop)(t:TA):TE:=fun σ H Q=>t σ H fun vs H1=>r vs H1 Q
theorem afO (hc:mF X (.builtin id) r)(hg:Gl X x)(hm:X.mg x=FN)(hv:TJ x=Dn (.builtin id))(ha:PA X (e::es) t)(hn:x ≠ "__name__":=by decide)(hdb:(x==("__debug__" : Str))=false:=by decide)
  (he:HI (e::es) X.env=(false,eval e X.env)::HI es X.env:=by rfl) (hpl:(Kp pos (HI es X.env)).any (·.1)=false:=by rfl):PE X (.Call (.Name x p) (e::es) [] pos) (tCB r t):=by
 intro pins s σ H Q I h
 refine U6 (uY I hg hm hv ?_ hn hdb)
 exact PyProof.Rows.callWith_builtin1 (Ia (ha pos pins s σ H _ I h) fun us s1 ⟨vs,H1,I1,r1,q1⟩=>hc pins s1 σ H1 vs us Q I1 r1 q1) he hpl
theorem zaD (hc:mF X (.type T) r)(hg:Gl X x)(hm:X.mg x=FN)(hv:TJ x=Dn (.type T))(ha:PA X (e::es) t)(hn:x ≠ "__name__":=by decide)(hdb:(x==("__debug__" : Str))=false:=by decide)
  (he:HI (e::es) X.env=(false,eval e X.env)::HI es X.env:=by rfl) (hpl:(Kp pos (HI es X.env)).any (·.1)=false:=by rfl):PE X (.Call (.Name x p) (e::es) [] pos) (tCB r t):=by
 intro pins s σ H Q I h
 refine U6 (uY I hg hm hv ?_ hn hdb)
 exact V5 (Ia (ha pos pins s σ H _ I h) fun us s1 ⟨vs,H1,I1,r1,q1⟩=>hc pins s1 σ H1 vs us Q I1 r1 q1) he hpl
end
end L2
namespace HT
open PySem PyProof.Rows
section
open PySem.SeqAt
open PySem.AutoSeq1 (wpAny_loadPart')
open PySem.MeetsSeq PySem.MeetsSeq2 PySem.MeetsSeq3
end
section
variable {prog:Dr}{w:Ci}{A:Dp}{E:FX->AP->Prop}{s:AP}
theorem V7 {t b:Addr}{vs ws:List FX}{Q:FX->AP->Prop}(ht:IsTup s.heap t vs.toArray)(hb:IsTup s.heap b ws.toArray)(hv:vs≠[])
  (h1:ws=[]->Q (.ref t) s) (h2:ws≠[]->Q (.ref s.heap.objs.size) { s with heap:=s.heap.push { cls:=.type "tuple",data:=.seq (vs++ws).toArray } })
  (hsz:vs.length+ws.length<=Ig):Bs (Cj prog w) A (N7 .Add (.ref t) (.ref b)) Q E s:=by
 obtain ⟨⟨cls,dd,data,sl⟩,ho,hc,n,hd⟩:=id ht
 obtain ⟨⟨cls2,dd2,data2,sl2⟩,ho2,hc2,n2,hd2⟩:=id hb
 simp only at hc hd hc2 hd2
 subst hc hd hc2 hd2
 have e:vs.toArray++ws.toArray=(vs++ws).toArray:=by simp
 by_cases hw:ws=[]
 ·exact concat_meets ⟨_,ho,rfl⟩ ⟨_,ho2,rfl⟩ noFill_tuple_add seq_tuple_add PySem.F.slot_tuple_add PySem.F.entry_tuple_add (PySem.F.args_tuple_add_2 _ _)
   (tuple_addW1 t b vs.toArray ws.toArray n n2 dd dd2 sl sl2 (by simpa using hv) (by simp [hw])) ⟨ho,ho2,h1 hw⟩
 ·refine concat_meets ⟨_,ho,rfl⟩ ⟨_,ho2,rfl⟩ noFill_tuple_add seq_tuple_add PySem.F.slot_tuple_add PySem.F.entry_tuple_add (PySem.F.args_tuple_add_2 _ _)
   (tuple_addW2 t b vs.toArray ws.toArray n n2 dd dd2 sl sl2 (by simpa using hv) (by simpa using hw) (by rw [Jr,Jr];exact hsz)) ⟨ho,ho2,?_⟩
  rw [e]
  exact h2 hw
def sIx (n d:Nat):Option Int->Nat
 | none=>d
 | some v=>if v<0 then (v+(n:Int)).toNat else min v.toNat n
theorem Yb (n d:Nat)(hd:d<=n)(o:Option Int):sIx n d o<=n:=by
 cases o with
 | none=>exact hd
 | some v=>
  show (if v<0 then (v+(n:Int)).toNat else min v.toNat n)<=n
  by_cases hv:v<0
  ·rw [if_pos hv];lia
  ·rw [if_neg hv];exact Nat.min_le_right _ _
theorem La (v:Int)(n d:Nat):(if v<0 then max (v+(n:Int)) 0 else min v (n:Int))=((sIx n d (Dn v):Nat):Int):=by
 show (if v<0 then max (v+(n:Int)) 0 else min v (n:Int))=(((if v<0 then (v+(n:Int)).toNat else min v.toNat n):Nat):Int)
 by_cases hv:v<0
 ·simp only [if_pos hv];lia
 ·simp only [if_neg hv];lia
theorem zaz (lo hi:Option Int)(n:Nat):Builtin.Slice.sliceAdjust lo hi 1 (n:Int)=(((sIx n 0 lo:Nat):Int),((sIx n n hi:Nat):Int)):=by
 have h1:¬ ((1:Int)<0):=by lia
 unfold Builtin.Slice.sliceAdjust
 simp only [h1,if_false]
 refine JT ?_ ?_
 ·cases lo with
  | none=>rfl
  | some v=>exact La v n 0
 ·cases hi with
  | none=>rfl
  | some v=>exact La v n n
theorem zax (i j:Nat):Vd (i:Int) (j:Int) 1=j - i:=by
 unfold Vd
 have h1:(1:Int)>0:=by lia
 simp only [h1,if_true,Int.ediv_one]
 split <;> lia
theorem yd {v:FX}{o:Option Int}{Q:Option Int->AP->Prop}(p:IsPart v o)(h:Q o s):Bs (Cj prog w) A (Builtin.Slice.slicePartIndex v) Q E s:=by
 cases p with
 | none=>exact slicePart_none h
 | int i t=>exact slicePart_int h
theorem lY {sl:Addr}{vl vu:FX}{lo hi:Option Int}{n:Nat}{Q:Int×Int×Nat->AP->Prop}(hs:s.heap.IsSliceOf sl vl vu .none)(pl:IsPart vl lo)(pu:IsPart vu hi)
  (h:Q (((sIx n 0 lo:Nat):Int),1,sIx n n hi - sIx n 0 lo) s):Bs (Cj prog w) A (Builtin.Slice.sliceApplied (.ref sl) (pure (n:Int))) Q E s:=by
 obtain ⟨os,hos,hcs,hds⟩:=id hs
 unfold Builtin.Slice.sliceApplied Builtin.Slice.sliceFields
 refine Bl (Bl (Lw hos hds (x:=vl) rfl (Bl (Lw hos hds (x:=vu) rfl (Bl (Lw hos hds (x:=.none) rfl (HY ?_)))))))
 refine Bl (slicePart_none ?_)
 show Bs _ _ (if ((1:Int)==0)=true then _ else _) _ _ s
 rw [if_neg (by decide)]
 refine Bl (yd pl (Bl (yd pu (Bl (HY ?_)))))
 show Bs _ _ (match Builtin.Slice.sliceAdjust lo hi 1 (n:Int) with | (lo,hi)=>pure (lo,(1:Int),Vd lo hi 1)) _ _ s
 rw [zaz lo hi n]
 show Bs _ _ (pure (((sIx n 0 lo:Nat):Int),(1:Int),Vd ((sIx n 0 lo:Nat):Int) ((sIx n n hi:Nat):Int) 1)) _ _ s
 rw [zax]
 exact HY h
theorem ahJ (xs:Array FX)(i k:Nat):((O9 k).filterMap fun (m:Nat)=>xs[((i:Int)+(m:Int)*1).toNat]?).toArray=((xs.toList.drop i).take k).toArray:=by
 have e:(fun (m:Nat)=>xs[((i:Int)+(m:Int)*1).toNat]?)=fun m=>xs[i+m]?:=by
  funext m
  have:((i:Int)+(m:Int)*1).toNat=i+m:=by lia
  rw [this]
 rw [e]
 have:=pick_run xs i k
 rw [List.filterMap_map] at this
 have e2:((fun x=>xs[x]?) ∘ fun x=>i+x)=fun m=>xs[i+m]?:=rfl
 rw [e2] at this
 rw [this]
theorem rP {t sl:Addr}{items:Array FX}{vl vu:FX}{lo hi:Option Int}{Q:FX->AP->Prop}(ht:IsTup s.heap t items)(hs:s.heap.IsSliceOf sl vl vu .none)(pl:IsPart vl lo)(pu:IsPart vu hi)
  (hw:¬ (sIx items.size 0 lo=0/\sIx items.size items.size hi=items.size))
  (h:Q (.ref s.heap.objs.size) { s with heap:=s.heap.push { cls:=.type "tuple",data:=.seq ((items.toList.drop (sIx items.size 0 lo)).take (sIx items.size items.size hi - sIx items.size 0 lo)).toArray } })
  (hsz:items.size<=Ig):Bs (Cj prog w) A (getItem (.ref t) (.ref sl)) Q E s:=by
 have htake:sizeOk (.seq ((items.toList.drop (sIx items.size 0 lo)).take (sIx items.size items.size hi - sIx items.size 0 lo)).toArray):=by
  show ((items.toList.drop (sIx items.size 0 lo)).take (sIx items.size items.size hi - sIx items.size 0 lo)).toArray.size<=Ig
  rw [Jr,Uz,List.length_drop,Array.length_toList]
  lia
 have hj:sIx items.size items.size hi<=items.size:=Yb _ _ (Ij _) hi
 obtain ⟨os,hos,hcs,hds⟩:=id hs
 have hTs:s.TypeIs (.ref sl) "slice":=⟨os,hos,hcs⟩
 unfold getItem
 try with_reducible refine Qc ?_
 first | refine Bl (HY ?_) | skip
 refine Bl (wpAny_sequenceKey ht.typeIs (by decide) ?_)
 refine Bl (Tc (name:=TQ "__getitem__") ht.typeIs Tq
  (S5 Tq ht.typeIs entry_tuple_getitem ?_ (args_tuple_getitem _ _)))
 show Bs _ _ (Builtin.Tuple.tupleItemsOf (.ref t) >>= _) _ _ s
 refine Bl (tupleItemsOf_ ht ?_)
 refine Bl (wpAny_typeOf hTs ?_)
 rw [if_pos (by decide)]
 refine Bl (lY hs pl pu ?_)
 have hno:¬ ((((sIx items.size 0 lo:Nat):Int)==0&&(1:Int)==1&&(sIx items.size items.size hi - sIx items.size 0 lo)==items.size)=true):=by
  intro q
  rw [O7,O7] at q
  have q1:((sIx items.size 0 lo:Nat):Int)=0:=eq_of_beq q.1.1
  have q2:sIx items.size items.size hi - sIx items.size 0 lo=items.size:=eq_of_beq q.2
  exact hw ⟨by lia,by lia⟩
 show Bs _ _ (if (((sIx items.size 0 lo:Nat):Int)==0&&(1:Int)==1&&(sIx items.size items.size hi - sIx items.size 0 lo)==items.size)=true then _ else _) _ _ s
 rw [if_neg hno,ahJ]
 first
  | exact Bl (m:=Vj _) (Pn (HY ⟨_,rfl,HY h⟩) htake)
  | exact Bl (m:=Vj _) (Pn (Bl (HY (HY ⟨_,rfl,HY h⟩))) htake)
  | exact Bl (Bl (m:=Vj _) (Pn (HY (HY ⟨_,rfl,HY h⟩)) htake))
  | exact Bl (Bl (m:=Vj _) (Pn (HY ⟨_,rfl,HY h⟩) htake))
end
end HT
namespace L2
open PySem PySem.Spec PyProof.Rows
abbrev TO:=St->Hp->(Option Int->Hp->Prop)->Prop
def PO (X:Cx)(e:Option Expr)(t:TO):Prop:=
 ∀ (pins:List (Addr×Obj)) (s:AP) (σ : St) (H:Hp) (Q:Option Int->Hp->Prop),BL X pins σ H s->t σ H Q ->
  Bs (Cj X.prog X.w) X.A (evalPart e X.env) (fun u s'=>∃ o H',BL X pins σ H' s'/\IsPart u o/\Q o H') X.xe s
def Wg:TO:=fun _ H Q=>Q FN H
def acn (t:TE):TO:=fun σ H Q=>t σ H fun x H1=>∃ i,x=.int i/\Q (Dn i) H1
section
variable {X:Cx}{e:Expr}{te:TE}{lo hi:Option Expr}{tl th:TO}{pos p2:Pos}
theorem agE:PO X FN Wg:=by
 intro pins s σ H Q I h
 rw [evalPart_none]
 exact HY ⟨FN,H,I,.none,h⟩
theorem ahv (h:PE X e te):PO X (Dn e) (acn te):=by
 intro pins s σ H Q I hw
 rw [evalPart_some]
 refine Ia (h pins s σ H _ I hw) fun u s1 ⟨x,H1,I1,r1,q1⟩=>?_
 obtain ⟨i,rfl,q⟩:=q1
 obtain ⟨t,rfl⟩:=r1
 exact ⟨Dn i,H1,I1,.int i t,q⟩
def Ql (X:Cx)(r:V->Option Int->Option Int->Hp->VK->Prop):Prop:=
 ∀ (pins:List (Addr×Obj)) (s:AP) (σ : St) (H:Hp) (x:V) (v vl vu:FX) (lo hi:Option Int) (sl:Addr) (Q:VK),BL X pins σ H s->RelV x v->s.heap.IsSliceOf sl vl vu .none->IsPart vl lo->IsPart vu hi->r x lo hi H Q ->
  ∃ T id,typeLookup (.type T) "__getitem__" = pure (Dn (.builtin id))/\s.TypeIs v T/\Bs (Cj X.prog X.w) X.A (getItem v (.ref sl)) (EP X pins σ Q) X.xe s
theorem Ql.or {r r':V->Option Int->Option Int->Hp->VK->Prop}(h:Ql X r)(h':Ql X r'):Ql X (fun x lo hi H Q=>r x lo hi H Q\/r' x lo hi H Q):=by
 intro pins s σ H x v vl vu lo hi sl Q I rx hs pl pu q
 rcases q with q | q
 ·exact h pins s σ H x v vl vu lo hi sl Q I rx hs pl pu q
 ·exact h' pins s σ H x v vl vu lo hi sl Q I rx hs pl pu q
def tSl (r:V->Option Int->Option Int->Hp->VK->Prop)(te:TE)(tl th:TO):TE:=fun σ H Q=>te σ H fun x H1=>tl σ H1 fun l H2=>th σ H2 fun u H3=>r x l u H3 Q
theorem zbg {r:V->Option Int->Option Int->Hp->VK->Prop}(hr:Ql X r)(he:PE X e te)(hl:PO X lo tl)(hu:PO X hi th):PE X (.Subscript e (.Slice lo hi FN p2) pos) (tSl r te tl th):=by
 intro pins s σ H Q I h
 refine Subscript_ (Ia (he pins s σ H _ I h) fun v s1 ⟨x,H1,I1,r1,q1⟩=>?_)
 refine wpAny_Slice (Ia (hl pins s1 σ H1 _ I1 q1) fun vl s2 ⟨l,H2,I2,pl,q2⟩=>Ia (hu pins s2 σ H2 _ I2 q2) fun vu s3 ⟨u,H3,I3,pu,q3⟩=>?_)
 rw [evalPart_none]
 refine HY ?_
 have I4:BL X pins σ H3 { s3 with heap:=s3.heap.push { cls:=.type "slice",data:=.fields #[vl,vu,.none] } }:=I3.kept (t':=s3.toks) fun b ob q=>J6 _ q
 obtain ⟨T,id,hT,ht,hg⟩:=hr pins { s3 with heap:=s3.heap.push { cls:=.type "slice",data:=.fields #[vl,vu,.none] } } σ H3 x v vl vu l u s3.heap.objs.size Q I4 r1 (Heap.IsSliceOf.new ..) pl pu q3
 show Bs (Cj X.prog X.w) X.A (subscriptTail e (.Slice lo hi FN p2) v (.ref s3.heap.objs.size)) (EP X pins σ Q) X.xe { s3 with heap:=s3.heap.push { cls:=.type "slice",data:=.fields #[vl,vu,.none] } }
 exact tail_any (ops:=[.ref s3.heap.objs.size,v]) ht hT hg (by with_unfolding_all rfl)
def O6 (xs:List V)(lo hi:Option Int):List V:=(xs.drop (HT.sIx xs.length 0 lo)).take (HT.sIx xs.length xs.length hi - HT.sIx xs.length 0 lo)
theorem vD (xs:List V)(lo hi:Option Int):(O6 xs lo hi).length<=xs.length:=by
 unfold O6
 rw [Uz,List.length_drop]
 lia
def ad3 (K:BZ):V->Option Int->Option Int->Hp->VK->Prop:=fun x lo hi H Q=>∃ a xs,x=.ref a/\Jg K H a xs /\
 ¬ (HT.sIx xs.length 0 lo=0/\HT.sIx xs.length xs.length hi=xs.length)/\∀ p,H p=FN->Q (.ref p) (IW H p (.tup (O6 xs lo hi)))
theorem Zw:Ql X (ad3 X.K):=by
 intro pins s σ H x v vl vu lo hi sl Q I rx hs pl pu h
 obtain ⟨a,xs,rfl,hx,hw,q⟩:=h
 cases rx
 obtain ⟨its,r,ht,hz⟩:=I.tuple hx
 have hlen:its.toArray.size=xs.length:=by rw [Jr];exact r.length.symm
 refine ⟨"tuple",_,Tq.lookup,ht.typeIs,?_⟩
 refine HT.rP ht hs pl pu (by rw [hlen];exact hw) ?_ (by rw [hlen];exact hz)
 rw [hlen]
 refine ⟨.ref s.heap.objs.size,_,I.laid (t':=s.toks) (o:=.tup (O6 xs lo hi)) (fun b ob q=>J6 _ q) (Ij _) ?_,rfl,q _ (I.hok.fresh (Ij _))⟩
 exact ⟨Jp (vD xs lo hi) hz,_,(r.drop (HT.sIx xs.length 0 lo)).take (HT.sIx xs.length xs.length hi - HT.sIx xs.length 0 lo),Oh.new _ _⟩
def aco (K:BZ):R2:=fun x y H Q=>∃ a b xs ys,x=.ref a/\y=.ref b/\Jg K H a xs/\Jg K H b ys/\xs≠[]/\xs.length+ys.length<=Ig /\
 (ys=[]->Q (.ref a) H)/\(ys≠[]->∀ p,H p=FN->Q (.ref p) (IW H p (.tup (xs++ys))))
theorem Bm.nil_iff {xs:List V}{us:List FX}(r:Bm xs us):us=[]↔xs=[]:=by
 cases r with
 | nil=>simp
 | cons _ _=>simp
theorem zbt:Kc X (N7 .Add) (aco X.K):=by
 intro pins s σ H x y v u Q I rx ry h
 obtain ⟨a,b,xs,ys,rfl,rfl,ha,hb,hx,hz,q1,q2⟩:=h
 cases rx
 cases ry
 obtain ⟨its,r1,p1,_⟩:=I.tuple ha
 obtain ⟨its2,r2,p2,_⟩:=I.tuple hb
 refine HT.V7 p1 p2 (fun z=>hx (r1.nil_iff.mp z)) (fun z=>⟨.ref a,H,I,rfl,q1 (r2.nil_iff.mp z)⟩) (fun z=>?_) (by rw [<-r1.length,<-r2.length];exact hz)
 refine ⟨.ref s.heap.objs.size,_,I.laid (t':=s.toks) (o:=.tup (xs++ys)) (fun b ob q=>J6 _ q) (Ij _) ?_,rfl,q2 (fun w=>z (r2.nil_iff.mpr w)) _ (I.hok.fresh (Ij _))⟩
 exact ⟨by rw [Oj];exact hz,_,r1.append r2,Oh.new _ _⟩
end
def Pb (n:Nat)(i:Int):Option Nat:=if 0<=i then (if i<n then Dn i.toNat else FN) else if -(n:Int)<=i then Dn (i+n).toNat else FN
def Ks {α : Type}(xs:List α)(i:Int):Option α:=(Pb xs.length i).bind fun j=>xs[j]?
theorem Ju {n:Nat}{i:Int}{j:Nat}(h:Pb n i=Dn j):seqIndex? i n=Dn j/\j<n/\-(n:Int)<=i/\i<n:=by
 unfold Pb at h
 by_cases h0:0<=i
 ·rw [if_pos h0] at h
  by_cases h1:i<n
  ·rw [if_pos h1] at h
   have e:i.toNat=j:=Ja h
   exact ⟨by rw [seqIndex_of h0 h1,e],by lia,by lia,h1⟩
  ·rw [if_neg h1] at h;cases h
 ·rw [if_neg h0] at h
  by_cases h1:-(n:Int)<=i
  ·rw [if_pos h1] at h
   have e:(i+n).toNat=j:=Ja h
   exact ⟨by rw [seqIndex_neg (by lia) h1,e],by lia,h1,by lia⟩
  ·rw [if_neg h1] at h;cases h
theorem DK {α : Type}{xs:List α}{i:Int}{v:α}(h:Ks xs i=Dn v):∃ j,seqIndex? i xs.length=Dn j/\xs[j]?=Dn v/\j<xs.length/\-(xs.length:Int)<=i/\i<xs.length:=by
 unfold Ks at h
 cases e:Pb xs.length i with
 | none=>rw [e] at h;cases h
 | some j=>
  rw [e] at h
  obtain ⟨h1,h2,h3,h4⟩:=Ju e
  exact ⟨j,h1,h,h2,h3,h4⟩
theorem v7 {α : Type}{xs:List α}{j:Nat}{v:α}(h:xs[j]?=Dn v):Ks xs (j:Int)=Dn v:=by
 have hj:j<xs.length:=(Ox.mp h).1
 have e:Pb xs.length (j:Int)=Dn j:=by
  unfold Pb
  rw [if_pos (by lia),if_pos (by lia)];simp
 unfold Ks;rw [e];exact h
theorem afn {α : Type}(xs:List α)(v:α):Ks (xs++[v]) (-1)=Dn v:=by
 have hl:(xs++[v]).length=xs.length+1:=by simp
 have e:Pb (xs++[v]).length (-1)=Dn xs.length:=by
  unfold Pb
  rw [hl,if_neg (by decide),if_pos (by lia)]
  congr 1
  lia
 unfold Ks
 rw [e]
 show (xs++[v])[xs.length]?=Dn v
 simp
def Js (b:Expr):Prop:=∀ o i,subscripted b false o i=operate [o,i] (getItem o i)
def SX (X:Cx)(r:R2):Prop:=
 ∀ (value slice:Expr) (pins:List (Addr×Obj)) (s:AP) (σ : St) (H:Hp) (x y:V) (v u:FX) (Q:VK),BL X pins σ H s->RelV x v->RelV y u->r x y H Q ->
  subscripted slice false v u=operate [v,u] (getItem v u)->Bs (Cj X.prog X.w) X.A (subscriptTail value slice v u) (EP X pins σ Q) X.xe s
def MtR (X:Cx)(id:String)(r:V->List V->Hp->VK->Prop):Prop:=
 ∀ (pins:List (Addr×Obj)) (s:AP) (σ : St) (H:Hp) (x:V) (xs:List V) (v:FX) (us:List FX) (Q:VK),BL X pins σ H s->RelV x v->Bm xs us->r x xs H Q ->
  Bs (Cj X.prog X.w) X.A (call (.builtin id) (v::us)) (EP X pins σ Q) X.xe s
section
variable {X:Cx}{a b:Expr}{ta tb:TE}{pos:Pos}
theorem SX.or {r r':R2}(h:SX X r)(h':SX X r'):SX X (fun x y H Q=>r x y H Q\/r' x y H Q):=by
 intro value slice pins s σ H x y v u Q I rx ry q hs
 rcases q with q | q
 ·exact h value slice pins s σ H x y v u Q I rx ry q hs
 ·exact h' value slice pins s σ H x y v u Q I rx ry q hs
theorem ab4 {r:R2}(hr:SX X r)(ha:PE X a ta)(hb:PE X b tb)(hs:Js b):PE X (.Subscript a b pos) (tOp r ta tb):=by
 intro pins s σ H Q I h
 exact Subscript_ (aa0 ha hb I h fun v u s2 x y H2 I2 rx ry q=>hr a b pins s2 σ H2 x y v u Q I2 rx ry q (hs _ _))
def acS (K:BZ):R2:=fun x y H Q=>∃ p xs i v,x=.ref p/\y=.int i/\Je K H p xs/\Ks xs i=Dn v/\Q v H
def acV (K:BZ):R2:=fun x y H Q=>∃ p xs i v,x=.ref p/\y=.int i/\Jg K H p xs/\Ks xs i=Dn v/\Q v H
def adg:R2:=fun x y H Q=>∃ z i c,x=.str z/\y=.int i/\z.length<=Ig/\Ks z.cps.toList i=Dn c/\Q (.str ⟨#[c]⟩) H
theorem aht:SX X (acS X.K):=by
 intro value slice pins s σ H x y v u Q I rx ry h hs
 obtain ⟨p,xs,i,z,rfl,rfl,hq,he,q⟩:=h
 cases rx
 obtain ⟨t,rfl⟩:=ry
 obtain ⟨its,r,pl,hz⟩:=I.list hq
 obtain ⟨j,h1,h2,h3,h4,h5⟩:=DK he
 obtain ⟨w,ew,rw'⟩:=r.get h2
 have hl:=r.length
 have hn:=tW
 have fin:EP X pins σ Q w s:=⟨z,H,I,rw',q⟩
 by_cases h0:0<=i
 ·have hj:i.toNat=j:=by
   rw [seqIndex_of h0 h5] at h1
   exact Ja h1
  exact item_listR pl.isList h0 (by lia) (by rw [hj];simpa using ew) fin hs
 ·have hj:(i+(its.toArray.size:Int)).toNat=j:=by
   rw [seqIndex_neg (by lia) h4] at h1
   rw [Jr,<-hl]
   exact Ja h1
  exact subscriptTail_builtinR (x:=w) pl.isList.typeIs slot_list_getitem.lookup
   (wpAny_getItem_list_neg (Q:=fun r s'=>r=w/\EP X pins σ Q r s') pl.isList (by lia) (by rw [Jr] <;> lia) (by lia) (by rw [hj];simpa using ew) ⟨rfl,fin⟩) hs
theorem aar:SX X (acV X.K):=by
 intro value slice pins s σ H x y v u Q I rx ry h hs
 obtain ⟨p,xs,i,z,rfl,rfl,hq,he,q⟩:=h
 cases rx
 obtain ⟨t,rfl⟩:=ry
 obtain ⟨its,r,pl,hz⟩:=I.tuple hq
 obtain ⟨j,h1,h2,h3,h4,h5⟩:=DK he
 obtain ⟨w,ew,rw'⟩:=r.get h2
 have hl:=r.length
 have hn:=tW
 have fin:EP X pins σ Q w s:=⟨z,H,I,rw',q⟩
 exact subscriptTail_builtinR (x:=w) pl.typeIs slot_tuple_getitem.lookup
  (getItem_tuple (j:=j) (Q:=fun r s'=>r=w/\EP X pins σ Q r s') pl (by lia) (by lia) (by rw [Jr,<-hl];exact h1) (by simpa using ew) ⟨rfl,fin⟩) hs
theorem aai:SX X adg:=by
 intro value slice pins s σ H x y v u Q I rx ry h hs
 obtain ⟨z,i,c,rfl,rfl,hz,he,q⟩:=h
 obtain ⟨t,rfl⟩:=rx
 obtain ⟨t',rfl⟩:=ry
 obtain ⟨j,h1,h2,h3,h4,h5⟩:=DK he
 have hl:z.cps.toList.length=z.length:=by simp [Str.length]
 rw [hl] at h1 h4 h5
 have hn:=tW
 exact tail_any (typeIs_str s z t) slot_str_getitem.lookup (getItem_str (c:=c) (by
  have e1:decide (i < -(2^63:Int))=false:=decide_eq_false (by lia)
  have e2:decide (i>=2^63)=false:=decide_eq_false (by lia)
  rw [e1,e2,Bool.or_false]) (by rw [h1];simpa using h2) ⟨.str ⟨#[c]⟩,H,I.tok _,⟨_,rfl⟩,q⟩) hs
def rIx (K:BZ):R2:=fun x y H Q=>acS K x y H Q\/acV K x y H Q\/adg x y H Q
theorem Zf:SX X (rIx X.K):=aht.or (aar.or aai)
theorem zaH (its:List FX)(n j:Nat)(u:FX):Obj.mapSeq (·.setIfInBounds j u) { cls:=.type "list",data:=.seq its.toArray n } = { cls:=.type "list",data:=.seq (its.set j u).toArray n }:=by
 simp [Obj.mapSeq]
theorem BL.lst {pins:List (Addr×Obj)}{σ : St}{H:Hp}{s:AP}{p:Addr}{xs:List V}(I:BL X pins σ H s)(h:H p=Dn (.lst xs)) :
  ∃ (its:List FX) (n:Nat),Bm xs its/\s.heap.get? p=Dn { cls:=.type "list",data:=.seq its.toArray n }/\xs.length<=Ig:=by
 obtain ⟨z,its,n,r,e⟩:=I.hok p _ h
 exact ⟨its,n,r,e,z⟩
theorem BL.lstUpd {pins:List (Addr×Obj)}{σ : St}{H:Hp}{s:AP}{p:Addr}{xs ys:List V}{its its':List FX}{n n':Nat}{f:Obj->Obj}(I:BL X pins σ H s)(h:H p=Dn (.lst xs))
  (ho:s.heap.get? p=Dn { cls:=.type "list",data:=.seq its.toArray n }) (hf:f { cls:=.type "list",data:=.seq its.toArray n } = { cls:=.type "list",data:=.seq its'.toArray n' }) (r:Bm ys its') (hz:ys.length<=Ig) (t:Nat) :
  BL X pins σ (IW H p (.lst ys)) { s with heap:=s.heap.update p f,toks:=t }:=by
 have e:(s.heap.update p f).get? p=Dn { cls:=.type "list",data:=.seq its'.toArray n' }:=by
  rw [VH f ho (by rw [hf] <;> rfl),hf]
 refine I.write (x:=p) (e:=p) (by rw [h];trivial) (.inl rfl) (fun b u hb q=>(Heap.get?_update_other _ _ (N8 hb)).trans q) ⟨_,e⟩ ?_
 exact ⟨hz,its',n',r,e⟩
def ZS:V->V->V->Hp->(Hp->Prop)->Prop:=fun o i v H Q=>∃ p xs k j,o=.ref p/\i=.int k/\H p=Dn (.lst xs)/\Pb xs.length k=Dn j/\Q (IW H p (.lst (xs.set j v)))
theorem set_list:acH X ZS:=by
 intro pins s σ H o i v ov iv u Q I ro ri rv h
 obtain ⟨p,xs,k,j,rfl,rfl,hp,hj,q⟩:=h
 cases ro
 obtain ⟨t,rfl⟩:=ri
 obtain ⟨its,n,r,ho,hz⟩:=I.lst hp
 obtain ⟨h1,h2,h3,h4⟩:=Ju hj
 have hl:=r.length
 have hn:=tW
 have I':BL X pins σ (IW H p (.lst (xs.set j v))) { s with heap:=s.heap.update p (Obj.mapSeq (·.setIfInBounds j u)) }:=
  I.lstUpd hp ho (zaH its n j u) (r.set rv j) (by rw [List.length_set];exact hz) s.toks
 by_cases h0:0<=k
 ·have hk:k.toNat=j:=by
   rw [seqIndex_of h0 h4] at h1
   exact Ja h1
  exact PySem.W.ki_setAt ho h0 (by lia) (by rw [Jr,<-hl];exact h4) (by rw [hk];exact ⟨_,I',q⟩)
 ·have hk:(k+(its.toArray.size:Int)).toNat=j:=by
   rw [seqIndex_neg (by lia) h3] at h1
   rw [Jr,<-hl]
   exact Ja h1
  exact PySem.W.ki_setBack ho (by lia) (by rw [Jr,<-hl];exact h3) (by lia) (by rw [hk];exact ⟨_,I',q⟩)
theorem aeV (lo hi:Option Int)(n:Nat):(Tv lo hi FN n).1=((HT.sIx n 0 lo:Nat):Int)/\(Tv lo hi FN n).2.1=((HT.sIx n n hi:Nat):Int)/\(Tv lo hi FN n).2.2=1:=by
 refine ⟨?_,?_,rfl⟩
 ·cases lo with
  | none=>simp [Tv,HT.sIx]
  | some i=>
   simp only [Tv,HT.sIx,Option.getD_none,show (1:Int)>0 by decide,if_true]
   by_cases h:i<0
   ·simp only [h,if_true] <;> lia
   ·simp only [h,if_false] <;> lia
 ·cases hi with
  | none=>simp [Tv,HT.sIx]
  | some i=>
   simp only [Tv,HT.sIx,Option.getD_none,show (1:Int)>0 by decide,if_true]
   by_cases h:i<0
   ·simp only [h,if_true] <;> lia
   ·simp only [h,if_false] <;> lia
theorem zG (its:List FX)(lo hi:Option Int):slicePick its.toArray lo hi FN=((its.drop (HT.sIx its.length 0 lo)).take (HT.sIx its.length its.length hi - HT.sIx its.length 0 lo)).toArray:=by
 obtain ⟨h1,h2,h3⟩:=aeV lo hi its.toArray.size
 unfold slicePick
 rw [h1,h2,h3]
 simp only [sliceRange_one,pick_run,Jr] <;> rfl
def ael (K:BZ):V->Option Int->Option Int->Hp->VK->Prop:=fun x lo hi H Q=>∃ a xs,x=.ref a/\Je K H a xs/\∀ p,H p=FN->Q (.ref p) (IW H p (.lst (O6 xs lo hi)))
theorem Vo:Ql X (ael X.K):=by
 intro pins s σ H x v vl vu lo hi sl Q I rx hs pl pu h
 obtain ⟨a,xs,rfl,hx,q⟩:=h
 cases rx
 obtain ⟨its,r,ht,hz⟩:=I.list hx
 have hlen:=r.length
 refine ⟨"list",_,slot_list_getitem.lookup,ht.isList.typeIs,?_⟩
 refine wpAny_getItem_list_slice ht.isList hs pl pu .none (by simp) ?_ (by rw [Jr] <;> lia)
 rw [zG,<-hlen]
 refine ⟨.ref s.heap.objs.size,_,I.laid (t':=s.toks) (o:=.lst (O6 xs lo hi)) (fun b ob q=>J6 _ q) (Ij _) ?_,rfl,q _ (I.hok.fresh (Ij _))⟩
 exact ⟨Jp (vD xs lo hi) hz,_,0,(r.drop (HT.sIx xs.length 0 lo)).take (HT.sIx xs.length xs.length hi - HT.sIx xs.length 0 lo),Lf _ rfl⟩
def rC:V->Bool
 | .non=>true
 | .bl _=>true
 | .int _=>true
 | .str _=>true
 | _=>false
def QT:V->V->Bool
 | .non,.non=>true
 | .bl a,.bl b=>a==b
 | .bl a,.int b=>(if a then 1 else 0)==b
 | .int a,.bl b=>a==(if b then 1 else 0)
 | .int a,.int b=>a==b
 | .str a,.str b=>a==b
 | _,_=>false
theorem Sd {A:Dp}{s:AP}{y x:V}{u v:FX}(ry:RelV y u)(rx:RelV x v)(fy:rC y=true)(fx:rC x=true):TY A s u v (QT y x):=by
 cases y with
 | non=>
  cases ry
  cases x with
  | non=>cases rx;exact SeqAt.EqAt.same _
  | bl b=>cases rx;exact SeqAt.EqAt.none_bool b
  | int b=>obtain ⟨t,rfl⟩:=rx;exact SeqAt.EqAt.none_int b t
  | str b=>obtain ⟨t,rfl⟩:=rx;exact SeqAt.EqAt.none_str b t
  | _=>exact absurd (show false=true from fx) Nb
 | bl a=>
  cases ry
  cases x with
  | non=>cases rx;exact SeqAt.EqAt.bool_none a
  | bl b=>cases rx;exact SeqAt.EqAt.bool_bool a b
  | int b=>obtain ⟨t,rfl⟩:=rx;exact SeqAt.EqAt.bool_int a b t
  | str b=>obtain ⟨t,rfl⟩:=rx;exact SeqAt.EqAt.bool_str a b t
  | _=>exact absurd (show false=true from fx) Nb
 | int a=>
  obtain ⟨t',rfl⟩:=ry
  cases x with
  | non=>cases rx;exact SeqAt.EqAt.int_none a t'
  | bl b=>cases rx;exact SeqAt.EqAt.int_bool a t' b
  | int b=>obtain ⟨t,rfl⟩:=rx;exact SeqAt.EqAt.int_int a t' b t
  | str b=>obtain ⟨t,rfl⟩:=rx;exact SeqAt.EqAt.int_str a t' b t
  | _=>exact absurd (show false=true from fx) Nb
 | str a=>
  obtain ⟨t',rfl⟩:=ry
  cases x with
  | non=>cases rx;exact SeqAt.EqAt.str_none a t'
  | bl b=>cases rx;exact SeqAt.EqAt.str_bool a t' b
  | int b=>obtain ⟨t,rfl⟩:=rx;exact SeqAt.EqAt.str_int a t' b t
  | str b=>obtain ⟨t,rfl⟩:=rx;exact SeqAt.EqAt.str_str a t' b t
  | _=>exact absurd (show false=true from fx) Nb
 | _=>exact absurd (show false=true from fy) Nb
def Qn (x:V)(u:FX):Bool:=match u with
 | .none=>QT .non x
 | .bool b=>QT (.bl b) x
 | .int i _=>QT (.int i) x
 | .str z _=>QT (.str z) x
 | _=>false
theorem Q7 {x y:V}{u:FX}(r:RelV y u)(f:rC y=true):Qn x u=QT y x:=by
 cases y with
 | non=>cases r;rfl
 | bl b=>cases r;rfl
 | int i=>obtain ⟨t,rfl⟩:=r;rfl
 | str z=>obtain ⟨t,rfl⟩:=r;rfl
 | _=>exact absurd (show false=true from f) Nb
theorem Eo {x:V}:∀ {xs:List V} {us:List FX},Bm xs us->xs.all rC=true->us.any (Qn x)=xs.any fun y=>QT y x
 | _,_,.nil,_=>rfl
 | y::xs,u::us,.cons r t,f=>by
  rw [Ua,O7] at f
  rw [U4,U4,Q7 r f.1,Eo t f.2]
theorem zu {A:Dp}{s:AP}{x:V}{v:FX}(rx:RelV x v)(fx:rC x=true):∀ {xs:List V} {us:List FX},Bm xs us->xs.all rC=true->∀ u∈us,TY A s u v (Qn x u)
 | _,_,.nil,_=>fun u hu=>by cases hu
 | y::xs,u::us,.cons r t,f=>fun u' hu=>by
  rw [Ua,O7] at f
  rcases K9.mp hu with rfl | hu
  ·rw [Q7 r f.1];exact Sd r rx f.1 fx
  ·exact zu rx fx t f.2 u' hu
def inV (x:V)(xs:List V):Bool:=xs.any fun y=>QT y x
def rIn (K:BZ)(neg:Bool):R2:=fun x y H Q=>∃ p xs,y=.ref p/\(Je K H p xs\/Jg K H p xs)/\rC x=true/\xs.all rC=true/\Q (.bl (if neg then !inV x xs else inV x xs)) H
theorem aeA:Kc X (M8 .NotIn) (rIn X.K true):=by
 intro pins s σ H x y v u Q I rx ry h
 obtain ⟨p,xs,rfl,hq,fx,fs,q⟩:=h
 cases ry
 rcases hq with hq | hq
 ·obtain ⟨its,r,pl,hz⟩:=I.list hq
  refine SeqAt.notIn_listAt (Qn x) pl.isList (fun w hw=>zu rx fx r fs w (by simpa using hw)) ⟨.bl _,H,I,rfl,?_⟩
  rw [show its.toArray.any (Qn x)=its.any (Qn x) by simp,Eo r fs]
  exact q
 ·obtain ⟨its,r,pl,hz⟩:=I.tuple hq
  refine SeqAt.notIn_tupleAt (Qn x) pl (fun w hw=>zu rx fx r fs w (by simpa using hw)) ⟨.bl _,H,I,rfl,?_⟩
  rw [show its.toArray.any (Qn x)=its.any (Qn x) by simp,Eo r fs]
  exact q
theorem afx:mF X (.builtin "len") (fun xs H Q=>∃ p ys,xs=[.ref p]/\(Je X.K H p ys\/Jg X.K H p ys)/\Q (.int ys.length) H):=by
 intro pins s σ H xs us Q I r h
 obtain ⟨p,ys,rfl,hq,q⟩:=h
 obtain ⟨u,rfl,rx⟩:=vals1 r
 cases rx
 have hn:=tW
 rcases hq with hq | hq
 ·obtain ⟨its,r',pl,hz⟩:=I.list hq
  have hlen:=r'.length
  exact Calls.call_len_list pl.isList (by simp only [Jr] <;> lia) ⟨.int ys.length,H,I.tok _,⟨s.toks+1,by rw [Jr,hlen]⟩,q⟩
 ·obtain ⟨its,r',pl,hz⟩:=I.tuple hq
  have hlen:=r'.length
  exact len_tuple pl (by simp only [Jr] <;> lia) ⟨.int ys.length,H,I.tok _,⟨s.toks+1,by rw [Jr,hlen]⟩,q⟩
theorem mF.or {f:FX}{r r':List V->Hp->VK->Prop}(h:mF X f r)(h':mF X f r'):mF X f (fun xs H Q=>r xs H Q\/r' xs H Q):=by
 intro pins s σ H xs us Q I rs q
 rcases q with q | q
 ·exact h pins s σ H xs us Q I rs q
 ·exact h' pins s σ H xs us Q I rs q
theorem tU:mF X (.type "list") (fun xs H Q=>∃ p ys,xs=[.ref p]/\(Je X.K H p ys\/Jg X.K H p ys)/\∀ l,H l=FN->Q (.ref l) (IW H l (.lst ys))):=by
 intro pins s σ H xs us Q I r h
 obtain ⟨p,ys,rfl,hq,q⟩:=h
 obtain ⟨u,rfl,rx⟩:=vals1 r
 cases rx
 have fin:∀ (its:List FX),Bm ys its->ys.length<=Ig->∀ (h':Heap) (c':Nat),(∀ b o',s.heap.get? b=Dn o'->h'.get? b=Dn o') ->
   h'.get? s.heap.objs.size=Dn { cls:=.type "list",dict:=FN,data:=.seq its.toArray c',slots:=#[] }->EP X pins σ Q (.ref s.heap.objs.size) { s with heap:=h' }:=fun its r' hz h' c' kp e=>
  ⟨.ref s.heap.objs.size,_,I.laid (t':=s.toks) kp (Ij _) (show pO X.prog X.w _ h' _ (.lst ys) from ⟨hz,its,c',r',e⟩),rfl,q _ (I.hok.fresh (Ij _))⟩
 rcases hq with hq | hq
 ·obtain ⟨its,r',pl,hz⟩:=I.list hq
  have hlen:=r'.length
  obtain ⟨o,ho,hc,n,hd⟩:=pl.isList
  exact call_list_seq p (.inl rfl) ho hc hd (fun h' c' kp e=>fin its r' hz h' c' kp e) (by simp only [Jr] <;> lia)
 ·obtain ⟨its,r',pl,hz⟩:=I.tuple hq
  have hlen:=r'.length
  obtain ⟨o,ho,hc,n,hd⟩:=pl
  exact call_list_seq p (.inr rfl) ho hc hd (fun h' c' kp e=>fin its r' hz h' c' kp e) (by simp only [Jr] <;> lia)
theorem zH:mF X (.type "tuple") (fun xs H Q=>∃ p ys,xs=[.ref p]/\((Je X.K H p ys/\∀ l,H l=FN->Q (.ref l) (IW H l (.tup ys)))\/(Jg X.K H p ys/\Q (.ref p) H))):=by
 intro pins s σ H xs us Q I r h
 obtain ⟨p,ys,rfl,h⟩:=h
 obtain ⟨u,rfl,rx⟩:=vals1 r
 cases rx
 rcases h with ⟨hq,q⟩ | ⟨hq,q⟩
 ·obtain ⟨its,r',pl,hz⟩:=I.list hq
  have hlen:=r'.length
  refine call_tuple_list pl.isList (fun h' kp=>?_) (by simp only [Jr] <;> lia)
  have I1:BL X pins σ H { s with heap:=h' }:=I.kept (t':=s.toks) kp
  have I2:BL X pins σ (IW H h'.objs.size (.tup ys)) { s with heap:=h'.push { cls:=.type "tuple",data:=.seq its.toArray } }:=
   I1.laid (t':=s.toks) (fun b o e=>J6 _ e) (Ij _) (show pO X.prog X.w _ _ _ (.tup ys) from ⟨hz,its,r',Oh.new _ _⟩)
  exact ⟨.ref h'.objs.size,_,I2,rfl,q _ (I1.hok.fresh (Ij _))⟩
 ·obtain ⟨its,r',pl,hz⟩:=I.tuple hq
  exact call_tuple_same pl ⟨.ref p,H,I,rfl,q⟩
def tyV (K:BZ)(T:String)(x:V)(H:Hp):Prop:=match x with
 | .str _=>T = "str"
 | .int _=>T = "int"
 | .ref p=>(T = "list"/\∃ xs,Je K H p xs)\/(T = "tuple"/\∃ o,K.lookup p=Dn o/\o.cls=.type "tuple"/\o.dict=FN) \/
   (T = "dict"/\((∃ kvs,H p=Dn (.dK kvs))\/∃ kvs,H p=Dn (.dT kvs)))\/(T = "set"/\∃ S n,H p=Dn (.set S n))
 | _=>False
theorem SM {pins:List (Addr×Obj)}{σ : St}{H:Hp}{s:AP}{T:String}{x:V}{v:FX}(I:BL X pins σ H s)(r:RelV x v)(ty:tyV X.K T x H) :
  s.TypeIs v T/\∀ a,v=.ref a->∃ ob,s.heap.get? a=Dn ob/\ob.dict=FN:=by
 cases x with
 | str z=>
  obtain ⟨t,rfl⟩:=r
  cases (show T = "str" from ty)
  exact ⟨typeIs_str s z t,fun _ e=>nomatch e⟩
 | int i=>
  obtain ⟨t,rfl⟩:=r
  cases (show T = "int" from ty)
  exact ⟨typeIs_int s i t,fun _ e=>nomatch e⟩
 | ref p=>
  cases r
  rcases ty with ⟨rfl,xs,hq⟩ | ⟨rfl,o,hk,hc,hd⟩ | ⟨rfl,hk⟩ | ⟨rfl,S,n,hk⟩
  ·obtain ⟨its,_,pl,_⟩:=I.list hq
   refine ⟨pl.isList.typeIs,fun a e=>?_⟩
   cases e
   obtain ⟨o,n,e,c,hd,_⟩:=pl
   exact ⟨o,e,hd⟩
  ·refine ⟨⟨o,I.kIn p o hk,hc⟩,fun a e=>?_⟩
   cases e
   exact ⟨o,I.kIn _ o hk,hd⟩
  ·have z:∃ o,s.heap.get? p=Dn o/\o.ExactDict:=by
    rcases hk with ⟨kvs,hk⟩ | ⟨kvs,hk⟩
    ·obtain ⟨_,_,_,_,o,_,_,e,ex,_⟩:=I.hok p _ hk
     exact ⟨o,e,ex⟩
    ·obtain ⟨_,_,_,_,o,_,_,e,ex,_⟩:=I.hok p _ hk
     exact ⟨o,e,ex⟩
   obtain ⟨o,e,ex⟩:=z
   refine ⟨⟨o,e,ex.1⟩,fun a e2=>?_⟩
   cases e2
   exact ⟨o,e,ex.2.1⟩
  ·obtain ⟨o,_,_,_,e,ex,_⟩:=I.hok p _ hk
   refine ⟨⟨o,e,ex.1⟩,fun a e2=>?_⟩
   cases e2
   exact ⟨o,e,ex.2.1⟩
 | _=>exact Qd ty
def adC (K:BZ)(T:String)(r:V->List V->Hp->VK->Prop)(to:TE):TE:=fun σ H Q=>to σ H fun x H1=>tyV K T x H1/\r x [] H1 Q
def tBM (K:BZ)(T:String)(r:V->List V->Hp->VK->Prop)(to:TE)(t:TA):TE:=fun σ H Q=>to σ H fun x H1=>tyV K T x H1/\t σ H1 fun xs H2=>r x xs H2 Q
variable {o e:Expr}{es:List Expr}{to:TE}{t:TA}{name:Str}{apos cpos:Pos}{T id:String}{r:V->List V->Hp->VK->Prop}
theorem Yy (pa:PlainAttrs T)(slot:Slot T name id)(hty:typeOf (.builtin id)=pure (.type "method_descriptor"))(hm:MtR X id r)(ho:PE X o to)
  (hbase:Tn o name X.env (eval o X.env)=eval o X.env:=by rfl) (hline:(apos.endLine==cpos.line)=true:=by rfl):PE X (.Call (.Attribute o name apos) [] [] cpos) (adC X.K T r to):=by
 intro pins s σ H Q I h
 refine wpAny_Call_method0_late hbase hline (Ia (ho pins s σ H _ I h) fun v s1 ⟨x,H1,I1,r1,ty,q1⟩=>?_)
 obtain ⟨h1,h2⟩:=SM I1 r1 ty
 exact ⟨T,id,pa,slot,hty,h1,h2,Calls.callWith_builtin rfl (PySem.evalArgs_none (hm pins s1 σ H1 x [] v [] Q I1 r1 .nil q1))⟩
theorem W9 (pa:PlainAttrs T)(slot:Slot T name id)(hty:typeOf (.builtin id)=pure (.type "method_descriptor"))(hm:MtR X id r)(ho:PE X o to)(ha:PA X (e::es) t)
  (hbase:Tn o name X.env (eval o X.env)=eval o X.env:=by rfl)
  (hfew:((Kp cpos (HI (e::es) X.env)).all (fun x=>!x.1)&&(backToKw cpos (Uc [] X.env)).all (fun x=>x.1.isSome)
   && decide ((e::es).length+([]:List Ph).length+(if ([]:List Ph).isEmpty then 0 else 1)<30))=true:=by rfl)
  (hline:(apos.endLine==cpos.line)=true:=by rfl) (hs:HI (e::es) X.env=(false,eval e X.env)::HI es X.env:=by rfl) (hplain:(Kp cpos (HI es X.env)).any (·.1)=false:=by rfl) :
  PE X (.Call (.Attribute o name apos) (e::es) [] cpos) (tBM X.K T r to t):=by
 intro pins s σ H Q I h
 refine wpAny_Call_method_late hbase hfew hline rfl (Ia (ho pins s σ H _ I h) fun v s1 ⟨x,H1,I1,r1,ty,q1⟩=>?_)
 obtain ⟨h1,h2⟩:=SM I1 r1 ty
 refine ⟨T,id,pa,slot,hty,h1,h2,?_⟩
 have hA:=ha cpos pins s1 σ H1 _ I1 q1
 rw [hs] at hA |-
 refine Calls.callWith_builtin (by show (false||(Kp cpos (HI es X.env)).any (·.1))=false;rw [hplain] <;> rfl) (Calls.evalArgs_plain ?_)
 exact Ia hA fun us s2 ⟨vs,H2,I2,r2,q2⟩=>hm pins s2 σ H2 x vs v us Q I2 r1 r2 q2
/- xs.append(e), list.index on a module's tuple .. are MtR facts of 06m -/
end
def MtM (X:Cx)(id:String)(r:V->List V->Hp->VK->Prop):Prop:=
 ∀ (pins:List (Addr×Obj)) (s:AP) (σ : St) (H:Hp) (x:V) (xs:List V) (v:FX) (us:List FX) (Q:VK),BL X pins σ H s->RelV x v->Bm xs us->r x xs H Q ->
  Bs (Cj X.prog X.w) X.A (call (.builtin id) (v::us)) (EP X pins σ Q) X.xe s
theorem Bm.one:∀ {x:V} {us:List FX},Bm [x] us->∃ u,us=[u]/\RelV x u
 | _,_,.cons r .nil=>⟨_,rfl,r⟩
theorem Bm.zero:∀ {us:List FX},Bm [] us->us=[]
 | _,.nil=>rfl
theorem Bm.dropLast {xs:List V}{us:List FX}(h:Bm xs us):Bm xs.dropLast us.dropLast:=by
 induction h with
 | nil=>exact .nil
 | cons r t ih=>
  cases t with
  | nil=>exact .nil
  | cons q t'=>exact .cons r ih
theorem zas {α : Type}(l:List α):l.eraseIdx (l.length - 1)=l.dropLast:=by
 induction l with
 | nil=>rfl
 | cons a r ih=>
  cases r with
  | nil=>rfl
  | cons b r=>
   have e:(a::b::r).length - 1=((b::r).length - 1)+1:=by
    have h1:(a::b::r).length=r.length+2:=rfl
    have h2:(b::r).length=r.length+1:=rfl
    lia
   rw [e,List.eraseIdx_cons_succ,ih]
   all_goals rfl
section
variable {X:Cx}{pins:List (Addr×Obj)}{σ : St}{H:Hp}{s:AP}{l b:Addr}{xs ys zs:List V}
theorem BL.lset {its its':List FX}{n:Nat}{f:Array FX->Array FX}{t':Nat}(I:BL X pins σ H s)(hH:H l=Dn (.lst xs))
  (e:s.heap.get? l=Dn { cls:=.type "list",data:=.seq its.toArray n }) (hf:f its.toArray=its'.toArray) (hv:Bm ys its') (hz:ys.length<=Ig) :
  BL X pins σ (IW H l (.lst ys)) { s with heap:=s.heap.update l (Obj.mapSeq f),toks:=t' }:=by
 have q:=PySem.IsL.update e f
 rw [hf] at q
 refine I.write (x:=l) (e:=l) (by rw [hH];exact trivial) (.inl rfl) (fun b' u hb hu=>(Heap.get?_update_other s.heap (Obj.mapSeq f) (N8 hb)).trans hu) ⟨_,q⟩ ?_
 exact ⟨hz,its',_,hv,q⟩
theorem BL.lnew {its:List FX}{t':Nat}(I:BL X pins σ H s)(hv:Bm ys its)(hz:ys.length<=Ig) :
  BL X pins σ (IW H s.heap.objs.size (.lst ys)) { s with heap:=s.heap.push { cls:=.type "list",data:=.seq its.toArray },toks:=t' }:=
 I.laid (fun _ _ q=>J6 _ q) (Ij _) ⟨hz,its,0,hv,Lf _ rfl⟩
theorem BL.fresh (I:BL X pins σ H s):H s.heap.objs.size=FN:=I.hok.fresh (Ij _)
theorem BL.lstM (I:BL X pins σ H s)(hH:H l=Dn (.lst xs)):xs.length<=Ig/\∃ (its:List FX) (n:Nat),Bm xs its/\xs.length=its.length/\s.heap.get? l=Dn { cls:=.type "list",data:=.seq its.toArray n }:=by
 obtain ⟨z,its,n,r,e⟩:=I.hok l _ hH
 exact ⟨z,its,n,r,r.length,e⟩
theorem agn {n:Nat}(h:n<=Ig):Builtin.List.listTooLong n=false:=by
 unfold Builtin.List.listTooLong
 exact decide_eq_false (by lia)
end
section
variable {X:Cx}
def Kg:V->List V->Hp->VK->Prop:=fun x vs H Q=>∃ l xs y,x=.ref l/\vs=[y]/\H l=Dn (.lst xs)/\xs.length<Ig/\Q .non (IW H l (.lst (xs++[y])))
theorem BR:MtM X "list.append" Kg:=by
 intro pins s σ H x vs v us Q I rx rv h
 obtain ⟨l,xs,y,rfl,rfl,hH,hz,q⟩:=h
 cases rx
 obtain ⟨u,rfl,ru⟩:=rv.one
 obtain ⟨z,its,n,r,hl,e⟩:=I.lstM hH
 refine call_meets F.slot_list_append ⟨_,e,rfl⟩ F.entry_list_append (F.args_list_append_2 _ _) (PySem.list_append l its.toArray n u (by rw [Jr];lia)) ⟨e,?_⟩
 refine ⟨.non,_,I.lset (its':=its++[u]) hH e (by simp) (r.append (.cons ru .nil)) ?_,rfl,q⟩
 rw [Oj,List.length_singleton]
 lia
def LR:V->List V->Hp->VK->Prop:=fun x vs H Q=>∃ l b xs zs,x=.ref l/\vs=[.ref b]/\H l=Dn (.lst xs)/\H b=Dn (.lst zs)/\xs.length+zs.length<=Ig/\Q .non (IW H l (.lst (xs++zs)))
theorem afc:MtM X "list.extend" LR:=by
 intro pins s σ H x vs v us Q I rx rv h
 obtain ⟨l,b,xs,zs,rfl,rfl,hH,hB,hz,q⟩:=h
 cases rx
 obtain ⟨u,rfl,ru⟩:=rv.one
 cases ru
 obtain ⟨z,its,n,r,hl,e⟩:=I.lstM hH
 obtain ⟨z2,its2,n2,r2,hl2,e2⟩:=I.lstM hB
 have hsz:its.toArray.size+its2.toArray.size<=Ig:=by rw [Jr,Jr];lia
 have hlong:¬ (!its.toArray.isEmpty&&Builtin.List.listTooLong (its.toArray.size+its2.toArray.size))=true:=by
  rw [agn hsz,Bool.and_false]
  exact Nb
 refine call_meets F.slot_list_extend ⟨_,e,rfl⟩ F.entry_list_extend (F.args_list_extend_2 _ _)
  (AutoSeq1.list_extend_list_list_0 l its.toArray n b its2.toArray n2 hlong (by rw [Jr];lia) (by lia)) ⟨e,e2,?_⟩
 refine ⟨.non,_,I.lset (its':=its++its2) hH e (by simp) (r.append r2) ?_,rfl,q⟩
 rw [Oj]
 lia
def acZ:V->List V->Hp->VK->Prop:=fun x vs H Q=>∃ l xs y,x=.ref l/\vs=[]/\H l=Dn (.lst xs)/\xs[xs.length - 1]?=Dn y/\Q y (IW H l (.lst xs.dropLast))
theorem Z5:MtM X "list.pop" acZ:=by
 intro pins s σ H x vs v us Q I rx rv h
 obtain ⟨l,xs,y,rfl,rfl,hH,hy,q⟩:=h
 cases rx
 have hus:=rv.zero
 subst hus
 obtain ⟨z,its,n,r,hl,e⟩:=I.lstM hH
 obtain ⟨u,hu,ru⟩:=r.get hy
 have hy':its.toArray[its.toArray.size - 1]?=Dn u:=by
  show its.toArray[its.length - 1]?=Dn u
  rw [<-Array.getElem?_toList,<-hl]
  exact hu
 refine call_meets F.slot_list_pop ⟨_,e,rfl⟩ F.entry_list_pop (F.args_list_pop_1 _) (MeetsSeq.list_pop_last l its.toArray n u hy' (by rw [Jr];lia)) ⟨e,?_⟩
 refine ⟨y,_,I.lset (its':=its.dropLast) hH e ?_ r.dropLast ?_,ru,q⟩
 ·show its.toArray.eraseIdxIfInBounds (its.toArray.size - 1)=its.dropLast.toArray
  rw [Jr,List.eraseIdxIfInBounds_toArray,zas]
 ·rw [List.length_dropLast]
  lia
def aer:R2:=fun x y H Q=>∃ l b xs zs,x=.ref l/\y=.ref b/\H l=Dn (.lst xs)/\H b=Dn (.lst zs)/\xs.length+zs.length<=Ig/\∀ p,H p=FN->Q (.ref p) (IW H p (.lst (xs++zs)))
theorem Yg:Kc X (N7 .Add) aer:=by
 intro pins s σ H x y v u Q I rx ry h
 obtain ⟨l,b,xs,zs,rfl,rfl,hH,hB,hz,q⟩:=h
 cases rx
 cases ry
 obtain ⟨z,its,n,r,hl,e⟩:=I.lstM hH
 obtain ⟨z2,its2,n2,r2,hl2,e2⟩:=I.lstM hB
 refine PySem.P.add_list e e2 ?_ (by rw [Jr,Jr];lia)
 have ea:its.toArray++its2.toArray=(its++its2).toArray:=by simp
 rw [ea]
 exact ⟨.ref _,_,I.lnew (t':=s.toks) (r.append r2) (by rw [Oj];lia),rfl,q _ I.fresh⟩
end
section
variable {prog:Dr}{w:Ci}{A:Dp}{E:FX->AP->Prop}{s:AP}
end
section
variable {X:Cx}
end
end L2
namespace Att
open PySem PySem.W PySem.Calls PyProof.Rows
theorem vY {P:Params}{h:Heap}:∀ (ns:List Int) (vs:List FX),WellAll P h vs (ns.map WData.int)->IntsAre vs ns:=by
 intro ns
 induction ns with
 | nil=>
  intro vs w
  rw [List.map_nil] at w
  cases w
  exact .nil
 | cons n ns ih=>
  intro vs w
  rw [Nh] at w
  cases w with
  | cons a b=>
   cases a
   exact .cons _ _ (ih _ b)
theorem zaL {l:OpenLaw}{n:Nat}(hn:l.most=Dn n){P:Params}{h:Heap}{args:List WData}{vals:List FX}
  (hpre:l.row.toRowW.claim.pre args=true) (hwl:WellAll P h vals args) :
  ∃ a vs ns,vals=[Value.ref a]/\args=[WData.list (ns.map WData.int)]/\h.get? a=Dn { cls:=.type "list",data:=.seq vs.toArray }/\IntsAre vs ns/\ns.length<=n:=by
 have hsh:WShape.hasAll [] args [.list .int]=true:=(pre_splitW hpre).1
 have hc:l.pre.holds [] { args:=args }=true:=(pre_splitW hpre).2
 obtain ⟨d,r,rfl,h1,h2⟩:=hasAllW_cons hsh
 obtain rfl:=hasAllW_nil h2
 obtain ⟨xs,rfl,h3⟩:=hasW_list h1
 obtain ⟨ns,rfl⟩:=items_int h3
 have hlen:ns.length<=n:=by
  unfold OpenLaw.pre at hc
  have h4:(WTm.not (.lt (.lit (.int (n:Int))) (.len (.arg 0)))).holds [] { args:=[.list (ns.map .int)] }=true:=by
   have h4:=(holds_andW hc).1
   rw [hn] at h4
   exact h4
  have h5:=condW_of h4 (w_not (w_lt w_lit (w_len_list (w_arg rfl))))
  rw [Iu] at h5
  refine Nat.le_of_not_lt fun q=>?_
  have q':(n:Int)<((ns.length:Nat):Int):=by lia
  first
   | (rw [decide_eq_true q'] at h5;exact absurd h5 (by decide))
   | (simp at h5;lia)
 cases hwl with
 | cons w1 w2=>
  cases w2
  cases w1 with
  | list ho hall=>exact ⟨_,_,ns,rfl,rfl,ho,vY ns _ hall,hlen⟩
theorem afe (l:OpenLaw)(args:List WData):l.row.toRowW.claim.post args (.bool true) args=true:=
 postW_of (r:=l.row.toRowW) (X:=(true==true))
  (show WShape.has [] (.bool true) .bool=true by first | rfl | decide | simp [WShape.has,WShape.arms,WShape.armsAll])
  (show (WTm.eq .res (.lit (.bool true))).value [] { args:=args,res:=Dn (.bool true),after:=args }=Dn (.bool (true==true)) from w_eq_bool (w_res rfl) w_lit) rfl
theorem Fb {l:OpenLaw}{n:Nat}{q:Dr}{loose:List Str}{XP:(Str->Option FX)->Heap->Prop}{YP:Ci->Heap->Prop}{d:DefRec}
  (hn:l.most=Dn n) (hdf:d.params.defaults=[])
  (call:∀ (w:Ci) (s₀ s₁ : AP) (mg mb:Str->Option FX) (fa:Addr) (o:Obj) (pm cd doc:FX) (a:Addr) (vs:List FX) (ns:List Int),
   Ground q loose [] XP w s₀ mg mb s₁.heap->YP w s₁.heap ->
   s₁.heap.get? fa=Dn o->o.data=.func (docDef d.name d.params d.body d.scope pm cd doc)->s₁.heap.CodeRec cd d.name->mg d.name=Dn (.ref fa) ->
   s₁.heap.get? a=Dn { cls:=.type "list",data:=.seq vs.toArray }->IntsAre vs ns->ns.length<=n->s₁.gens = #[] ->
   codeAny (Cj l.prog w) callerA (.call (.ref fa) ⟨[.ref a],[]⟩) (fun r s'=>r=.ok (.ret (.bool true))/\OldK s₁.heap s'.heap/\s'.os=s₁.os/\Qq s'.gens) s₁) :
  WalkO q loose XP YP l.row.toRowW d [] (fun f vs=>PySem.call f vs):=by
 intro w s₀ s₁ mg mb G Y fa o pm cd doc dV kV ho hd hcd hD hmg hg args vals as hpre hlay hrd hwl hlo
 obtain rfl:dV=.none:=Dflts.none hD hdf
 obtain rfl:kV=.none:=Dflts.noKw hD
 obtain ⟨a,vs,ns,rfl,rfl,hobj,hints,hlen⟩:=zaL hn hpre hwl
 refine enter_call (codeAny_mono (call w s₀ s₁ mg mb fa o pm cd doc a vs ns G Y ho (fd_plain hd) hcd hmg hobj hints hlen hg) fun r s' hq=>?_)
 obtain ⟨rfl,h2,h3,h4⟩:=hq
 exact ⟨.inl ⟨.bool true,.bool true,[],rfl,fun _=>rfl,.bool true,afe l _,fun _=>⟨List.Pairwise.nil,fun _ hm=>(nomatch hm)⟩⟩,h2,h3,h4⟩
section
variable {prog:Dr}{w:Ci}{A:Dp}{E:FX->AP->Prop}{s:AP}{K:Frag}
def ledger (h:Heap)(L d:Addr):List (Addr×Obj):=(O9 h.objs.size).filterMap fun a=>if a=L\/a=d then FN else (h.get? a).map fun o=>(a,o)
end
end Att
namespace L2
open PySem PySem.Spec PyProof.Rows
theorem Bp:∀ {vs:List FX} {ns:List Int},IntsAre vs ns->Bm (ns.map V.int) vs
 | _,_,.nil=>.nil
 | _,_,.cons n t h=>.cons ⟨t,rfl⟩ (Bp h)
def Only (H:Hp):Prop:=∀ b,H b=FN\/∃ o xs,H b=Dn (.frz o (.lst xs))
theorem zbk {P:Dr}{w:Ci}{K:BZ}{mg mb:Str->Option FX}{CX:PL}{k:Nat}{fa a:Addr}{fd:DR}{x:Str}{sp:Sp}{s₁ : AP}{vs:List FX}{ns:List Int}
  (KX:K.In s₁.heap) (hns:s₁.heap.Ns Ck mg) (hb:s₁.heap.Ns builtinsNs mb) (hbb:∀ x:Str,x ≠ "__name__"->mb x=TJ x) (hlim:s₁.heap.NoLimit) (hg:s₁.gens = #[])
  (ha:s₁.heap.get? a=Dn { cls:=.type "list",data:=.seq vs.toArray }) (hi:IntsAre vs ns) (hl:ns.length<=Ig) (hr:ud k callerA)
  (F:∀ base:Heap,K.In base->base.Ns Ck mg->cA P w K mg base CX k fa fd [x] sp) (hbind:∀ (s:AP) (u:FX),BindsTo s fd ⟨[u],[]⟩ [(x,u)])
  (hsp:∀ H:Hp,Only H->Je K H a (ns.map V.int)->sp [.ref a] H (fun v _=>v=.bl true) fun _ _ _=>False)
  (hCX:∀ H e s',CX [] H s₁ (fun _ _ _=>False) e s'->False) :
  codeAny (Cj P w) callerA (.call (.ref fa) ⟨[.ref a],[]⟩) (fun r s'=>r=.ok (.ret (.bool true))/\OldK s₁.heap s'.heap/\s'.os=s₁.os/\Qq s'.gens) s₁:=by
 have rv:=Bp hi
 have lenV:=hi.length
 -- from an abstract heap in which nothing but the script may be tracked
 have core:∀ H:Hp,Only H->Je K H a (ns.map V.int)->Kw P w H s₁.heap->(∀ b,H b≠FN->b=a)->(H a≠FN->K.lookup a=FN) ->
   codeAny (Cj P w) callerA (.call (.ref fa) ⟨[.ref a],[]⟩) (fun r s'=>r=.ok (.ret (.bool true))/\OldK s₁.heap s'.heap/\s'.os=s₁.os/\Qq s'.gens) s₁:=by
  intro H hO hS hok hA hK
  have base_of:∀ {b:Addr} {o:Obj},s₁.heap.get? b=Dn o->H b=FN->(Oe s₁.heap H).get? b=Dn o:=fun e n=>afh e n
  have noA:∀ {b:Addr} {o:Obj} {es:Array DictEntry} {ep:Nat},s₁.heap.get? b=Dn o->o.data=.dict es ep->H b=FN:=fun {b o es ep} e d=>by
   cases q:H b with
   | none=>rfl
   | some u=>
    have e':b=a:=hA b (by rw [q];simp)
    subst e'
    rw [ha] at e;cases e
    have d':Data.seq vs.toArray _=Data.dict es ep:=d
    cases d'
  have nsK:∀ {b:Addr} {m:Str->Option FX},s₁.heap.Ns b m->(Oe s₁.heap H).Ns b m:=fun {b m} ⟨o,es,ep,e,d,r⟩=>⟨o,es,ep,base_of e (noA e d),d,r⟩
  have hKb:K.In (Oe s₁.heap H):=fun b o e=>base_of (KX b o e) (by
   cases q:H b with
   | none=>rfl
   | some u=>
    have e':b=a:=hA b (by rw [q];simp)
    subst e'
    rw [hK (by rw [q];simp)] at e;cases e)
  have hM:Mod K mg (Oe s₁.heap H):=⟨hKb,nsK hns,⟨mb,nsK hb,hbb⟩,let ⟨mc,h1,h2⟩:=hlim;⟨mc,nsK h1,h2⟩⟩
  have e0:aaW P w K mg (Oe s₁.heap H) callerA [] s₁ H:=⟨rfl,hM,fun b o e=>ago e,Nat.le_of_eq (zaW _ _),trivial,fun b hb=>absurd (show b∈([]:List Addr) from hb) (by simp),hok,.of_eq hg,fun v e=>(nomatch e)⟩
  refine codeAny_mono ((F _ hKb (nsK hns)).run callerA [] s₁ H ⟨[.ref a],[]⟩ [.ref a] [.ref a] _ _ hr e0 (hbind s₁ (.ref a)) (.cons rfl .nil) (hsp H hO hS)) fun r s' h=>?_
  cases r with
  | error e=>exact (hCX H e s' h).elim
  | ok fl=>
   cases fl with
   | next=>exact Qd h
   | brk=>exact Qd h
   | cont=>exact Qd h
   | ret u=>
    obtain ⟨v,H',os,bare,un,hok',r',q⟩:=h
    have q':v=.bl true:=q
    subst q'
    obtain rfl:u=Value.bool true:=r'
    refine ⟨rfl,OldK.of_keep fun b o e=>?_,os,bare⟩
    cases q:H b with
    | none=>exact un.keep b o e q (by intro z;exact absurd (show b∈([]:List Addr) from z) (by simp)) (by simp)
    | some u=>
     rcases hO b with z | ⟨ob,xs,z⟩
     ·rw [q] at z;cases z
     ·have z2:=un.frzs b ob _ z
      obtain ⟨e1,_⟩:=hok b _ z
      obtain ⟨e2,_⟩:=hok' b _ z2
      rw [e] at e1;cases e1
      exact e2
 cases hk:K.lookup a with
 | some o=>
  -- the script is one of the module's own objects
  have e:=KX a o hk
  rw [ha] at e
  cases e
  refine core (fun _=>FN) (fun _=>.inl rfl) (.inr ⟨_,vs.toArray,_,hk,rfl,rfl,rfl,by rw [Jr,lenV];exact hl,by simpa using rv⟩) (fun b u z=>by have z':(FN:Option HO)=Dn u:=z;cases z') (fun b z=>absurd rfl z) fun z=>absurd rfl z
 | none=>
  refine core (fun b=>if b=a then Dn (.frz { cls:=.type "list",data:=.seq vs.toArray } (.lst (ns.map V.int))) else FN) (fun b=>?_) (.inl (.inr ⟨{ cls:=.type "list",data:=.seq vs.toArray },if_pos rfl⟩)) (fun b u z=>?_) (fun b z=>?_) fun _=>hk
  ·by_cases hb:b=a
   ·exact .inr ⟨_,_,if_pos hb⟩
   ·exact .inl (if_neg hb)
  ·by_cases hb:b=a
   ·have z':=(if_pos hb).symm.trans z
    cases z'
    subst hb
    exact ⟨ha,by rw [Iu];exact hl,vs,_,rv,ha⟩
   ·have z':=(if_neg hb).symm.trans z
    cases z'
  ·by_cases hb:b=a
   ·exact hb
   ·exact absurd (if_neg hb) z
theorem MJ {l:PySem.W.OpenLaw}{n k:Nat}{q:Dr}{loose:List Str}{XP:(Str->Option FX)->Heap->Prop}{YP:Ci->Heap->Prop}{d:DefRec}{K:Params->BZ}{CX:Ci->PL}{sp:Ci->Sp}{x:Str}
  (hn:l.most=Dn n) (hn2:n<=Ig) (hdf:d.params.defaults=[]) (hr:ud k callerA)
  (hY:∀ (w:Ci) (h:Heap),YP w h->(K w.params).In h)
  (F:∀ (w:Ci) (mg:Str->Option FX) (fa:Addr) (h:Heap),(K w.params).In h->h.Ns Ck mg->mg d.name=Dn (.ref fa) ->
   ∃ fd:DR,(∀ (s:AP) (u:FX),BindsTo s fd ⟨[u],[]⟩ [(x,u)]) /\
    ∀ base:Heap,(K w.params).In base->base.Ns Ck mg->cA l.prog w (K w.params) mg base (CX w) k fa fd [x] (sp w))
  (hsp:∀ (w:Ci) (H:Hp) (a:Addr) (ns:List Int),ns.length<=n->Only H->Je (K w.params) H a (ns.map V.int)->sp w [.ref a] H (fun v _=>v=.bl true) fun _ _ _=>False)
  (hCX:∀ (w:Ci) (H:Hp) (s:AP) (e:FX) (s':AP),CX w [] H s (fun _ _ _=>False) e s'->False) :
  PySem.W.WalkO q loose XP YP l.row.toRowW d [] (fun f vs=>PySem.call f vs):=by
 refine Att.Fb hn hdf fun w s₀ s₁ mg mb fa o pm cd doc a vs ns G Y ho hd hcd hmg hobj hints hlen hg=>?_
 have KX:=hY w _ Y
 obtain ⟨fd,hb,hF⟩:=F w mg fa _ KX G.T.g hmg
 exact zbk KX G.T.g G.T.b G.T.builtins G.T.nolimit hg hobj hints (Jp hlen hn2) hr hF hb (fun H hO hS=>hsp w H a ns hlen hO hS) fun H e s'=>hCX w H s₁ e s'
end L2
/- THE LAST THEOREM (shape; LID, My.* are yours):
   My.Adr: a structure of the addresses that your layer names (classes,functions);My.Txt K t: a structure (Prop) of the equations over K;
   My.txt_mk:{K} {implicit addresses ..} (e1:nsIn K Ck "law" = Dn (Dn (.ref f))) (e2:K.lookup f=Dn ⟨oc,od,.func (fnOf "law" "law" params body scope dV kV doc pm an cdv ct),sl⟩) (e3:codeIn K cdv "law" = true) .. : ∃ t,My.Txt K t
theorem PySem.Challenge.cw_LID_holds : PySem.Challenge.rw_LID.Holds := by
 w_on;o_law;k_head;(case hw=>w_witness2)
 k_fill
 refine L2.MJ (l:=PySem.Challenge.rw_LID) (n:=63) (k:=40) (x := "script") (CX:=fun w=>..) (sp:=fun _=>My.sp_law) rfl (by decide) rfl ⟨rfl,by decide,by decide⟩ (fun w h Y=>PySem.W.kIn_of Y) ?F ?S ?C
 case F=>
  intro w mg fa h KX G hmg
  have T:∃ t,My.Txt (L2.KOf KX) t:=by
   dsimp only [L2.KOf]                          -- K must stand as «<heap const> w.params» for k_is
   refine' My.txt_mk ?e1 ?e2 ?e3 ..
   (case e1=>PySem.W.k_is)                    -- in the order: a name -> its address -> its object -> its parts
   (case e2=>PySem.W.k_is)
   ..
  obtain ⟨t,T⟩:=T
  have e0:=hmg.symm.trans (IV KX G T.law)
  cases e0                                       -- fa is the law's own address
  exact ⟨_,fun s u=>.of_eq rfl,fun base kb nb=>My.law_fn T kb nb⟩     -- if «.of_eq rfl» comes too early: refine' ⟨_,?b,fun base kb nb=>My.law_fn T kb nb⟩;exact fun s u=>.of_eq rfl
 case S=>exact fun w H a ns hl hO hS=>..
 case C=>exact ..
(the tactic k_is has no namespace: write k_is) -/
namespace L2
open PySem PySem.Spec PyProof.Rows
def u0 (s:Stmt):Arguments:=match s with
 | .FunctionDef _ a _ _ _ _ _ _ _ _=>a
 | _=>{ posonlyargs:=[],args:=[],vararg:=FN,kwonlyargs:=[],kw_defaults:=[],kwarg:=FN,defaults:=[] }
def oM (s:Stmt):List Stmt:=match s with
 | .FunctionDef _ _ b _ _ _ _ _ _ _=>b
 | _=>[]
def aJ (s:Stmt):Scope:=match s with
 | .FunctionDef _ _ _ _ _ _ sc _ _ _=>sc
 | _=>{ kind:=.function,names:=[],isGenerator:=false,isCoroutine:=false }
abbrev Ea:PL:=fun _ _ _ _ _ _=>False
abbrev E0:XK:=fun _ _ _=>False
theorem TV {X:Cx}:Passes Ea X E0:=fun _ _ _ _ _ _ _ h=>h.elim
structure HX (K:BZ) (x qual:Str) (st:Stmt) (f:Addr) (fd:DR):Prop where
 ex:∃ (oc:FX) (od:Option Addr) (kV doc pm:FX) (an:Option Addr) (cdv ct:FX) (osl:Array (Option FX)),
  fd=U3 x qual (u0 st) (oM st) (aJ st) .none kV doc pm an cdv ct/\K.lookup f=Dn ⟨oc,od,.func fd,osl⟩/\PySem.W.codeIn K cdv qual=true
 kp:Qt K (.ref f)=true
section
variable {P:Dr}{w:Ci}{K:BZ}{mg:Str->Option FX}{base:Heap}
theorem HX.ok {x qual:Str}{st:Stmt}{f:Addr}{fd:DR}{N ps:List Str}{k:Nat}{sp:Sp}(F:HX K x qual st f fd)(S:aN N ps (aJ st))(len:∀ vs H Q E,sp vs H Q E->vs.length=ps.length)
  (hbody:∀ (cdv:FX) (A:Dp) (outer:List Env) (s:AP) (H:Hp) (vs:List V) (Q:VK) (E:XK),ud k (A.deeper (envOfC qual (aJ st) s.heap.objs.size f cdv))->sp vs H Q E ->
   ∃ t,Nj (Ur Ea P w K mg base N qual (aJ st) f cdv A outer s H E).nox (oM st) t/\t { nx:=fun _ H'=>Q .non H',rt:=Q } (start N vs) H):cA P w K mg base Ea (k+1) f fd ps sp:=by
 obtain ⟨oc,od,kV,doc,pm,an,cdv,ct,osl,rfl,lk,hcd⟩:=F.ex
 refine acv lk hcd S len fun A outer s H vs Q E hr hsp=>?_
 obtain ⟨t,h,q⟩:=hbody cdv A outer s H vs Q E hr hsp
 exact ⟨t,h.nox,q⟩
theorem HX.binds {x qual:Str}{st:Stmt}{f:Addr}{fd:DR}{ps:List Str}(F:HX K x qual st f fd)
  (h:∀ (kV doc pm:FX) (an:Option Addr) (cdv ct:FX) (us:List FX),us.length=ps.length->bindArgs (U3 x qual (u0 st) (oM st) (aJ st) .none kV doc pm an cdv ct) ⟨us,[]⟩=pure (ps.zip us)):Binds K fd ps []:=by
 obtain ⟨oc,od,kV,doc,pm,an,cdv,ct,osl,rfl,lk,hcd⟩:=F.ex
 exact .all (h kV doc pm an cdv ct)
theorem aR {x qual:Str}{st:Stmt}{f:Addr}{oc:FX}{od an:Option Addr}{osl:Array (Option FX)}{kV doc pm cdv ct:FX}(l:K.lookup f=Dn ⟨oc,od,.func (U3 x qual (u0 st) (oM st) (aJ st) .none kV doc pm an cdv ct),osl⟩)
  (c:PySem.W.codeIn K cdv qual=true) (k:Qt K (.ref f)=true):HX K x qual st f (U3 x qual (u0 st) (oM st) (aJ st) .none kV doc pm an cdv ct):=⟨⟨oc,od,kV,doc,pm,an,cdv,ct,osl,rfl,l,c⟩,k⟩
end
section
variable {X:Cx}
theorem pv (i:Nat){x:Str}{pos:Pos}(hN:X.N[i]?=Dn x:=by rfl)(hv:Vis X.env.scope x:=by first | exact Or.inl rfl | exact Or.inr (Or.inl rfl) | exact Or.inr (Or.inr rfl))(hd:(x==("__debug__" : Str))=false:=by decide)
  (hcd:(x==("__classdict__" : Str))=false:=by decide):PE X (.Name x pos) (aaX i):=Xj hN hv hd hcd
end
def Tf (env:Env):List (Str×LQ)->List (Str×Addr)->List (Str×Addr)
 | [],cs=>cs
 | (n,k)::r,cs=>Tf env r (if (k==NameKind.free)=true then (n,(env.cells.lookup n).getD 0)::cs else cs)
def Rx (scope:Scope)(env:Env):List (Str×Addr):=Tf env scope.names []
theorem Ae {env:Env}{p:Str×Addr}:∀ (l:List (Str×LQ)) (cs:List (Str×Addr)),p∈Tf env l cs->p∈cs\/((p.1,NameKind.free)∈l/\p.2=(env.cells.lookup p.1).getD 0)
 | [],cs,h=>.inl h
 | (n,k)::r,cs,h=>by
  rcases Ae r _ h with h | ⟨h1,h2⟩
  ·by_cases hk:(k==NameKind.free)=true
   ·rw [if_pos hk] at h
    rcases K9.mp h with rfl | h
    ·have e:k=NameKind.free:=by simpa using hk
     subst e
     exact .inr ⟨Oo,rfl⟩
    ·exact .inl h
   ·rw [if_neg hk] at h
    exact .inl h
  ·exact .inr ⟨Oq _ h1,h2⟩
theorem HN {env:Env}{x:Str}:∀ (l:List (Str×LQ)) (cs:List (Str×Addr)),((x,NameKind.free)∈l\/∃ c,(x,c)∈cs)->∃ c,(x,c)∈Tf env l cs
 | [],cs,h=>by
  rcases h with h | h
  ·exact absurd h (by simp)
  ·exact h
 | (n,k)::r,cs,h=>by
  refine HN r _ ?_
  rcases h with h | ⟨c,h⟩
  ·rcases K9.mp h with e | h
   ·injection e with e1 e2
    subst e1;subst e2
    exact .inr ⟨_,by rw [if_pos (by rfl)];exact Oo⟩
   ·exact .inl h
  ·refine .inr ⟨c,?_⟩
   by_cases hk:(k==NameKind.free)=true
   ·rw [if_pos hk];exact Oq _ h
   ·rw [if_neg hk];exact h
theorem kO {x:Str}{c:Addr}:∀ {l:List (Str×Addr)},(x,c)∈l->∃ c',l.lookup x=Dn c'
 | [],h=>absurd h (by simp)
 | (n,d)::r,h=>by
  by_cases e:x=n
  ·subst e
   exact ⟨d,by simp [MK]⟩
  ·rcases K9.mp h with q | q
   ·injection q with q1 _
    exact absurd q1 e
   ·obtain ⟨c',h'⟩:=kO q
    refine ⟨c',?_⟩
    have e':(x==n)=false:=beq_eq_false_iff_ne.mpr e
    rw [MK,e']
    exact h'
theorem K1 {scope:Scope}{env:Env}(h:∀ y∈scope.names,y.2=NameKind.free->∃ c,env.cells.lookup y.1=Dn c):closureFor scope env=pure (Rx scope env):=by
 unfold closureFor Rx
 have key:∀ (l:List (Str×LQ)) (cs:List (Str×Addr)),(∀ y∈l,y.2=NameKind.free->∃ c,env.cells.lookup y.1=Dn c) ->
   (forIn l cs (fun (x:Str×LQ) (cs:List (Str×Addr))=>(if (x.2==NameKind.free)=true then cellOf env x.1 >>= fun c=>pure (ForInStep.yield ((x.1,c)::cs)) else pure (ForInStep.yield cs):Sem (ForInStep (List (Str×Addr))))))=pure (Tf env l cs):=by
  intro l
  induction l with
  | nil=>intro cs _;rfl
  | cons x r ih=>
   intro cs hl
   obtain ⟨n,k⟩:=x
   rw [List.forIn_cons]
   have hr:∀ y∈r,y.2=NameKind.free->∃ c,env.cells.lookup y.1=Dn c:=fun y hy=>hl y (Oq _ hy)
   by_cases hk:(k==NameKind.free)=true
   ·obtain ⟨c,hc⟩:=hl (n,k) Oo (by simpa using hk)
    have hc':env.cells.lookup n=Dn c:=hc
    have e1:cellOf env n=pure c:=by unfold cellOf;rw [hc']
    simp only [hk,if_true,e1,pure_bind]
    rw [ih _ hr]
    simp only [Tf,hk,if_true,hc',Option.getD_some]
   ·simp only [hk,if_false,pure_bind,Ug]
    rw [ih _ hr]
    simp only [Tf,hk,if_false,Ug]
 have q:=key scope.names [] h
 simpa using q
theorem mK {y:Str}{c:Addr}:∀ {names:List (Str×LQ)} {n:Nat} {acc:List (Str×Addr)},(y,c)∈Kh n names acc↔(y,c)∈acc\/(y,c)∈Kh n names []
 | [],n,acc=>by simp [Kh]
 | (name,kind)::r,n,acc=>by
  unfold Kh
  split
  ·rw [mK (acc:=(name,n)::acc),mK (acc:=[(name,n)])]
   simp only [K9,NT,or_false]
   exact ⟨fun h=>h.elim (fun h=>h.elim (fun h=>.inr (.inl h)) .inl) fun h=>.inr (.inr h),fun h=>h.elim (fun h=>.inl (.inr h)) fun h=>h.elim (fun h=>.inl (.inl h)) .inr⟩
  ·exact mK
theorem Ei {y:Str}{c:Addr}:∀ {names:List (Str×LQ)} {n:Nat},(y,c)∈Kh n names []->(y,NameKind.cell)∈names
 | [],n,h=>by simp [Kh] at h
 | (name,kind)::r,n,h=>by
  unfold Kh at h
  split at h
  ·rename_i hk
   rcases mK.mp h with q | q
   ·have hk':kind=.cell:=by simpa using hk
    simp only [K9,NT,or_false,T8] at q
    rw [q.1,hk']
    exact Oo
   ·exact Oq _ (Ei q)
  ·exact Oq _ (Ei h)
theorem JV {y:Str}:∀ {names:List (Str×LQ)} {n:Nat},(y,NameKind.cell)∈names->∃ c,(y,c)∈Kh n names []
 | [],n,h=>by simp at h
 | (name,kind)::r,n,h=>by
  unfold Kh
  rcases K9.mp h with q | q
  ·cases q
   rw [if_pos (by rfl)]
   exact ⟨n,mK.mpr (.inl Oo)⟩
  ·split
   ·obtain ⟨c,hc⟩:=JV (n:=n+1) q
    exact ⟨c,mK.mpr (.inr hc)⟩
   ·exact JV q
theorem Ze {h:Heap}{names:List (Str×LQ)}{y:Str}{c:Addr}(e:(y,c)∈Kh h.objs.size names []):(pushCells h names).IsCell c FN/\h.objs.size<=c:=
 (cellsFrom_ok names h h.objs.size [] ⟨fun _ _ z=>by simp at z,List.Pairwise.nil⟩ (Ij _)).empty y c e
theorem ahr {n:Nat}{names:List (Str×LQ)}{y z:Str}{c:Addr}(e:(y,c)∈Kh n names [])(e':(z,c)∈Kh n names []):y=z:=by
 have key:∀ (k:Nat),∃ h:Heap,h.objs.size=k:=fun k=>by
  induction k with
  | zero=>exact ⟨{ (default:Heap) with objs:=#[] },rfl⟩
  | succ k ih=>
   obtain ⟨h,e⟩:=ih
   exact ⟨h.push { cls:=.type "cell",data:=.cell FN },by rw [Qe,e]⟩
 obtain ⟨h,rfl⟩:=key n
 exact name_of_addr (cellsFrom_ok names h h.objs.size [] ⟨fun _ _ z=>by simp at z,List.Pairwise.nil⟩ (Ij _)).apart e e'
theorem aeR {M:Model}{A:Dp}{E:FX->AP->Prop}{s:AP}{scope:Scope}{globals:Addr}{closure:List (Str×Addr)}{qual:Str}{func:Option Addr}{code:FX}{ar:Env}{builtins:Addr}{Q:Env->AP->Prop}
  (hQ:Q { scope:=scope,locals:=s.heap.objs.size,globals:=globals,cells:=Kh (s.heap.objs.size+1) scope.names closure,qual:=qual,func:=func,code:=ar.code,frame:=ar.frame,builtins:=ar.builtins } { s with heap:=pushCells (s.heap.push { cls:=.type "dict",data:=.dict #[] }) scope.names }) :
  Bs M A (newFunctionEnv scope globals closure [] qual func code (Dn ar) builtins) Q E s:=by
 simp only [newFunctionEnv,Option.isSome_some,if_true]
 refine Bl (wpAny_alloc ?_)
 refine Bl (wpAny_layCells _ (fun name kind cells=>by cases hkc:kind==NameKind.cell <;> simp [hkc]) _ _ _ _ ?_)
 rw [show ({ s with heap:=s.heap.push { cls:=.type "dict",data:=.dict #[] } }:AP).heap.objs.size=s.heap.objs.size+1 from Qe ..]
 rw [List.forIn_nil]
 exact Bl (HY (HY hQ))
def blk (X:Cx)(scope:Scope)(N':List Str)(C:Addr)(s:AP)(H:Hp)(ex:List Addr):Cx where
 prog:=X.prog
 w:=X.w
 K:=X.K
 mg:=X.mg
 base:=X.base
 A:=X.A
 N:=N'
 s₀:=s
 H₀:=H
 env:=compEnvC scope (Kh (C+1) scope.names (Rx scope X.env)) C X.env
 outer:=X.stack
 stack:=X.stack
 ex:=ex
 fn:=fun y=>decide (scope.names.lookup y=Dn .cell)
 calm:=X.calm
 pn:=[]
 xe:=fun _ _=>False
structure pC (X:Cx) (scope:Scope) (x:List Str) (ix:List Nat):Prop where
 kind:scope.kind=.function
 own:∀ y∈x,scope.names.lookup y=Dn .local\/scope.names.lookup y=Dn .cell
 names:∀ y∈scope.names,scope.names.lookup y.1=Dn y.2
 free:∀ y∈scope.names,y.2=.free->X.env.scope.names.lookup y.1=Dn .cell\/X.env.scope.names.lookup y.1=Dn .free
 ixs:∀ i∈ix,scope.names.lookup (X.N.getD i "")=Dn .free
 nd:(x++ix.map fun i=>X.N.getD i "").Nodup
def FT:List Str->Bool
 | []=>true
 | x::r=>!(r.contains x)&&FT r
def adk (sc:Scope)(N:List Str)(scope:Scope)(x:List Str)(ix:List Nat):Bool:=
 decide (scope.kind=.function)&&x.all (fun y=>decide (scope.names.lookup y=Dn .local)||decide (scope.names.lookup y=Dn .cell)) &&
 scope.names.all (fun y=>decide (scope.names.lookup y.1=Dn y.2)) &&
 scope.names.all (fun y=>!decide (y.2=.free)||decide (sc.names.lookup y.1=Dn .cell)||decide (sc.names.lookup y.1=Dn .free)) &&
 ix.all (fun i=>decide (scope.names.lookup (N.getD i "")=Dn .free))&&FT (x++ix.map fun i=>N.getD i "")
theorem Cu:∀ {l:List Str},FT l=true->l.Nodup
 | [],_=>List.nodup_nil
 | x::r,h=>by
  unfold FT at h
  rw [O7] at h
  refine Um.mpr ⟨fun hm=>?_,Cu h.2⟩
  have:r.contains x=true:=List.contains_iff_mem.mpr hm
  rw [this] at h
  exact absurd h.1 (by decide)
theorem aY {X:Cx}{scope:Scope}{x:List Str}{ix:List Nat}(h:adk X.env.scope X.N scope x ix=true):pC X scope x ix:=by
 unfold adk at h
 simp only [O7,O8,decide_eq_true_eq,Bool.or_eq_true,Bool.not_eq_true',decide_eq_false_iff_not] at h
 obtain ⟨⟨⟨⟨⟨h1,h3⟩,h4⟩,h5⟩,h6⟩,h7⟩:=h
 refine ⟨h1,fun y hy=>h3 y hy,fun y hy=>h4 y hy,fun y hy hk=>?_,fun i hi=>h6 i hi,Cu h7⟩
 ·rcases h5 y hy with (q | q) | q
  ·exact absurd hk q
  ·exact .inl q
  ·exact .inr q
def Km (ix:List Nat)(σ : St):St:=ix.map fun i=>(σ[i]?).getD FN
abbrev mJ (X:Cx)(x:List Str)(ix:List Nat):List Str:=x++ix.map fun i=>X.N.getD i ""
theorem jC {scope:Scope}{env:Env}{x:Str}:∀ {names:List (Str×LQ)} {k:LQ},
  (names.map fun (p:Str×LQ)=>if (p.2==NameKind.free&&env.scope.kind==.function&&env.kindOf p.1==Dn .cell)=true then (p.1,NameKind.cell) else (p.1,p.2)).lookup x=Dn k ->
  names.lookup x=Dn k\/(k=.cell/\names.lookup x=Dn .free)
 | [],k,h=>by simp at h
 | (n,k')::r,k,h=>by
  rw [Nh] at h
  cases hx:x==n with
  | true=>
   by_cases hc:(k'==NameKind.free&&env.scope.kind==.function&&env.kindOf n==Dn .cell)=true
   ·rw [if_pos hc] at h
    simp only [MK,hx] at h
    have hk:k'=.free:=by
     have:=(Bool.and_eq_true_iff.mp (Bool.and_eq_true_iff.mp hc).1).1
     simpa using this
    subst hk
    cases h
    exact .inr ⟨rfl,by simp [MK,hx]⟩
   ·rw [if_neg hc] at h
    simp only [MK,hx] at h
    cases h
    exact .inl (by simp [MK,hx])
  | false=>
   have h':(r.map fun (p:Str×LQ)=>if (p.2==NameKind.free&&env.scope.kind==.function&&env.kindOf p.1==Dn .cell)=true then (p.1,NameKind.cell) else (p.1,p.2)).lookup x=Dn k:=by
    by_cases hc:(k'==NameKind.free&&env.scope.kind==.function&&env.kindOf n==Dn .cell)=true
    ·rw [if_pos hc] at h;simpa only [MK,hx] using h
    ·rw [if_neg hc] at h;simpa only [MK,hx] using h
   rcases jC (scope:=scope) (env:=env) h' with q | ⟨q1,q2⟩
   ·exact .inl (by simpa only [MK,hx] using q)
   ·exact .inr ⟨q1,by simpa only [MK,hx] using q2⟩
theorem sV {env:Env}{x:Str}:∀ {names:List (Str×LQ)},names.lookup x=Dn .free ->
  (names.map fun (p:Str×LQ)=>if (p.2==NameKind.free&&env.scope.kind==.function&&env.kindOf p.1==Dn .cell)=true then (p.1,NameKind.cell) else (p.1,p.2)).lookup x=Dn .cell \/
  (names.map fun (p:Str×LQ)=>if (p.2==NameKind.free&&env.scope.kind==.function&&env.kindOf p.1==Dn .cell)=true then (p.1,NameKind.cell) else (p.1,p.2)).lookup x=Dn .free
 | [],h=>by simp at h
 | (n,k')::r,h=>by
  rw [Nh]
  cases hx:x==n with
  | true=>
   simp only [MK,hx] at h
   cases h
   by_cases hc:(NameKind.free==NameKind.free&&env.scope.kind==.function&&env.kindOf n==Dn .cell)=true
   ·rw [if_pos hc];exact .inl (by simp [MK,hx])
   ·rw [if_neg hc];exact .inr (by simp [MK,hx])
  | false=>
   have h':r.lookup x=Dn .free:=by simpa only [MK,hx] using h
   have ih:=sV (env:=env) h'
   by_cases hc:(k'==NameKind.free&&env.scope.kind==.function&&env.kindOf n==Dn .cell)=true
   ·rw [if_pos hc];simpa only [MK,hx] using ih
   ·rw [if_neg hc];simpa only [MK,hx] using ih
theorem tE {env:Env}{x:Str}:∀ {names:List (Str×LQ)},names.lookup x=Dn .cell ->
  (names.map fun (p:Str×LQ)=>if (p.2==NameKind.free&&env.scope.kind==.function&&env.kindOf p.1==Dn .cell)=true then (p.1,NameKind.cell) else (p.1,p.2)).lookup x=Dn .cell
 | [],h=>by simp at h
 | (n,k')::r,h=>by
  rw [Nh]
  cases hx:x==n with
  | true=>
   simp only [MK,hx] at h
   cases h
   rw [if_neg (by simp)]
   simp [MK,hx]
  | false=>
   have ih:=tE (env:=env) (show r.lookup x=Dn .cell by simpa only [MK,hx] using h)
   split
   ·simpa only [MK,hx] using ih
   ·simpa only [MK,hx] using ih
section
variable {X:Cx}{pins:List (Addr×Obj)}{σ : St}{H:Hp}{s:AP}{scope:Scope}{x:List Str}{ix:List Nat}{C:Addr}{fp:List Addr}
theorem Mp (B:pC X scope x ix){y:Str}(hy:y∈x):Loc (relabel scope X.env) y/\(decide (scope.names.lookup y=Dn .cell)=true\/(relabel scope X.env).names.lookup y=Dn .local):=by
 rcases B.own y hy with q | q
 ·have:=lookup_relabel_local (env:=X.env) q
  exact ⟨.inl this,.inr this⟩
 ·exact ⟨.inr (tE (env:=X.env) q),.inl (decide_eq_true q)⟩
theorem yZ (I:BL X pins σ H s)(B:pC X scope x ix):∀ y∈scope.names,y.2=NameKind.free->∃ c,X.env.cells.lookup y.1=Dn c:=fun y hy hk=>I.ok.has y.1 (B.free y hy hk)
theorem ZM (I:BL X pins σ H s)(B:pC X scope x ix){y:Str}{c:Addr}(h:(y,c)∈Rx scope X.env):X.env.cells.lookup y=Dn c:=by
 rcases Ae scope.names [] h with q | ⟨q1,q2⟩
 ·exact absurd q (by simp)
 ·obtain ⟨c',e⟩:=yZ I B _ q1 rfl
  have e':X.env.cells.lookup y=Dn c':=e
  have q2':c=(X.env.cells.lookup y).getD 0:=q2
  rw [e',Option.getD_some] at q2'
  rw [e',q2']
theorem tV (I:BL X pins σ H s)(B:pC X scope x ix){y:Str}{c:Addr}(h:(Kh (C+1) scope.names (Rx scope X.env)).lookup y=Dn c):X.env.cells.lookup y=Dn c\/(y,c)∈Kh (C+1) scope.names []:=
 (mK.mp (S8 h)).imp_left (ZM I B)
theorem Lg {n:Nat}{names:List (Str×LQ)}{y:Str}{c:Addr}(e:(y,c)∈Kh n names []):n<=c:=by
 have key:∀ (names:List (Str×LQ)) (n:Nat),(y,c)∈Kh n names []->n<=c:=by
  intro names
  induction names with
  | nil=>intro n h;simp [Kh] at h
  | cons a r ih=>
   intro n h
   obtain ⟨name,kind⟩:=a
   unfold Kh at h
   split at h
   ·rcases mK.mp h with q | q
    ·simp only [K9,NT,or_false,T8] at q
     exact Nat.le_of_eq q.2.symm
    ·exact Jp (Ud n) (ih (n+1) q)
   ·exact ih n h
 exact key names n e
theorem agD (B:pC X scope x ix){y:Str}{c:Addr}(hf:scope.names.lookup y=Dn .free)(h:(y,c)∈Kh (C+1) scope.names []):False:=by
 have:=B.names _ (Ei h)
 simp only at this
 rw [hf] at this
 cases this
theorem GC {y:Str}(h:scope.names.lookup y=Dn .free\/scope.names.lookup y=Dn .cell):∃ c,(Kh (C+1) scope.names (Rx scope X.env)).lookup y=Dn c:=by
 rcases h with h | h
 ·obtain ⟨c,hc⟩:=HN (env:=X.env) scope.names [] (.inl (S8 h))
  exact kO (mK.mpr (.inl hc))
 ·obtain ⟨c,hc⟩:=JV (n:=C+1) (S8 h)
  exact kO (mK.mpr (.inr hc))
theorem Xf (I:BL X pins σ H s)(B:pC X scope x ix)(hC:s.heap.objs.size<=C)(hf:∀ b∈fp,Ji X pins H b)(ho:∀ b∈fp,∃ o,s.heap.get? b=Dn o) :
  (blk X scope (mJ X x ix) C s H fp).Ok where
 mod:=I.ok.mod
 kind:=B.kind
 glob:=I.ok.glob
 blt:=I.ok.blt
 above:=hC
 inj:=fun y z c h1 h2=>by
  have far:∀ {y z:Str},X.env.cells.lookup y=Dn c->(z,c)∈Kh (C+1) scope.names []->False:=fun {y z} e q=>by
   obtain ⟨v,w⟩:=I.cell y c e
   exact absurd (Kl w.lt (Jp (Jp hC (Ud C)) (Lg q))) (P0 _)
  rcases tV I B h1 with q1 | q1
  ·rcases tV I B h2 with q2 | q2
   ·exact I.ok.inj y z c q1 q2
   ·exact (far q1 q2).elim
  ·rcases tV I B h2 with q2 | q2
   ·exact (far q2 q1).elim
   ·exact ahr q1 q2
 has:=fun y hy=>by
  have hy':(relabel scope X.env).names.lookup y=Dn .cell\/(relabel scope X.env).names.lookup y=Dn .free:=hy
  rcases hy' with q | q
  ·rcases jC (scope:=scope) (env:=X.env) q with r | ⟨_,r⟩
   ·exact GC (.inr r)
   ·exact GC (.inl r)
  ·rcases jC (scope:=scope) (env:=X.env) q with r | ⟨r,_⟩
   ·exact GC (.inl r)
   ·cases r
 cab:=fun y c hf h=>by
  have hf':scope.names.lookup y=Dn .cell:=of_decide_eq_true hf
  rcases mK.mp (S8 h) with q | q
  ·rcases Ae scope.names [] q with q | ⟨q1,_⟩
   ·exact absurd q (by simp)
   ·have:=B.names _ q1
    simp only at this
    rw [hf'] at this
    cases this
  ·exact Jp (Jp hC (Ud C)) (Lg q)
 hd:=I.ok.hd
 qt:=I.qt0
 frames:=I.ok.frames
 stk:=.inl rfl
 exf:=fun b hb=>by
  obtain ⟨o,e⟩:=ho b hb
  refine ⟨KQ (Kl (Il e) hC),fun y c h=>?_⟩
  rcases tV I B h with q | q
  ·exact (hf b hb).2.2.2.2.1 y c q
  ·intro z
   rw [z] at q
   exact absurd (Kl (Il e) (Jp (Jp hC (Ud C)) (Lg q))) (P0 _)
 bs:=I.bs
 bsz:=Jp I.ok.bsz I.sz
 noex:=fun b o e hb=>by
  rcases (hf b hb).2.2.2.1 with q | q
  ·exact I.ok.noex b o e q
  ·exact absurd (Kl (Il e) (Jp I.ok.bsz q)) (P0 _)
 exfs:=fun b hb z=>by
  obtain ⟨_,h1,h2,_⟩:=hf b hb
  rcases K9.mp (I.stkSub b z) with e | e
  ·exact h1 e
  ·exact h2 e
 funs:=I.stack
 frf:=I.stkFree
theorem agh {D:Addr}{h1:Heap}{tk:Nat}{m:Str->Option FX}(I:BL X pins σ H s)(B:pC X scope x ix)(ok:(blk X scope (mJ X x ix) C s H fp).Ok)
  (hD:D=s.heap.objs.size) (k:∀ b o,s.heap.get? b=Dn o->h1.get? b=Dn o) (hl:h1.get? D=Dn { cls:=.type "list",data:=.seq #[] }) (hns:h1.Ns C m) (hCD:C≠D) (hC:s.heap.objs.size<=C) (hce:∀ y c,(y,c)∈Kh (C+1) scope.names []->h1.IsCell c FN) :
  BL (blk X scope (mJ X x ix) C s H fp) [] (Qg x.length FN++Km ix σ) (IW H D (.lst [])) { s with heap:=h1,toks:=tk } where
 ok:=ok
 os:=rfl
 bare:=I.bare
 base:=Un.laid k (by rw [hD];exact Ij _) (I.hok.fresh (by rw [hD];exact Ij _))
 loc:=by
  refine ⟨m,hns,fun i y v e1 e2 e3=>?_⟩
  by_cases hix:i<x.length
  ·rw [Tt (by simpa using hix),Vb,if_pos hix] at e2
   cases e2
  ·rw [TX (by simpa using hix),List.length_replicate] at e2
   have e1':(ix.map fun i=>X.N.getD i "")[i - x.length]?=Dn y:=by
    have z:(x++ix.map fun i=>X.N.getD i "")[i]?=Dn y:=e1
    rwa [TX (by simpa using hix)] at z
   generalize i - x.length=j at e1' e2
   unfold Km at e2
   rw [ML] at e1' e2
   cases hj:ix[j]? with
   | none=>rw [hj] at e2;cases e2
   | some i'=>
    rw [hj] at e1' e2
    simp only [Option.map_some,Option.some.injEq] at e1' e2
    have hi:σ[i']?=Dn (Dn v):=by
     cases q:σ[i']? with
     | none=>rw [q] at e2;cases e2
     | some z=>rw [q] at e2;exact congrArg Dn e2
    have hlt:i'<X.N.length:=by
     have:=(Ox.mp hi).1
     rw [I.len] at this
     exact this
    have hn:X.N[i']?=Dn y:=by
     rw [Oc,KY hlt,Option.getD_some] at e1'
     rw [KY hlt,e1']
    have hfree:scope.names.lookup y=Dn .free:=by
     have:=B.ixs i' (Pk hj)
     rw [e1'] at this
     exact this
    have kx:=B.free _ (S8 hfree) rfl
    have vis:Vis X.env.scope y:=by
     rcases kx with q | q
     ·exact .inr (.inl q)
     ·exact .inr (.inr q)
    obtain ⟨m',_,hl'⟩:=I.loc
    obtain ⟨u,r,lk⟩:=hl' i' y v hn hi vis
    refine ⟨u,r,?_⟩
    rcases lk with ⟨q,_⟩ | ⟨_,c,hc,hcell⟩
    ·have q':X.env.scope.names.lookup y=Dn .local:=q
     rcases kx with z | z <;> (rw [q'] at z;cases z)
    ·obtain ⟨c',hc'⟩:=GC (X:=X) (C:=C) (.inl hfree)
     have e:=(tV I B hc').resolve_right fun z=>agD B hfree z
     rw [hc] at e
     cases e
     refine .inr ⟨sV (env:=X.env) hfree,c,hc',?_⟩
     obtain ⟨o,ho,hd⟩:=hcell
     exact ⟨o,k c o ho,hd⟩
 cell:=fun y c h=>by
  rcases tV I B h with q | q
  ·obtain ⟨v,o,ho,hd⟩:=I.cell y c q
   exact ⟨v,o,k c o ho,hd⟩
  ·exact ⟨FN,hce y c q⟩
 free:=by
  show IW H D (.lst []) C=FN
  rw [aV hCD]
  exact I.hok.fresh hC
 freeC:=fun y c h=>by
  show IW H D (.lst []) c=FN
  rcases tV I B h with q | q
  ·obtain ⟨v,o,ho,hd⟩:=I.cell y c q
   rw [aV (by rw [hD];exact KQ (Il ho))]
   exact I.freeC y c q
  ·have g:s.heap.objs.size<c:=Kl (Nat.lt_succ_of_le hC) (Lg q)
   rw [aV (by rw [hD];exact Qs g)]
   exact I.hok.fresh (Nat.le_of_lt g)
 pin:=fun p hp=>absurd (show p∈([]:List (Addr×Obj)) from hp) (by simp)
 hok:=I.hok.laid k (by rw [hD];exact Ij _) ⟨TF _,[],0,.nil,hl⟩
 len:=by
  show (Qg x.length FN++Km ix σ).length=(mJ X x ix).length
  simp [Km]
theorem Ko {σ':St}{H':Hp}{s':AP}{h':Heap}{p':List (Addr×Obj)}(I:BL X pins σ H s)(hC:s.heap.objs.size<=C)(hf:∀ b∈fp,Ji X pins H b)(J:BL (blk X scope (mJ X x ix) C s H fp) p' σ' H' s')
  (hs:UG C s'.heap h'):BL X pins σ H' { s' with heap:=h' }:=by
 have I1:BL X pins σ H' s':=I.call' (ch:=fp) J.os J.base J.hok J.bare fun b hb=>⟨(hf b hb).2.2.2.1,(hf b hb).2.1,(hf b hb).2.2.2.2.1,(hf b hb).2.2.2.2.2⟩
 refine I1.turned (it:=C) (t':=s'.toks) (fun b o hb e=>(hs.2 b hb).trans e) J.free (Qs (Kl I.lt hC)) (.inr (Jp I.sz hC)) (fun y c e z=>?_) (fun p hp z=>?_)
 ·obtain ⟨v,q⟩:=I.cell y c e
  exact absurd (Kl q.lt (by rw [z];exact hC)) (P0 _)
 ·exact absurd (Kl (Il (I.pin p hp).1) (by rw [z];exact hC)) (P0 _)
end
def WY (X:Cx)(ifs:List Expr)(t:TT):Prop:=
 ∀ (pins:List (Addr×Obj)) (s:AP) (σ : St) (H:Hp) (Q:Bool->Hp->Prop),BL X pins σ H s->t σ H Q ->
  Bs (Cj X.prog X.w) X.A (forIn ifs true fun c r=>if r=true then do let ok <-isTrue c X.env (eval c X.env);pure (ForInStep.yield ok) else pure (ForInStep.yield r)) (TP X pins σ Q) X.xe s
def aeg:TT:=fun _ H Q=>Q true H
theorem agA {X:Cx}:WY X [] aeg:=fun _ _ _ H _ I h=>HY ⟨H,I,h⟩
theorem agm {X:Cx}{c:Expr}{t:TT}(h:PT X c t):WY X [c] t:=fun pins s σ H Q I hq=>by
 rw [List.forIn_cons]
 refine Bl ?_
 rw [if_pos rfl]
 refine Bl (Ia (h pins s σ H Q I hq) fun b s1 q=>HY ?_)
 exact HY q
def abM (n:Nat)(own:V->Hp->List V->Prop)(ix:List Nat)(tt:TT)(te:TE)(σ : St)(Q:VK)(J:It)(H1:Hp)(D:Addr):Prop:=∃ W:Nat->Nat->List V->Hp->Prop,(∃ m,W 0 m [] (IW H1 D (.lst [])))/\∀ i m ys H,W i m ys H->H D=Dn (.lst ys) ->
 (J.stop i H/\Q (.ref D) H)\/(J.go i H/\ys.length<Ig/\∀ x H',J.yld i H x H'->∃ vs,own x H' vs/\vs.length=n/\tt (vs.map Dn++Km ix σ) H' fun b H2=>
  if b=true then te (vs.map Dn++Km ix σ) H2 (fun v H3=>H3 D=Dn (.lst ys)/\∃ m',m'<m/\W (i+1) m' (ys++[v]) (IW H3 D (.lst (ys++[v]))))
  else H2 D=Dn (.lst ys)/\∃ m',m'<m/\W (i+1) m' ys H2)
def wLC (n:Nat)(own:V->Hp->List V->Prop)(ix:List Nat)(tt:TT)(te:TE)(σ : St)(Q:VK)(J:It)(H1:Hp):Prop:=∀ D,H1 D=FN->abM n own ix tt te σ Q J H1 D
def tLC (n:Nat)(own:V->Hp->List V->Prop)(ix:List Nat)(wi:TI)(tt:TT)(te:TE):TE:=fun σ H Q=>wi σ H fun J H1=>wLC n own ix tt te σ Q J H1
def VR (n:Nat)(own:V->Hp->List V->Prop):TG:=fun v σ H N=>∃ vs,own v H vs/\vs.length=n/\N (vs.map Dn++σ.drop n) H
theorem aeP {P:Dr}{w:Ci}{A:Dp}{R:Result->AP->Prop}{s:AP}{elt target iter:Expr}{ifs:List Expr}{scope:Scope}{pos:Pos}{it acc:FX}{env:Env}(Iv:Nat->AP->Prop)
  (turn:∀ n s,Iv n s->Bs (Cj P w) A (Oz it) (fun r s₁=>match r with
   | none=>R (.ok .next) s₁
   | some v=>Bs (Cj P w) A (letOwnedTupleGo target it v) (fun _ t₁=>Bs (Cj P w) A (assign target env v) (fun _ s₂=>
     Bs (Cj P w) A (forIn ifs true fun c r=>if r=true then do let ok <-isTrue c env (eval c env);pure (ForInStep.yield ok) else pure (ForInStep.yield r)) (fun ok s₃=>
      if ok=true then Bs (Cj P w) A (eval elt env) (fun x s₄=>
       Bs (Cj P w) A (call (.builtin "list.append") [acc,x]) (fun _ s₅=>∃ m,m<n/\Iv m s₅) (notedBy (Cj P w) A env fun e s'=>R (.error e) s') s₄) (notedBy (Cj P w) A env fun e s'=>R (.error e) s') s₃
      else ∃ m,m<n/\Iv m s₃) (notedBy (Cj P w) A env fun e s'=>R (.error e) s') s₂) (notedBy (Cj P w) A env fun e s'=>R (.error e) s') t₁) (notedBy (Cj P w) A env fun e s'=>R (.error e) s') s₁) (notedBy (Cj P w) A env fun e s'=>R (.error e) s') s)
  (n:Nat) (h:Iv n s):codeAny (Cj P w) A (.compLoop (.ListComp elt [⟨target,iter,ifs,0⟩] scope pos) 0 it acc env) R s:=by
 refine codeAny_loop rfl Iv (fun n s hI=>?_) n h
 show Bs _ A ((compTurn (.ListComp elt [⟨target,iter,ifs,0⟩] scope pos) 0 it acc env).onRaise (fun x=>do noteFrame x env;theTreesLotGoes x)) _ _ s
 refine wpAny_noted ?_
 rw [compTurn_list]
 refine Bl (wpAny_standAt (Bl (Oi (turn n s hI) (fun r s₁ k₁=>?_) fun _ _ z=>z)))
 cases r with
 | none=>exact HY k₁
 | some v=>
  refine Bl (Oi k₁ (fun _ t₁ k₂=>Bl (Oi k₂ (fun _ s₂ k₃=>Bl (Oi k₃ (fun ok s₃ k₄=>?_) fun _ _ z=>z)) fun _ _ z=>z)) fun _ _ z=>z)
  cases ok with
  | false=>exact HY ⟨rfl,k₄⟩
  | true=>exact Bl (Bl (Oi k₄ (fun x s₄ k₅=>Bl (Oi k₅ (fun _ s₅ k₆=>HY (HY ⟨rfl,k₆⟩)) fun _ _ z=>z)) fun _ _ z=>z))
section
variable {X:Cx}{scope:Scope}{x:List Str}{ix:List Nat}{elt iter tg:Expr}{ifs:List Expr}{px pos:Pos}{wi:TI}{tt:TT}{te:TE}{own:V->Hp->List V->Prop}
theorem Ms {pins:List (Addr×Obj)}{σ : St}{s₂ : AP}{H2:Hp}{it:Addr}{fp:List Addr}{tn:Nat->Heap->Prop}{J:It}{Q:VK}{E:FX->AP->Prop}{RR:FX->Addr->Result->AP->Prop}
  (hc:J.cm=true->X.calm=true) (B:pC X scope x ix) (hg:∀ C s H fp,PG (blk X scope (mJ X x ix) C s H fp) tg (VR x.length own)) (ht:∀ C s H fp,WY (blk X scope (mJ X x ix) C s H fp) ifs tt) (he:∀ C s H fp,PE (blk X scope (mJ X x ix) C s H fp) elt te)
  (I2:BL X pins σ H2 s₂) (T:Turn X.prog X.w X.K tg J fp it tn) (st2:tn 0 s₂.heap) (f2:∀ b∈fp,Ji X pins H2 b) (hq:wLC x.length own ix tt te σ Q J H2)
  (hRR:∀ D C s' σ' H' p',s₂.heap.objs.size<=C->BL (blk X scope (mJ X x ix) C s₂ H2 fp) p' σ' H' s'->Q (.ref D) H'->RR (.ref D) C (.ok .next) s') :
  Bs (Cj X.prog X.w) X.A (newList []) (fun acc s₃=>Bs (Cj X.prog X.w) X.A (newFunctionEnv scope X.env.globals (Rx scope X.env) [] X.env.qual FN .none (Dn X.env)) (fun cenv s₄=>
   codeAny (Cj X.prog X.w) X.A (.compStart (.ListComp elt [⟨tg,iter,ifs,0⟩] scope pos) 0 (.ref it) acc { cenv with scope:=relabel scope X.env }) (RR acc cenv.locals) s₄) E s₃) E s₂:=by
 refine Pn (aeR ?_)
 dsimp only
 generalize hH2:s₂.heap.push { cls:=.type "list",dict:=FN,data:=.seq ([]:List FX).toArray }=HH
 generalize hh1:pushCells (HH.push { cls:=.type "dict",data:=.dict #[] }) scope.names=h₁
 have hns₁ : h₁.Ns HH.objs.size (fun _=>FN):=by
  obtain ⟨o,es,ep,ho,r⟩:=Heap.Ns.new HH (.type "dict")
  exact ⟨o,es,ep,by rw [<-hh1];exact pushCells_keeps _ _ _ _ ho,r⟩
 have hkeep:∀ b o,HH.get? b=Dn o->h₁.get? b=Dn o:=fun b o e=>by rw [<-hh1];exact pushCells_keeps _ _ _ _ (J6 _ e)
 have hce:∀ y c,(y,c)∈Kh (HH.objs.size+1) scope.names []->h₁.IsCell c FN:=fun y c e=>by
  rw [<-hh1]
  exact (Ze (h:=HH.push { cls:=.type "dict",data:=.dict #[] }) (by rw [Qe];exact e)).1
 have hC:HH.objs.size=s₂.heap.objs.size+1:=by rw [<-hH2,Qe]
 have hDC:s₂.heap.objs.size≠HH.objs.size:=by rw [hC];exact KQ (Nat.lt_succ_self _)
 have hCle:s₂.heap.objs.size<=HH.objs.size:=by rw [hC];exact Ud _
 have old:∀ b o,s₂.heap.get? b=Dn o->h₁.get? b=Dn o:=fun b o e=>hkeep b o (hH2 ▸ J6 _ e)
 have hacc:h₁.get? s₂.heap.objs.size=Dn { cls:=.type "list",data:=.seq #[] }:=hkeep _ _ (hH2 ▸ Lf _ rfl)
 have hob:∀ b∈fp,∃ o,s₂.heap.get? b=Dn o:=fun b hb=>let ⟨o,e,_⟩:=T.obj 0 _ st2 b hb;⟨o,e⟩
 have ok:=Xf (C:=HH.objs.size) I2 B hCle f2 hob
 obtain ⟨W,⟨m0,w0⟩,turn⟩:=hq s₂.heap.objs.size (I2.hok.fresh (Ij _))
 -- the iterator's records, in the block
 have stat:∀ {H':Hp},(∀ b∈fp,H' b=FN)->∀ b∈fp,Ji (blk X scope (mJ X x ix) HH.objs.size s₂ H2 fp) [] H' b:=fun {H'} hn b hb=>by
  obtain ⟨o,e⟩:=hob b hb
  obtain ⟨_,g1,g2,g3,g4,g5⟩:=f2 b hb
  refine ⟨hn b hb,KQ (Kl (Il e) hCle),fun z=>?_,.inl hb,fun y c h=>?_,fun p hp=>absurd (show p∈([]:List (Addr×Obj)) from hp) (by simp)⟩
  ·rcases K9.mp (I2.stkSub b z) with q | q
   ·exact g1 q
   ·exact g2 q
  ·rcases tV I2 B h with q | q
   ·exact g4 y c q
   ·intro z
    rw [z] at q
    exact absurd (Kl (Il e) (Jp (Jp hCle (Ud _)) (Lg q))) (P0 _)
 have loop:∀ s₃ : AP,s₃ = { s₂ with heap:=h₁ } ->
   codeAny (Cj X.prog X.w) X.A (.compLoop (.ListComp elt [⟨tg,iter,ifs,0⟩] scope pos) 0 (.ref it) (.ref s₂.heap.objs.size) (compEnvC scope (Kh (HH.objs.size+1) scope.names (Rx scope X.env)) HH.objs.size X.env))
    (RR (.ref s₂.heap.objs.size) HH.objs.size) s₃:=by
  rintro s₃ rfl
  have J0:=agh (fp:=fp) (C:=HH.objs.size) (tk:=s₂.toks) I2 B ok rfl old hacc hns₁ (N8 hDC) hCle hce
  have fr0:∀ b∈fp,IW H2 s₂.heap.objs.size (.lst []) b=FN:=fun b hb=>by
   obtain ⟨o,e⟩:=hob b hb
   rw [aV (KQ (Il e))]
   exact (f2 b hb).1
  refine aeP (fun k s'=>∃ i ys H',BL (blk X scope (mJ X x ix) HH.objs.size s₂ H2 fp) [] (Qg x.length FN++Km ix σ) H' s'/\tn i s'.heap/\(∀ b∈fp,H' b=FN)/\H' s₂.heap.objs.size=Dn (.lst ys)/\W i k ys H') ?_ m0
   ⟨0,[],_,J0,T.keep 0 _ _ st2 (fun b _ o e=>old b o e),fr0,cR,w0⟩
  rintro n s₄ ⟨i,ys,H4,I4,st4,fr4,hD4,w4⟩
  rcases turn i n ys H4 w4 hD4 with ⟨stop,qn⟩ | ⟨go,hz,step⟩
  ·refine Ia (T.done (blk X scope (mJ X x ix) HH.objs.size s₂ H2 fp) rfl rfl rfl hc i [] s₄ _ H4 _ I4 (stat fr4) st4 stop) fun r s5 ⟨hr,I5⟩=>?_
   subst hr
   exact hRR _ _ s5 _ H4 [] hCle I5 qn
  ·refine Ia (T.item (blk X scope (mJ X x ix) HH.objs.size s₂ H2 fp) rfl rfl rfl hc i [] s₄ _ H4 _ I4 (stat fr4) st4 go) fun r s5 ⟨u,hr,h5⟩=>?_
   subst hr
   refine Oi h5 (fun _ s6 ⟨xv,H6,I6,r6,y6,st6,fr6⟩=>?_) fun _ _ z=>z
   have I6':=I6.pinned (stat fr6) (T.obj _ _ st6)
   obtain ⟨vs,hov,hvl,q7⟩:=step xv H6 y6
   have fgt:∀ {σ9:St} {H9:Hp} {s9:AP} {p9:List (Addr×Obj)},σ9.length=x.length->BL (blk X scope (mJ X x ix) HH.objs.size s₂ H2 fp) p9 (σ9++Km ix σ) H9 s9->BL (blk X scope (mJ X x ix) HH.objs.size s₂ H2 fp) p9 (Qg x.length FN++Km ix σ) H9 s9:=fun {σ9 H9 s9 p9} hl I9=>
    I9.weak (by simp [hl]) fun k v e=>by
     by_cases hk:k<x.length
     ·rw [Tt (by simpa using hk),Vb,if_pos hk] at e
      cases e
     ·rw [TX (by simpa using hk),List.length_replicate] at e
      rw [TX (by rw [hl];lia),hl]
      exact e
   refine Oi (hg _ _ _ _ _ s6 _ H6 xv u (fun σ9 H9=>σ9=vs.map Dn++(Qg x.length (FN:Option V)++Km ix σ).drop x.length/\H9=H6) I6' r6 ⟨vs,hov,hvl,rfl,rfl⟩) (fun _ s7 ⟨σ7,H7,I7,e7,e8⟩=>?_) fun _ _ z=>z.elim
   subst e7 e8
   rw [List.drop_left' (by simp)] at I7
   have hml:(vs.map Dn).length=x.length:=by rw [Iu];exact hvl
   refine Oi (ht _ _ _ _ _ s7 _ H7 _ I7 q7) (fun b s8 ⟨H8,I8,q8⟩=>?_) fun _ _ z=>z.elim
   have pinned:∀ {H9:Hp} {s9:AP} {σ9:St},BL (blk X scope (mJ X x ix) HH.objs.size s₂ H2 fp) ([]++CQ fp s6.heap) σ9 H9 s9->tn (i+1) s9.heap/\∀ b∈fp,H9 b=FN:=fun {H9 s9 σ9} I9=>by
    refine ⟨T.keep _ _ _ st6 fun b hb o e=>(I9.pin (b,o) (Qj _ (Qj _ (nT hb e)))).1,fun b hb=>?_⟩
    obtain ⟨o,e,d⟩:=T.obj _ _ st6 b hb
    exact (I9.pin (b,o) (Qj _ (Qj _ (nT hb e)))).2.1
   cases b with
   | false=>
    rw [if_neg Nb] at q8 |-
    obtain ⟨hD8,m',hm,w8⟩:=q8
    obtain ⟨t8,f8⟩:=pinned I8
    exact ⟨m',hm,i+1,ys,H8,fgt hml I8.unpinned,t8,f8,hD8,w8⟩
   | true=>
    rw [if_pos rfl] at q8 |-
    refine Oi (he _ _ _ _ _ s8 _ H8 _ I8 q8) (fun u9 s9 ⟨v9,H9,I9,r9,hD9,m',hm,w9⟩=>?_) fun _ _ z=>z.elim
    refine Oi (BR (X:=blk X scope (mJ X x ix) HH.objs.size s₂ H2 fp) _ s9 _ H9 (.ref s₂.heap.objs.size) [v9] _ [u9] (fun _ H'=>H'=IW H9 s₂.heap.objs.size (.lst (ys++[v9]))) I9 rfl (.cons r9 .nil) ⟨_,ys,v9,rfl,rfl,hD9,hz,rfl⟩) (fun _ s10 ⟨_,H10,I10,_,e10⟩=>?_) fun _ _ z=>z.elim
    subst e10
    obtain ⟨t10,f10⟩:=pinned I10
    exact ⟨m',hm,i+1,ys++[v9],_,fgt hml I10.unpinned,t10,f10,cR,w9⟩
 exact codeAny_compStart_list (loop _ rfl) (T.self _ 0 _ _ _ (T.keep 0 _ _ st2 (fun b _ o e=>old b o e)) (loop _ rfl))
theorem acw (ix:List Nat)(hc:X.calm=true)(B:pC X scope x ix)(hg:∀ C s H fp,PG (blk X scope (mJ X x ix) C s H fp) tg (VR x.length own))(hi:PI X tg iter wi)(ht:∀ C s H fp,WY (blk X scope (mJ X x ix) C s H fp) ifs tt)(he:∀ C s H fp,PE (blk X scope (mJ X x ix) C s H fp) elt te)
  (hs:∀ v,Uq iter X.env v=pure v:=by intro _;rfl):PE X (.ListComp elt [⟨tg,iter,ifs,0⟩] scope pos) (tLC x.length own ix wi tt te):=by
 intro pins s σ H Q I h
 rw [eval_ListComp]
 refine wpAny_comprehension_free (use:=FN) rfl hs (K1 (yZ I B)) B.kind (fun y hy hk=>by rw [B.names y hy,hk]) ?_
 refine Ia (hi pins s σ H _ I h) fun v s1 h1=>Ia h1 fun itv s2 h2=>?_
 obtain ⟨it,fp,tn,J,H2,e,I2,T,st2,f2,hq⟩:=h2
 subst e
 refine Ms (RR:=fun acc C=>compPost (Cj X.prog X.w) X.A X.xe FN (EP X pins σ Q) acc C) (fun _=>hc) B hg ht he I2 T st2 f2 hq fun D C s' σ' H' p' hC I' q'=>?_
 obtain ⟨m,hn,_⟩:=I'.loc
 exact ⟨m,hn,fun h' hs'=>⟨.ref D,H',Ko I2 hC f2 I' hs',rfl,q'⟩⟩
theorem abn (ix:List Nat){i:Nat}{y:Str}{py spos:Pos}(hN:X.N.Nodup)(hi':X.N[i]?=Dn y)(hy:Loc X.env.scope y)(hc:X.calm=true)(B:pC X scope x ix)(hg:∀ C s H fp,PG (blk X scope (mJ X x ix) C s H fp) tg (VR x.length own))(hi:PI X tg iter wi)
  (ht:∀ C s H fp,WY (blk X scope (mJ X x ix) C s H fp) ifs tt) (he:∀ C s H fp,PE (blk X scope (mJ X x ix) C s H fp) elt te)
  (hsw:swapsWith (.ListComp elt [⟨tg,iter,ifs,0⟩] scope pos) (Dn (.Name y py)) spos.line X.env=pure true:=by rfl)
  (hf:X.fn y=true\/X.env.scope.names.lookup y=Dn .local:=by first | exact .inl rfl | exact .inr rfl | assumption)
  (hs:∀ v,Uq iter X.env v=pure v:=by intro _;rfl):PS X (.Assign [.Name y py] (.ListComp elt [⟨tg,iter,ifs,0⟩] scope pos) spos) (ZJ (tLC x.length own ix wi tt te) (Lb i)):=by
 intro pins s σ H D I h
 rw [exec_Assign_Name_used _ _ _ _ hsw]
 refine Bl (wpAny_standAt (Bl ?_))
 show Bs _ X.A (do let _ <-comprehension (.ListComp elt [⟨tg,iter,ifs,0⟩] scope pos) scope X.env _ (newList []) false (eval iter X.env) (Dn (assign (.Name y py) X.env))) _ _ s
 refine Bl (Oi (wpAny_comprehension_free (use:=Dn (assign (.Name y py) X.env)) (Q:=fun _ s'=>SP X pins D .next s') rfl hs (K1 (yZ I B)) B.kind (fun y hy hk=>by rw [B.names y hy,hk]) ?_) (fun _ s' hq=>HY (HY hq)) fun _ _ e=>e)
 refine Ia (hi pins s σ H _ I h) fun v s1 h1=>Ia h1 fun itv s2 h2=>?_
 obtain ⟨it,fp,tn,J,H2,e,I2,T,st2,f2,hq⟩:=h2
 subst e
 refine Ms (RR:=fun acc C=>compPost (Cj X.prog X.w) X.A X.xe (Dn (assign (.Name y py) X.env)) (fun _ s'=>SP X pins D .next s') acc C) (fun _=>hc) B hg ht he I2 T st2 f2 hq fun D' C s' σ' H' p' hC I' q'=>?_
 obtain ⟨m,hn,_⟩:=I'.loc
 have I3:BL X pins σ H' s':=Ko (h':=s'.heap) I2 hC f2 I' (.refl ..)
 show Bs _ X.A (assign (.Name y py) X.env (.ref D')) _ _ s'
 have cneC:∀ z c,X.env.cells.lookup z=Dn c->c≠C:=fun z c e q=>by
  obtain ⟨v,w⟩:=I2.cell z c e
  exact absurd (Kl w.lt (by rw [q];exact hC)) (P0 _)
 have lneC:X.env.locals≠C:=KQ (Kl I2.lt hC)
 refine wpAny_assign_Name (Cr (v:=.ref D') I3 hN hi' hy rfl (fun s'' I'' hsb=>?_) hf)
 obtain ⟨a,hsb,ha⟩:=hsb
 have haC:C≠a:=by
  rcases ha with rfl | ha
  ·exact N8 lneC
  ·exact N8 (cneC _ _ ha)
 refine ⟨m,hn.sameBut hsb haC,fun h' hs'=>⟨_,H',?_,q'⟩⟩
 refine I''.turned (it:=C) (t':=s''.toks) (fun b o hb e=>(hs'.2 b hb).trans e) I'.free (N8 lneC) (.inr (Jp I2.sz hC)) cneC (fun p hp z=>?_)
 exact absurd (Kl (Il (I2.pin p hp).1) (by rw [z];exact hC)) (P0 _)
end
def Sm (n:Nat)(i:Int):Prop:=i.natAbs<2^n
theorem Sm.bits {n:Nat}{i:Int}(h:Sm n i):Builtin.Int.intBits i<=n:=by
 unfold Builtin.Int.intBits
 by_cases e:i=0
 ·subst e;exact TF _
 ·have e':(i==0)=false:=beq_eq_false_iff_ne.mpr e
  rw [e']
  have h0:i.natAbs≠0:=by lia
  have:=(Nat.log2_lt h0).mpr h
  simp only [Ug,if_false]
  lia
theorem Sm.mono {m n:Nat}{i:Int}(h:Sm m i)(hmn:m<=n):Sm n i:=Kl h (Nat.pow_le_pow_right (by decide) hmn)
theorem Sm.mul {m n:Nat}{i j:Int}(h:Sm m i)(h':Sm n j):Sm (m+n) (i*j):=by
 unfold Sm at *
 rw [Int.natAbs_mul,Nat.pow_add]
 by_cases e:j.natAbs=0
 ·rw [e,Nat.mul_zero]
  exact Nat.mul_pos (Nat.pow_pos (by decide)) (Nat.pow_pos (by decide))
 ·exact Kl (Nat.mul_lt_mul_of_pos_right h (Nat.pos_of_ne_zero e)) (Nat.mul_le_mul_left _ (Nat.le_of_lt h'))
theorem Sm.add {m n:Nat}{i j:Int}(h:Sm m i)(h':Sm n j):Sm (max m n+1) (i+j):=by
 have h1:=h.mono (Nat.le_max_left m n)
 have h2:=h'.mono (Nat.le_max_right m n)
 unfold Sm at *
 rw [Nat.pow_succ]
 lia
theorem Sm.neg {n:Nat}{i:Int}(h:Sm n i):Sm n (-i):=by unfold Sm at *;rw [Int.natAbs_neg];exact h
theorem Sm.sub {m n:Nat}{i j:Int}(h:Sm m i)(h':Sm n j):Sm (max m n+1) (i - j):=by
 rw [Int.sub_eq_add_neg];exact h.add h'.neg
theorem Sm.zero {n:Nat}:Sm n 0:=Nat.pow_pos (by decide)
theorem xJ {n:Nat}{i:Int}(h1:-(2^n:Int)<i)(h2:i<(2^n:Int)):Sm n i:=by
 unfold Sm
 have e:((2^n:Nat):Int)=(2:Int)^n:=by simp
 lia
theorem Sm.le {n:Nat}{i j:Int}(h:Sm n i)(hj:j.natAbs<=i.natAbs):Sm n j:=Tj hj h
def iT (i j:Int):Prop:=∃ m n,m<=1000000/\n<=1000000/\Sm m i/\Sm n j
theorem iT.ok {i j:Int}(h:iT i j):IntMulOk i j:=by
 obtain ⟨m,n,hm,hn,h1,h2⟩:=h
 have e:(2:Nat)^20=1048576:=by decide
 exact .of_bits (by have:=h1.bits;lia) (by have:=h2.bits;lia)
def Gq (_ j:Int):Prop:=j≠0/\∃ n,n<=8000/\Sm n j
theorem ahq {n:Nat}{j:Int}(hn:n<=8000)(h:Sm n j):j.natAbs.log2<9000:=by
 by_cases e:j.natAbs=0
 ·rw [e];decide
 ·have:=(Nat.log2_lt e).mpr h
  lia
section
variable {X:Cx}
theorem ahE:Kc X (N7 .Mult) (rI iT fun i j=>.int (i*j)):=opI fun _ _ _ _ _ _ _ hc q=>mul_int q hc.ok
theorem zaE:Kc X (N7 .FloorDiv) (rI Gq fun i j=>.int (i.fdiv j)):=opI fun i j _ _ _ _ _ hc q=>by
 obtain ⟨h1,n,hn,h2⟩:=hc
 exact floordiv_int h1 q (.inl (PyProof.noPylong_of_log2 (ahq hn h2)))
theorem Ar:∀ {bs:List Bool} {its:List FX} {i:Nat} {v:FX},Bm (bs.map V.bl) its->its[i]?=Dn v->∃ b,bs[i]?=Dn b/\v=.bool b
 | [],_,_,_,.nil,e=>by simp at e
 | b::bs,_,0,_,.cons r _,e=>by simp at e;subst e;exact ⟨b,rfl,r⟩
 | _::bs,_,i+1,v,.cons _ t,e=>by
  obtain ⟨b,h1,h2⟩:=Ar (i:=i) (v:=v) t (by simpa using e)
  exact ⟨b,by simpa using h1,h2⟩
theorem zat:∀ (bs:List Bool),((O9 bs.length).all fun i=>(bs[i]?).getD true)=bs.all id:=fun bs=>by
 rw [Bool.eq_iff_iff,O8,O8]
 constructor
 ·intro h b hb
  obtain ⟨i,hi,rfl⟩:=Uk.mp hb
  have:=h i (QD.mpr hi)
  simpa [hi] using this
 ·intro h i hi
  have hi':=QD.mp hi
  have:=h bs[i] (Uy hi')
  simpa [hi'] using this
theorem ahz (hc:X.calm=true):mF X (.builtin "all") (fun xs H Q=>∃ (p:Addr) (bs:List Bool),xs=[.ref p]/\Je X.K H p (bs.map V.bl)/\Q (.bl (bs.all id)) H):=by
 intro pins s σ H xs us Q I r h
 obtain ⟨p,bs,rfl,hS,q⟩:=h
 obtain ⟨u,rfl,ru⟩:=vals1 r
 cases ru
 obtain ⟨its,rv,pl,hz⟩:=I.list hS
 have hlen:its.length=bs.length:=by rw [<-rv.length,Iu]
 have hl:=pl.isList
 have hlt:p<s.heap.objs.size:=by obtain ⟨_,e,_⟩:=hl;exact Il e
 refine call_all_walk (Ux hl ?_)
 refine ⟨s.heap.objs.size,[s.heap.objs.size,p],[s.heap.objs.size],its.toArray.size,_,_,fun i=>(bs[i]?).getD true,rfl,Walks.list (A:=X.A.in1) (I.ok.hd hc) _ p (KQ hlt) its.toArray,
  ⟨⟨_,Lf _ rfl,rfl,rfl⟩,hl.push _⟩,fun i v s' Q' E' hP hQ=>?_,fun h' tk hk=>?_⟩
 ·obtain ⟨b,e,rfl⟩:=Ar rv (by simpa using hP)
  simp only [e,Option.getD_some] at hQ
  exact wpAny_truthy_bool hQ
 ·have e:((O9 its.toArray.size).all fun i=>(bs[i]?).getD true)=bs.all id:=by
   rw [Jr,hlen];exact zat bs
  rw [e]
  refine ⟨.bl (bs.all id),H,I.kept (h':=h') (t':=tk) (fun b x e=>?_),rfl,q⟩
  exact hk b x (fun hm=>by rw [Oa.mp hm] at e;exact P0 _ (Il e)) (J6 _ e)
def adf (K:BZ)(H:Hp):V->String->Bool->Prop
 | .int _,T,b=>(T = "int"/\b=true)\/(T = "bool"/\b=false)\/(T = "tuple"/\b=false)\/(T = "list"/\b=false)
 | .bl _,T,b=>(T = "int"/\b=true)\/(T = "bool"/\b=true)\/(T = "tuple"/\b=false)\/(T = "list"/\b=false)
 | .str _,T,b=>(T = "int"/\b=false)\/(T = "bool"/\b=false)\/(T = "tuple"/\b=false)\/(T = "list"/\b=false)
 | .non,T,b=>(T = "int"/\b=false)\/(T = "bool"/\b=false)\/(T = "tuple"/\b=false)\/(T = "list"/\b=false)
 | .ref p,T,b=>(∃ xs,Jg K H p xs/\((T = "int"/\b=false)\/(T = "bool"/\b=false)\/(T = "tuple"/\b=true)\/(T = "list"/\b=false))) \/
   (∃ xs,Je K H p xs/\((T = "int"/\b=false)\/(T = "bool"/\b=false)\/(T = "tuple"/\b=false)\/(T = "list"/\b=true)))
 | _,_,_=>False
theorem zaY:mF X (.builtin "isinstance") (fun xs H Q=>∃ x T b,xs=[x,.ty T]/\adf X.K H x T b/\Q (.bl b) H):=by
 intro pins s σ H xs us Q I r h
 obtain ⟨x,T,b,rfl,hi,q⟩:=h
 obtain ⟨u,w',rfl,rx,ru⟩:=vals2 r
 cases ru
 have k0:EP X pins σ Q (.bool b) s:=⟨.bl b,H,I,rfl,q⟩
 have k1:EP X pins σ Q (.bool b) { s with toks:=s.toks+1 }:=⟨.bl b,H,I.tok _,rfl,q⟩
 cases x with
 | int i=>
  obtain ⟨t,rfl⟩:=rx
  rcases hi with ⟨rfl,rfl⟩ | ⟨rfl,rfl⟩ | ⟨rfl,rfl⟩ | ⟨rfl,rfl⟩
  ·exact IsiPair.int_int k0
  ·exact IsiPair.int_bool k1
  ·exact IsiPair.int_tuple k1
  ·exact IsiPair.int_list k1
 | bl i=>
  cases rx
  rcases hi with ⟨rfl,rfl⟩ | ⟨rfl,rfl⟩ | ⟨rfl,rfl⟩ | ⟨rfl,rfl⟩
  ·first | exact IsiPair.bool_int k0 | exact IsiPair.bool_int k1
  ·first | exact IsiPair.bool_bool k0 | exact IsiPair.bool_bool k1
  ·exact IsiPair.bool_tuple k1
  ·exact IsiPair.bool_list k1
 | str i=>
  obtain ⟨t,rfl⟩:=rx
  rcases hi with ⟨rfl,rfl⟩ | ⟨rfl,rfl⟩ | ⟨rfl,rfl⟩ | ⟨rfl,rfl⟩
  ·exact IsiPair.str_int k1
  ·exact IsiPair.str_bool k1
  ·exact IsiPair.str_tuple k1
  ·exact IsiPair.str_list k1
 | non=>
  cases rx
  rcases hi with ⟨rfl,rfl⟩ | ⟨rfl,rfl⟩ | ⟨rfl,rfl⟩ | ⟨rfl,rfl⟩
  ·exact IsiPair.NoneType_int k1
  ·exact IsiPair.NoneType_bool k1
  ·exact IsiPair.NoneType_tuple k1
  ·exact IsiPair.NoneType_list k1
 | ref p=>
  cases rx
  rcases hi with ⟨xs,hS,hi⟩ | ⟨xs,hS,hi⟩
  ·obtain ⟨its,_,⟨o,e,c,_⟩,_⟩:=I.tuple hS
   rcases hi with ⟨rfl,rfl⟩ | ⟨rfl,rfl⟩ | ⟨rfl,rfl⟩ | ⟨rfl,rfl⟩
   ·exact IsiPair.tuple_int e c k1
   ·exact IsiPair.tuple_bool e c k1
   ·exact IsiPair.tuple_tuple e c k0
   ·exact IsiPair.tuple_list e c k1
  ·obtain ⟨its,_,pl,_⟩:=I.list hS
   obtain ⟨o,e,c,_⟩:=pl.isList
   rcases hi with ⟨rfl,rfl⟩ | ⟨rfl,rfl⟩ | ⟨rfl,rfl⟩ | ⟨rfl,rfl⟩
   ·exact IsiPair.list_int e c k1
   ·exact IsiPair.list_bool e c k1
   ·exact IsiPair.list_tuple e c k1
   ·exact IsiPair.list_list e c k0
 | _=>exact (show False from hi).elim
end
inductive W where
 | non | bl (b:Bool) | int (i:Int) | str (x:Str) | ty (n:String) | tup (ws:List W) | lst (ws:List W) | loc (n:Nat) | kls (ws:List W) | exc (n:Str)
 | exa (n:Str) (ws:List W)
 | fnv (f:Addr) (i:Nat)
inductive Cell where
 | lst (ws:List W) | obj (C:Addr) (fs:List (Str×W)) | dct (kvs:List (Key×W))
 | dtt (kvs:List (List Int×W))
structure Gh where
 nx:Nat
 c:Nat->Option Cell
structure Mu where
 f:Nat->Option Addr
 hid:Addr->Prop
def adA (K:BZ)(p:Addr)(xs:List V):Prop:=
 ∃ (o:Obj) (its:Array FX) (n:Nat),K.lookup p=Dn o/\o.cls=.type "list"/\o.dict=FN/\o.data=.seq its n/\its.size<=Ig/\Bm xs its.toList
def Frz (H:Hp)(μ : Mu)(p:Addr)(xs:List V):Prop:=H p=Dn (.lst xs)/\(∀ n,μ.f n≠Dn p)/\¬ μ.hid p
def Frk (K:BZ)(H:Hp)(p:Addr)(xs:List V):Prop:=(∃ o,H p=Dn (.frz o (.lst xs)))\/adA K p xs
theorem Frz.sq {K:BZ}{H:Hp}{μ : Mu}{p:Addr}{xs:List V}(h:Frz H μ p xs):Je K H p xs:=.inl (.inl h.1)
theorem Frk.sq {K:BZ}{H:Hp}{p:Addr}{xs:List V}(h:Frk K H p xs):Je K H p xs:=by
 rcases h with h | h
 ·exact .inl (.inr h)
 ·exact .inr h
def vmB:List FX:=[.type "ValueError",.type "Exception",.type "BaseException",.type "object"]
def aei (K:BZ)(C:Addr)(n:Str):Bool:=Ot K Ck n==Dn (Dn (.ref C))&&PySem.W.typeIn K (.ref C)==Dn (.type "type")&&match PySem.W.clsIn K C with
 | some cd=>cd.name==n&&cd.mro.contains (.type "BaseException")
 | none=>false
def abR (K:BZ)(C:Addr)(n:Str):Bool:=aei K C n&&(match PySem.W.clsIn K C with
 | some cd=>(match cd.mro with
  | [.ref C',.ref R,a,b,c,d]=>C'==C&&[a,b,c,d]==vmB&&Ot K Ck "EaselError"==Dn (Dn (.ref R))&&(PySem.W.clsIn K R).any (fun c=>c.name==("EaselError" : Str))
  | _=>false)
 | none=>false)&&T9 K (.ref C) "__getattribute__"==Dn (Dn (.builtin "BaseException.__getattribute__"))&&T9 K (.ref C) "__getattr__"==Dn FN&&T9 K (.ref C) "__class__"==Dn (Dn (.builtin "object.__class__"))&&PySem.W.specialIn K (.builtin "object.__class__") "__get__"==Dn (Dn (.builtin "getset_descriptor.__get__"))
 && PySem.W.takesIn K (.builtin "object.__class__")==Dn true
def acL (n:Str):List Str:=if n = "Apart" then ["word", "places"] else ["at"]
def adV (K:BZ)(C:Addr)(n:Str):Bool:=abR K C n&&PySem.W.hasDictIn K C&&(acL n).all fun f=>T9 K (.ref C) f==Dn FN
def Xoa (K:BZ)(o:Obj)(n:Str)(dd:Addr):Prop:=∃ C,o.cls=.ref C/\o.dict=Dn dd/\PySem.W.notCls o=true/\adV K C n=true
def Xob (K:BZ)(o:Obj)(n:Str):Prop:=∃ C,o.cls=.ref C/\o.dict=FN/\PySem.W.notCls o=true/\abR K C n=true
mutual
def Aq (K:BZ)(H:Hp)(μ : Mu):W->V->Prop
 | .non,v=>v=.non
 | .bl b,v=>v=.bl b
 | .int i,v=>v=.int i
 | .str x,v=>v=.str x
 | .ty n,v=>v=.ty n
 | .tup ws,v=>∃ p xs,v=.ref p/\Jg K H p xs/\aU K H μ ws xs
 | .lst ws,v=>∃ p xs,v=.ref p/\Frz H μ p xs/\aU K H μ ws xs
 | .kls ws,v=>∃ p xs,v=.ref p/\Frk K H p xs/\aU K H μ ws xs
 | .loc n,v=>∃ p,v=.ref p/\μ.f n=Dn p
 | .exc n,v=>∃ p o u,v=.ref p/\H p=Dn (.frz o u)/\Xob K o n
 | .exa n ws,v=>∃ p o u dd ns xs,v=.ref p/\H p=Dn (.frz o u)/\Xoa K o n dd/\H dd=Dn (.xd (List.zip ns xs))/\ns=acL n/\ns.length=xs.length/\aU K H μ ws xs
 | .fnv f _,v=>v=.ref f
def aU (K:BZ)(H:Hp)(μ : Mu):List W->List V->Prop
 | [],xs=>xs=[]
 | w::ws,xs=>∃ v vs,xs=v::vs/\Aq K H μ w v/\aU K H μ ws vs
end
section
variable {K:BZ}{H H' H1 H2:Hp}{μ μ' μ1 μ2:Mu}{h h':Gh}{w:W}{ws:List W}{v:V}{xs:List V}
theorem aU.len:∀ {ws:List W} {xs:List V},aU K H μ ws xs->ws.length=xs.length
 | [],xs,h=>by
  have e:xs=[]:=by rw [aU] at h;exact h
  rw [e];rfl
 | w::ws,xs,h=>by
  rw [aU] at h
  obtain ⟨v,vs,e,_,h⟩:=h
  rw [e,S6,S6,aU.len h]
theorem aU.get:∀ {ws:List W} {xs:List V} {i:Nat} {w:W},aU K H μ ws xs->ws[i]?=Dn w->∃ v,xs[i]?=Dn v/\Aq K H μ w v
 | [],_,_,_,_,e=>by simp at e
 | a::ws,xs,0,w,h,e=>by
  rw [aU] at h
  obtain ⟨v,vs,e1,r,_⟩:=h
  simp at e;subst e;subst e1
  exact ⟨v,rfl,r⟩
 | a::ws,xs,i+1,w,h,e=>by
  rw [aU] at h
  obtain ⟨v,vs,e1,_,h⟩:=h
  subst e1
  obtain ⟨u,h1,h2⟩:=aU.get (i:=i) (w:=w) h (by simpa using e)
  exact ⟨u,by simpa using h1,h2⟩
theorem aU.nil:aU K H μ [] []:=by rw [aU]
theorem aU.cons (r:Aq K H μ w v)(h:aU K H μ ws xs):aU K H μ (w::ws) (v::xs):=by
 rw [aU];exact ⟨v,xs,rfl,r,h⟩
theorem aU.append:∀ {ws:List W} {xs:List V} {us:List W} {ys:List V},aU K H μ ws xs->aU K H μ us ys->aU K H μ (ws++us) (xs++ys)
 | [],xs,us,ys,h,g=>by
  rw [aU] at h;subst h;exact g
 | w::ws,xs,us,ys,h,g=>by
  rw [aU] at h
  obtain ⟨v,vs,e,r,h⟩:=h
  subst e
  exact aU.cons r (aU.append h g)
theorem aU.one (r:Aq K H μ w v):aU K H μ [w] [v]:=aU.cons r aU.nil
theorem aU.set (r:Aq K H μ w v):∀ {ws:List W} {xs:List V} (i:Nat),aU K H μ ws xs->aU K H μ (ws.set i w) (xs.set i v)
 | [],xs,i,h=>by rw [aU] at h;subst h;exact aU.nil
 | a::ws,xs,0,h=>by
  rw [aU] at h
  obtain ⟨u,vs,e,_,h⟩:=h
  subst e
  exact aU.cons r h
 | a::ws,xs,i+1,h=>by
  rw [aU] at h
  obtain ⟨u,vs,e,q,h⟩:=h
  subst e
  exact aU.cons q (aU.set r i h)
theorem aU.take:∀ {ws:List W} {xs:List V} (n:Nat),aU K H μ ws xs->aU K H μ (ws.take n) (xs.take n)
 | _,_,0,_=>by simp only [List.take_zero];exact aU.nil
 | [],xs,n+1,h=>by rw [aU] at h;subst h;exact aU.nil
 | a::ws,xs,n+1,h=>by
  rw [aU] at h
  obtain ⟨u,vs,e,q,h⟩:=h
  subst e
  exact aU.cons q (aU.take n h)
theorem aU.drop:∀ {ws:List W} {xs:List V} (n:Nat),aU K H μ ws xs->aU K H μ (ws.drop n) (xs.drop n)
 | _,_,0,h=>h
 | [],xs,n+1,h=>by rw [aU] at h;subst h;exact aU.nil
 | a::ws,xs,n+1,h=>by
  rw [aU] at h
  obtain ⟨u,vs,e,q,h⟩:=h
  subst e
  exact aU.drop n h
structure Ex0 (K:BZ) (H:Hp) (μ : Mu) (H':Hp) (μ':Mu):Prop where
 t:∀ p xs,Jg K H p xs->Jg K H' p xs
 l:∀ p xs,Frz H μ p xs->Frz H' μ' p xs
 k:∀ p xs,Frk K H p xs->Frk K H' p xs
 m:∀ n p,μ.f n=Dn p->μ'.f n=Dn p
 x:∀ p o u,H p=Dn (.frz o u)->H' p=Dn (.frz o u)
 y:∀ p fs,H p=Dn (.xd fs)->H' p=Dn (.xd fs)
structure Ex (K:BZ) (H:Hp) (μ : Mu) (H':Hp) (μ':Mu):Prop extends Ex0 K H μ H' μ' where
 o:∀ p u,μ.hid p->H p=Dn u->μ'.hid p/\H' p=Dn u
mutual
theorem Aq.ex (e:Ex0 K H μ H' μ'):∀ {w:W} {v:V},Aq K H μ w v->Aq K H' μ' w v
 | .non,_,h=>by rw [Aq] at h |-;exact h
 | .bl _,_,h=>by rw [Aq] at h |-;exact h
 | .int _,_,h=>by rw [Aq] at h |-;exact h
 | .str _,_,h=>by rw [Aq] at h |-;exact h
 | .ty _,_,h=>by rw [Aq] at h |-;exact h
 | .tup ws,_,h=>by
  rw [Aq] at h |-
  obtain ⟨p,xs,e1,hs,hr⟩:=h
  exact ⟨p,xs,e1,e.t _ _ hs,aU.ex e hr⟩
 | .lst ws,_,h=>by
  rw [Aq] at h |-
  obtain ⟨p,xs,e1,hs,hr⟩:=h
  exact ⟨p,xs,e1,e.l _ _ hs,aU.ex e hr⟩
 | .kls ws,_,h=>by
  rw [Aq] at h |-
  obtain ⟨p,xs,e1,hs,hr⟩:=h
  exact ⟨p,xs,e1,e.k _ _ hs,aU.ex e hr⟩
 | .loc n,_,h=>by
  rw [Aq] at h |-
  obtain ⟨p,e1,hm⟩:=h
  exact ⟨p,e1,e.m _ _ hm⟩
 | .exc n,_,h=>by
  rw [Aq] at h |-
  obtain ⟨p,o,u,e1,hm,hx⟩:=h
  exact ⟨p,o,u,e1,e.x _ _ _ hm,hx⟩
 | .exa n ws,_,h=>by
  rw [Aq] at h |-
  obtain ⟨p,o,u,dd,ns,xs,e1,hm,hx,hd,e2,e3,hr⟩:=h
  exact ⟨p,o,u,dd,ns,xs,e1,e.x _ _ _ hm,hx,e.y _ _ hd,e2,e3,aU.ex e hr⟩
 | .fnv _ _,_,h=>by rw [Aq] at h |-;exact h
theorem aU.ex (e:Ex0 K H μ H' μ'):∀ {ws:List W} {xs:List V},aU K H μ ws xs->aU K H' μ' ws xs
 | [],_,h=>by rw [aU] at h |-;exact h
 | w::ws,_,h=>by
  rw [aU] at h |-
  obtain ⟨v,vs,e1,r,h⟩:=h
  exact ⟨v,vs,e1,Aq.ex e r,aU.ex e h⟩
end
structure Jb (K:BZ) (H:Hp) (μ : Mu) (H':Hp) (μ':Mu):Prop where
 r:∀ w v,Aq K H μ w v->Aq K H' μ' w v
 o:∀ p u,μ.hid p->H p=Dn u->μ'.hid p/\H' p=Dn u
theorem Jb.refl:Jb K H μ H μ:=⟨fun _ _ h=>h,fun _ _ h g=>⟨h,g⟩⟩
theorem Jb.trans (a:Jb K H μ H1 μ1)(b:Jb K H1 μ1 H2 μ2):Jb K H μ H2 μ2:=
 ⟨fun w v h=>b.r w v (a.r w v h),fun p u h g=>let ⟨h1,g1⟩:=a.o p u h g;b.o p u h1 g1⟩
theorem Ex.ext (e:Ex K H μ H' μ'):Jb K H μ H' μ':=⟨fun _ _ h=>Aq.ex e.toEx0 h,e.o⟩
theorem Jb.s (e:Jb K H μ H' μ'):∀ {ws:List W} {xs:List V},aU K H μ ws xs->aU K H' μ' ws xs
 | [],_,h=>by rw [aU] at h |-;exact h
 | w::ws,_,h=>by
  rw [aU] at h |-
  obtain ⟨v,vs,e1,r,h⟩:=h
  exact ⟨v,vs,e1,e.r _ _ r,Jb.s e h⟩
def aaY:Option HO->Prop
 | some (.lst _)=>True
 | some (.dK _)=>True
 | some (.ins _ _ _)=>True
 | some (.ext _)=>True
 | _=>False
def Xi {κ : Type}(K:BZ)(H:Hp)(μ : Mu):List (κ×W)->List (κ×V)->Prop:=Tw fun (p:κ×W) (q:κ×V)=>p.1=q.1/\Aq K H μ p.2 q.2
def adI (x:List Int×Addr×FX):DictEntry:=⟨reduceHash (Builtin.Tuple.tupleHashOf (x.1.map hashInt)),.ref x.2.1,x.2.2⟩
def adP (a:Addr)(xs:List (List Int×Addr×FX))(h:Heap):Prop:=xs.length<=Ig/\(a==sysModules)=false/\(xs.map (·.1)).Nodup/\∃ o es ep,h.get? a=Dn o/\o.ExactDict/\o.data=.dict es ep/\es.toList=xs.map adI
def yq (K:BZ)(H:Hp)(μ : Mu)(p:Addr):Cell->Prop
 | .lst ws=>∃ xs,H p=Dn (.lst xs)/\aU K H μ ws xs
 | .obj C fs=>∃ dx fvs,H p=Dn (.ins C dx fvs)/\Xi K H μ fs fvs
 | .dct kvs=>∃ kvv,H p=Dn (.dK kvv)/\Xi K H μ kvs kvv
 | .dtt kvs=>∃ xs vs,H p=Dn (.ext (adP p xs))/\kvs.map (·.1)=xs.map (·.1)/\Bm vs (xs.map (·.2.2))/\aU K H μ (kvs.map fun x=>W.tup (x.1.map W.int)) (xs.map fun x=>V.ref x.2.1)/\aU K H μ (kvs.map (·.2)) vs
structure Em (K:BZ) (μ : Mu) (H:Hp) (h:Gh):Prop where
 inj:∀ m n p,μ.f m=Dn p->μ.f n=Dn p->m=n
 dom:∀ n p,μ.f n=Dn p->n<h.nx
 trk:∀ n p,μ.f n=Dn p->aaY (H p)
 cel:∀ n c,h.c n=Dn c->∃ p,μ.f n=Dn p/\yq K H μ p c
 hd:∀ p,μ.hid p->(∃ xs,H p=Dn (.lst xs))/\∀ n,μ.f n≠Dn p
theorem yq.ext {p:Addr}{c:Cell}(e:Jb K H μ H' μ')(hp:H' p=H p)(x:yq K H μ p c):yq K H' μ' p c:=by
 cases c with
 | lst ws=>obtain ⟨xs,a,b⟩:=x;exact ⟨xs,hp.trans a,e.s b⟩
 | obj C fs=>obtain ⟨dx,fvs,a,b⟩:=x;exact ⟨dx,fvs,hp.trans a,Paired.mapP b fun _ _ z=>⟨z.1,e.r _ _ z.2⟩⟩
 | dct kvs=>obtain ⟨kvv,a,b⟩:=x;exact ⟨kvv,hp.trans a,Paired.mapP b fun _ _ z=>⟨z.1,e.r _ _ z.2⟩⟩
 | dtt kvs=>obtain ⟨xs,vs,a,b,c,d,f⟩:=x;exact ⟨xs,vs,hp.trans a,b,c,e.s d,e.s f⟩
theorem Rd.laid {p q:Addr}{o u:HO}(hp:H p=FN)(r:Rd H q u):Rd (IW H p o) q u:=by
 have ne:q≠p:=by
  rcases r with r | ⟨_,r⟩
  ·exact bf r hp
  ·exact bf r hp
 unfold Rd
 rw [aV ne]
 exact r
theorem Ex.laid {p:Addr}{o:HO}(hp:H p=FN):Ex K H μ (IW H p o) μ where
 t:=fun q xs h=>by
  rcases h with h | h
  ·exact .inl (h.laid hp)
  ·exact .inr h
 l:=fun q xs h=>⟨by rw [aV (bf h.1 hp)];exact h.1,h.2⟩
 k:=fun q xs h=>by
  rcases h with ⟨o',h⟩ | h
  ·exact .inl ⟨o',by rw [aV (bf h hp)];exact h⟩
  ·exact .inr h
 m:=fun _ _ h=>h
 x:=fun q o' u e=>by rw [aV (bf e hp)];exact e
 y:=fun q fs e=>by rw [aV (bf e hp)];exact e
 o:=fun q u z e=>⟨z,by rw [aV (bf e hp)];exact e⟩
theorem Em.laid {p:Addr}{o:HO}(R:Em K μ H h)(hp:H p=FN):Em K μ (IW H p o) h where
 inj:=R.inj
 dom:=R.dom
 trk:=fun n q e=>by
  have:=R.trk n q e
  have ne:q≠p:=fun z=>by subst z;rw [hp] at this;exact this
  rw [aV ne];exact this
 cel:=fun n c e=>by
  obtain ⟨q,e1,x⟩:=R.cel n c e
  have:=R.trk n q e1
  have ne:q≠p:=fun z=>by subst z;rw [hp] at this;exact this
  exact ⟨q,e1,x.ext (Ex.laid hp).ext (aV ne)⟩
 hd:=fun q z=>by
  obtain ⟨⟨xs,e⟩,g⟩:=R.hd q z
  exact ⟨⟨xs,by rw [aV (bf e hp)];exact e⟩,g⟩
theorem Aq.tupNew {p:Addr}(hp:H p=FN)(r:aU K H μ ws xs):Aq K (IW H p (.tup xs)) μ (.tup ws) (.ref p):=by
 rw [Aq]
 exact ⟨p,xs,rfl,Jg.of cR,(Ex.laid hp).ext.s r⟩
theorem Aq.lstNew {p:Addr}(R:Em K μ H h)(hp:H p=FN)(r:aU K H μ ws xs):Aq K (IW H p (.lst xs)) μ (.lst ws) (.ref p):=by
 rw [Aq]
 refine ⟨p,xs,rfl,⟨cR,fun n e=>?_,fun z=>?_⟩,(Ex.laid hp).ext.s r⟩
 ·have:=R.trk n p e
  rw [hp] at this
  exact this
 ·obtain ⟨⟨xs,e⟩,_⟩:=R.hd p z
  rw [hp] at e
  cases e
def Mu.put (μ : Mu)(n:Nat)(p:Addr):Mu:=⟨fun m=>if m=n then Dn p else μ.f m,μ.hid⟩
theorem Mu.put_same {n:Nat}{p:Addr}:(μ.put n p).f n=Dn p:=by show (if n=n then Dn p else μ.f n)=_;rw [if_pos rfl]
theorem Mu.put_ne {m n:Nat}{p:Addr}(e:m≠n):(μ.put n p).f m = μ.f m:=by show (if m=n then Dn p else μ.f m)=_;rw [if_neg e]
def Gh.new (h:Gh)(c:Cell):Gh:=⟨h.nx+1,fun m=>if m=h.nx then Dn c else h.c m⟩
def Gh.set (h:Gh)(n:Nat)(c:Cell):Gh:=⟨h.nx,fun m=>if m=n then Dn c else h.c m⟩
theorem Em.dead (R:Em K μ H h){n:Nat}(hn:h.nx<=n):μ.f n=FN:=by
 cases e:μ.f n with
 | none=>rfl
 | some p=>exact absurd (R.dom n p e) (by lia)
theorem Ex.newCell {p:Addr}{o:HO}(R:Em K μ H h)(hp:H p=FN):Ex K H μ (IW H p o) (μ.put h.nx p) where
 t:=fun q xs z=>(Ex.laid (μ:=μ) hp).t q xs z
 l:=fun q xs z=>by
  have nq:=bf z.1 hp
  refine ⟨by rw [aV nq];exact z.1,fun n e=>?_,z.2.2⟩
  by_cases hn:n=h.nx
  ·subst hn
   rw [Mu.put_same] at e
   exact nq (Ja e).symm
  ·rw [Mu.put_ne hn] at e
   exact z.2.1 n e
 k:=fun q xs z=>(Ex.laid (μ:=μ) hp).k q xs z
 m:=fun n q e=>by
  have hn:n≠h.nx:=fun z=>by subst z;rw [R.dead (Ij _)] at e;cases e
  rw [Mu.put_ne hn];exact e
 x:=fun q o' u e=>by rw [aV (bf e hp)];exact e
 y:=fun q fs e=>by rw [aV (bf e hp)];exact e
 o:=fun q u z e=>⟨z,by rw [aV (bf e hp)];exact e⟩
theorem Em.newCell {p:Addr}{o:HO}{c:Cell}(R:Em K μ H h)(hp:H p=FN)(mo:aaY (Dn o))(ck:yq K (IW H p o) (μ.put h.nx p) p c):Em K (μ.put h.nx p) (IW H p o) (h.new c) where
 inj:=fun m n q em en=>by
  by_cases hm:m=h.nx
  ·by_cases hn:n=h.nx
   ·rw [hm,hn]
   ·rw [hm,Mu.put_same] at em
    rw [Mu.put_ne hn] at en
    have e:p=q:=Ja em
    subst e
    have:=R.trk n _ en
    rw [hp] at this
    exact this.elim
  ·rw [Mu.put_ne hm] at em
   by_cases hn:n=h.nx
   ·rw [hn,Mu.put_same] at en
    have e:p=q:=Ja en
    subst e
    have:=R.trk m _ em
    rw [hp] at this
    exact this.elim
   ·rw [Mu.put_ne hn] at en
    exact R.inj m n q em en
 dom:=fun n q e=>by
  show n<h.nx+1
  by_cases hn:n=h.nx
  ·lia
  ·rw [Mu.put_ne hn] at e
   have:=R.dom n q e
   lia
 trk:=fun n q e=>by
  by_cases hn:n=h.nx
  ·rw [hn,Mu.put_same] at e
   have e:p=q:=Ja e
   subst e
   rw [cR];exact mo
  ·rw [Mu.put_ne hn] at e
   have:=R.trk n q e
   have ne:q≠p:=fun z=>by subst z;rw [hp] at this;exact this
   rw [aV ne];exact this
 cel:=fun n d e=>by
  have e:(if n=h.nx then Dn c else h.c n)=Dn d:=e
  by_cases hn:n=h.nx
  ·rw [if_pos hn] at e
   have e:c=d:=Ja e
   subst e
   exact ⟨p,by rw [hn,Mu.put_same],ck⟩
  ·rw [if_neg hn] at e
   obtain ⟨q,e1,x⟩:=R.cel n d e
   have:=R.trk n q e1
   have ne:q≠p:=fun z=>by subst z;rw [hp] at this;exact this
   exact ⟨q,by rw [Mu.put_ne hn];exact e1,x.ext (Ex.newCell R hp).ext (aV ne)⟩
 hd:=fun q z=>by
  obtain ⟨⟨xs,e⟩,g⟩:=R.hd q z
  have ne:=bf e hp
  refine ⟨⟨xs,by rw [aV ne];exact e⟩,fun n en=>?_⟩
  by_cases hn:n=h.nx
  ·rw [hn,Mu.put_same] at en
   exact ne (Ja en).symm
  ·rw [Mu.put_ne hn] at en
   exact g n en
theorem Rd.kept {p q:Addr}{o u:HO}(mo:aaY (H p))(r:Rd H q u)(hn:q≠p):Rd (IW H p o) q u:=by
 unfold Rd
 rw [aV hn]
 exact r
theorem Ex.write {n:Nat}{p:Addr}{o:HO}(R:Em K μ H h)(hn:μ.f n=Dn p):Ex K H μ (IW H p o) μ where
 t:=fun q xs z=>by
  rcases z with z | z
  ·refine .inl (z.kept (R.trk n p hn) fun e=>?_)
   subst e
   have:=R.trk n q hn
   rcases z with r | ⟨_,r⟩ <;> rw [r] at this <;> exact this
  ·exact .inr z
 l:=fun q xs z=>⟨by rw [aV (fun e=>z.2.1 n (by rw [e];exact hn))];exact z.1,z.2⟩
 k:=fun q xs z=>by
  rcases z with ⟨o',z⟩ | z
  ·refine .inl ⟨o',?_⟩
   rw [aV (fun e=>?_)]
   ·exact z
   ·subst e
    have:=R.trk n q hn
    rw [z] at this
    exact this
  ·exact .inr z
 m:=fun _ _ e=>e
 x:=fun q o' u e=>by
  rw [aV (fun y=>?_)]
  ·exact e
  ·subst y
   have:=R.trk n q hn
   rw [e] at this
   exact this
 y:=fun q fs e=>by
  rw [aV (fun y=>?_)]
  ·exact e
  ·subst y
   have:=R.trk n q hn
   rw [e] at this
   exact this
 o:=fun q u z e=>⟨z,by rw [aV (fun y=>(R.hd q z).2 n (by rw [y];exact hn))];exact e⟩
theorem Em.write {n:Nat}{p:Addr}{o:HO}{c:Cell}(R:Em K μ H h)(hn:μ.f n=Dn p)(mo:aaY (Dn o))(ck:yq K (IW H p o) μ p c):Em K μ (IW H p o) (h.set n c) where
 inj:=R.inj
 dom:=R.dom
 trk:=fun m q e=>by
  by_cases z:q=p
  ·subst z;rw [cR];exact mo
  ·rw [aV z];exact R.trk m q e
 cel:=fun m d e=>by
  have e:(if m=n then Dn c else h.c m)=Dn d:=e
  by_cases hm:m=n
  ·rw [if_pos hm] at e
   have e:c=d:=Ja e
   subst e
   exact ⟨p,by rw [hm];exact hn,ck⟩
  ·rw [if_neg hm] at e
   obtain ⟨q,e1,x⟩:=R.cel m d e
   have ne:q≠p:=fun z=>by subst z;exact hm (R.inj m n q e1 hn)
   exact ⟨q,e1,x.ext (Ex.write R hn).ext (aV ne)⟩
 hd:=fun q z=>by
  obtain ⟨⟨xs,e⟩,g⟩:=R.hd q z
  exact ⟨⟨xs,by rw [aV (fun y=>g n (by rw [y];exact hn))];exact e⟩,g⟩
mutual
def Lo (k:Nat):W->Prop
 | .tup ws=>Kr k ws
 | .lst ws=>Kr k ws
 | .kls ws=>Kr k ws
 | .exa _ ws=>Kr k ws
 | .loc n=>n<k
 | _=>True
def Kr (k:Nat):List W->Prop
 | []=>True
 | w::ws=>Lo k w/\Kr k ws
end
mutual
theorem Aq.lo {k:Nat}(hd:∀ n p,μ.f n=Dn p->n<k):∀ {w:W} {v:V},Aq K H μ w v->Lo k w
 | .non,_,_=>by rw [Lo] <;> first | trivial | (intros;contradiction)
 | .bl _,_,_=>by rw [Lo] <;> first | trivial | (intros;contradiction)
 | .int _,_,_=>by rw [Lo] <;> first | trivial | (intros;contradiction)
 | .str _,_,_=>by rw [Lo] <;> first | trivial | (intros;contradiction)
 | .ty _,_,_=>by rw [Lo] <;> first | trivial | (intros;contradiction)
 | .exc _,_,_=>by rw [Lo] <;> first | trivial | (intros;contradiction)
 | .fnv _ _,_,_=>by rw [Lo] <;> first | trivial | (intros;contradiction)
 | .exa _ ws,_,h=>by
  rw [Aq] at h
  obtain ⟨_,_,_,_,_,_,_,_,_,_,_,_,hr⟩:=h
  rw [Lo]
  exact aU.lo hd hr
 | .tup ws,_,h=>by
  rw [Aq] at h
  obtain ⟨p,xs,_,_,hr⟩:=h
  rw [Lo]
  exact aU.lo hd hr
 | .lst ws,_,h=>by
  rw [Aq] at h
  obtain ⟨p,xs,_,_,hr⟩:=h
  rw [Lo]
  exact aU.lo hd hr
 | .kls ws,_,h=>by
  rw [Aq] at h
  obtain ⟨p,xs,_,_,hr⟩:=h
  rw [Lo]
  exact aU.lo hd hr
 | .loc n,_,h=>by
  rw [Aq] at h
  obtain ⟨p,_,hm⟩:=h
  rw [Lo]
  exact hd n p hm
theorem aU.lo {k:Nat}(hd:∀ n p,μ.f n=Dn p->n<k):∀ {ws:List W} {xs:List V},aU K H μ ws xs->Kr k ws
 | [],_,_=>by rw [Kr];trivial
 | w::ws,_,h=>by
  rw [aU] at h
  obtain ⟨v,vs,_,r,h⟩:=h
  rw [Kr]
  exact ⟨Aq.lo hd r,aU.lo hd h⟩
end
def Mu.cut (μ : Mu)(k:Nat):Mu:=⟨fun n=>if n<k then μ.f n else FN,μ.hid⟩
theorem Mu.cut_some {k n:Nat}{p:Addr}(e:(μ.cut k).f n=Dn p):n<k/\μ.f n=Dn p:=by
 have e:(if n<k then μ.f n else FN)=Dn p:=e
 by_cases hn:n<k
 ·rw [if_pos hn] at e;exact ⟨hn,e⟩
 ·rw [if_neg hn] at e;cases e
mutual
theorem Aq.cut {k:Nat}:∀ {w:W} {v:V},Aq K H μ w v->Lo k w->Aq K H (μ.cut k) w v
 | .non,_,h,_=>by rw [Aq] at h |-;exact h
 | .bl _,_,h,_=>by rw [Aq] at h |-;exact h
 | .int _,_,h,_=>by rw [Aq] at h |-;exact h
 | .str _,_,h,_=>by rw [Aq] at h |-;exact h
 | .ty _,_,h,_=>by rw [Aq] at h |-;exact h
 | .exc _,_,h,_=>by rw [Aq] at h |-;exact h
 | .fnv _ _,_,h,_=>by rw [Aq] at h |-;exact h
 | .exa _ ws,_,h,l=>by
  rw [Aq] at h |-
  rw [Lo] at l
  obtain ⟨p,o,u,dd,ns,xs,e1,hm,hx,hd,e2,e3,hr⟩:=h
  exact ⟨p,o,u,dd,ns,xs,e1,hm,hx,hd,e2,e3,aU.cut hr l⟩
 | .tup ws,_,h,l=>by
  rw [Aq] at h |-
  rw [Lo] at l
  obtain ⟨p,xs,e1,hs,hr⟩:=h
  exact ⟨p,xs,e1,hs,aU.cut hr l⟩
 | .lst ws,_,h,l=>by
  rw [Aq] at h |-
  rw [Lo] at l
  obtain ⟨p,xs,e1,hs,hr⟩:=h
  exact ⟨p,xs,e1,⟨hs.1,fun n e=>hs.2.1 n (Mu.cut_some e).2,hs.2.2⟩,aU.cut hr l⟩
 | .kls ws,_,h,l=>by
  rw [Aq] at h |-
  rw [Lo] at l
  obtain ⟨p,xs,e1,hs,hr⟩:=h
  exact ⟨p,xs,e1,hs,aU.cut hr l⟩
 | .loc n,_,h,l=>by
  rw [Aq] at h |-
  rw [Lo] at l
  obtain ⟨p,e1,hm⟩:=h
  refine ⟨p,e1,?_⟩
  show (if n<k then μ.f n else FN)=Dn p
  rw [if_pos l]
  exact hm
theorem aU.cut {k:Nat}:∀ {ws:List W} {xs:List V},aU K H μ ws xs->Kr k ws->aU K H (μ.cut k) ws xs
 | [],_,h,_=>by rw [aU] at h |-;exact h
 | w::ws,_,h,l=>by
  rw [aU] at h |-
  rw [Kr] at l
  obtain ⟨v,vs,e1,r,h⟩:=h
  exact ⟨v,vs,e1,Aq.cut r l.1,aU.cut h l.2⟩
end
end
section
variable {K:BZ}{H H' H1 H2:Hp}{μ μ' μ1 μ2:Mu}{h h':Gh}{w:W}{ws:List W}{v:V}{xs ys:List V}{p:Addr}
def Mu.hide (μ : Mu)(p:Addr):Mu:=⟨μ.f,fun q=>q=p\/μ.hid q⟩
def Mu.unhide (μ : Mu)(p:Addr):Mu:=⟨μ.f,fun q=>q≠p/\μ.hid q⟩
structure WM (p:Addr) (K:BZ) (H:Hp) (μ : Mu) (H':Hp) (μ':Mu):Prop where
 r:∀ w v,Aq K H μ w v->Aq K H' μ' w v
 o:∀ q u,q≠p->μ.hid q->H q=Dn u->μ'.hid q/\H' q=Dn u
theorem Jb.x (a:Jb K H μ H1 μ1)(hp:¬ μ.hid p)(b:WM p K H1 μ1 H2 μ2):Jb K H μ H2 μ2:=
 ⟨fun w v z=>b.r w v (a.r w v z),fun q u z e=>let ⟨z1,e1⟩:=a.o q u z e;b.o q u (fun y=>hp (by rw [<-y];exact z)) z1 e1⟩
theorem Jb.hide {o:HO}(hp:H p=FN):Jb K H μ (IW H p o) (μ.hide p):=Ex.ext {
 t:=fun q xs z=>(Ex.laid (μ:=μ) hp).t q xs z
 l:=fun q xs z=>by
  have nq:=bf z.1 hp
  refine ⟨by rw [aV nq];exact z.1,z.2.1,fun y=>?_⟩
  rcases y with y | y
  ·exact nq y
  ·exact z.2.2 y
 k:=fun q xs z=>(Ex.laid (μ:=μ) hp).k q xs z
 m:=fun _ _ e=>e
 x:=fun q o' u e=>by rw [aV (bf e hp)];exact e
 y:=fun q fs e=>by rw [aV (bf e hp)];exact e
 o:=fun q u z e=>⟨.inr z,by rw [aV (bf e hp)];exact e⟩ }
theorem Em.nohid (R:Em K μ H h)(hp:H p=FN):¬ μ.hid p:=fun z=>by
 obtain ⟨⟨xs,e⟩,_⟩:=R.hd p z
 rw [hp] at e;cases e
theorem Em.hide (R:Em K μ H h)(hp:H p=FN):Em K (μ.hide p) (IW H p (.lst xs)) h where
 inj:=R.inj
 dom:=R.dom
 trk:=(R.laid hp).trk
 cel:=fun n c e=>by
  obtain ⟨q,e1,x⟩:=R.cel n c e
  have:=R.trk n q e1
  have ne:q≠p:=fun z=>by subst z;rw [hp] at this;exact this
  exact ⟨q,e1,x.ext (Jb.hide hp) (aV ne)⟩
 hd:=fun q z=>by
  rcases z with z | z
  ·subst z
   refine ⟨⟨xs,cR⟩,fun n e=>?_⟩
   have:=R.trk n q e
   rw [hp] at this
   exact this
  ·exact (R.laid (o:=.lst xs) hp).hd q z
theorem Ex0.grow (R:Em K μ H h)(hp:μ.hid p):Ex0 K H μ (IW H p (.lst ys)) μ where
 t:=fun q xs z=>by
  rcases z with z | z
  ·refine .inl ?_
   unfold Rd
   rw [aV (fun y=>?_)]
   ·exact z
   ·subst y
    obtain ⟨⟨xs',e⟩,_⟩:=R.hd q hp
    rcases z with r | ⟨_,r⟩ <;> rw [e] at r <;> cases r
  ·exact .inr z
 l:=fun q xs z=>⟨by rw [aV (fun y=>z.2.2 (by rw [y];exact hp))];exact z.1,z.2⟩
 k:=fun q xs z=>by
  rcases z with ⟨o',z⟩ | z
  ·refine .inl ⟨o',?_⟩
   rw [aV (fun y=>?_)]
   ·exact z
   ·subst y
    obtain ⟨⟨xs',e⟩,_⟩:=R.hd q hp
    rw [e] at z
    cases z
  ·exact .inr z
 m:=fun _ _ e=>e
 x:=fun q o' u e=>by
  rw [aV (fun y=>?_)]
  ·exact e
  ·subst y
   obtain ⟨⟨xs',e'⟩,_⟩:=R.hd q hp
   rw [e'] at e
   cases e
 y:=fun q fs e=>by
  rw [aV (fun y=>?_)]
  ·exact e
  ·subst y
   obtain ⟨⟨xs',e'⟩,_⟩:=R.hd q hp
   rw [e'] at e
   cases e
theorem WM.grow (R:Em K μ H h)(hp:μ.hid p):WM p K H μ (IW H p (.lst ys)) μ:=
 ⟨fun _ _ z=>Aq.ex (Ex0.grow R hp) z,fun q u ne z e=>⟨z,by rw [aV ne];exact e⟩⟩
theorem Em.grow (R:Em K μ H h)(hp:μ.hid p):Em K μ (IW H p (.lst ys)) h where
 inj:=R.inj
 dom:=R.dom
 trk:=fun n q e=>by
  have ne:q≠p:=fun z=>(R.hd p hp).2 n (by rw [<-z];exact e)
  rw [aV ne];exact R.trk n q e
 cel:=fun n c e=>by
  obtain ⟨q,e1,x⟩:=R.cel n c e
  have ne:q≠p:=fun z=>(R.hd p hp).2 n (by rw [<-z];exact e1)
  refine ⟨q,e1,?_⟩
  cases c with
  | lst ws=>obtain ⟨xs,a,b⟩:=x;exact ⟨xs,(aV ne).trans a,aU.ex (Ex0.grow R hp) b⟩
  | obj C fs=>obtain ⟨dx,fvs,a,b⟩:=x;exact ⟨dx,fvs,(aV ne).trans a,Paired.mapP b fun _ _ z=>⟨z.1,Aq.ex (Ex0.grow R hp) z.2⟩⟩
  | dct kvs=>obtain ⟨kvv,a,b⟩:=x;exact ⟨kvv,(aV ne).trans a,Paired.mapP b fun _ _ z=>⟨z.1,Aq.ex (Ex0.grow R hp) z.2⟩⟩
  | dtt kvs=>obtain ⟨xs,vs,a,b,c,d,f⟩:=x;exact ⟨xs,vs,(aV ne).trans a,b,c,aU.ex (Ex0.grow R hp) d,aU.ex (Ex0.grow R hp) f⟩
 hd:=fun q z=>by
  by_cases e:q=p
  ·subst e;exact ⟨⟨ys,cR⟩,(R.hd q hp).2⟩
  ·rw [aV e];exact R.hd q z
theorem Ex0.unhide:Ex0 K H μ H (μ.unhide p) where
 t:=fun _ _ z=>z
 l:=fun q xs z=>⟨z.1,z.2.1,fun y=>z.2.2 y.2⟩
 k:=fun _ _ z=>z
 m:=fun _ _ e=>e
 x:=fun _ _ _ e=>e
 y:=fun _ _ e=>e
theorem WM.unhide:WM p K H μ H (μ.unhide p):=⟨fun _ _ z=>Aq.ex Ex0.unhide z,fun q u ne z e=>⟨⟨ne,z⟩,e⟩⟩
theorem Em.unhide (R:Em K μ H h):Em K (μ.unhide p) H h where
 inj:=R.inj
 dom:=R.dom
 trk:=R.trk
 cel:=fun n c e=>by
  obtain ⟨q,e1,x⟩:=R.cel n c e
  refine ⟨q,e1,?_⟩
  cases c with
  | lst ws=>obtain ⟨xs,a,b⟩:=x;exact ⟨xs,a,aU.ex Ex0.unhide b⟩
  | obj C fs=>obtain ⟨dx,fvs,a,b⟩:=x;exact ⟨dx,fvs,a,Paired.mapP b fun _ _ z=>⟨z.1,Aq.ex Ex0.unhide z.2⟩⟩
  | dct kvs=>obtain ⟨kvv,a,b⟩:=x;exact ⟨kvv,a,Paired.mapP b fun _ _ z=>⟨z.1,Aq.ex Ex0.unhide z.2⟩⟩
  | dtt kvs=>obtain ⟨xs,vs,a,b,c,d,f⟩:=x;exact ⟨xs,vs,a,b,c,aU.ex Ex0.unhide d,aU.ex Ex0.unhide f⟩
 hd:=fun q z=>R.hd q z.2
theorem Aq.built (R:Em K μ H h)(hp:μ.hid p)(e:H p=Dn (.lst xs))(r:aU K H μ ws xs):Aq K H (μ.unhide p) (.lst ws) (.ref p):=by
 rw [Aq]
 exact ⟨p,xs,rfl,⟨e,(R.hd p hp).2,fun z=>z.1 rfl⟩,aU.ex Ex0.unhide r⟩
end
abbrev Sw:=List (Option W)
abbrev WK:=W->Gh->Prop
abbrev ME:=Sw->Gh->WK->Prop
abbrev MT:=Sw->Gh->(Bool->Gh->Prop)->Prop
abbrev MA:=Sw->Gh->(List W->Gh->Prop)->Prop
structure cj where
 nx:Sw->Gh->Prop
 rt:WK
 bk:Sw->Gh->Prop:=fun _ _=>False
 ct:Sw->Gh->Prop:=fun _ _=>False
abbrev MS:=cj->Sw->Gh->Prop
abbrev MG:=W->Sw->Gh->(Sw->Gh->Prop)->Prop
abbrev PJ:=List W->Sw->Gh->(Sw->Gh->Prop)->Prop
structure Xw where
 cls:Str
 fs:List (Str×W)
abbrev Bq:=Xw->Gh->Prop
abbrev Mk:=List W->Gh->WK->Bq->Prop
def EF:Bq:=fun _ _=>False
structure Slots (K:BZ) (H:Hp) (μ : Mu) (σw:Sw) (σ : St):Prop where
 len:σw.length = σ.length
 get:∀ (i:Nat) (w:W),σw[i]?=Dn (Dn w)->∃ v,σ[i]?=Dn (Dn v)/\Aq K H μ w v
inductive DQ (K:BZ) (H:Hp) (μ : Mu) (Q:WK) (v:V) (H':Hp):Prop where
 | mk (μ':Mu) (w:W) (h':Gh) (e:Jb K H μ H' μ') (R:Em K μ' H' h') (r:Aq K H' μ' w v) (q:Q w h'):DQ K H μ Q v H'
inductive DB (K:BZ) (H:Hp) (μ : Mu) (Q:Bool->Gh->Prop) (b:Bool) (H':Hp):Prop where
 | mk (μ':Mu) (h':Gh) (e:Jb K H μ H' μ') (R:Em K μ' H' h') (q:Q b h'):DB K H μ Q b H'
inductive DA (K:BZ) (H:Hp) (μ : Mu) (Q:List W->Gh->Prop) (vs:List V) (H':Hp):Prop where
 | mk (μ':Mu) (ws:List W) (h':Gh) (e:Jb K H μ H' μ') (R:Em K μ' H' h') (r:aU K H' μ' ws vs) (q:Q ws h'):DA K H μ Q vs H'
inductive DN (K:BZ) (H:Hp) (μ : Mu) (N:Sw->Gh->Prop) (σ':St) (H':Hp):Prop where
 | mk (μ':Mu) (σw':Sw) (h':Gh) (e:Jb K H μ H' μ') (R:Em K μ' H' h') (S:Slots K H' μ' σw' σ') (q:N σw' h'):DN K H μ N σ' H'
section
variable {K:BZ}{H H' H1 H2:Hp}{μ μ' μ1 μ2:Mu}{h h' h1:Gh}{w:W}{v:V}{σ : St}{σw:Sw}
theorem Slots.ext (S:Slots K H μ σw σ)(e:Jb K H μ H' μ'):Slots K H' μ' σw σ:=⟨S.len,fun i w q=>let ⟨v,a,b⟩:=S.get i w q;⟨v,a,e.r _ _ b⟩⟩
theorem Slots.set (S:Slots K H μ σw σ)(r:Aq K H μ w v)(i:Nat):Slots K H μ (σw.set i (Dn w)) (σ.set i (Dn v)):=by
 refine ⟨by rw [List.length_set,List.length_set,S.len],fun j u q=>?_⟩
 rw [List.getElem?_set] at q |-
 by_cases hij:i=j
 ·rw [if_pos hij] at q |-
  by_cases hl:i < σw.length
  ·rw [if_pos hl] at q
   rw [if_pos (by rw [<-S.len];exact hl)]
   have e:w=u:=by injection q with q;injection q
   subst e
   exact ⟨v,rfl,r⟩
  ·rw [if_neg hl] at q;cases q
 ·rw [if_neg hij] at q |-
  exact S.get j u q
theorem DQ.trans {Q:WK}(e:Jb K H μ H1 μ1)(q:DQ K H1 μ1 Q v H'):DQ K H μ Q v H':=let ⟨μ',w,h',a,b,c,d⟩:=q;⟨μ',w,h',e.trans a,b,c,d⟩
theorem DB.trans {Q:Bool->Gh->Prop}{b:Bool}(e:Jb K H μ H1 μ1)(q:DB K H1 μ1 Q b H'):DB K H μ Q b H':=let ⟨μ',h',a,b,c⟩:=q;⟨μ',h',e.trans a,b,c⟩
theorem DN.trans {N:Sw->Gh->Prop}{σ':St}(e:Jb K H μ H1 μ1)(q:DN K H1 μ1 N σ' H'):DN K H μ N σ' H':=let ⟨μ',w,h',a,b,c,d⟩:=q;⟨μ',w,h',e.trans a,b,c,d⟩
end
inductive tD (K:BZ) (m:ME) (σ : St) (H:Hp) (Q:VK):Prop where
 | mk (μ : Mu) (h:Gh) (σw:Sw) (Qw:WK) (R:Em K μ H h) (S:Slots K H μ σw σ) (x:m σw h Qw) (k:∀ v H',DQ K H μ Qw v H'->Q v H'):tD K m σ H Q
inductive tDT (K:BZ) (m:MT) (σ : St) (H:Hp) (Q:Bool->Hp->Prop):Prop where
 | mk (μ : Mu) (h:Gh) (σw:Sw) (Qw:Bool->Gh->Prop) (R:Em K μ H h) (S:Slots K H μ σw σ) (x:m σw h Qw) (k:∀ b H',DB K H μ Qw b H'->Q b H'):tDT K m σ H Q
inductive tDA (K:BZ) (m:MA) (σ : St) (H:Hp) (Q:List V->Hp->Prop):Prop where
 | mk (μ : Mu) (h:Gh) (σw:Sw) (Qw:List W->Gh->Prop) (R:Em K μ H h) (S:Slots K H μ σw σ) (x:m σw h Qw) (k:∀ vs H',DA K H μ Qw vs H'->Q vs H'):tDA K m σ H Q
inductive tDG (K:BZ) (g:MG) (v:V) (σ : St) (H:Hp) (N:St->Hp->Prop):Prop where
 | mk (μ : Mu) (h:Gh) (σw:Sw) (w:W) (Nw:Sw->Gh->Prop) (R:Em K μ H h) (S:Slots K H μ σw σ) (r:Aq K H μ w v) (x:g w σw h Nw) (k:∀ σ' H',DN K H μ Nw σ' H'->N σ' H'):tDG K g v σ H N
inductive adu (K:BZ) (g:PJ) (vs:List V) (σ : St) (H:Hp) (N:St->Hp->Prop):Prop where
 | mk (μ : Mu) (h:Gh) (σw:Sw) (ws:List W) (Nw:Sw->Gh->Prop) (R:Em K μ H h) (S:Slots K H μ σw σ) (r:aU K H μ ws vs) (x:g ws σw h Nw) (k:∀ σ' H',DN K H μ Nw σ' H'->N σ' H'):adu K g vs σ H N
structure Hx (K:BZ) (H:Hp) (μ : Mu) (Dw:cj) (D:Ends):Prop where
 nx:∀ σ' H',DN K H μ Dw.nx σ' H'->D.nx σ' H'
 rt:∀ v H',DQ K H μ Dw.rt v H'->D.rt v H'
 bk:∀ σ' H',DN K H μ Dw.bk σ' H'->D.bk σ' H'
 ct:∀ σ' H',DN K H μ Dw.ct σ' H'->D.ct σ' H'
inductive tDS (K:BZ) (m:MS) (D:Ends) (σ : St) (H:Hp):Prop where
 | mk (μ : Mu) (h:Gh) (σw:Sw) (Dw:cj) (R:Em K μ H h) (S:Slots K H μ σw σ) (x:m Dw σw h) (k:Hx K H μ Dw D):tDS K m D σ H
theorem Hx.trans {K:BZ}{H H1:Hp}{μ μ1:Mu}{Dw:cj}{D:Ends}(k:Hx K H μ Dw D)(e:Jb K H μ H1 μ1):Hx K H1 μ1 Dw D:=
 ⟨fun _ _ q=>k.nx _ _ (q.trans e),fun _ _ q=>k.rt _ _ (q.trans e),fun _ _ q=>k.bk _ _ (q.trans e),fun _ _ q=>k.ct _ _ (q.trans e)⟩
section
variable {X:Cx}{e:Expr}{es:List Expr}{st:Stmt}{sts:List Stmt}
theorem PE.of {t t':TE}(h:PE X e t)(k:∀ σ H Q,t' σ H Q->t σ H Q):PE X e t':=fun pins s σ H Q I q=>h pins s σ H Q I (k σ H Q q)
theorem PT.of {t t':TT}(h:PT X e t)(k:∀ σ H Q,t' σ H Q->t σ H Q):PT X e t':=fun pins s σ H Q I q=>h pins s σ H Q I (k σ H Q q)
theorem PW.of {t t':TT}(h:PW X e t)(k:∀ σ H Q,t' σ H Q->t σ H Q):PW X e t':=fun wh pins s σ H Q I q=>h wh pins s σ H Q I (k σ H Q q)
theorem PA.of {t t':TA}(h:PA X es t)(k:∀ σ H Q,t' σ H Q->t σ H Q):PA X es t':=fun pos pins s σ H Q I q=>h pos pins s σ H Q I (k σ H Q q)
theorem PG.of {t t':TG}(h:PG X e t)(k:∀ v σ H Q,t' v σ H Q->t v σ H Q):PG X e t':=fun pins s σ H v u Q I r q=>h pins s σ H v u Q I r (k v σ H Q q)
theorem S9.of {t t':Qk}(h:S9 X es t)(k:∀ v σ H Q,t' v σ H Q->t v σ H Q):S9 X es t':=fun pins s σ H v u Q I r q=>h pins s σ H v u Q I r (k v σ H Q q)
theorem PS.of {t t':TS}(h:PS X st t)(k:∀ D σ H,t' D σ H->t D σ H):PS X st t':=fun pins s σ H D I q=>h pins s σ H D I (k D σ H q)
theorem Nj.of {t t':TS}(h:Nj X sts t)(k:∀ D σ H,t' D σ H->t D σ H):Nj X sts t':=fun pins s σ H D I q=>h pins s σ H D I (k D σ H q)
end
abbrev DE (X:Cx)(e:Expr)(m:ME):Prop:=PE X e (tD X.K m)
abbrev DT (X:Cx)(e:Expr)(m:MT):Prop:=PT X e (tDT X.K m)
abbrev DWt (X:Cx)(e:Expr)(m:MT):Prop:=PW X e (tDT X.K m)
abbrev Li (X:Cx)(es:List Expr)(m:MA):Prop:=PA X es (tDA X.K m)
abbrev DG (X:Cx)(e:Expr)(m:MG):Prop:=PG X e (tDG X.K m)
abbrev aaV (X:Cx)(es:List Expr)(m:PJ):Prop:=S9 X es (adu X.K m)
abbrev DS (X:Cx)(st:Stmt)(m:MS):Prop:=PS X st (tDS X.K m)
abbrev T3 (X:Cx)(st:List Stmt)(m:MS):Prop:=Nj X st (tDS X.K m)
section
variable {X:Cx}{e a b c:Expr}{ma mb mc:ME}{pos:Pos}
def aB (i:Nat):ME:=fun σ h Q=>match σ[i]? with
 | some (Dn w)=>Q w h
 | _=>False
def mC (w:W):ME:=fun _ h Q=>Q w h
theorem dv (i:Nat)(he:PE X e (aaX i)):DE X e (aB i):=he.of fun σ H Q ⟨μ,h,σw,Qw,R,S,m,k⟩=>by
 unfold aB at m
 cases q:σw[i]? with
 | none=>rw [q] at m;exact m.elim
 | some o=>
  rw [q] at m
  cases o with
  | none=>exact m.elim
  | some w=>
   obtain ⟨v,h1,h2⟩:=S.get i w q
   exact ⟨v,h1,k _ _ ⟨μ,w,h,.refl,R,h2,m⟩⟩
theorem dc {w:W}{v:V}(he:PE X e (tC v))(r:∀ H μ,Aq X.K H μ w v):DE X e (mC w):=he.of fun σ H Q ⟨μ,h,σw,Qw,R,S,m,k⟩=>k _ _ ⟨μ,w,h,.refl,R,r H μ,m⟩
theorem aG {i:Int}{j pos}:DE X (.Constant (.int i) j pos) (mC (.int i)):=dc ZD fun _ _=>by rw [Aq]
theorem Ws {i:Bool}{j pos}:DE X (.Constant (.bool i) j pos) (mC (.bl i)):=dc acF fun _ _=>by rw [Aq]
theorem nG {j pos}:DE X (.Constant .none j pos) (mC .non):=dc XC fun _ _=>by rw [Aq]
theorem tX {i:Str}{j pos}:DE X (.Constant (.str i) j pos) (mC (.str i)):=dc YM fun _ _=>by rw [Aq]
abbrev M2:=W->W->Gh->WK->Prop
def kI (r:M2)(ma mb:ME):ME:=fun σ h Q=>ma σ h fun x h1=>mb σ h1 fun y h2=>r x y h2 Q
def ady (K:BZ)(r:R2)(mr:M2):Prop:=∀ {H:Hp} {μ : Mu} {h:Gh} {x y:V} {wx wy:W} {Qw:WK} {Q:VK},Em K μ H h->Aq K H μ wx x->Aq K H μ wy y->mr wx wy h Qw ->
 (∀ v H',DQ K H μ Qw v H'->Q v H')->r x y H Q
theorem two {K:BZ}{σ : St}{H:Hp}{Q:VK}{mr:M2}{R2':V->V->Hp->Prop}(h:tD K (kI mr ma mb) σ H Q)
  (k:∀ {H2:Hp} {μ2:Mu} {h2:Gh} {x y:V} {wx wy:W} {Qw:WK},Em K μ2 H2 h2->Aq K H2 μ2 wx x->Aq K H2 μ2 wy y->mr wx wy h2 Qw->(∀ v H',DQ K H2 μ2 Qw v H'->Q v H')->R2' x y H2) :
  tD K ma σ H fun x H1=>tD K mb σ H1 fun y H2=>R2' x y H2:=by
 obtain ⟨μ,g,σw,Qw,R,S,m,q⟩:=h
 refine ⟨μ,g,σw,_,R,S,m,fun x H1 ⟨μ1,wx,h1,e1,R1,r1,m1⟩=>?_⟩
 refine ⟨μ1,h1,σw,_,R1,S.ext e1,m1,fun y H2 ⟨μ2,wy,h2,e2,R2,r2,m2⟩=>?_⟩
 exact k R2 (e2.r _ _ r1) r2 m2 fun v H' z=>q _ _ ((z.trans e2).trans e1)
def Nk (X:Cx)(f:FX->FX->Sem FX)(mr:M2):Prop:=∃ r,Kc X f r/\ady X.K r mr
theorem bO {op:Operator}{mr:M2}(ho:Nk X (N7 op) mr)(ha:DE X a ma)(hb:DE X b mb):DE X (.BinOp a op b pos) (kI mr ma mb):=by
 obtain ⟨r,o,s⟩:=ho
 exact (acj o ha hb).of fun σ H Q h=>two h fun R r1 r2 m k=>s R r1 r2 m k
theorem wj {op:CmpOp}{mr:M2}(ho:Nk X (M8 op) mr)(ha:DE X a ma)(hb:DE X b mb)(hm:UW op b=false):DE X (.Compare a [op] [b] pos) (kI mr ma mb):=by
 obtain ⟨r,o,s⟩:=ho
 exact (afU o ha hb hm).of fun σ H Q h=>two h fun R r1 r2 m k=>s R r1 r2 m k
def bJ (m:ME):MT:=fun σ h Q=>m σ h fun w h1=>match w with
 | .bl c=>Q c h1
 | _=>False
theorem agO {K:BZ}{σ : St}{H:Hp}{m:ME}{Q:Bool->Hp->Prop}(h:tDT K (bJ m) σ H Q):tD K m σ H fun x H'=>∃ k,x=.bl k/\Q k H':=by
 obtain ⟨μ,g,σw,Qw,R,S,mm,q⟩:=h
 refine ⟨μ,g,σw,_,R,S,mm,fun v H' ⟨μ1,w,h1,e1,R1,r1,m1⟩=>?_⟩
 cases w with
 | bl c=>rw [Aq] at r1;exact ⟨c,r1,q _ _ ⟨μ1,h1,e1,R1,m1⟩⟩
 | _=>exact m1.elim
theorem bw {op:CmpOp}{mr:M2}(ho:Nk X (M8 op) mr)(ha:DE X a ma)(hb:DE X b mb)(hm:UW op b=false):DT X (.Compare a [op] [b] pos) (bJ (kI mr ma mb)):=by
 obtain ⟨r,o,s⟩:=ho
 exact (agU o ha hb hm).of fun σ H Q h=>two (agO h) fun R r1 r2 m k=>s R r1 r2 m k
def JZ (c:Bool)(a b:Prop):Prop:=match c with
 | true=>a
 | false=>b
def br (c:Bool)(a b:Prop):Prop:=(c=true->a)/\(c=false->b)
theorem QV {c:Bool}{a b:Prop}(e:c=true)(x:a):br c a b:=⟨fun _=>x,fun z=>by rw [e] at z;cases z⟩
theorem wN {c:Bool}{a b:Prop}(e:c=false)(x:b):br c a b:=⟨fun z=>(by rw [e] at z;cases z),fun _=>x⟩
theorem vp {c:Prop} [Decidable c] {a b:Prop} (x:c->a) (y:¬ c->b):br (decide c) a b:=⟨fun e=>x (of_decide_eq_true e),fun e=>y (of_decide_eq_false e)⟩
def RN (t u:MT):MT:=fun σ h Q=>t σ h fun c h1=>br c (u σ h1 Q) (Q false h1)
def Pz (t u:MT):MT:=fun σ h Q=>t σ h fun c h1=>br c (Q true h1) (u σ h1 Q)
def K8 (t:MT):MT:=fun σ h Q=>t σ h fun c h1=>Q (!c) h1
variable {tA tB':MT}{rest:List Expr}
theorem wG (ha:DT X a tA):DWt X (.BoolOp .And [a] pos) tA:=afL ha
theorem tB (ha:DT X a tA):DWt X (.BoolOp .Or [a] pos) tA:=XQ ha
theorem yr (ha:DT X a tA)(hb:DWt X (.BoolOp .And (b::rest) pos) tB'):DWt X (.BoolOp .And (a::b::rest) pos) (RN tA tB'):=(YK ha hb).of fun σ H Q ⟨μ,g,σw,Qw,R,S,m,q⟩=>by
 refine ⟨μ,g,σw,_,R,S,m,fun c H1 ⟨μ1,h1,e1,R1,m1⟩=>?_⟩
 cases c with
 | true=>
  rw [if_pos rfl]
  exact ⟨μ1,h1,σw,_,R1,S.ext e1,m1.1 rfl,fun b H' z=>q _ _ (z.trans e1)⟩
 | false=>
  rw [if_neg Nb]
  exact q _ _ ⟨μ1,h1,e1,R1,m1.2 rfl⟩
theorem zB (ha:DT X a tA)(hb:DWt X (.BoolOp .Or (b::rest) pos) tB'):DWt X (.BoolOp .Or (a::b::rest) pos) (Pz tA tB'):=(aby ha hb).of fun σ H Q ⟨μ,g,σw,Qw,R,S,m,q⟩=>by
 refine ⟨μ,g,σw,_,R,S,m,fun c H1 ⟨μ1,h1,e1,R1,m1⟩=>?_⟩
 cases c with
 | true=>
  rw [if_pos rfl]
  exact q _ _ ⟨μ1,h1,e1,R1,m1.1 rfl⟩
 | false=>
  rw [if_neg Nb]
  exact ⟨μ1,h1,σw,_,R1,S.ext e1,m1.2 rfl,fun b H' z=>q _ _ (z.trans e1)⟩
theorem pR (ha:DT X a tA):DT X (.UnaryOp .Not a pos) (K8 tA):=(aax ha).of fun σ H Q ⟨μ,g,σw,Qw,R,S,m,q⟩=>
 ⟨μ,g,σw,_,R,S,m,fun c H1 ⟨μ1,h1,e1,R1,m1⟩=>q _ _ ⟨μ1,h1,e1,R1,m1⟩⟩
def ab9 (a b:ME):ME:=fun σ h Q=>a σ h fun x h1=>match x with
 | .bl true=>b σ h1 Q
 | .bl false=>Q (.bl false) h1
 | _=>False
def adD (a b:ME):ME:=fun σ h Q=>a σ h fun x h1=>match x with
 | .bl false=>b σ h1 Q
 | .bl true=>Q (.bl true) h1
 | _=>False
def acG (a:ME):ME:=fun σ h Q=>a σ h fun x h1=>match x with
 | .bl c=>Q (.bl (!c)) h1
 | _=>False
def mIf (t:MT)(a b:ME):ME:=fun σ h Q=>t σ h fun c h1=>br c (a σ h1 Q) (b σ h1 Q)
theorem acU (hc:DT X c tA)(ha:DE X a ma)(hb:DE X b mb):DE X (.IfExp c a b pos) (mIf tA ma mb):=(afm hc ha hb).of fun σ H Q ⟨μ,g,σw,Qw,R,S,m,q⟩=>by
 refine ⟨μ,g,σw,_,R,S,m,fun c H1 ⟨μ1,h1,e1,R1,m1⟩=>?_⟩
 cases c with
 | true=>
  rw [if_pos rfl]
  exact ⟨μ1,h1,σw,_,R1,S.ext e1,m1.1 rfl,fun b H' z=>q _ _ (z.trans e1)⟩
 | false=>
  rw [if_neg Nb]
  exact ⟨μ1,h1,σw,_,R1,S.ext e1,m1.2 rfl,fun b H' z=>q _ _ (z.trans e1)⟩
def mUn (r:W->Gh->WK->Prop)(a:ME):ME:=fun σ h Q=>a σ h fun x h1=>r x h1 Q
def aaR:W->Gh->WK->Prop:=fun x h Q=>match x with
 | .int i=>Q (.int (-i)) h
 | _=>False
theorem Zg (ha:DE X a ma):DE X (.UnaryOp .USub a pos) (mUn aaR ma):=(abh Y5 ha).of fun σ H Q ⟨μ,g,σw,Qw,R,S,m,q⟩=>by
 refine ⟨μ,g,σw,_,R,S,m,fun v H1 ⟨μ1,w,h1,e1,R1,r1,m1⟩=>?_⟩
 cases w with
 | int i=>rw [Aq] at r1;exact ⟨i,r1,q _ _ ⟨μ1,.int (-i),h1,e1,R1,by rw [Aq],m1⟩⟩
 | _=>exact m1.elim
def aM:MA:=fun _ h Q=>Q [] h
def aq (a:ME)(r:MA):MA:=fun σ h Q=>a σ h fun x h1=>r σ h1 fun xs h2=>Q (x::xs) h2
variable {es:List Expr}{mr:MA}
theorem au:Li X [] aM:=YZ.of fun σ H Q ⟨μ,g,σw,Qw,R,S,m,q⟩=>q _ _ ⟨μ,[],g,.refl,R,.nil,m⟩
theorem ak (ha:DE X e ma)(hr:Li X es mr)(hs:HI (e::es) X.env=(false,eval e X.env)::HI es X.env:=by rfl):Li X (e::es) (aq ma mr):=(afV ha hr hs).of fun σ H Q ⟨μ,g,σw,Qw,R,S,m,q⟩=>by
 refine ⟨μ,g,σw,_,R,S,m,fun v H1 ⟨μ1,w,h1,e1,R1,r1,m1⟩=>?_⟩
 refine ⟨μ1,h1,σw,_,R1,S.ext e1,m1,fun vs H2 ⟨μ2,ws,h2,e2,R2,r2,m2⟩=>?_⟩
 exact q _ _ ⟨μ2,w::ws,h2,e1.trans e2,R2,.cons (e2.r _ _ r1) r2,m2⟩
def mH (n:Nat)(P:Prop):Prop:=JZ (QB n 1000) P (n<=Ig/\P)
theorem mH.ok {n:Nat}{P:Prop}(h:mH n P):n<=Ig/\P:=by
 unfold mH at h
 cases e:QB n 1000 with
 | true=>rw [e] at h;exact ⟨Jp (Nat.le_of_ble_eq_true e) (by decide),h⟩
 | false=>rw [e] at h;exact h
theorem mH.mk {n:Nat}{P:Prop}(hn:n<=Ig)(h:P):mH n P:=by
 unfold mH
 cases e:QB n 1000 with
 | true=>exact h
 | false=>exact ⟨hn,h⟩
def wZ (t:MA):ME:=fun σ h Q=>t σ h fun ws h1=>mH ws.length (Q (.tup ws) h1)
def Ds (t:MA):ME:=fun σ h Q=>t σ h fun ws h1=>mH ws.length (Q (.lst ws) h1)
def wX (t:MA):ME:=fun σ h Q=>t σ h fun ws h1=>mH ws.length (Q (.loc h1.nx) (h1.new (.lst ws)))
theorem fK {x1}(h:Li X es mr):DE X (.Tuple es x1 pos) (wZ mr):=(W4 h).of fun σ H Q ⟨μ,g,σw,Qw,R,S,m,q⟩=>
 ⟨μ,g,σw,_,R,S,m,fun vs H1 ⟨μ1,ws,h1,e1,R1,r1,sz⟩=>⟨by rw [<-r1.len];exact sz.ok.1,fun p hp=>q _ _ ⟨μ1,.tup ws,h1,e1.trans (Ex.laid hp).ext,R1.laid hp,.tupNew hp r1,sz.ok.2⟩⟩⟩
theorem kZ (h:Li X es mr):DE X (.List es pos) (Ds mr):=(Ru h).of fun σ H Q ⟨μ,g,σw,Qw,R,S,m,q⟩=>
 ⟨μ,g,σw,_,R,S,m,fun vs H1 ⟨μ1,ws,h1,e1,R1,r1,sz⟩=>⟨by rw [<-r1.len];exact sz.ok.1,fun p hp=>q _ _ ⟨μ1,.lst ws,h1,e1.trans (Ex.laid hp).ext,R1.laid hp,.lstNew R1 hp r1,sz.ok.2⟩⟩⟩
theorem Rm {K:BZ}{H:Hp}{μ : Mu}{h:Gh}{p:Addr}{ws:List W}{xs:List V}(R:Em K μ H h)(hp:H p=FN)(r:aU K H μ ws xs) :
  Em K (μ.put h.nx p) (IW H p (.lst xs)) (h.new (.lst ws)):=R.newCell hp trivial ⟨xs,cR,(Ex.newCell R hp).ext.s r⟩
theorem yF (h:Li X es mr):DE X (.List es pos) (wX mr):=(Ru h).of fun σ H Q ⟨μ,g,σw,Qw,R,S,m,q⟩=>
 ⟨μ,g,σw,_,R,S,m,fun vs H1 ⟨μ1,ws,h1,e1,R1,r1,sz⟩=>⟨by rw [<-r1.len];exact sz.ok.1,fun p hp=>q _ _ ⟨μ1.put h1.nx p,.loc h1.nx,h1.new (.lst ws),e1.trans (Ex.newCell R1 hp).ext,Rm R1 hp r1,by rw [Aq];exact ⟨p,rfl,Mu.put_same⟩,sz.ok.2⟩⟩⟩
inductive lift (K:BZ) (ms:Mk) (vs:List V) (H:Hp) (Q:VK) (E:XK):Prop where
 | mk (μ : Mu) (h:Gh) (ws:List W) (Qw:WK) (R:Em K μ H h) (r:aU K H μ ws vs) (x:ms ws h Qw EF) (k:∀ v H',DQ K H μ Qw v H'->Q v H'):lift K ms vs H Q E
def aL (ms:Mk)(E:Bq)(ma:MA):ME:=fun σ h Q=>ma σ h fun ws h1=>ms ws h1 Q E
theorem call_of {K:BZ}{σ : St}{H:Hp}{Q:VK}{E:XK}{ms:Mk}{ma:MA}(h:tD K (aL ms EF ma) σ H Q):VD (lift K ms) [] E (tDA K ma) σ H Q:=by
 obtain ⟨μ,g,σw,Qw,R,S,m,q⟩:=h
 refine ⟨μ,g,σw,_,R,S,m,fun vs H1 ⟨μ1,ws,h1,e1,R1,r1,m1⟩=>?_⟩
 show lift K ms (vs++[]) H1 Q E
 rw [Uv]
 exact ⟨μ1,h1,ws,Qw,R1,r1,m1,fun v H' z=>q _ _ (z.trans e1)⟩
theorem aF {k:Nat}{f:Addr}{fd:DR}{ps:List Str}{ms:Mk}{x:Str}{p:Pos}(F:cA X.prog X.w X.K X.mg X.base Ea k f fd ps (lift X.K ms))(hr:ud k X.A)(hg:Gl X x)(hm:X.mg x=Dn (.ref f))(hk:Qt X.K (.ref f)=true)
  (hb:Binds X.K fd ps []) (ha:Li X (e::es) mr) (hdb:(x==("__debug__" : Str))=false:=by decide) (he:HI (e::es) X.env=(false,eval e X.env)::HI es X.env:=by rfl) (hpl:(Kp pos (HI es X.env)).any (·.1)=false:=by rfl) :
  DE X (.Call (.Name x p) (e::es) [] pos) (aL ms EF mr):=(agT F hr hg hm hk hb .nil TV ha hdb he hpl).of fun _ _ _ h=>call_of h
theorem lH {k:Nat}{f:Addr}{fd:DR}{ps:List Str}{ms:Mk}{x:Str}{p:Pos}(F:cA X.prog X.w X.K X.mg X.base Ea k f fd ps (lift X.K ms))(hr:ud k X.A)(hg:Gl X x)(hm:X.mg x=Dn (.ref f))(hk:Qt X.K (.ref f)=true)
  (hb:Binds X.K fd ps []) (hdb:(x==("__debug__" : Str))=false:=by decide):DE X (.Call (.Name x p) [] [] pos) (aL ms EF aM):=(zbb F hr hg hm hk hb .nil TV hdb).of fun σ H Q ⟨μ,g,σw,Qw,R,S,m,q⟩=>
 ⟨μ,g,[],Qw,R,.nil,m,q⟩
def aaJ (h:Gh)(w:W):Option Bool:=match w with
 | .non=>Dn false
 | .bl b=>Dn b
 | .int i=>Dn (i != 0)
 | .tup ws=>Dn (!ws.isEmpty)
 | .lst ws=>Dn (!ws.isEmpty)
 | .kls ws=>Dn (!ws.isEmpty)
 | .loc n=>(match h.c n with
  | some (.lst ws)=>Dn (!ws.isEmpty)
  | _=>FN)
 | _=>FN
def Bg (m:ME):MT:=fun σ h Q=>m σ h fun w h1=>match aaJ h1 w with
 | some b=>Q b h1
 | none=>False
theorem aU.emp {K:BZ}{H:Hp}{μ : Mu}{ws:List W}{xs:List V}(r:aU K H μ ws xs):ws.isEmpty=xs.isEmpty:=by
 have:=r.len
 cases ws <;> cases xs <;> first | rfl | cases this
theorem iW (he:DE X e ma)(h:∀ whole,isTrue e X.env whole=(do let v <-whole;standAt e.pos;holding [v] (truthy v)):=by intro _;rfl):DT X e (Bg ma):=(afT he h).of fun σ H Q ⟨μ,g,σw,Qw,R,S,m,q⟩=>by
 refine ⟨μ,g,σw,_,R,S,m,fun v H1 ⟨μ1,w,h1,e1,R1,r1,m1⟩=>?_⟩
 split at m1
 ·rename_i b eb
  refine ⟨b,?_,q _ _ ⟨μ1,h1,e1,R1,m1⟩⟩
  cases w with
  | non=>rw [Aq] at r1;subst r1;cases eb;rfl
  | bl c=>rw [Aq] at r1;subst r1;cases eb;rfl
  | int c=>rw [Aq] at r1;subst r1;cases eb;rfl
  | tup ws=>
   rw [Aq] at r1
   obtain ⟨p,xs,ev,hs,rs⟩:=r1
   subst ev
   cases eb
   exact .inr (.inl ⟨xs,hs,by rw [rs.emp]⟩)
  | lst ws=>
   rw [Aq] at r1
   obtain ⟨p,xs,ev,hs,rs⟩:=r1
   subst ev
   cases eb
   exact .inl ⟨xs,hs.sq,by rw [rs.emp]⟩
  | kls ws=>
   rw [Aq] at r1
   obtain ⟨p,xs,ev,hs,rs⟩:=r1
   subst ev
   cases eb
   exact .inl ⟨xs,hs.sq,by rw [rs.emp]⟩
  | loc n=>
   rw [Aq] at r1
   obtain ⟨p,ev,hm⟩:=r1
   subst ev
   unfold aaJ at eb
   dsimp only at eb
   cases ec:h1.c n with
   | none=>rw [ec] at eb;cases eb
   | some cl=>
    rw [ec] at eb
    cases cl with
    | lst ws=>
     cases eb
     obtain ⟨p',hm',xs,hx,rs⟩:=R1.cel n _ ec
     have ep:p'=p:=by rw [hm] at hm';exact (Ja hm').symm
     subst ep
     exact .inl ⟨xs,.of hx,by rw [rs.emp]⟩
    | _=>cases eb
  | _=>cases eb
 ·exact m1.elim
abbrev MC:=List W->Gh->WK->Prop
def JK (r:MC)(ma:MA):ME:=fun σ h Q=>ma σ h fun ws h1=>r ws h1 Q
def ac2 (K:BZ)(r:List V->Hp->VK->Prop)(mr:MC):Prop:=∀ {H:Hp} {μ : Mu} {h:Gh} {vs:List V} {ws:List W} {Qw:WK} {Q:VK},Em K μ H h->aU K H μ ws vs->mr ws h Qw->(∀ v H',DQ K H μ Qw v H'->Q v H')->r vs H Q
def qp (X:Cx)(f:FX)(mr:MC):Prop:=∃ r,mF X f r/\ac2 X.K r mr
theorem aas {K:BZ}{σ : St}{H:Hp}{Q:VK}{r:List V->Hp->VK->Prop}{mc:MC}{ma:MA}(s:ac2 K r mc)(h:tD K (JK mc ma) σ H Q):tCB r (tDA K ma) σ H Q:=by
 obtain ⟨μ,g,σw,Qw,R,S,m,q⟩:=h
 exact ⟨μ,g,σw,_,R,S,m,fun vs H1 ⟨μ1,ws,h1,e1,R1,r1,m1⟩=>s R1 r1 m1 fun v H' z=>q _ _ (z.trans e1)⟩
theorem bH {x:Str}{p:Pos}{id:String}{mc:MC}(hc:qp X (.builtin id) mc)(hg:Gl X x)(hm:X.mg x=FN)(hv:TJ x=Dn (.builtin id))(ha:Li X (e::es) mr)(hn:x ≠ "__name__":=by decide)(hdb:(x==("__debug__" : Str))=false:=by decide)
  (he:HI (e::es) X.env=(false,eval e X.env)::HI es X.env:=by rfl) (hpl:(Kp pos (HI es X.env)).any (·.1)=false:=by rfl):DE X (.Call (.Name x p) (e::es) [] pos) (JK mc mr):=by
 obtain ⟨r,c,s⟩:=hc
 exact (afO c hg hm hv ha hn hdb he hpl).of fun _ _ _ h=>aas s h
theorem gY {x:Str}{p:Pos}{T:String}{mc:MC}(hc:qp X (.type T) mc)(hg:Gl X x)(hm:X.mg x=FN)(hv:TJ x=Dn (.type T))(ha:Li X (e::es) mr)(hn:x ≠ "__name__":=by decide)(hdb:(x==("__debug__" : Str))=false:=by decide)
  (he:HI (e::es) X.env=(false,eval e X.env)::HI es X.env:=by rfl) (hpl:(Kp pos (HI es X.env)).any (·.1)=false:=by rfl):DE X (.Call (.Name x p) (e::es) [] pos) (JK mc mr):=by
 obtain ⟨r,c,s⟩:=hc
 exact (zaD c hg hm hv ha hn hdb he hpl).of fun _ _ _ h=>aas s h
end
section
variable {X:Cx}{e a b c tg:Expr}{ma mb mc:ME}{pos:Pos}{es:List Expr}
def JI (i:Nat):MG:=fun w σ h N=>N (σ.set i (Dn w)) h
theorem bD {i:Nat}(hg:PG X e (Lb i)):DG X e (JI i):=hg.of fun v σ H N ⟨μ,h,σw,w,Nw,R,S,r,m,k⟩=>k _ _ ⟨μ,σw.set i (Dn w),h,.refl,R,S.set r i,m⟩
def RQ:PJ:=fun ws σ h N=>match ws with
 | []=>N σ h
 | _=>False
def mG (g:MG)(r:PJ):PJ:=fun ws σ h N=>match ws with
 | w::ws'=>g w σ h fun σ1 h1=>r ws' σ1 h1 N
 | []=>False
theorem o9:aaV X [] RQ:=JH.of fun vs σ H N ⟨μ,h,σw,ws,Nw,R,S,r,m,k⟩=>by
 cases ws with
 | nil=>rw [aU] at r;exact ⟨r,k _ _ ⟨μ,σw,h,.refl,R,S,m⟩⟩
 | cons w ws=>exact m.elim
theorem bU {g:MG}{u:PJ}(h1:DG X e g)(h2:aaV X es u)(hs:(MH (e::es) X.env).map (·.2)=assign e X.env::(MH es X.env).map (·.2):=by rfl):aaV X (e::es) (mG g u):=(zK h1 h2 hs).of fun vs σ H N ⟨μ,h,σw,ws,Nw,R,S,r,m,k⟩=>by
 cases ws with
 | nil=>exact m.elim
 | cons w ws=>
  rw [aU] at r
  obtain ⟨v,vr,ev,r1,r2⟩:=r
  refine ⟨v,vr,ev,μ,h,σw,w,_,R,S,r1,m,fun σ1 H1 ⟨μ1,σw1,h1,e1,R1,S1,m1⟩=>?_⟩
  exact ⟨μ1,h1,σw1,ws,_,R1,S1,e1.s r2,m1,fun σ2 H2 z=>k _ _ (z.trans e1)⟩
def adi (n:Nat)(g:PJ):MG:=fun w σ h N=>match w with
 | .tup ws=>JZ (Mj ws.length n) (g ws σ h N) False
 | _=>False
abbrev aaB:=W->W->W->Gh->(Gh->Prop)->Prop
def RL (K:BZ)(t:aac)(ms:aaB):Prop:=∀ {H:Hp} {μ : Mu} {h:Gh} {o i v:V} {wo wi w:W} {Nw:Gh->Prop} {N:Hp->Prop},Em K μ H h->Aq K H μ wo o->Aq K H μ wi i->Aq K H μ w v->ms wo wi w h Nw ->
 (∀ H',(∃ μ' h',Jb K H μ H' μ'/\Em K μ' H' h'/\Nw h')->N H')->t o i v H N
def aaA (mo mi:ME)(ms:aaB):MG:=fun w σ h N=>mo σ h fun o h1=>mi σ h1 fun i h2=>ms o i w h2 fun h3=>N σ h3
theorem QZ {o i:Expr}{mo mi:ME}{t:aac}{ms:aaB}(ho:DE X o mo)(hi:DE X i mi)(hs:acH X t)(hm:RL X.K t ms)
  (ha:∀ v,assign (.Subscript o i pos) X.env v=(do
   let ov <-holding [v] (eval o X.env)
   let iv <-holding [v,ov] (eval i X.env)
   standAt pos
   holding [v,ov,iv] (setItem ov iv v)
   release [v,ov,iv] []):=by intro _;rfl):DG X (.Subscript o i pos) (aaA mo mi ms):=
 (X4 ho hi hs ha).of fun v σ H N ⟨μ,h,σw,w,Nw,R,S,r,m,k⟩=>by
  refine ⟨μ,h,σw,_,R,S,m,fun o H1 ⟨μ1,wo,h1,e1,R1,r1,m1⟩=>?_⟩
  refine ⟨μ1,h1,σw,_,R1,S.ext e1,m1,fun i H2 ⟨μ2,wi,h2,e2,R2,r2,m2⟩=>?_⟩
  refine hm R2 (e2.r _ _ r1) r2 (e2.r _ _ (e1.r _ _ r)) m2 fun H3 ⟨μ3,h3,e3,R3,m3⟩=>?_
  exact k _ _ ⟨μ3,σw,h3,(e1.trans e2).trans e3,R3,S.ext ((e1.trans e2).trans e3),m3⟩
def Ka:aaB:=fun o i w h N=>match o,i with
 | .loc n,.int k=>(match h.c n with
  | some (.lst ws)=>(match Pb ws.length k with
   | some j=>N (h.set n (.lst (ws.set j w)))
   | none=>False)
  | _=>False)
 | _,_=>False
theorem Em.lstAt {K:BZ}{μ : Mu}{H:Hp}{h:Gh}{n:Nat}{ws:List W}(R:Em K μ H h)(e:h.c n=Dn (.lst ws)):∃ p xs,μ.f n=Dn p/\H p=Dn (.lst xs)/\aU K H μ ws xs:=by
 obtain ⟨p,e1,xs,e2,r⟩:=R.cel n _ e
 exact ⟨p,xs,e1,e2,r⟩
theorem Gm {K:BZ}:RL K ZS Ka:=by
 intro H μ h o i v wo wi w Nw N R ro ri r m k
 cases wo with
 | loc n=>
  cases wi with
  | int z=>
   rw [Aq] at ro
   rw [Aq] at ri
   obtain ⟨p,eo,hp⟩:=ro
   unfold Ka at m
   dsimp only at m
   cases ec:h.c n with
   | none=>rw [ec] at m;exact m.elim
   | some cl=>
    rw [ec] at m
    cases cl with
    | lst ws=>
     dsimp only at m
     obtain ⟨p',xs,hp',hx,rs⟩:=R.lstAt ec
     have ep:p'=p:=by rw [hp] at hp';exact (Ja hp').symm
     subst ep
     cases ej:Pb ws.length z with
     | none=>rw [ej] at m;exact m.elim
     | some j=>
      rw [ej] at m
      refine ⟨p',xs,z,j,eo,ri,hx,by rw [<-rs.len];exact ej,k _ ⟨μ,_,(Ex.write R hp).ext,R.write hp trivial ?_,m⟩⟩
      exact ⟨_,cR,aU.set ((Ex.write R hp).ext.r _ _ r) j ((Ex.write R hp).ext.s rs)⟩
    | _=>exact m.elim
  | _=>exact m.elim
 | _=>exact m.elim
variable {st:Stmt}{rest body:List Stmt}{m1 m2:MS}{t:MT}
def cH:MS:=fun D σ h=>D.nx σ h
def bG (m u:MS):MS:=fun D σ h=>m { D with nx:=u D } σ h
theorem aZ:T3 X [] cH:=Vp.of fun D σ H ⟨μ,h,σw,Dw,R,S,m,k⟩=>k.nx _ _ ⟨μ,σw,h,.refl,R,S,m⟩
theorem aD (h1:DS X st m1):T3 X [st] m1:=agG h1
theorem aA (h1:DS X st m1)(h2:T3 X rest m2):T3 X (st::rest) (bG m1 m2):=(agt h1 h2).of fun D σ H ⟨μ,h,σw,Dw,R,S,m,k⟩=>by
 refine ⟨μ,h,σw,_,R,S,m,?_,k.rt,k.bk,k.ct⟩
 intro σ' H' ⟨μ1,σw1,h1,e1,R1,S1,m1⟩
 exact ⟨μ1,h1,σw1,Dw,R1,S1,m1,k.trans e1⟩
def rJ (m:ME):MS:=fun D σ h=>m σ h fun _ h1=>D.nx σ h1
theorem jz (he:DE X e ma)(hs:swapsWith e FN pos.line X.env=pure false:=by rfl):DS X (.Expr e pos) (rJ ma):=(Wn he hs).of fun D σ H ⟨μ,h,σw,Dw,R,S,m,k⟩=>
 ⟨μ,h,σw,_,R,S,m,fun v H1 ⟨μ1,w,h1,e1,R1,_,m1⟩=>k.nx _ _ ⟨μ1,σw,h1,e1,R1,S.ext e1,m1⟩⟩
def bV (m:ME):MS:=fun D σ h=>m σ h D.rt
theorem aO (he:DE X e ma):DS X (.Return (Dn e) pos) (bV ma):=(Ym he).of fun D σ H ⟨μ,h,σw,Dw,R,S,m,k⟩=>⟨μ,h,σw,_,R,S,m,k.rt⟩
def jF (t:MT)(a b:MS):MS:=fun D σ h=>t σ h fun c h1=>br c (a D σ h1) (b D σ h1)
theorem cG {a b:List Stmt}(hc:DT X c t)(ha:T3 X a m1)(hb:T3 X b m2):DS X (.If c a b pos) (jF t m1 m2):=(ace hc ha hb).of fun D σ H ⟨μ,h,σw,Dw,R,S,m,k⟩=>by
 refine ⟨μ,h,σw,_,R,S,m,fun b H1 ⟨μ1,h1,e1,R1,q⟩=>?_⟩
 cases b with
 | true=>rw [if_pos rfl];exact ⟨μ1,h1,σw,Dw,R1,S.ext e1,q.1 rfl,k.trans e1⟩
 | false=>rw [if_neg Nb];exact ⟨μ1,h1,σw,Dw,R1,S.ext e1,q.2 rfl,k.trans e1⟩
def wk (x:Str)(E:Bq):MS:=fun _ _ h=>E ⟨x,[]⟩ h
theorem pX {x:Str}:DS X st (wk x EF):=aga.of fun _ _ _ ⟨_,_,_,_,_,_,m,_⟩=>m.elim
def bW (m:ME)(g:MG):MS:=fun D σ h=>m σ h fun w h1=>g w σ h1 D.nx
theorem ZQ {K:BZ}{σ : St}{H:Hp}{D:Ends}{m:ME}{g:MG}(q:tDS K (bW m g) D σ H):ZJ (tD K m) (tDG K g) D σ H:=by
 obtain ⟨μ,h,σw,Dw,R,S,m,k⟩:=q
 exact ⟨μ,h,σw,_,R,S,m,fun v H1 ⟨μ1,w,h1,e1,R1,r1,m1⟩=>⟨μ1,h1,σw,w,_,R1,S.ext e1,r1,m1,fun σ' H' z=>k.nx _ _ (z.trans e1)⟩⟩
theorem Ba {g:MG}(he:DE X e ma)(hg:DG X tg g)(hs:swapsWithSole [tg] e pos.line X.env=pure false:=by rfl)(hw:swappedStores [tg] e X.env=pure FN:=by rfl)
  (h1:(MH [tg] X.env).map (·.2)=[assign tg X.env]:=by rfl):DS X (.Assign [tg] e pos) (bW ma g):=(Xm he hg hs hw h1).of fun _ _ _ q=>ZQ q
theorem RJ {K:BZ}{σ : St}{H:Hp}{D:Ends}{m:ME}{t:TE}{i:Nat}(ht:∀ σ H Q,tD K m σ H Q->t σ H Q)(q:tDS K (bW m (JI i)) D σ H):ZJ t (Lb i) D σ H:=by
 obtain ⟨μ,h,σw,Dw,R,S,m,k⟩:=q
 exact ht _ _ _ ⟨μ,h,σw,_,R,S,m,fun v H1 ⟨μ1,w,h1,e1,R1,r1,m1⟩=>k.nx _ _ ⟨μ1,σw.set i (Dn w),h1,e1,R1,(S.ext e1).set r1 i,m1⟩⟩
theorem aQ {i:Nat}{x:Str}{pos':Pos}(hN:X.N.Nodup)(hi:X.N[i]?=Dn x)(hx:Loc X.env.scope x)(he:DE X e ma)(hs:swapsWith e (Dn (.Name x pos')) pos.line X.env=pure false:=by rfl)
  (hf:X.fn x=true\/X.env.scope.names.lookup x=Dn .local:=by first | exact .inl rfl | exact .inr rfl | assumption) :
  DS X (.Assign [.Name x pos'] e pos) (bW ma (JI i)):=(Z1 hN hi hx he hs hf).of fun _ _ _ q=>RJ (fun _ _ _ z=>z) q
def abt (i j:Nat)(ta:MA):MS:=fun D σ h=>ta σ h fun ws h1=>match ws with
 | [v,w]=>D.nx ((σ.set i (Dn v)).set j (Dn w)) h1
 | _=>False
theorem afi {i j:Nat}{ta:MA}(hp:PS X st (ada i j (tDA X.K ta))):DS X st (abt i j ta):=hp.of fun D σ H ⟨μ,h,σw,Dw,R,S,m,k⟩=>by
 refine ⟨μ,h,σw,_,R,S,m,fun vs H1 ⟨μ1,ws,h1,e1,R1,r1,m1⟩=>?_⟩
 split at m1
 ·rename_i a b
  rw [aU] at r1
  obtain ⟨v,vr,ev,ra,r2⟩:=r1
  rw [aU] at r2
  obtain ⟨v',vr',ev',rb,r3⟩:=r2
  rw [aU] at r3
  subst r3
  subst ev'
  subst ev
  exact ⟨v,v',rfl,k.nx _ _ ⟨μ1,_,h1,e1,R1,((S.ext e1).set ra i).set rb j,m1⟩⟩
 ·exact m1.elim
def FQ (t:MT)(b:MS):MS:=fun D σ h=>∃ Wm:Nat->Sw->Gh->Prop,(∃ m,Wm m σ h)/\∀ m σ h,Wm m σ h ->
 t σ h fun c h1=>br c (b { D with nx:=fun σ' h'=>∃ m',m'<m/\Wm m' σ' h',ct:=fun σ' h'=>∃ m',m'<m/\Wm m' σ' h',bk:=D.nx } σ h1) (D.nx σ h1)
theorem Ho {body:List Stmt}{pos:Pos}(hp:Vm (Cj X.prog X.w) X.A X.env X.xe)(hc:DT X c t)(hb:T3 X body m1):DS X (.While c body [] pos) (FQ t m1):=(zbo hp hc hb).of fun D σ H ⟨μ,h,σw,Dw,R,S,m,k⟩=>by
 obtain ⟨Wm,⟨m0,w0⟩,turn⟩:=m
 refine ⟨fun n σ' H'=>DN X.K H μ (Wm n) σ' H',⟨m0,μ,σw,h,.refl,R,S,w0⟩,fun n σ1 H1 ⟨μ1,σw1,h1,e1,R1,S1,w1⟩=>?_⟩
 refine ⟨μ1,h1,σw1,_,R1,S1,turn n σw1 h1 w1,fun b H2 ⟨μ2,h2,e2,R2,q⟩=>?_⟩
 have e12:=e1.trans e2
 cases b with
 | true=>
  dsimp only
  rw [if_pos rfl]
  refine ⟨fun σ' H'=>∃ m',m'<n/\DN X.K H μ (Wm m') σ' H',fun _ _ z=>z,μ2,h2,σw1,_,R2,S1.ext e2,q.1 rfl,?_⟩
  have again:∀ (σ':St) (H':Hp),DN X.K H2 μ2 (fun σ' h'=>∃ m',m'<n/\Wm m' σ' h') σ' H'->∃ m',m'<n/\DN X.K H μ (Wm m') σ' H':=fun σ' H' ⟨μ3,σw3,h3,e3,R3,S3,m',hm,w3⟩=>
   ⟨m',hm,μ3,σw3,h3,e12.trans e3,R3,S3,w3⟩
  exact ⟨again,fun v H' z=>k.rt _ _ (z.trans e12),fun σ' H' z=>k.nx _ _ (z.trans e12),again⟩
 | false=>
  dsimp only
  rw [if_neg Nb]
  exact k.nx _ _ ⟨μ2,σw1,h2,e12,R2,S1.ext e2,q.2 rfl⟩
structure Src where
 ws:List W
 cell:Option (Nat×List W)
def Src.chk (s:Src)(h:Gh):Prop:=match s.cell with
 | none=>True
 | some n=>h.c n.1=Dn (.lst n.2)
abbrev MI:=Sw->Gh->(Src->Gh->Prop)->Prop
def WQ (K:BZ)(J:It)(src:Src)(H:Hp)(μ : Mu):Prop:=∀ {H2:Hp} {μ2:Mu} {h2:Gh} {i:Nat},Jb K H μ H2 μ2->Em K μ2 H2 h2->src.chk h2 ->
 (∀ w,src.ws[i]?=Dn w->J.go i H2/\∀ x H3,J.yld i H2 x H3->∃ μ3,Jb K H2 μ2 H3 μ3/\Em K μ3 H3 h2/\Aq K H3 μ3 w x)/\(src.ws.length<=i->J.stop i H2)
inductive DI (K:BZ) (H:Hp) (μ : Mu) (Rw:Src->Gh->Prop) (J:It) (H':Hp):Prop where
 | mk (μ':Mu) (src:Src) (h':Gh) (e:Jb K H μ H' μ') (R:Em K μ' H' h') (o:WQ K J src H' μ') (q:Rw src h'):DI K H μ Rw J H'
inductive tDI (K:BZ) (mi:MI) (σ : St) (H:Hp) (R:It->Hp->Prop):Prop where
 | mk (μ : Mu) (h:Gh) (σw:Sw) (Rw:Src->Gh->Prop) (q:Em K μ H h) (S:Slots K H μ σw σ) (x:mi σw h Rw) (k:∀ J H',DI K H μ Rw J H'->R J H'):tDI K mi σ H R
abbrev Te (X:Cx)(tg iter:Expr)(mi:MI):Prop:=PI X tg iter (tDI X.K mi)
theorem PI.of {iter:Expr}{t t':TI}(h:PI X tg iter t)(k:∀ σ H R,t' σ H R->t σ H R):PI X tg iter t':=fun pins s σ H R I q=>h pins s σ H R I (k σ H R q)
def fG (h:Gh):W->Option (List W)
 | .lst ws=>Dn ws
 | .kls ws=>Dn ws
 | .loc n=>(match h.c n with
  | some (.lst ws)=>Dn ws
  | _=>FN)
 | _=>FN
def view (h:Gh):W->Option (List W)
 | .tup ws=>Dn ws
 | .lst ws=>Dn ws
 | .kls ws=>Dn ws
 | .loc n=>fG h (.loc n)
 | _=>FN
def wW (h:Gh):W->Option Src
 | .tup ws=>Dn ⟨ws,FN⟩
 | .lst ws=>Dn ⟨ws,FN⟩
 | .kls ws=>Dn ⟨ws,FN⟩
 | .loc n=>(match h.c n with
  | some (.lst ws)=>Dn ⟨ws,Dn (n,ws)⟩
  | _=>FN)
 | _=>FN
theorem Wc {K:BZ}{H:Hp}{μ : Mu}{p:Addr}{ws:List W}(r:Aq K H μ (.lst ws) (.ref p)):WQ K (Itl K p) ⟨ws,FN⟩ H μ:=by
 intro H2 μ2 h2 i e R2 _
 have r2:=e.r _ _ r
 rw [Aq] at r2
 obtain ⟨q,xs,eq,hf,rs⟩:=r2
 cases eq
 refine ⟨fun w ew=>?_,fun hl=>⟨xs,hf.sq,by rw [<-rs.len];exact hl⟩⟩
 obtain ⟨v,ev,rv⟩:=rs.get ew
 refine ⟨⟨xs,v,hf.sq,ev⟩,fun x H3 ⟨e3,y⟩=>?_⟩
 subst e3
 have:=y xs hf.sq
 rw [ev] at this
 cases this
 exact ⟨μ2,.refl,R2,rv⟩
theorem ahs {K:BZ}{H:Hp}{μ : Mu}{p:Addr}{ws:List W}(r:Aq K H μ (.kls ws) (.ref p)):WQ K (Itl K p) ⟨ws,FN⟩ H μ:=by
 intro H2 μ2 h2 i e R2 _
 have r2:=e.r _ _ r
 rw [Aq] at r2
 obtain ⟨q,xs,eq,hf,rs⟩:=r2
 cases eq
 refine ⟨fun w ew=>?_,fun hl=>⟨xs,hf.sq,by rw [<-rs.len];exact hl⟩⟩
 obtain ⟨v,ev,rv⟩:=rs.get ew
 refine ⟨⟨xs,v,hf.sq,ev⟩,fun x H3 ⟨e3,y⟩=>?_⟩
 subst e3
 have:=y xs hf.sq
 rw [ev] at this
 cases this
 exact ⟨μ2,.refl,R2,rv⟩
theorem aeU {K:BZ}{H:Hp}{μ : Mu}{p:Addr}{n:Nat}{ws:List W}(r:Aq K H μ (.loc n) (.ref p)):WQ K (Itl K p) ⟨ws,Dn (n,ws)⟩ H μ:=by
 intro H2 μ2 h2 i e R2 ck
 have r2:=e.r _ _ r
 rw [Aq] at r2
 obtain ⟨q,eq,hm⟩:=r2
 cases eq
 obtain ⟨p',xs,hm',hx,rs⟩:=R2.lstAt (show h2.c n=Dn (.lst ws) from ck)
 have ep:p'=p:=by rw [hm] at hm';exact (Ja hm').symm
 subst ep
 refine ⟨fun w ew=>?_,fun hl=>⟨xs,.of hx,by rw [<-rs.len];exact hl⟩⟩
 obtain ⟨v,ev,rv⟩:=rs.get ew
 refine ⟨⟨xs,v,.of hx,ev⟩,fun x H3 ⟨e3,y⟩=>?_⟩
 subst e3
 have:=y xs (.of hx)
 rw [ev] at this
 cases this
 exact ⟨μ2,.refl,R2,rv⟩
theorem agI {K:BZ}{H:Hp}{μ : Mu}{p:Addr}{ws:List W}(r:Aq K H μ (.tup ws) (.ref p)):WQ K (Itt K p) ⟨ws,FN⟩ H μ:=by
 intro H2 μ2 h2 i e R2 _
 have r2:=e.r _ _ r
 rw [Aq] at r2
 obtain ⟨q,xs,eq,hf,rs⟩:=r2
 cases eq
 refine ⟨fun w ew=>?_,fun hl=>⟨xs,hf,by rw [<-rs.len];exact hl⟩⟩
 obtain ⟨v,ev,rv⟩:=rs.get ew
 refine ⟨⟨xs,v,hf,ev⟩,fun x H3 ⟨e3,y⟩=>?_⟩
 subst e3
 have:=y xs hf
 rw [ev] at this
 cases this
 exact ⟨μ2,.refl,R2,rv⟩
def adM (K:BZ)(tl:TE):TI:=fun σ H R=>tl σ H fun x H1=>(∃ a,x=.ref a/\(∃ xs,Je K H1 a xs)/\R (Itl K a) H1)\/(∃ a,x=.ref a/\(∃ xs,Jg K H1 a xs)/\R (Itt K a) H1)
theorem Yq {l:Expr}{tl:TE}(hl:PE X l tl):PI X tg l (adM X.K tl):=by
 intro pins s σ H R I h
 refine Ia (hl pins s σ H _ I h) fun v s1 ⟨x,H1,I1,r1,q1⟩=>?_
 rcases q1 with ⟨a,e,⟨xs,hq⟩,q⟩ | ⟨a,e,⟨xs,hq⟩,q⟩
 ·subst e
  cases r1
  obtain ⟨its,rv,p,hz⟩:=I1.list hq
  refine Ux p.isList ?_
  refine ⟨s1.heap.objs.size,[s1.heap.objs.size],_,_,H1,rfl,I1.kept (t':=s1.toks) fun b o e=>J6 _ e,zaV a _,⟨_,Lf _ rfl,rfl,rfl⟩,fun b hb=>?_,q⟩
  have e:b=s1.heap.objs.size:=by simpa using hb
  subst e
  exact I1.fpOk (Ij _) (I1.hok.fresh (Ij _))
 ·subst e
  cases r1
  obtain ⟨its,rv,p,hz⟩:=I1.tuple hq
  refine wpAny_pyIter_tuple (show s1.heap.IsTuple a its.toArray from p) ?_
  refine ⟨s1.heap.objs.size,[s1.heap.objs.size],_,_,H1,rfl,I1.kept (t':=s1.toks) fun b o e=>J6 _ e,aeQ a _,⟨_,Lf _ rfl,rfl,rfl⟩,fun b hb=>?_,q⟩
  have e:b=s1.heap.objs.size:=by simpa using hb
  subst e
  exact I1.fpOk (Ij _) (I1.hok.fresh (Ij _))
def Iw (m:ME):MI:=fun σ h R=>m σ h fun w h1=>match wW h1 w with
 | some s=>R s h1
 | none=>False
theorem bZ {l:Expr}(hl:DE X l ma):Te X tg l (Iw ma):=PI.of (Yq hl) fun σ H Q ⟨μ,h,σw,Rw,R,S,m,k⟩=>by
 refine ⟨μ,h,σw,_,R,S,m,fun v H1 ⟨μ1,w,h1,e1,R1,r1,m1⟩=>?_⟩
 cases w with
 | tup ws=>
  have r1':=r1
  rw [Aq] at r1
  obtain ⟨p,xs,ev,hs,_⟩:=r1
  subst ev
  exact .inr ⟨p,rfl,⟨xs,hs⟩,k _ _ ⟨μ1,⟨ws,FN⟩,h1,e1,R1,agI r1',m1⟩⟩
 | lst ws=>
  have r1':=r1
  rw [Aq] at r1
  obtain ⟨p,xs,ev,hs,_⟩:=r1
  subst ev
  exact .inl ⟨p,rfl,⟨xs,hs.sq⟩,k _ _ ⟨μ1,⟨ws,FN⟩,h1,e1,R1,Wc r1',m1⟩⟩
 | kls ws=>
  have r1':=r1
  rw [Aq] at r1
  obtain ⟨p,xs,ev,hs,_⟩:=r1
  subst ev
  exact .inl ⟨p,rfl,⟨xs,hs.sq⟩,k _ _ ⟨μ1,⟨ws,FN⟩,h1,e1,R1,ahs r1',m1⟩⟩
 | loc n=>
  have r1':=r1
  rw [Aq] at r1
  obtain ⟨p,ev,hm⟩:=r1
  subst ev
  unfold wW at m1
  dsimp only at m1
  cases ec:h1.c n with
  | none=>rw [ec] at m1;exact m1.elim
  | some cl=>
   rw [ec] at m1
   cases cl with
   | lst ws=>
    obtain ⟨p',xs,hm',hx,rs⟩:=R1.lstAt ec
    have ep:p'=p:=by rw [hm] at hm';exact (Ja hm').symm
    subst ep
    exact .inl ⟨p',rfl,⟨xs,.of hx⟩,k _ _ ⟨μ1,⟨ws,Dn (n,ws)⟩,h1,e1,R1,aeU r1',m1⟩⟩
   | _=>exact m1.elim
 | _=>exact m1.elim
def Du (lo:Int)(n:Nat):List W:=(O9 n).map fun (k:Nat)=>.int (lo+(k:Int))
theorem Ri {K:BZ}{H:Hp}{μ : Mu}{lo:Int}{n:Nat}:WQ K (Itr lo n) ⟨Du lo n,FN⟩ H μ:=by
 intro H2 μ2 h2 i e R2 _
 refine ⟨fun w ew=>?_,fun hl=>?_⟩
 ·have hi:i<n:=by
   have:=(Ox.mp ew).1
   simpa [Du] using this
  have ew':w=.int (lo+(i:Int)):=by
   unfold Du at ew
   rw [ML,List.getElem?_range hi] at ew
   exact (Ja ew).symm
  subst ew'
  refine ⟨hi,fun x H3 ⟨e3,y⟩=>?_⟩
  subst e3
  exact ⟨μ2,.refl,R2,by rw [Aq];exact y⟩
 ·have:n<=i:=by simpa [Du] using hl
  exact this
def CT (j:Int)(P:Prop):Prop:=JZ (decide (-1000<=j)&&decide (j<=1000)) P ((-(2^62)<=j/\j<2^62)/\P)
theorem CT.ok {j:Int}{P:Prop}(h:CT j P):(-(2^62)<=j/\j<2^62)/\P:=by
 unfold CT at h
 cases e:(decide (-1000<=j)&&decide (j<=1000)) with
 | true=>
  rw [e] at h
  rw [O7,decide_eq_true_iff,decide_eq_true_iff] at e
  exact ⟨⟨by lia,by lia⟩,h⟩
 | false=>rw [e] at h;exact h
theorem CT.mk {j:Int}{P:Prop}(h1:-(2^62)<=j)(h2:j<2^62)(h:P):CT j P:=by
 unfold CT
 cases e:(decide (-1000<=j)&&decide (j<=1000)) with
 | true=>exact h
 | false=>exact ⟨⟨h1,h2⟩,h⟩
def jg (ma:MA):MI:=fun σ h R=>ma σ h fun ws h1=>match ws with
 | [.int j]=>CT j (R ⟨Du 0 j.toNat,FN⟩ h1)
 | _=>False
def Jv (ma:MA):MI:=fun σ h R=>ma σ h fun ws h1=>match ws with
 | [.int i,.int j]=>CT i (CT j (R ⟨Du i (j - i).toNat,FN⟩ h1))
 | _=>False
theorem dI {a:Expr}{mr:MA}{p pos:Pos}(hg:Gl X "range")(hm:X.mg "range" = FN)(ha:Li X [a] mr)(hs:HI [a] X.env=[(false,eval a X.env)]:=by rfl):Te X tg (.Call (.Name "range" p) [a] [] pos) (jg mr):=
 PI.of (zaS hg hm ha hs) fun σ H Q ⟨μ,h,σw,Rw,R,S,m,k⟩=>by
  refine ⟨μ,h,σw,_,R,S,m,fun vs H1 ⟨μ1,ws,h1,e1,R1,r1,m1⟩=>?_⟩
  split at m1
  ·rename_i j
   rw [aU] at r1
   obtain ⟨v,vr,ev,ra,r1⟩:=r1
   rw [aU] at r1
   rw [Aq] at ra
   subst ev r1 ra
   exact ⟨j,rfl,m1.ok.1.1,m1.ok.1.2,k _ _ ⟨μ1,_,h1,e1,R1,Ri,m1.ok.2⟩⟩
  ·exact m1.elim
theorem aeH {a b:Expr}{mr:MA}{p pos:Pos}(hg:Gl X "range")(hm:X.mg "range" = FN)(ha:Li X [a,b] mr)(hs:HI [a,b] X.env=[(false,eval a X.env),(false,eval b X.env)]:=by rfl)(hs2:HI [b] X.env=[(false,eval b X.env)]:=by rfl) :
  Te X tg (.Call (.Name "range" p) [a,b] [] pos) (Jv mr):=
 PI.of (zaB hg hm ha hs hs2) fun σ H Q ⟨μ,h,σw,Rw,R,S,m,k⟩=>by
  refine ⟨μ,h,σw,_,R,S,m,fun vs H1 ⟨μ1,ws,h1,e1,R1,r1,m1⟩=>?_⟩
  split at m1
  ·rename_i i j
   rw [aU] at r1
   obtain ⟨v,vr,ev,ra,r1⟩:=r1
   rw [aU] at r1
   obtain ⟨v',vr',ev',rb,r1⟩:=r1
   rw [aU] at r1
   rw [Aq] at ra rb
   subst ev ev' r1 ra rb
   exact ⟨i,j,rfl,⟨m1.ok.1.1,m1.ok.1.2,m1.ok.2.ok.1.1,m1.ok.2.ok.1.2⟩,k _ _ ⟨μ1,_,h1,e1,R1,Ri,m1.ok.2.ok.2⟩⟩
  ·exact m1.elim
def Src.go (s:Src)(h:Gh)(P:Prop):Prop:=match s.cell with
 | none=>P
 | some n=>h.c n.1=Dn (.lst n.2)/\P
theorem Src.go_ok {s:Src}{h:Gh}{P:Prop}(x:s.go h P):s.chk h/\P:=by
 unfold Src.go at x
 unfold Src.chk
 cases e:s.cell with
 | none=>rw [e] at x;exact ⟨trivial,x⟩
 | some n=>rw [e] at x;exact x
def gJ (s:Src)(g:MG)(b:MS)(D:cj):List W->Sw->Gh->Prop
 | [],σ,h=>s.go h (D.nx σ h)
 | w::r,σ,h=>s.go h (g w σ h fun σ1 h1=>b { D with nx:=gJ s g b D r,ct:=gJ s g b D r,bk:=D.nx } σ1 h1)
def uD (mi:MI)(g:MG)(b:MS):MS:=fun D σ h=>mi σ h fun s h1=>gJ s g b D s.ws σ h1
theorem fU {iter:Expr}{body:List Stmt}{mi:MI}{g:MG}{mb0:MS}{pos:Pos}(hp:Vm (Cj X.prog X.w) X.A X.env X.xe)(hc:X.calm=true)(hi:Te X tg iter mi)(hg:DG X tg g)(hb:T3 X body mb0)
  (hs:∀ x,Uq iter X.env x=pure x:=by intro _;rfl):DS X (.For tg iter body [] pos) (uD mi g mb0):=(Y9 hp hc hi hg hb hs).of fun D σ H ⟨μ,h,σw,Dw,R,S,m,k⟩=>by
 refine ⟨μ,h,σw,_,R,S,m,fun J H1 ⟨μ1,src,h1,e1,R1,ok,m1⟩=>?_⟩
 refine ⟨fun i n σ' H'=>n=src.ws.length - i/\i<=src.ws.length/\DN X.K H1 μ1 (gJ src g mb0 Dw (src.ws.drop i)) σ' H',⟨src.ws.length,by simp,TF _,μ1,σw,h1,.refl,R1,S.ext e1,by rw [List.drop_zero];exact m1⟩,?_⟩
 rintro i n σ2 H2 ⟨hn,hle,μ2,σw2,h2,e2,R2,S2,m2⟩
 by_cases hlt:i<src.ws.length
 ·rw [List.drop_eq_getElem_cons hlt] at m2
  obtain ⟨ck,m2⟩:=Src.go_ok m2
  obtain ⟨hgo,hy⟩:=(ok e2 R2 ck).1 src.ws[i] (KY hlt)
  refine .inr ⟨hgo,fun σ' H'=>DN X.K H2 μ2 (gJ src g mb0 Dw (src.ws.drop (i+1))) σ' H',fun σ' H' z=>⟨src.ws.length - (i+1),by lia,rfl,hlt,z.trans e2⟩,fun x H3 y=>?_⟩
  obtain ⟨μ3,e3,R3,rx⟩:=hy x H3 y
  refine ⟨μ3,h2,σw2,src.ws[i],_,R3,S2.ext e3,rx,m2,fun σ4 H4 ⟨μ4,σw4,h4,e4,R4,S4,m4⟩=>?_⟩
  have e24:=e3.trans e4
  have e14:=(e1.trans e2).trans e24
  exact ⟨μ4,h4,σw4,_,R4,S4,m4,fun σ' H' z=>z.trans e24,fun v H' z=>k.rt _ _ (z.trans e14),fun σ' H' z=>k.nx _ _ (z.trans e14),fun σ' H' z=>z.trans e24⟩
 ·have ei:i=src.ws.length:=by lia
  subst ei
  rw [List.drop_length] at m2
  obtain ⟨ck,m2⟩:=Src.go_ok m2
  exact .inl ⟨(ok e2 R2 ck).2 (Ij _),k.nx _ _ ⟨μ2,σw2,h2,e1.trans e2,R2,S2,m2⟩⟩
def vq (ix:List Nat)(σ : Sw):Sw:=ix.map fun i=>(σ[i]?).getD FN
theorem Slots.blk {K:BZ}{H:Hp}{μ : Mu}{σw:Sw}{σ : St}{ix:List Nat}(S:Slots K H μ σw σ):∀ {ws:List W} {vs:List V},aU K H μ ws vs->Slots K H μ (ws.map Dn++vq ix σw) (vs.map Dn++Km ix σ):=by
 intro ws vs r
 have hl:=r.len
 refine ⟨by simp [vq,Km,hl],fun i u q=>?_⟩
 by_cases hi:i<ws.length
 ·rw [Tt (by simpa using hi),ML] at q
  have q':ws[i]?=Dn u:=by
   cases e:ws[i]? with
   | none=>rw [e] at q;cases q
   | some a=>rw [e] at q;simpa using q
  obtain ⟨v,hv,rv⟩:=r.get q'
  refine ⟨v,?_,rv⟩
  rw [Tt (by rw [Iu];lia),ML,hv]
  rfl
 ·rw [TX (by simpa using hi),Iu] at q
  rw [TX (by rw [Iu];lia),Iu,<-hl]
  generalize i - ws.length=i at q |-
  unfold vq at q
  unfold Km
  rw [ML] at q |-
  cases e:ix[i]? with
  | none=>rw [e] at q;cases q
  | some j=>
   rw [e] at q
   cases e2:σw[j]? with
   | none=>simp [e2] at q
   | some o=>
    have eo:o=Dn u:=by simpa [e2] using q
    subst eo
    obtain ⟨v',h1,h2⟩:=S.get j u e2
    exact ⟨v',by simp [h1],h2⟩
def j6:MT:=fun _ h Q=>Q true h
def rO (s:Src)(own:W->Option (List W))(ix:List Nat)(tt:MT)(te:ME)(σ : Sw)(Q:WK):List W->List W->Gh->Prop
 | [],acc,h=>s.go h (Q (.lst acc) h)
 | w::r,acc,h=>s.go h (match own w with
  | some vs=>tt (vs.map Dn++vq ix σ) h fun c h1=>JZ c (te (vs.map Dn++vq ix σ) h1 fun v h2=>rO s own ix tt te σ Q r (acc++[v]) h2) (rO s own ix tt te σ Q r acc h1)
  | none=>False)
def Ih (own:W->Option (List W))(ix:List Nat)(mi:MI)(tt:MT)(te:ME):ME:=fun σ h Q=>mi σ h fun s h1=>mH s.ws.length (rO s own ix tt te σ Q s.ws [] h1)
def Jq (K:BZ)(n:Nat)(own:V->Hp->List V->Prop)(ow:W->Option (List W)):Prop:=∀ {H:Hp} {μ : Mu} {w:W} {v:V} {ws:List W},Aq K H μ w v->ow w=Dn ws->∃ vs,own v H vs/\vs.length=n/\aU K H μ ws vs
def JG (w:W):Option (List W):=Dn [w]
def owT (n:Nat)(w:W):Option (List W):=match w with
 | .tup ws=>(match Mj ws.length n with
  | true=>Dn ws
  | false=>FN)
 | _=>FN
def ov1:V->Hp->List V->Prop:=fun v _ vs=>vs=[v]
def ovT (K:BZ):V->Hp->List V->Prop:=fun v H vs=>∃ a,v=.ref a/\Jg K H a vs
theorem gP {K:BZ}:Jq K 1 ov1 JG:=by
 intro H μ w v ws r e
 cases (show Dn [w]=Dn ws from e)
 exact ⟨[v],rfl,rfl,.one r⟩
theorem W8 {K:BZ}{n:Nat}:Jq K n (ovT K) (owT n):=by
 intro H μ w v ws r e
 cases w with
 | tup us=>
  unfold owT at e
  dsimp only at e
  cases en:Mj us.length n with
  | false=>rw [en] at e;cases e
  | true=>
   rw [en] at e
   cases (show Dn us=Dn ws from e)
   rw [Aq] at r
   obtain ⟨p,xs,ev,hs,rs⟩:=r
   exact ⟨xs,⟨p,ev,hs⟩,by rw [<-rs.len];exact V8 en,rs⟩
 | _=>cases e
abbrev aaT (X:Cx)(ifs:List Expr)(m:MT):Prop:=WY X ifs (tDT X.K m)
theorem cu:aaT X [] j6:=fun pins s σ H Q I ⟨μ,h,σw,Qw,R,S,m,k⟩=>agA pins s σ H Q I (k _ _ ⟨μ,h,.refl,R,m⟩)
theorem sE (h:DT X c t):aaT X [c] t:=agm h
theorem YW {K:BZ}{σ : St}{H:Hp}{Q:VK}{n:Nat}{own:V->Hp->List V->Prop}{ow:W->Option (List W)}{ix:List Nat}{mi:MI}{tt:MT}{te:ME}(oo:Jq K n own ow)(q:tD K (Ih ow ix mi tt te) σ H Q):tLC n own ix (tDI K mi) (tDT K tt) (tD K te) σ H Q:=by
 obtain ⟨μ,h,σw,Qw,R,S,m,k⟩:=q
 refine ⟨μ,h,σw,_,R,S,m,fun J H1 ⟨μ1,src,h1,e1,R1,ok,hz0⟩=>?_⟩
 obtain ⟨hz,m1⟩:=hz0.ok
 intro D hD
 have nD:=R1.nohid hD
 have hD1:Jb K H1 μ1 (IW H1 D (.lst [])) (μ1.hide D):=Jb.hide hD
 refine ⟨fun i n ys H'=>n=src.ws.length - i/\i<=src.ws.length/\ys.length<=i/\H' D=Dn (.lst ys)/\∃ μ' acc h',Jb K H1 μ1 H' μ'/\Em K μ' H' h'/\μ'.hid D/\aU K H' μ' acc ys/\rO src ow ix tt te σw Qw (src.ws.drop i) acc h',
  ⟨src.ws.length,by simp,TF _,Ij _,cR,μ1.hide D,[],h1,hD1,R1.hide hD,.inl rfl,.nil,by rw [List.drop_zero];exact m1⟩,?_⟩
 rintro i n' ys H2 ⟨hn,hle,hys,hH2,μ2,acc,h2,e2,R2,hid2,ra,m2⟩ _
 by_cases hlt:i<src.ws.length
 ·rw [List.drop_eq_getElem_cons hlt] at m2
  obtain ⟨ck,m2⟩:=Src.go_ok m2
  obtain ⟨hgo,hy⟩:=(ok e2 R2 ck).1 src.ws[i] (KY hlt)
  refine .inr ⟨hgo,by lia,fun x H3 y=>?_⟩
  obtain ⟨μ3,e3,R3,rx⟩:=hy x H3 y
  have e13:=e2.trans e3
  cases eo:ow src.ws[i] with
  | none=>rw [eo] at m2;exact m2.elim
  | some us=>
   rw [eo] at m2
   obtain ⟨vs,hov,hvl,rvs⟩:=oo rx eo
   have S3:=(S.ext (e1.trans e13)).blk (ix:=ix) rvs
   refine ⟨vs,hov,hvl,μ3,h2,_,_,R3,S3,m2,fun b H4 ⟨μ4,h4,e4,R4,m4⟩=>?_⟩
   have e24:=e3.trans e4
   obtain ⟨hid4,hH4⟩:=e24.o D _ hid2 hH2
   cases b with
   | false=>
    dsimp only
    rw [if_neg Nb]
    exact ⟨hH4,src.ws.length - (i+1),by lia,rfl,hlt,by lia,hH4,μ4,acc,h4,e2.trans e24,R4,hid4,e24.s ra,m4⟩
   | true=>
    dsimp only
    rw [if_pos rfl]
    refine ⟨μ4,h4,_,_,R4,S3.ext e4,m4,fun v H5 ⟨μ5,w5,h5,e5,R5,r5,m5⟩=>?_⟩
    have e25:=e24.trans e5
    obtain ⟨hid5,hH5⟩:=e25.o D _ hid2 hH2
    have g:=WM.grow (ys:=ys++[v]) R5 hid5
    have rs:aU K (IW H5 D (.lst (ys++[v]))) μ5 (acc++[w5]) (ys++[v]):=aU.ex (Ex0.grow R5 hid5) (aU.append (e25.s ra) (aU.one r5))
    exact ⟨hH5,src.ws.length - (i+1),by lia,rfl,hlt,by rw [Oj];simp;lia,cR,μ5,acc++[w5],h5,(e2.trans e25).x nD g,R5.grow hid5,hid5,rs,m5⟩
 ·have ei:i=src.ws.length:=by lia
  subst ei
  rw [List.drop_length] at m2
  obtain ⟨ck,m2⟩:=Src.go_ok m2
  exact .inl ⟨(ok e2 R2 ck).2 (Ij _),k _ _ ⟨μ2.unhide D,.lst acc,h2,e1.trans (e2.x nD .unhide),R2.unhide,Aq.built R2 hid2 hH2 ra,m2⟩⟩
variable {scope:Scope}{x:Str}{xs:List Str}{ix:List Nat}{elt iter:Expr}{ifs:List Expr}{px:Pos}{mi:MI}{tt:MT}{te:ME}
theorem gG (B:pC X scope [x] ix)(C:Addr)(s:AP)(H:Hp)(fp:List Addr):PG (blk X scope (mJ X [x] ix) C s H fp) (.Name x px) (VR 1 ov1):=by
 obtain ⟨o1,o2⟩:=Mp B (y:=x) (by simp)
 intro pins s' σ H' v u Q I r ⟨vs,hv,hl,q⟩
 cases hv
 refine bx (X:=blk X scope (mJ X [x] ix) C s H fp) (i:=0) B.nd rfl o1 o2 pins s' σ H' v u Q I r ?_
 have hlen:σ.length=(mJ X [x] ix).length:=I.len
 cases σ with
 | nil=>simp at hlen
 | cons o σ=>exact q
theorem ZF {y:Str}{py pt:Pos}{kt:Nat}(hc:X.calm=true)(B:pC X scope [x,y] ix)(C:Addr)(s:AP)(H:Hp)(fp:List Addr)
  (h1:∀ env,(MH [.Name x px,.Name y py] env).map (·.2)=assign (.Name x px) env::(MH [.Name y py] env).map (·.2):=by intro _;rfl)
  (h2:∀ env,(MH [.Name y py] env).map (·.2)=assign (.Name y py) env::(MH [] env).map (·.2):=by intro _;rfl)
  (h3:∀ env,(MH [.Name x px,.Name y py] env).length=2:=by intro _;rfl) (h4:∀ env,(MH [.Name x px,.Name y py] env).findIdx? (·.1)=FN:=by intro _;rfl) :
  PG (blk X scope (mJ X [x,y] ix) C s H fp) (.Tuple [.Name x px,.Name y py] kt pt) (VR 2 (ovT X.K)):=by
 obtain ⟨o1,u1⟩:=Mp B (y:=x) (by simp)
 obtain ⟨o2,u2⟩:=Mp B (y:=y) (by simp)
 intro pins s' σ H' v u Q I r ⟨vs,⟨a,ea,ha⟩,hl,q⟩
 have hlen:σ.length=(mJ X [x,y] ix).length:=I.len
 refine W5 (X:=blk X scope (mJ X [x,y] ix) C s H fp) (n:=2) hc (zK (bx (i:=0) B.nd rfl o1 u1) (zK (bx (i:=1) B.nd rfl o2 u2) JH (h2 _)) (h1 _)) (h3 _) (h4 _) pins s' σ H' v u Q I r ?_
 refine ⟨a,vs,ea,ha,hl,?_⟩
 match vs,hl,q with
 | [v1,v2],_,q=>
  match σ,hlen,q with
  | [],hlen,_=>simp at hlen
  | [_],hlen,_=>simp at hlen
  | _::_::σ,_,q=>exact ⟨v1,[v2],rfl,v2,[],rfl,rfl,q⟩
theorem zy {own:V->Hp->List V->Prop}{ow:W->Option (List W)}(ix:List Nat)(hc:X.calm=true)(B:pC X scope xs ix)(oo:Jq X.K xs.length own ow)(hg:∀ C s H fp,PG (blk X scope (mJ X xs ix) C s H fp) tg (VR xs.length own))(hi:Te X tg iter mi)
  (ht:∀ C s H fp,aaT (blk X scope (mJ X xs ix) C s H fp) ifs tt) (he:∀ C s H fp,DE (blk X scope (mJ X xs ix) C s H fp) elt te)
  (hs:∀ v,Uq iter X.env v=pure v:=by intro _;rfl):DE X (.ListComp elt [⟨tg,iter,ifs,0⟩] scope pos) (Ih ow ix mi tt te):=(acw ix hc B hg hi ht he hs).of fun _ _ _ q=>YW oo q
theorem zj {own:V->Hp->List V->Prop}{ow:W->Option (List W)}(ix:List Nat){i:Nat}{y:Str}{py spos:Pos}(hN:X.N.Nodup)(hi':X.N[i]?=Dn y)(hy:Loc X.env.scope y)(hc:X.calm=true)(B:pC X scope xs ix)(oo:Jq X.K xs.length own ow)
  (hg:∀ C s H fp,PG (blk X scope (mJ X xs ix) C s H fp) tg (VR xs.length own)) (hi:Te X tg iter mi)
  (ht:∀ C s H fp,aaT (blk X scope (mJ X xs ix) C s H fp) ifs tt) (he:∀ C s H fp,DE (blk X scope (mJ X xs ix) C s H fp) elt te)
  (hsw:swapsWith (.ListComp elt [⟨tg,iter,ifs,0⟩] scope pos) (Dn (.Name y py)) spos.line X.env=pure true:=by rfl)
  (hf:X.fn y=true\/X.env.scope.names.lookup y=Dn .local:=by first | exact .inl rfl | exact .inr rfl | assumption)
  (hs:∀ v,Uq iter X.env v=pure v:=by intro _;rfl):DS X (.Assign [.Name y py] (.ListComp elt [⟨tg,iter,ifs,0⟩] scope pos) spos) (bW (Ih ow ix mi tt te) (JI i)):=
 (abn ix hN hi' hy hc B hg hi ht he hsw hf hs).of fun _ _ _ q=>RJ (fun _ _ _ z=>YW oo z) q
theorem aa2 {κ : Type}{K:BZ}{H0 H:Hp}{μ0 μ : Mu}{k:Nat}(hd:∀ n p,μ0.f n=Dn p->n<k):∀ {fs:List (κ×W)} {f0 fv:List (κ×V)},Xi K H0 μ0 fs f0->Xi K H μ fs fv->Xi K H (μ.cut k) fs fv
 | [],_,_,_,.nil=>.nil
 | _::_,_,_,.cons a b,.cons c d=>.cons ⟨c.1,Aq.cut c.2 (Aq.lo hd a.2)⟩ (aa2 hd b d)
def Dh (pure:Bool)(h:Gh)(w:W)(h':Gh)(Q:WK):Prop:=match pure with
 | false=>Q w h'
 | true=>(∀ n c,n<h.nx->h.c n=Dn c->h'.c n=Dn c)/\((Lo h.nx w/\Q w h)\/∃ n ws,w=.loc n/\h.nx<=n/\h'.c n=Dn (.lst ws)/\Kr h.nx ws/\Q (.lst ws) h)
def Ey (n N:Nat)(pure:Bool)(body:Bq->MS):Mk:=fun ws h Q E=>JZ (Mj ws.length n)
 (body E { nx:=fun _ h'=>Dh pure h .non h' Q,rt:=fun w h'=>Dh pure h w h' Q } (ws.map Dn++Qg (N - ws.length) FN) h) False
theorem Q5 {n N:Nat}{pure:Bool}{body:Bq->MS}{ws:List W}{h:Gh}{Q:WK}{E:Bq}(x:Ey n N pure body ws h Q E):ws.length=n /\
  body E { nx:=fun _ h'=>Dh pure h .non h' Q,rt:=fun w h'=>Dh pure h w h' Q } (ws.map Dn++Qg (N - ws.length) FN) h:=by
 unfold Ey at x
 cases e:Mj ws.length n with
 | true=>rw [e] at x;exact ⟨V8 e,x⟩
 | false=>rw [e] at x;exact (show False from x).elim
theorem Em.cut {K:BZ}{H H':Hp}{μ μ':Mu}{h h':Gh}(R:Em K μ H h)(R':Em K μ' H' h')(e:Jb K H μ H' μ')(hc:∀ n c,h.c n=Dn c->h'.c n=Dn c):Em K (μ'.cut h.nx) H' h where
 inj:=fun m n p a b=>R'.inj m n p (Mu.cut_some a).2 (Mu.cut_some b).2
 dom:=fun n p a=>(Mu.cut_some a).1
 trk:=fun n p a=>R'.trk n p (Mu.cut_some a).2
 cel:=fun n c a=>by
  obtain ⟨p0,m0,x0⟩:=R.cel n c a
  obtain ⟨p,m,x⟩:=R'.cel n c (hc n c a)
  have hn:=R.dom n p0 m0
  refine ⟨p,by show (if n<h.nx then μ'.f n else FN)=Dn p;rw [if_pos hn];exact m,?_⟩
  cases c with
  | lst ws=>
   obtain ⟨xs0,_,r0⟩:=x0
   obtain ⟨xs,hx,r⟩:=x
   exact ⟨xs,hx,aU.cut r (aU.lo R.dom r0)⟩
  | obj C fs=>
   obtain ⟨dx0,f0,_,r0⟩:=x0
   obtain ⟨dx,fv,hx,r⟩:=x
   exact ⟨dx,fv,hx,aa2 R.dom r0 r⟩
  | dct kvs=>
   obtain ⟨f0,_,r0⟩:=x0
   obtain ⟨fv,hx,r⟩:=x
   exact ⟨fv,hx,aa2 R.dom r0 r⟩
  | dtt kvs=>
   obtain ⟨_,_,_,_,_,d0,f0⟩:=x0
   obtain ⟨xs,vs,a,b,c,d,f⟩:=x
   exact ⟨xs,vs,a,b,c,aU.cut d (aU.lo R.dom d0),aU.cut f (aU.lo R.dom f0)⟩
 hd:=fun p z=>⟨(R'.hd p z).1,fun n a=>(R'.hd p z).2 n (Mu.cut_some a).2⟩
theorem Jb.cut {K:BZ}{H H':Hp}{μ μ':Mu}{h:Gh}(R:Em K μ H h)(e:Jb K H μ H' μ'):Jb K H μ H' (μ'.cut h.nx):=
 ⟨fun w v r=>Aq.cut (e.r w v r) (Aq.lo R.dom r),fun p u z a=>e.o p u z a⟩
theorem Nq {K:BZ}{H H':Hp}{μ μ':Mu}{h h':Gh}{w:W}{v:V}{Q:WK}{pure:Bool}(R:Em K μ H h)(e:Jb K H μ H' μ')(R':Em K μ' H' h')(r:Aq K H' μ' w v)(x:Dh pure h w h' Q):DQ K H μ Q v H':=by
 cases pure with
 | false=>exact ⟨μ',w,h',e,R',r,x⟩
 | true=>
  obtain ⟨hc0,⟨lo,q⟩ | ⟨n,ws,ew,hn,ec,lo,q⟩⟩:=x
  all_goals have hc:∀ n c,h.c n=Dn c->h'.c n=Dn c:=fun n c a=>hc0 n c (let ⟨p,m,_⟩:=R.cel n c a;R.dom n p m) a
  ·exact ⟨μ'.cut h.nx,w,h,e.cut R,R.cut R' e hc,Aq.cut r lo,q⟩
  ·subst ew
   refine ⟨μ'.cut h.nx,.lst ws,h,e.cut R,R.cut R' e hc,?_,q⟩
   rw [Aq] at r
   rw [Aq]
   obtain ⟨p,ev,hm⟩:=r
   obtain ⟨p',xs,hm',hx,rs⟩:=R'.lstAt ec
   have ep:p'=p:=by rw [hm] at hm';exact (Ja hm').symm
   subst ep
   refine ⟨p',xs,ev,⟨hx,fun m a=>?_,fun z=>(R'.hd p' z).2 n hm⟩,aU.cut rs lo⟩
   obtain ⟨a1,a2⟩:=Mu.cut_some a
   have:=R'.inj m n p' a2 hm
   lia
theorem zaq {K:BZ}{H:Hp}{μ : Mu}{N:List Str}:∀ {ws:List W} {vs:List V},aU K H μ ws vs->Slots K H μ (ws.map Dn++Qg (N.length - ws.length) FN) (start N vs):=by
 intro ws vs r
 have hl:=r.len
 refine ⟨by simp [start,hl],fun i w q=>?_⟩
 by_cases hi:i<ws.length
 ·rw [Tt (by simpa using hi),ML] at q
  have q':ws[i]?=Dn w:=by
   cases e:ws[i]? with
   | none=>rw [e] at q;cases q
   | some a=>rw [e] at q;simpa using q
  obtain ⟨v,hv,rv⟩:=r.get q'
  refine ⟨v,?_,rv⟩
  unfold start
  rw [Tt (by rw [Iu];lia),ML,hv]
  rfl
 ·rw [TX (by simpa using hi),Vb] at q
  split at q <;> cases q
theorem d9 {P:Dr}{w:Ci}{K:BZ}{mg:Str->Option FX}{base:Heap}{x qual:Str}{st:Stmt}{f:Addr}{fd:DR}{N ps:List Str}{k:Nat}{pure:Bool}{body:Bq->MS}(F:HX K x qual st f fd)(S:aN N ps (aJ st))
  (hb:∀ (cdv:FX) (A:Dp) (outer:List Env) (s:AP) (H:Hp) (E:XK),ud k (A.deeper (envOfC qual (aJ st) s.heap.objs.size f cdv)) ->
   T3 (Ur Ea P w K mg base N qual (aJ st) f cdv A outer s H E).nox (oM st) (body EF)):cA P w K mg base Ea (k+1) f fd ps (lift K (Ey ps.length N.length pure body)):=by
 refine F.ok S (fun vs H Q E ⟨μ,h,ws,Qw,R,r,m,k⟩=>by rw [<-r.len];exact (Q5 m).1) (fun cdv A outer s H vs Q E hr ⟨μ,h,ws,Qw,R,r,m0,k⟩=>?_)
 obtain ⟨hl,m⟩:=Q5 m0
 refine ⟨_,hb cdv A outer s H E hr,μ,h,_,_,R,zaq r,m,?_,?_,?_,?_⟩
 ·rintro σ' H' ⟨μ1,σw1,h1,e1,R1,S1,m1⟩
  exact k _ _ (Nq (w:=.non) R e1 R1 (by rw [Aq]) m1)
 ·rintro v H' ⟨μ1,w1,h1,e1,R1,r1,m1⟩
  exact k _ _ (Nq R e1 R1 r1 m1)
 ·rintro σ' H' ⟨μ1,σw1,h1,e1,R1,S1,m1⟩
  exact m1.elim
 ·rintro σ' H' ⟨μ1,σw1,h1,e1,R1,S1,m1⟩
  exact m1.elim
end
section
variable {X:Cx}{K:BZ}
theorem DQ.int {H:Hp}{μ : Mu}{h:Gh}{i:Int}{Q:WK}(R:Em K μ H h)(q:Q (.int i) h):DQ K H μ Q (.int i) H:=⟨μ,.int i,h,.refl,R,by rw [Aq],q⟩
theorem DQ.bl {H:Hp}{μ : Mu}{h:Gh}{i:Bool}{Q:WK}(R:Em K μ H h)(q:Q (.bl i) h):DQ K H μ Q (.bl i) H:=⟨μ,.bl i,h,.refl,R,by rw [Aq],q⟩
def zae (C:Int->Int->Prop)(g:Int->Int->Int):M2:=fun x y h Q=>match x,y with
 | .int i,.int j=>C i j/\Q (.int (g i j)) h
 | _,_=>False
def wI:M2:=fun x y h Q=>match x,y with
 | .int i,.int j=>Q (.int (i - j)) h
 | _,_=>False
theorem nU:Nk X (N7 .Sub) wI:=⟨_,Zc,by
 intro H μ h x y wx wy Qw Q R rx ry m k
 unfold wI at m
 split at m
 ·rw [Aq] at rx ry
  exact ⟨_,_,rx,ry,k _ _ (.int R m)⟩
 ·exact m.elim⟩
def eZ:M2:=fun x y h Q=>match x,y with
 | .int i,.int j=>iT i j/\Q (.int (i*j)) h
 | _,_=>False
theorem cL:Nk X (N7 .Mult) eZ:=⟨_,ahE,by
 intro H μ h x y wx wy Qw Q R rx ry m k
 unfold eZ at m
 split at m
 ·rw [Aq] at rx ry
  exact ⟨_,_,rx,ry,m.1,k _ _ (.int R m.2)⟩
 ·exact m.elim⟩
def Dl:M2:=fun x y h Q=>match x,y with
 | .int i,.int j=>Gq i j/\Q (.int (i.fdiv j)) h
 | _,_=>False
theorem Ez:Nk X (N7 .FloorDiv) Dl:=⟨_,zaE,by
 intro H μ h x y wx wy Qw Q R rx ry m k
 unfold Dl at m
 split at m
 ·rw [Aq] at rx ry
  exact ⟨_,_,rx,ry,m.1,k _ _ (.int R m.2)⟩
 ·exact m.elim⟩
def uF:M2:=fun x y h Q=>match x,y with
 | .int i,.int j=>j≠0/\Q (.int (i.fmod j)) h
 | _,_=>False
theorem rH:Nk X (N7 .Mod) uF:=⟨_,agV,by
 intro H μ h x y wx wy Qw Q R rx ry m k
 unfold uF at m
 split at m
 ·rw [Aq] at rx ry
  exact ⟨_,_,rx,ry,m.1,k _ _ (.int R m.2)⟩
 ·exact m.elim⟩
def QC:M2:=fun x y h Q=>match x,y with
 | .int i,.int j=>ach i j/\Q (.int (i^j.toNat)) h
 | _,_=>False
theorem Iz:Nk X (N7 .Pow) QC:=⟨_,ZP,by
 intro H μ h x y wx wy Qw Q R rx ry m k
 unfold QC at m
 split at m
 ·rw [Aq] at rx ry
  exact ⟨_,_,rx,ry,m.1,k _ _ (.int R m.2)⟩
 ·exact m.elim⟩
def kLt:M2:=fun x y h Q=>match x,y with
 | .int i,.int j=>Q (.bl (decide (i<j))) h
 | _,_=>False
theorem WT:Nk X (M8 .Lt) kLt:=⟨_,abd,by
 intro H μ h x y wx wy Qw Q R rx ry m k
 unfold kLt at m
 split at m
 ·rw [Aq] at rx ry
  exact ⟨_,_,rx,ry,k _ _ (.bl R m)⟩
 ·exact m.elim⟩
def Pa:M2:=fun x y h Q=>match x,y with
 | .int i,.int j=>Q (.bl (decide (j<i))) h
 | _,_=>False
theorem RZ:Nk X (M8 .Gt) Pa:=⟨_,abx,by
 intro H μ h x y wx wy Qw Q R rx ry m k
 unfold Pa at m
 split at m
 ·rw [Aq] at rx ry
  exact ⟨_,_,rx,ry,k _ _ (.bl R m)⟩
 ·exact m.elim⟩
theorem aU.ne_nil {H:Hp}{μ : Mu}{ws:List W}{xs:List V}(r:aU K H μ ws xs):xs=[]↔ws=[]:=by
 have:=r.len
 constructor
 ·intro e;subst e;exact List.eq_nil_of_length_eq_zero this
 ·intro e;subst e;exact List.eq_nil_of_length_eq_zero this.symm
def CG:M2:=fun x y h Q=>match y with
 | .int i=>(match view h x with
  | some ws=>(match Ks ws i with
   | some w=>Q w h
   | none=>False)
  | none=>False)
 | _=>False
theorem aU.at {H:Hp}{μ : Mu}{ws:List W}{xs:List V}{i:Int}{w:W}(r:aU K H μ ws xs)(e:Ks ws i=Dn w):∃ v,Ks xs i=Dn v/\Aq K H μ w v:=by
 unfold Ks at e |-
 rw [<-r.len]
 cases q:Pb ws.length i with
 | none=>rw [q] at e;cases e
 | some j=>rw [q] at e;exact r.get e
theorem dU {H:Hp}{μ : Mu}{h:Gh}{w:W}{v:V}{ws:List W}(R:Em K μ H h)(r:Aq K H μ w v)(e:fG h w=Dn ws):∃ p xs,v=.ref p/\Je K H p xs/\aU K H μ ws xs:=by
 cases w with
 | lst us=>
  rw [Aq] at r
  obtain ⟨p,xs,ev,hs,rs⟩:=r
  cases (show Dn us=Dn ws from e)
  exact ⟨p,xs,ev,hs.sq,rs⟩
 | kls us=>
  rw [Aq] at r
  obtain ⟨p,xs,ev,hs,rs⟩:=r
  cases (show Dn us=Dn ws from e)
  exact ⟨p,xs,ev,hs.sq,rs⟩
 | loc n=>
  rw [Aq] at r
  obtain ⟨p,ev,hm⟩:=r
  unfold fG at e
  dsimp only at e
  cases ec:h.c n with
  | none=>rw [ec] at e;cases e
  | some cl=>
   rw [ec] at e
   cases cl with
   | lst us=>
    cases (show Dn us=Dn ws from e)
    obtain ⟨p',xs,hm',hx,rs⟩:=R.lstAt ec
    have ep:p'=p:=by rw [hm] at hm';exact (Ja hm').symm
    subst ep
    exact ⟨p',xs,ev,.of hx,rs⟩
   | _=>cases e
 | _=>cases e
theorem vf {H:Hp}{μ : Mu}{h:Gh}{w:W}{v:V}{ws:List W}(R:Em K μ H h)(r:Aq K H μ w v)(e:view h w=Dn ws):∃ p xs,v=.ref p/\(Je K H p xs\/Jg K H p xs)/\aU K H μ ws xs:=by
 cases w with
 | tup us=>
  rw [Aq] at r
  obtain ⟨p,xs,ev,hs,rs⟩:=r
  cases (show Dn us=Dn ws from e)
  exact ⟨p,xs,ev,.inr hs,rs⟩
 | lst us=>
  obtain ⟨p,xs,ev,hs,rs⟩:=dU (ws:=ws) R r e
  exact ⟨p,xs,ev,.inl hs,rs⟩
 | kls us=>
  obtain ⟨p,xs,ev,hs,rs⟩:=dU (ws:=ws) R r e
  exact ⟨p,xs,ev,.inl hs,rs⟩
 | loc n=>
  obtain ⟨p,xs,ev,hs,rs⟩:=dU (ws:=ws) R r e
  exact ⟨p,xs,ev,.inl hs,rs⟩
 | _=>cases e
theorem aad:ady K (rIx K) CG:=by
 intro H μ h x y wx wy Qw Q R rx ry m k
 unfold CG at m
 split at m
 ·rename_i i
  split at m
  ·rename_i ws ev
   split at m
   ·rename_i w ew
    obtain ⟨p,xs,ex,hs,rs⟩:=vf R rx ev
    obtain ⟨v,hv,rv⟩:=rs.at ew
    rw [Aq] at ry
    have fin:=k _ _ ⟨μ,w,h,.refl,R,rv,m⟩
    rcases hs with hs | hs
    ·exact .inl ⟨p,xs,i,v,ex,ry,hs,hv,fin⟩
    ·exact .inr (.inl ⟨p,xs,i,v,ex,ry,hs,hv,fin⟩)
   ·exact m.elim
  ·exact m.elim
 ·exact m.elim
theorem bR {a b:Expr}{ma mb:ME}{pos:Pos}(ha:DE X a ma)(hb:DE X b mb)(hs:Js b):DE X (.Subscript a b pos) (kI CG ma mb):=(ab4 Zf ha hb hs).of fun σ H Q h=>two h fun R r1 r2 m k=>aad R r1 r2 m k
abbrev MO:=Sw->Gh->(Option Int->Gh->Prop)->Prop
def tDO (K:BZ)(m:MO):TO:=fun σ H Q=>∃ μ h σw Qw,Em K μ H h/\Slots K H μ σw σ/\m σw h Qw/\∀ o H',(∃ μ' h',Jb K H μ H' μ'/\Em K μ' H' h'/\Qw o h')->Q o H'
abbrev DO (X:Cx)(e:Option Expr)(m:MO):Prop:=PO X e (tDO X.K m)
theorem PO.of {e:Option Expr}{t t':TO}(h:PO X e t)(k:∀ σ H Q,t' σ H Q->t σ H Q):PO X e t':=by
 unfold PO at h |-
 intros
 apply h <;> first | assumption | (apply k;assumption)
def Jl:MO:=fun _ h Q=>Q FN h
def jD (m:ME):MO:=fun σ h Q=>m σ h fun w h1=>match w with
 | .int i=>Q (Dn i) h1
 | _=>False
theorem afN:DO X FN Jl:=PO.of agE fun σ H Q ⟨μ,h,σw,Qw,R,S,m,k⟩=>k _ _ ⟨μ,h,.refl,R,m⟩
theorem eV {e:Expr}{ma:ME}(he:DE X e ma):DO X (Dn e) (jD ma):=PO.of (ahv he) fun σ H Q ⟨μ,h,σw,Qw,R,S,m,k⟩=>by
 refine ⟨μ,h,σw,_,R,S,m,fun v H1 ⟨μ1,w,h1,e1,R1,r1,m1⟩=>?_⟩
 split at m1
 ·rw [Aq] at r1;exact ⟨_,r1,k _ _ ⟨μ1,h1,e1,R1,m1⟩⟩
 ·exact m1.elim
def M5 (xs:List W)(lo hi:Option Int):List W:=(xs.drop (HT.sIx xs.length 0 lo)).take (HT.sIx xs.length xs.length hi - HT.sIx xs.length 0 lo)
def kSl (x:W)(lo hi:Option Int)(h:Gh)(Q:WK):Prop:=match x with
 | .tup ws=>¬ (HT.sIx ws.length 0 lo=0/\HT.sIx ws.length ws.length hi=ws.length)/\Q (.tup (M5 ws lo hi)) h
 | x=>(match fG h x with
  | some ws=>Q (.lst (M5 ws lo hi)) h
  | none=>False)
def PX (r:W->Option Int->Option Int->Gh->WK->Prop)(m:ME)(l u:MO):ME:=fun σ h Q=>m σ h fun x h1=>l σ h1 fun lo h2=>u σ h2 fun hi h3=>r x lo hi h3 Q
theorem aU.cutv {H:Hp}{μ : Mu}{ws:List W}{xs:List V}(r:aU K H μ ws xs)(lo hi:Option Int):aU K H μ (M5 ws lo hi) (O6 xs lo hi):=by
 unfold M5 O6
 rw [<-r.len]
 exact (r.drop _).take _
end
mutual
def Ce:W->W->Bool
 | .non,.non=>true
 | .bl a,.bl b=>a==b
 | .bl a,.int b=>(if a then 1 else 0)==b
 | .int a,.bl b=>a==(if b then 1 else 0)
 | .int a,.int b=>a==b
 | .str a,.str b=>a==b
 | .tup a,.tup b=>tQ a b
 | .lst a,.lst b=>tQ a b
 | _,_=>false
def tQ:List W->List W->Bool
 | [],[]=>true
 | a::as,b::bs=>Ce a b&&tQ as bs
 | _,_=>false
end
def Ed:Nat->W->Bool
 | _,.non=>true
 | _,.bl _=>true
 | _,.int _=>true
 | _,.str _=>true
 | n+1,.tup ws=>ws.all (Ed n)
 | n+1,.lst ws=>ws.all (Ed n)
 | _,_=>false
mutual
def Dt (K:BZ)(H:Hp):W->V->Prop
 | .non,v=>v=.non
 | .bl b,v=>v=.bl b
 | .int i,v=>v=.int i
 | .str x,v=>v=.str x
 | .tup ws,v=>∃ p xs,v=.ref p/\Jg K H p xs/\Jf K H ws xs
 | .lst ws,v=>∃ p xs,v=.ref p/\Je K H p xs/\Jf K H ws xs
 | .ty _,_=>False
 | .kls _,_=>False
 | .loc _,_=>False
 | .exc _,_=>False
 | .exa _ _,_=>False
 | .fnv _ _,_=>False
def Jf (K:BZ)(H:Hp):List W->List V->Prop
 | [],xs=>xs=[]
 | w::ws,xs=>∃ v vs,xs=v::vs/\Dt K H w v/\Jf K H ws vs
end
section
variable {X:Cx}{K:BZ}{H:Hp}{μ : Mu}{h:Gh}
theorem Jf.len:∀ {ws:List W} {xs:List V},Jf K H ws xs->ws.length=xs.length
 | [],xs,h=>by
  have e:xs=[]:=by rw [Jf] at h;exact h
  rw [e];rfl
 | w::ws,xs,h=>by
  rw [Jf] at h
  obtain ⟨v,vs,e,_,h⟩:=h
  rw [e,S6,S6,Jf.len h]
theorem Jf.get:∀ {ws:List W} {xs:List V} {i:Nat} {w:W},Jf K H ws xs->ws[i]?=Dn w->∃ v,xs[i]?=Dn v/\Dt K H w v
 | [],_,_,_,_,e=>by simp at e
 | a::ws,xs,0,w,h,e=>by
  rw [Jf] at h
  obtain ⟨v,vs,e1,r,_⟩:=h
  simp at e;subst e;subst e1
  exact ⟨v,rfl,r⟩
 | a::ws,xs,i+1,w,h,e=>by
  rw [Jf] at h
  obtain ⟨v,vs,e1,_,h⟩:=h
  subst e1
  obtain ⟨u,h1,h2⟩:=Jf.get (i:=i) (w:=w) h (by simpa using e)
  exact ⟨u,by simpa using h1,h2⟩
theorem yO {n:Nat}(one:∀ {w:W} {v:V},Aq K H μ w v->Ed n w=true->Dt K H w v):∀ {ws:List W} {xs:List V},aU K H μ ws xs->ws.all (Ed n)=true->Jf K H ws xs
 | [],_,h,_=>by rw [aU] at h;rw [Jf];exact h
 | w::ws,_,h,p=>by
  rw [aU] at h
  rw [Jf]
  obtain ⟨v,vs,e,r,h⟩:=h
  rw [Ua,O7] at p
  exact ⟨v,vs,e,one r p.1,yO one h p.2⟩
theorem Jh:∀ (n:Nat) {w:W} {v:V},Aq K H μ w v->Ed n w=true->Dt K H w v:=by
 intro n
 induction n with
 | zero=>
  intro w v r p
  cases w with
  | non=>rw [Aq] at r;rw [Dt];exact r
  | bl _=>rw [Aq] at r;rw [Dt];exact r
  | int _=>rw [Aq] at r;rw [Dt];exact r
  | str _=>rw [Aq] at r;rw [Dt];exact r
  | _=>simp [Ed] at p
 | succ n ih=>
  intro w v r p
  cases w with
  | non=>rw [Aq] at r;rw [Dt];exact r
  | bl _=>rw [Aq] at r;rw [Dt];exact r
  | int _=>rw [Aq] at r;rw [Dt];exact r
  | str _=>rw [Aq] at r;rw [Dt];exact r
  | tup ws=>
   rw [Aq] at r;rw [Dt]
   obtain ⟨p',xs,e,hs,rs⟩:=r
   exact ⟨p',xs,e,hs,yO ih rs (by simpa [Ed] using p)⟩
  | lst ws=>
   rw [Aq] at r;rw [Dt]
   obtain ⟨p',xs,e,hs,rs⟩:=r
   exact ⟨p',xs,e,hs.sq,yO ih rs (by simpa [Ed] using p)⟩
  | _=>simp [Ed] at p
theorem z7:∀ {a b:List W},a.length≠b.length->tQ a b=false
 | [],[],h=>absurd rfl h
 | [],_::_,_=>by simp [tQ]
 | _::_,[],_=>by simp [tQ]
 | a::as,b::bs,h=>by
  rw [tQ,z7 (a:=as) (b:=bs) (by simpa using h),Bool.and_false]
def Zz (a b:List W)(j:Nat):Bool:=Ce (a.getD j .non) (b.getD j .non)
theorem Af:∀ {a b:List W},a.length=b.length->(O9 a.length).all (Zz a b)=tQ a b
 | [],[],_=>by simp [tQ]
 | [],_::_,h=>by simp at h
 | _::_,[],h=>by simp at h
 | a::as,b::bs,h=>by
  rw [tQ,<-Af (a:=as) (b:=bs) (by simpa using h),S6,List.range_succ_eq_map,Ua,List.all_map]
  rfl
mutual
theorem Gk {pins:List (Addr×Obj)}{s:AP}{σ : St}(I:BL X pins σ H s):∀ {w u:W} {v:V},Dt X.K H w v->Dt X.K H u v->Ce w u=true
 | .non,u,v,h,g=>by rw [Dt] at h;subst h;cases u <;> rw [Dt] at g <;> first | rfl | exact g.elim | (obtain ⟨_,_,g,_⟩:=g;cases g;done) | (cases g;done)
 | .bl b,u,v,h,g=>by rw [Dt] at h;subst h;cases u <;> rw [Dt] at g <;> first | (injection g with g;simp [Ce,g];done) | exact g.elim | (obtain ⟨_,_,g,_⟩:=g;cases g;done) | (cases g;done)
 | .int b,u,v,h,g=>by rw [Dt] at h;subst h;cases u <;> rw [Dt] at g <;> first | (injection g with g;simp [Ce,g];done) | exact g.elim | (obtain ⟨_,_,g,_⟩:=g;cases g;done) | (cases g;done)
 | .str b,u,v,h,g=>by rw [Dt] at h;subst h;cases u <;> rw [Dt] at g <;> first | (injection g with g;simp [Ce,g];done) | exact g.elim | (obtain ⟨_,_,g,_⟩:=g;cases g;done) | (cases g;done)
 | .tup ws,u,v,h,g=>by
  rw [Dt] at h
  obtain ⟨p,xs,e,hs,ds⟩:=h
  subst e
  cases u with
  | tup us=>
   rw [Dt] at g
   obtain ⟨p',xs',e',hs',ds'⟩:=g
   cases e'
   have:=I.tuple_inj hs hs'
   subst this
   rw [Ce]
   exact vd I ds ds'
  | lst us=>
   rw [Dt] at g
   obtain ⟨p',xs',e',hs',ds'⟩:=g
   cases e'
   obtain ⟨_,_,t,_⟩:=I.tuple hs
   obtain ⟨_,_,l,_⟩:=I.list hs'
   exact absurd rfl (Va l.isList (show s.heap.IsTuple _ _ from t))
  | ty _=>rw [Dt] at g;exact g.elim
  | loc _=>rw [Dt] at g;exact g.elim
  | kls _=>rw [Dt] at g;exact g.elim
  | _=>rw [Dt] at g;cases g
 | .lst ws,u,v,h,g=>by
  rw [Dt] at h
  obtain ⟨p,xs,e,hs,ds⟩:=h
  subst e
  cases u with
  | lst us=>
   rw [Dt] at g
   obtain ⟨p',xs',e',hs',ds'⟩:=g
   cases e'
   have:=I.list_inj hs hs'
   subst this
   rw [Ce]
   exact vd I ds ds'
  | tup us=>
   rw [Dt] at g
   obtain ⟨p',xs',e',hs',ds'⟩:=g
   cases e'
   obtain ⟨_,_,t,_⟩:=I.tuple hs'
   obtain ⟨_,_,l,_⟩:=I.list hs
   exact absurd rfl (Va l.isList (show s.heap.IsTuple _ _ from t))
  | ty _=>rw [Dt] at g;exact g.elim
  | loc _=>rw [Dt] at g;exact g.elim
  | kls _=>rw [Dt] at g;exact g.elim
  | _=>rw [Dt] at g;cases g
 | .ty _,_,_,h,_=>by rw [Dt] at h;exact h.elim
 | .loc _,_,_,h,_=>by rw [Dt] at h;exact h.elim
 | .exc _,_,_,h,_=>by rw [Dt] at h;exact h.elim
 | .exa _ _,_,_,h,_=>by rw [Dt] at h;exact h.elim
 | .kls _,_,_,h,_=>by rw [Dt] at h;exact h.elim
theorem vd {pins:List (Addr×Obj)}{s:AP}{σ : St}(I:BL X pins σ H s):∀ {ws us:List W} {vs:List V},Jf X.K H ws vs->Jf X.K H us vs->tQ ws us=true
 | [],us,vs,h,g=>by
  rw [Jf] at h;subst h
  cases us with
  | nil=>rfl
  | cons _ _=>rw [Jf] at g;obtain ⟨_,_,g,_⟩:=g;cases g
 | w::ws,us,vs,h,g=>by
  rw [Jf] at h
  obtain ⟨v,vs',e,h1,h2⟩:=h
  subst e
  cases us with
  | nil=>rw [Jf] at g;cases g
  | cons u us=>
   rw [Jf] at g
   obtain ⟨v',vs'',e',g1,g2⟩:=g
   cases e'
   rw [tQ,Gk I h1 g1,vd I h2 g2]
   rfl
end
theorem in1_units {A:Dp}:A.in1.units=A.units+1:=rfl
theorem ahk {n:Nat}{ws:List W}(h:Ed n (.lst ws)=true):∃ m,n=m+1/\ws.all (Ed m)=true:=by
 cases n with
 | zero=>simp [Ed] at h
 | succ m=>exact ⟨m,rfl,by simpa [Ed] using h⟩
theorem G3 {s:AP}{A:Dp}{n:Nat}{ws us:List W}{xs ys:List V}{its jts:List FX}(d1:Jf K H ws xs)(d2:Jf K H us ys)(p1:ws.all (Ed n)=true)(p2:us.all (Ed n)=true)(r1:Bm xs its)(r2:Bm ys jts)
  (one:∀ {w u:W} {v x:V} {a b:FX},Dt K H w v->Dt K H u x->Ed n w=true->Ed n u=true->RelV v a->RelV x b->TY A s a b (Ce w u)) :
  ∀ j (h1:j<its.toArray.size) (h2:j<jts.toArray.size),TY A s its.toArray[j] jts.toArray[j] (Zz ws us j):=by
 intro j h1 h2
 have l1:j<ws.length:=by rw [d1.len,r1.length];simpa using h1
 have l2:j<us.length:=by rw [d2.len,r2.length];simpa using h2
 obtain ⟨v,ev,dv⟩:=d1.get (KY l1)
 obtain ⟨x,ex,dx⟩:=d2.get (KY l2)
 obtain ⟨a,ea,ra⟩:=r1.get ev
 obtain ⟨b,eb,rb⟩:=r2.get ex
 have ea':its.toArray[j]=a:=by simpa using (Ox.mp ea).2
 have eb':jts.toArray[j]=b:=by simpa using (Ox.mp eb).2
 have e:Zz ws us j=Ce ws[j] us[j]:=by
  unfold Zz
  rw [Oc,Oc,KY l1,KY l2]
  rfl
 rw [ea',eb',e]
 exact one dv dx (O8.mp p1 _ (Uy l1)) (O8.mp p2 _ (Uy l2)) ra rb
theorem size_of {ws:List W}{xs:List V}{its:List FX}(d:Jf K H ws xs)(r:Bm xs its):its.toArray.size=ws.length:=by
 rw [d.len,r.length];simp
theorem agY {ws us:List W}:((O9 (min ws.length us.length)).all (Zz ws us)&&ws.length==us.length)=tQ ws us:=by
 by_cases e:ws.length=us.length
 ·rw [<-e,Nat.min_self,Af e];simp
 ·rw [z7 e]
  have e2:(ws.length==us.length)=false:=beq_eq_false_iff_ne.mpr e
  rw [e2,Bool.and_false]
inductive Kd (s:AP):W->FX->Prop where
 | non:Kd s .non .none
 | bl (b:Bool):Kd s (.bl b) (.bool b)
 | int (i:Int) (t:Tok):Kd s (.int i) (.int i t)
 | str (x:Str) (t:Tok):Kd s (.str x) (.str x t)
 | tup (ws:List W) {p:Addr} {its:Array FX} (q:s.heap.IsTuple p its):Kd s (.tup ws) (.ref p)
 | lst (ws:List W) {p:Addr} {its:Array FX} (q:s.heap.IsList p its):Kd s (.lst ws) (.ref p)
theorem Al {pins:List (Addr×Obj)}{s:AP}{σ : St}(I:BL X pins σ H s){w:W}{v:V}{a:FX}(d:Dt X.K H w v)(r:RelV v a):Kd s w a:=by
 cases w with
 | non=>rw [Dt] at d;subst d;cases r;exact .non
 | bl b=>rw [Dt] at d;subst d;cases r;exact .bl b
 | int b=>rw [Dt] at d;subst d;obtain ⟨t,rfl⟩:=r;exact .int b t
 | str b=>rw [Dt] at d;subst d;obtain ⟨t,rfl⟩:=r;exact .str b t
 | tup ws=>rw [Dt] at d;obtain ⟨p,xs,e,hs,_⟩:=d;subst e;cases r;obtain ⟨its,_,q,_⟩:=I.tuple hs;exact .tup ws q
 | lst ws=>rw [Dt] at d;obtain ⟨p,xs,e,hs,_⟩:=d;subst e;cases r;obtain ⟨its,_,q,_⟩:=I.list hs;exact .lst ws q.isList
 | _=>rw [Dt] at d;exact d.elim
def sq1:W->Bool
 | .tup _=>true
 | .lst _=>true
 | _=>false
def vJ:W->W->Bool
 | .tup _,.tup _=>true
 | .lst _,.lst _=>true
 | _,_=>false
def aaS (w u:W):Bool:=!(sq1 w||sq1 u)
open SeqAt.EqAt in
theorem R7 {s:AP}{A:Dp}{w u:W}{a b:FX}(hu:A.units<Lp)(k1:Kd s w a)(k2:Kd s u b)(h:vJ w u=false)(f:aaS w u=false):TY A s a b (Ce w u):=by
 cases k1 <;> cases k2 <;> try (first | (cases h;done) | (cases f;done))
 ·apply none_tuple <;> assumption
 ·apply none_list <;> assumption
 ·apply bool_tuple <;> assumption
 ·apply bool_list <;> assumption
 ·apply int_tuple <;> assumption
 ·apply int_list <;> assumption
 ·apply str_tuple <;> assumption
 ·apply str_list <;> assumption
 ·apply tuple_none <;> assumption
 ·apply tuple_bool <;> assumption
 ·apply tuple_int <;> assumption
 ·apply tuple_str <;> assumption
 ·apply tuple_list <;> assumption
 ·apply list_none <;> assumption
 ·apply list_bool <;> assumption
 ·apply list_int <;> assumption
 ·apply list_str <;> assumption
 ·apply list_tuple <;> assumption
open SeqAt.RcAt in
theorem Xc {s:AP}{A:Dp}{w u:W}{a b:FX}(hu:A.units<Lp)(k1:Kd s w a)(k2:Kd s u b)(h:vJ w u=false):SeqAt.RcAt A s a b (Ce w u):=by
 cases k1 <;> cases k2 <;> try (first | (cases h;done))
 ·apply none_none <;> assumption
 ·apply none_bool <;> assumption
 ·apply none_int <;> assumption
 ·apply none_str <;> assumption
 ·apply none_tuple <;> assumption
 ·apply none_list <;> assumption
 ·apply bool_none <;> assumption
 ·apply bool_bool <;> assumption
 ·apply bool_int <;> assumption
 ·apply bool_str <;> assumption
 ·apply bool_tuple <;> assumption
 ·apply bool_list <;> assumption
 ·apply int_none <;> assumption
 ·apply int_bool <;> assumption
 ·apply int_int <;> assumption
 ·apply int_str <;> assumption
 ·apply int_tuple <;> assumption
 ·apply int_list <;> assumption
 ·apply str_none <;> assumption
 ·apply str_bool <;> assumption
 ·apply str_int <;> assumption
 ·apply str_str <;> assumption
 ·apply str_tuple <;> assumption
 ·apply str_list <;> assumption
 ·apply tuple_none <;> assumption
 ·apply tuple_bool <;> assumption
 ·apply tuple_int <;> assumption
 ·apply tuple_str <;> assumption
 ·apply tuple_list <;> assumption
 ·apply list_none <;> assumption
 ·apply list_bool <;> assumption
 ·apply list_int <;> assumption
 ·apply list_str <;> assumption
 ·apply list_tuple <;> assumption
open SeqAt.RcNeAt in
theorem Xr {s:AP}{A:Dp}{w u:W}{a b:FX}(hu:A.units<Lp)(k1:Kd s w a)(k2:Kd s u b)(h:vJ w u=false):SeqAt.RcNeAt A s a b (!Ce w u):=by
 cases k1 <;> cases k2 <;> try (first | (cases h;done))
 ·apply none_none <;> assumption
 ·apply none_bool <;> assumption
 ·apply none_int <;> assumption
 ·apply none_str <;> assumption
 ·apply none_tuple <;> assumption
 ·apply none_list <;> assumption
 ·apply bool_none <;> assumption
 ·apply bool_bool <;> assumption
 ·apply bool_int <;> assumption
 ·apply bool_str <;> assumption
 ·apply bool_tuple <;> assumption
 ·apply bool_list <;> assumption
 ·apply int_none <;> assumption
 ·apply int_bool <;> assumption
 ·apply int_int <;> assumption
 ·apply int_str <;> assumption
 ·apply int_tuple <;> assumption
 ·apply int_list <;> assumption
 ·apply str_none <;> assumption
 ·apply str_bool <;> assumption
 ·apply str_int <;> assumption
 ·apply str_str <;> assumption
 ·apply str_tuple <;> assumption
 ·apply str_list <;> assumption
 ·apply tuple_none <;> assumption
 ·apply tuple_bool <;> assumption
 ·apply tuple_int <;> assumption
 ·apply tuple_str <;> assumption
 ·apply tuple_list <;> assumption
 ·apply list_none <;> assumption
 ·apply list_bool <;> assumption
 ·apply list_int <;> assumption
 ·apply list_str <;> assumption
 ·apply list_tuple <;> assumption
theorem Cq:∀ {w u:W},vJ w u=true->(∃ ws us,w=.tup ws/\u=.tup us)\/∃ ws us,w=.lst ws/\u=.lst us
 | .tup ws,.tup us,_=>.inl ⟨ws,us,rfl,rfl⟩
 | .lst ws,.lst us,_=>.inr ⟨ws,us,rfl,rfl⟩
def wV:V->W
 | .bl b=>.bl b
 | .int b=>.int b
 | .str b=>.str b
 | _=>.non
theorem abr {v x:V}(h:rC v=true)(g:rC x=true):Ce (wV v) (wV x)=QT v x:=by
 cases v <;> first | (cases h;done) | (cases x <;> first | (cases g;done) | rfl)
theorem RX {w:W}{v:V}(d:Dt K H w v)(h:sq1 w=false):rC v=true/\w=wV v:=by
 cases w with
 | tup _=>cases h
 | lst _=>cases h
 | non=>rw [Dt] at d;subst d;exact ⟨rfl,rfl⟩
 | bl _=>rw [Dt] at d;subst d;exact ⟨rfl,rfl⟩
 | int _=>rw [Dt] at d;subst d;exact ⟨rfl,rfl⟩
 | str _=>rw [Dt] at d;subst d;exact ⟨rfl,rfl⟩
 | _=>rw [Dt] at d;exact d.elim
theorem R9 {s:AP}{A:Dp}{w u:W}{v x:V}{a b:FX}(dw:Dt K H w v)(du:Dt K H u x)(hf:aaS w u=true)(ra:RelV v a)(rb:RelV x b):TY A s a b (Ce w u):=by
 have hf:=Bool.or_eq_false_iff.mp (Eq.mp (Bool.not_eq_true' _) hf)
 have ⟨f1,e1⟩:=RX dw hf.1
 have ⟨f2,e2⟩:=RX du hf.2
 rw [e1,e2,abr f1 f2]
 exact Sd ra rb f1 f2
theorem QX {pins:List (Addr×Obj)}{s:AP}{σ : St}(I:BL X pins σ H s){n:Nat}{A:Dp}{w u:W}{v x:V}{a b:FX}(ih:∀ {w u:W} {v x:V} {a b:FX},Dt X.K H w v->Dt X.K H u x->Ed n w=true->Ed n u=true->RelV v a->RelV x b->TY A.in1 s a b (Ce w u))(hu:A.units<Lp)(h2:vJ w u=true)(dw:Dt X.K H w v)(du:Dt X.K H u x)(pw:Ed (n+1) w=true)(pu:Ed (n+1) u=true)(ra:RelV v a)(rb:RelV x b):∃ p q,v=.ref p/\x=.ref q/\a=.ref p/\b=.ref q/\SeqAt.RcAt A s a b (Ce w u)/\SeqAt.RcNeAt A s a b (!Ce w u):=by
 rcases Cq h2 with ⟨ws,us,rfl,rfl⟩ | ⟨ws,us,rfl,rfl⟩ <;> rw [Dt] at dw du <;> obtain ⟨p,xs1,rfl,hs1,ds1⟩:=dw <;> obtain ⟨q,xs2,rfl,hs2,ds2⟩:=du <;> cases ra <;> cases rb <;> refine ⟨p,q,rfl,rfl,rfl,rfl,?_⟩ <;> rw [Ce] <;> rw [Ed] at pw pu
 ·obtain ⟨its1,rv1,q1,_⟩:=I.tuple hs1
  obtain ⟨its2,rv2,q2,_⟩:=I.tuple hs2
  have it:=G3 ds1 ds2 pw pu rv1 rv2 ih
  rw [<-agY,<-size_of ds1 rv1,<-size_of ds2 rv2]
  exact ⟨.tuples q1 q2 hu it,.tuples q1 q2 hu it⟩
 ·obtain ⟨its1,rv1,q1,_⟩:=I.list hs1
  obtain ⟨its2,rv2,q2,_⟩:=I.list hs2
  by_cases hl:ws.length=us.length
  ·have it:=G3 ds1 ds2 pw pu rv1 rv2 ih
   have e:its1.toArray.size=its2.toArray.size:=by rw [size_of ds1 rv1,size_of ds2 rv2,hl]
   rw [<-Af hl,<-size_of ds1 rv1]
   exact ⟨.lists q1.isList q2.isList e hu it,.lists q1.isList q2.isList e hu it⟩
  ·rw [z7 hl]
   have e:(its1.toArray.size != its2.toArray.size)=true:=by rw [size_of ds1 rv1,size_of ds2 rv2];exact bne_iff_ne.mpr hl
   exact ⟨.lists_lengths q1.isList q2.isList e hu,.lists_lengths q1.isList q2.isList e hu⟩
theorem Mg {w u:W}(h:vJ w u=true):∀ {n:Nat},Ed n w=true->∃ m,n=m+1
 | 0,p=>by rcases Cq h with ⟨_,_,rfl,_⟩ | ⟨_,_,rfl,_⟩ <;> cases p
 | m+1,_=>⟨m,rfl⟩
theorem Vt {pins:List (Addr×Obj)}{s:AP}{σ : St}(I:BL X pins σ H s):∀ (n:Nat) {A:Dp} {w u:W} {v x:V} {a b:FX},A.units+n<Lp->Dt X.K H w v->Dt X.K H u x->Ed n w=true->Ed n u=true->RelV v a->RelV x b->TY A s a b (Ce w u):=by
 intro n
 induction n with
 | zero=>
  intro A w u v x a b hu dw du pw pu ra rb
  by_cases hf:aaS w u=true
  ·exact R9 dw du hf ra rb
  by_cases h2:vJ w u=true
  ·obtain ⟨m,e⟩:=Mg h2 pw
   cases e
  ·exact R7 hu (Al I dw ra) (Al I du rb) (Uo _ ▸ h2) (Uo _ ▸ hf)
 | succ n ih=>
  intro A w u v x a b hu dw du pw pu ra rb
  by_cases hf:aaS w u=true
  ·exact R9 dw du hf ra rb
  by_cases h2:vJ w u=true
  ·have hu':=Tj (Nat.le_add_right _ _) hu
   obtain ⟨p,q,rfl,rfl,rfl,rfl,z,_⟩:=QX I (ih (A:=A.in1) (by rw [in1_units,Nat.add_assoc,Nat.add_comm 1];exact hu)) hu' h2 dw du pw pu ra rb
   by_cases hp:p=q
   ·subst hp;rw [Gk I dw du];exact SeqAt.EqAt.same _
   ·exact SeqAt.EqAt.of_refs hp z
  ·exact R7 (Tj (Nat.le_add_right _ _) hu) (Al I dw ra) (Al I du rb) (Uo _ ▸ h2) (Uo _ ▸ hf)
theorem rcN {pins:List (Addr×Obj)}{s:AP}{σ : St}(I:BL X pins σ H s){m:Nat}{A:Dp}{w u:W}{v x:V}{a b:FX}{p:Prop}(hu:A.units+(m+1)<Lp)(hu':A.units<Lp)(h2:vJ w u=true)(dw:Dt X.K H w v)(du:Dt X.K H u x)(pw:Ed (m+1) w=true)(pu:Ed (m+1) u=true)(ra:RelV v a)(rb:RelV x b)(f:SeqAt.RcAt A s a b (Ce w u)/\SeqAt.RcNeAt A s a b (!Ce w u)->p):p:=by
 obtain ⟨_,_,_,_,_,_,z⟩:=QX I (Vt I m (A:=A.in1) (by rw [in1_units,Nat.add_assoc,Nat.add_comm 1];exact hu)) hu' h2 dw du pw pu ra rb
 exact f z
theorem abU {pins:List (Addr×Obj)}{s:AP}{σ : St}(I:BL X pins σ H s)(n:Nat){A:Dp}{w u:W}{v x:V}{a b:FX}(hu:A.units+n<Lp)(dw:Dt X.K H w v)(du:Dt X.K H u x)(pw:Ed n w=true)(pu:Ed n u=true)(ra:RelV v a)(rb:RelV x b):SeqAt.RcAt A s a b (Ce w u):=by
 have hu':=Tj (Nat.le_add_right _ _) hu
 by_cases h2:vJ w u=true
 ·obtain ⟨m,rfl⟩:=Mg h2 pw
  exact rcN I hu hu' h2 dw du pw pu ra rb (·.1)
 ·exact Xc hu' (Al I dw ra) (Al I du rb) (Uo _ ▸ h2)
theorem agq {pins:List (Addr×Obj)}{s:AP}{σ : St}(I:BL X pins σ H s)(n:Nat){A:Dp}{w u:W}{v x:V}{a b:FX}(hu:A.units+n<Lp)(dw:Dt X.K H w v)(du:Dt X.K H u x)(pw:Ed n w=true)(pu:Ed n u=true)(ra:RelV v a)(rb:RelV x b):SeqAt.RcNeAt A s a b (!Ce w u):=by
 have hu':=Tj (Nat.le_add_right _ _) hu
 by_cases h2:vJ w u=true
 ·obtain ⟨m,rfl⟩:=Mg h2 pw
  exact rcN I hu hu' h2 dw du pw pu ra rb (·.2)
 ·exact Xr hu' (Al I dw ra) (Al I du rb) (Uo _ ▸ h2)
def Ik (h:Gh):W->Option W
 | .loc n=>(match h.c n with
  | some (.lst ws)=>Dn (.lst ws)
  | _=>FN)
 | w=>Dn w
theorem zF {w d:W}{v:V}{n:Nat}(R:Em K μ H h)(r:Aq K H μ w v)(e:Ik h w=Dn d)(p:Ed n d=true):Dt K H d v:=by
 have other:Ik h w=Dn w->Dt K H d v:=fun z=>by
  rw [z] at e;cases e;exact Jh n r p
 cases w with
 | loc m=>
  unfold Ik at e
  dsimp only at e
  cases ec:h.c m with
  | none=>rw [ec] at e;cases e
  | some cl=>
   rw [ec] at e
   cases cl with
   | lst us=>
    cases (show Dn (W.lst us)=Dn d from e)
    obtain ⟨p',xs,hm',hx,rs⟩:=R.lstAt ec
    rw [Aq] at r
    obtain ⟨q,ev,hm⟩:=r
    have ep:p'=q:=by rw [hm] at hm';exact (Ja hm').symm
    subst ep
    obtain ⟨k,rfl,p⟩:=ahk p
    rw [Dt]
    exact ⟨p',xs,ev,.of hx,yO (Jh k) rs p⟩
   | _=>cases e
 | _=>exact other rfl
def adp (K:BZ)(neg:Bool):R2:=fun x y H Q=>∃ w u,Dt K H w x/\Dt K H u y/\Ed 30 w=true/\Ed 30 u=true/\Q (.bl (if neg then !Ce w u else Ce w u)) H
theorem Xy (hu:X.A.units+30<Lp):Kc X (M8 .Eq) (adp X.K false):=by
 intro pins s σ H x y v u Q I rx ry ⟨w,w',d1,d2,p1,p2,q⟩
 exact abU I 30 hu d1 d2 p1 p2 rx ry X.prog X.w X.xe _ (yj I q rfl)
theorem aaf (hu:X.A.units+30<Lp):Kc X (M8 .NotEq) (adp X.K true):=by
 intro pins s σ H x y v u Q I rx ry ⟨w,w',d1,d2,p1,p2,q⟩
 exact agq I 30 hu d1 d2 p1 p2 rx ry X.prog X.w X.xe _ (yj I q rfl)
def Ke:M2:=fun x y h Q=>match Ik h x,Ik h y with
 | some a,Dn b=>JZ (Ed 30 a&&Ed 30 b) (Q (.bl (Ce a b)) h) False
 | _,_=>False
def KC:M2:=fun x y h Q=>match Ik h x,Ik h y with
 | some a,Dn b=>JZ (Ed 30 a&&Ed 30 b) (Q (.bl (!Ce a b)) h) False
 | _,_=>False
theorem Ai (hu:X.A.units+30<Lp):Nk X (M8 .Eq) Ke:=⟨_,Xy hu,by
 intro H μ h x y wx wy Qw Q R rx ry m k
 unfold Ke at m
 split at m
 ·rename_i a b ea eb
  cases hp:(Ed 30 a&&Ed 30 b) with
  | true=>
   rw [hp] at m
   rw [O7] at hp
   exact ⟨a,b,zF R rx ea hp.1,zF R ry eb hp.2,hp.1,hp.2,k _ _ (.bl R m)⟩
  | false=>rw [hp] at m;exact (show False from m).elim
 ·exact m.elim⟩
theorem CV (hu:X.A.units+30<Lp):Nk X (M8 .NotEq) KC:=⟨_,aaf hu,by
 intro H μ h x y wx wy Qw Q R rx ry m k
 unfold KC at m
 split at m
 ·rename_i a b ea eb
  cases hp:(Ed 30 a&&Ed 30 b) with
  | true=>
   rw [hp] at m
   rw [O7] at hp
   exact ⟨a,b,zF R rx ea hp.1,zF R ry eb hp.2,hp.1,hp.2,k _ _ (.bl R m)⟩
  | false=>rw [hp] at m;exact (show False from m).elim
 ·exact m.elim⟩
theorem mz {A:Dp}{k:Nat}(hr:ud k A):A.units+30<Lp:=by have:=hr.units;lia
end
section
variable {X:Cx}{K:BZ}
theorem oV {H:Hp}{μ : Mu}{w:W}{vs:List V}(r:aU K H μ [w] vs):∃ v,vs=[v]/\Aq K H μ w v:=by
 rw [aU] at r
 obtain ⟨v,vr,ev,ra,r⟩:=r
 rw [aU] at r
 subst r
 exact ⟨v,ev,ra⟩
theorem Qf {H:Hp}{μ : Mu}{w u:W}{vs:List V}(r:aU K H μ [w,u] vs):∃ v x,vs=[v,x]/\Aq K H μ w v/\Aq K H μ u x:=by
 rw [aU] at r
 obtain ⟨v,vr,ev,ra,r⟩:=r
 obtain ⟨x,e,rb⟩:=oV r
 subst e
 exact ⟨v,x,ev,ra,rb⟩
theorem iT.of {i j:Int}{m n:Nat}(hi:Sm m i)(hj:Sm n j)(hm:m<=1000000)(hn:n<=1000000):iT i j:=⟨m,n,hm,hn,hi,hj⟩
theorem Sm.lit {i:Int}(h:QB (i.natAbs+1) (2^64)=true):Sm 64 i:=by
 have:=Nat.le_of_ble_eq_true h
 unfold Sm
 lia
def JM:MC:=fun ws h Q=>match ws with
 | [w]=>(match view h w with
  | some xs=>Q (.int (xs.length:Int)) h
  | none=>False)
 | _=>False
theorem kh:qp X (.builtin "len") JM:=⟨_,afx,by
 intro H μ h vs ws Qw Q R r m k
 unfold JM at m
 split at m
 ·split at m
  ·rename_i w _ xs ev
   obtain ⟨v,e,rv⟩:=oV r
   obtain ⟨p,ys,ex,hs,rs⟩:=vf R rv ev
   subst e ex
   exact ⟨p,ys,rfl,hs,by rw [<-rs.len];exact k _ _ (.int R m)⟩
  ·exact m.elim
 ·exact m.elim⟩
def QL:MC:=fun ws h Q=>match ws with
 | [.int i]=>Q (.int (if i<0 then -i else i)) h
 | _=>False
theorem Qp:qp X (.builtin "abs") QL:=⟨_,zbl,by
 intro H μ h vs ws Qw Q R r m k
 unfold QL at m
 split at m
 ·obtain ⟨v,e,rv⟩:=oV r
  rw [Aq] at rv
  subst e rv
  exact ⟨_,rfl,k _ _ (.int R m)⟩
 ·exact m.elim⟩
def aaI:MC:=fun ws h Q=>match ws with
 | [.int i,.int j]=>Q (.int (if j>i then j else i)) h
 | _=>False
theorem acp (hc:X.calm=true):qp X (.builtin "max") aaI:=⟨_,Cp hc,by
 intro H μ h vs ws Qw Q R r m k
 unfold aaI at m
 split at m
 ·obtain ⟨v,x,e,rv,rx⟩:=Qf r
  rw [Aq] at rv rx
  subst e rv rx
  exact ⟨_,_,rfl,k _ _ (.int R m)⟩
 ·exact m.elim⟩
def aaQ:MC:=fun ws h Q=>match ws with
 | [.int i,.int j]=>Q (.int (if j<i then j else i)) h
 | _=>False
theorem abX (hc:X.calm=true):qp X (.builtin "min") aaQ:=⟨_,afl hc,by
 intro H μ h vs ws Qw Q R r m k
 unfold aaQ at m
 split at m
 ·obtain ⟨v,x,e,rv,rx⟩:=Qf r
  rw [Aq] at rv rx
  subst e rv rx
  exact ⟨_,_,rfl,k _ _ (.int R m)⟩
 ·exact m.elim⟩
def Jt:List W->Option (List Bool)
 | []=>Dn []
 | .bl b::ws=>(Jt ws).map (b::·)
 | _=>FN
theorem Lx {H:Hp}{μ : Mu}:∀ {ws:List W} {xs:List V} {bs:List Bool},aU K H μ ws xs->Jt ws=Dn bs->xs=bs.map V.bl
 | [],xs,bs,r,e=>by
  rw [aU] at r
  cases (show Dn []=Dn bs from e)
  exact r
 | w::ws,xs,bs,r,e=>by
  rw [aU] at r
  obtain ⟨v,vr,ev,ra,r⟩:=r
  cases w with
  | bl b=>
   rw [Aq] at ra
   rw [Jt] at e
   cases q:Jt ws with
   | none=>rw [q] at e;cases e
   | some cs=>
    rw [q] at e
    cases (show Dn (b::cs)=Dn bs from e)
    rw [ev,ra,Lx r q]
    rfl
  | _=>cases e
def Xk:MC:=fun ws h Q=>match ws with
 | [w]=>(match fG h w with
  | some us=>(match Jt us with
   | some bs=>Q (.bl (bs.all id)) h
   | none=>False)
  | none=>False)
 | _=>False
theorem abT (hc:X.calm=true):qp X (.builtin "all") Xk:=⟨_,ahz hc,by
 intro H μ h vs ws Qw Q R r m k
 unfold Xk at m
 split at m
 ·split at m
  ·split at m
   ·rename_i w _ us ev _ bs eb
    obtain ⟨v,e,rv⟩:=oV r
    obtain ⟨p,ys,ex,hs,rs⟩:=dU R rv ev
    subst e ex
    exact ⟨p,bs,rfl,by rw [<-Lx rs eb];exact hs,k _ _ (.bl R m)⟩
   ·exact m.elim
  ·exact m.elim
 ·exact m.elim⟩
def aaH (h:Gh)(w:W)(T:String):Option Bool:=match w with
 | .int _=>if T = "int" then Dn true else if T = "bool"\/T = "tuple"\/T = "list" then Dn false else FN
 | .bl _=>if T = "int"\/T = "bool" then Dn true else if T = "tuple"\/T = "list" then Dn false else FN
 | .str _=>if T = "int"\/T = "bool"\/T = "tuple"\/T = "list" then Dn false else FN
 | .non=>if T = "int"\/T = "bool"\/T = "tuple"\/T = "list" then Dn false else FN
 | .tup _=>if T = "tuple" then Dn true else if T = "int"\/T = "bool"\/T = "list" then Dn false else FN
 | w=>(match fG h w with
  | some _=>if T = "list" then Dn true else if T = "int"\/T = "bool"\/T = "tuple" then Dn false else FN
  | none=>FN)
theorem zbw {H:Hp}{μ : Mu}{h:Gh}{w:W}{v:V}{T:String}{b:Bool}(R:Em K μ H h)(r:Aq K H μ w v)(e:aaH h w T=Dn b):adf K H v T b:=by
 unfold aaH at e
 split at e
 ·rw [Aq] at r;subst r
  split at e
  ·rename_i t;subst t;cases e;exact .inl ⟨rfl,rfl⟩
  ·split at e
   ·rename_i t;cases e
    rcases t with t | t | t <;> subst t
    ·exact .inr (.inl ⟨rfl,rfl⟩)
    ·exact .inr (.inr (.inl ⟨rfl,rfl⟩))
    ·exact .inr (.inr (.inr ⟨rfl,rfl⟩))
   ·cases e
 ·rw [Aq] at r;subst r
  split at e
  ·rename_i t;cases e
   rcases t with t | t <;> subst t
   ·exact .inl ⟨rfl,rfl⟩
   ·exact .inr (.inl ⟨rfl,rfl⟩)
  ·split at e
   ·rename_i t;cases e
    rcases t with t | t <;> subst t
    ·exact .inr (.inr (.inl ⟨rfl,rfl⟩))
    ·exact .inr (.inr (.inr ⟨rfl,rfl⟩))
   ·cases e
 ·rw [Aq] at r;subst r
  split at e
  ·rename_i t;cases e
   rcases t with t | t | t | t <;> subst t
   ·exact .inl ⟨rfl,rfl⟩
   ·exact .inr (.inl ⟨rfl,rfl⟩)
   ·exact .inr (.inr (.inl ⟨rfl,rfl⟩))
   ·exact .inr (.inr (.inr ⟨rfl,rfl⟩))
  ·cases e
 ·rw [Aq] at r;subst r
  split at e
  ·rename_i t;cases e
   rcases t with t | t | t | t <;> subst t
   ·exact .inl ⟨rfl,rfl⟩
   ·exact .inr (.inl ⟨rfl,rfl⟩)
   ·exact .inr (.inr (.inl ⟨rfl,rfl⟩))
   ·exact .inr (.inr (.inr ⟨rfl,rfl⟩))
  ·cases e
 ·rw [Aq] at r
  obtain ⟨p,xs,ev,hs,_⟩:=r
  subst ev
  refine .inl ⟨xs,hs,?_⟩
  split at e
  ·rename_i t;subst t;cases e;exact .inr (.inr (.inl ⟨rfl,rfl⟩))
  ·split at e
   ·rename_i t;cases e
    rcases t with t | t | t <;> subst t
    ·exact .inl ⟨rfl,rfl⟩
    ·exact .inr (.inl ⟨rfl,rfl⟩)
    ·exact .inr (.inr (.inr ⟨rfl,rfl⟩))
   ·cases e
 ·split at e
  ·rename_i ws ev
   obtain ⟨p,xs,ex,hs,_⟩:=dU R r ev
   subst ex
   refine .inr ⟨xs,hs,?_⟩
   split at e
   ·rename_i t;subst t;cases e;exact .inr (.inr (.inr ⟨rfl,rfl⟩))
   ·split at e
    ·rename_i t;cases e
     rcases t with t | t | t <;> subst t
     ·exact .inl ⟨rfl,rfl⟩
     ·exact .inr (.inl ⟨rfl,rfl⟩)
     ·exact .inr (.inr (.inl ⟨rfl,rfl⟩))
    ·cases e
  ·cases e
def Yr:MC:=fun ws h Q=>match ws with
 | [w,.ty T]=>(match aaH h w T with
  | some b=>Q (.bl b) h
  | none=>False)
 | _=>False
theorem abL:qp X (.builtin "isinstance") Yr:=⟨_,zaY,by
 intro H μ h vs ws Qw Q R r m k
 unfold Yr at m
 split at m
 ·split at m
  ·rename_i w T _ b eb
   obtain ⟨v,x,e,rv,rx⟩:=Qf r
   have hi:=zbw R rv eb
   rw [Aq] at rx
   subst e rx
   exact ⟨v,T,b,rfl,hi,k _ _ (.bl R m)⟩
  ·exact m.elim
 ·exact m.elim⟩
def Ca:MC:=fun ws h Q=>match ws with
 | [.tup us]=>Q (.tup us) h
 | [w]=>(match fG h w with
  | some us=>Q (.tup us) h
  | none=>False)
 | _=>False
theorem Kq:qp X (.type "tuple") Ca:=⟨_,zH,by
 intro H μ h vs ws Qw Q R r m k
 unfold Ca at m
 split at m
 ·obtain ⟨v,e,rv⟩:=oV r
  have rv':=rv
  rw [Aq] at rv
  obtain ⟨p,xs,ex,hs,rs⟩:=rv
  subst e ex
  exact ⟨p,xs,rfl,.inr ⟨hs,k _ _ ⟨μ,_,h,.refl,R,rv',m⟩⟩⟩
 ·split at m
  ·rename_i w _ _ us ev
   obtain ⟨v,e,rv⟩:=oV r
   obtain ⟨p,ys,ex,hs,rs⟩:=dU R rv ev
   subst e ex
   exact ⟨p,ys,rfl,.inl ⟨hs,fun l hl=>k _ _ ⟨μ,_,h,(Ex.laid hl).ext,R.laid hl,.tupNew hl rs,m⟩⟩⟩
  ·exact m.elim
 ·exact m.elim⟩
def CN:MC:=fun ws h Q=>match ws with
 | [w]=>(match view h w with
  | some us=>Q (.lst us) h
  | none=>False)
 | _=>False
def G9:MC:=fun ws h Q=>match ws with
 | [w]=>(match view h w with
  | some us=>Q (.loc h.nx) (h.new (.lst us))
  | none=>False)
 | _=>False
theorem Bu:qp X (.type "list") CN:=⟨_,tU,by
 intro H μ h vs ws Qw Q R r m k
 unfold CN at m
 split at m
 ·split at m
  ·rename_i w _ xs ev
   obtain ⟨v,e,rv⟩:=oV r
   obtain ⟨p,ys,ex,hs,rs⟩:=vf R rv ev
   subst e ex
   exact ⟨p,ys,rfl,hs,fun l hl=>k _ _ ⟨μ,_,h,(Ex.laid hl).ext,R.laid hl,.lstNew R hl rs,m⟩⟩
  ·exact m.elim
 ·exact m.elim⟩
theorem Vu:qp X (.type "list") G9:=⟨_,tU,by
 intro H μ h vs ws Qw Q R r m k
 unfold G9 at m
 split at m
 ·split at m
  ·rename_i w _ xs ev
   obtain ⟨v,e,rv⟩:=oV r
   obtain ⟨p,ys,ex,hs,rs⟩:=vf R rv ev
   subst e ex
   exact ⟨p,ys,rfl,hs,fun l hl=>k _ _ ⟨μ.put h.nx l,.loc h.nx,h.new (.lst xs),(Ex.newCell R hl).ext,Rm R hl rs,by rw [Aq];exact ⟨l,rfl,Mu.put_same⟩,m⟩⟩
  ·exact m.elim
 ·exact m.elim⟩
abbrev MM:=W->List W->Gh->WK->Prop
def WW (K:BZ)(r:V->List V->Hp->VK->Prop)(mr:MM):Prop:=∀ {H:Hp} {μ : Mu} {h:Gh} {x:V} {vs:List V} {wx:W} {ws:List W} {Qw:WK} {Q:VK},Em K μ H h->Aq K H μ wx x->aU K H μ ws vs->mr wx ws h Qw->(∀ v H',DQ K H μ Qw v H'->Q v H')->r x vs H Q
def En (h:Gh)(w:W)(P:Prop):Prop:=match w with
 | .loc n=>(match h.c n with
  | some (.lst _)=>P
  | _=>False)
 | _=>False
theorem uG {H:Hp}{μ : Mu}{h:Gh}{w:W}{v:V}{P:Prop}(R:Em K μ H h)(r:Aq K H μ w v)(e:En h w P):tyV K "list" v H/\P:=by
 unfold En at e
 split at e
 ·split at e
  ·rename_i n _ ws ec
   rw [Aq] at r
   obtain ⟨p,ev,hm⟩:=r
   obtain ⟨p',xs,hm',hx,rs⟩:=R.lstAt ec
   have ep:p'=p:=by rw [hm] at hm';exact (Ja hm').symm
   subst ep ev
   exact ⟨.inl ⟨rfl,xs,.of hx⟩,e⟩
  ·exact e.elim
 ·exact e.elim
def K3 (r:MM)(mo:ME)(ma:MA):ME:=fun σ h Q=>mo σ h fun x h1=>En h1 x (ma σ h1 fun xs h2=>r x xs h2 Q)
def V1 (r:MM)(mo:ME):ME:=fun σ h Q=>mo σ h fun x h1=>En h1 x (r x [] h1 Q)
variable {o e:Expr}{es:List Expr}{mo:ME}{ma:MA}{name:Str}{apos cpos:Pos}{id:String}{r:V->List V->Hp->VK->Prop}{mr:MM}
theorem ac6 (slot:Slot "list" name id)(hty:typeOf (.builtin id)=pure (.type "method_descriptor"))(hm:MtR X id r)(hs:WW X.K r mr)(ho:DE X o mo)(ha:Li X (e::es) ma)
  (hbase:Tn o name X.env (eval o X.env)=eval o X.env:=by rfl)
  (hfew:((Kp cpos (HI (e::es) X.env)).all (fun x=>!x.1)&&(backToKw cpos (Uc [] X.env)).all (fun x=>x.1.isSome)
   && decide ((e::es).length+([]:List Ph).length+(if ([]:List Ph).isEmpty then 0 else 1)<30))=true:=by rfl)
  (hline:(apos.endLine==cpos.line)=true:=by rfl) (hst:HI (e::es) X.env=(false,eval e X.env)::HI es X.env:=by rfl) (hplain:(Kp cpos (HI es X.env)).any (·.1)=false:=by rfl) :
  DE X (.Call (.Attribute o name apos) (e::es) [] cpos) (K3 mr mo ma):=(W9 PySem.F.plainAttrs_list slot hty hm ho ha hbase hfew hline hst hplain).of fun σ H Q ⟨μ,h,σw,Qw,R,S,m,k⟩=>by
 refine ⟨μ,h,σw,_,R,S,m,fun v H1 ⟨μ1,w,h1,e1,R1,r1,il⟩=>⟨(uG R1 r1 il).1,?_⟩⟩
 have m1:=(uG R1 r1 il).2
 exact ⟨μ1,h1,σw,_,R1,S.ext e1,m1,fun vs H2 ⟨μ2,ws,h2,e2,R2,r2,m2⟩=>hs R2 (e2.r _ _ r1) r2 m2 fun v H' z=>k _ _ ((z.trans e2).trans e1)⟩
theorem aa8 (slot:Slot "list" name id)(hty:typeOf (.builtin id)=pure (.type "method_descriptor"))(hm:MtR X id r)(hs:WW X.K r mr)(ho:DE X o mo)
  (hbase:Tn o name X.env (eval o X.env)=eval o X.env:=by rfl) (hline:(apos.endLine==cpos.line)=true:=by rfl) :
  DE X (.Call (.Attribute o name apos) [] [] cpos) (V1 mr mo):=(Yy PySem.F.plainAttrs_list slot hty hm ho hbase hline).of fun σ H Q ⟨μ,h,σw,Qw,R,S,m,k⟩=>by
 refine ⟨μ,h,σw,_,R,S,m,fun v H1 ⟨μ1,w,h1,e1,R1,r1,il⟩=>⟨(uG R1 r1 il).1,?_⟩⟩
 have m1:=(uG R1 r1 il).2
 exact hs R1 r1 .nil m1 fun v H' z=>k _ _ (z.trans e1)
def jB:MM:=fun x ws h Q=>match x,ws with
 | .loc n,[w]=>(match h.c n with
  | some (.lst us)=>us.length<Ig/\Q .non (h.set n (.lst (us++[w])))
  | _=>False)
 | _,_=>False
theorem Qz {H:Hp}{μ : Mu}{h:Gh}{n:Nat}{v:V}{us:List W}(R:Em K μ H h)(r:Aq K H μ (.loc n) v)(ec:h.c n=Dn (.lst us)):∃ p xs,v=.ref p/\μ.f n=Dn p/\H p=Dn (.lst xs)/\aU K H μ us xs:=by
 rw [Aq] at r
 obtain ⟨p,ev,hm⟩:=r
 obtain ⟨p',xs,hm',hx,rs⟩:=R.lstAt ec
 have ep:p'=p:=by rw [hm] at hm';exact (Ja hm').symm
 subst ep
 exact ⟨p',xs,ev,hm,hx,rs⟩
theorem DQ.wrote {H:Hp}{μ : Mu}{h:Gh}{n:Nat}{p:Addr}{us:List W}{xs:List V}{Q:WK}{w:W}{v:V}(R:Em K μ H h)(hm:μ.f n=Dn p)(rs:aU K H μ us xs)(rw':Aq K H μ w v)(q:Q w (h.set n (.lst us))):DQ K H μ Q v (IW H p (.lst xs)):=
 ⟨μ,w,h.set n (.lst us),(Ex.write R hm).ext,R.write hm trivial ⟨xs,cR,(Ex.write R hm).ext.s rs⟩,(Ex.write R hm).ext.r _ _ rw',q⟩
theorem zbi:WW K Kg jB:=by
 intro H μ h x vs wx ws Qw Q R rx rs m k
 unfold jB at m
 split at m
 ·split at m
  ·rename_i n w _ us ec
   obtain ⟨p,xs,ex,hm,hx,r1⟩:=Qz R rx ec
   obtain ⟨v,ev,rv⟩:=oV rs
   exact ⟨p,xs,v,ex,ev,hx,by rw [<-r1.len];exact m.1,k _ _ (.wrote R hm (r1.append (.one rv)) (by rw [Aq]) m.2)⟩
  ·exact m.elim
 ·exact m.elim
def aaL:MM:=fun x ws h Q=>match x,ws with
 | .loc n,[]=>(match h.c n with
  | some (.lst us)=>(match us[us.length - 1]? with
   | some w=>Q w (h.set n (.lst us.dropLast))
   | none=>False)
  | _=>False)
 | _,_=>False
theorem aU.dropLast {H:Hp}{μ : Mu}{ws:List W}{xs:List V}(r:aU K H μ ws xs):aU K H μ ws.dropLast xs.dropLast:=by
 rw [List.dropLast_eq_take,List.dropLast_eq_take,<-r.len]
 exact r.take _
theorem s_pop:WW K acZ aaL:=by
 intro H μ h x vs wx ws Qw Q R rx rs m k
 unfold aaL at m
 split at m
 ·split at m
  ·split at m
   ·rename_i n _ us ec _ w ew
    obtain ⟨p,xs,ex,hm,hx,r1⟩:=Qz R rx ec
    rw [aU] at rs
    obtain ⟨v,ev,rv⟩:=r1.get ew
    exact ⟨p,xs,v,ex,rs,hx,by rw [<-r1.len];exact ev,k _ _ (.wrote R hm r1.dropLast rv m)⟩
   ·exact m.elim
  ·exact m.elim
 ·exact m.elim
theorem ux (ho:DE X o mo)(ha:Li X [e] ma)
  (hbase:Tn o "append" X.env (eval o X.env)=eval o X.env:=by rfl)
  (hfew:((Kp cpos (HI [e] X.env)).all (fun x=>!x.1)&&(backToKw cpos (Uc [] X.env)).all (fun x=>x.1.isSome)
   && decide (([e]:List Expr).length+([]:List Ph).length+(if ([]:List Ph).isEmpty then 0 else 1)<30))=true:=by rfl)
  (hline:(apos.endLine==cpos.line)=true:=by rfl) (hst:HI [e] X.env=(false,eval e X.env)::HI [] X.env:=by rfl) (hplain:(Kp cpos (HI [] X.env)).any (·.1)=false:=by rfl) :
  DE X (.Call (.Attribute o "append" apos) [e] [] cpos) (K3 jB mo ma):=ac6 PySem.F.slot_list_append PySem.F.type_list_append BR zbi ho ha hbase hfew hline hst hplain
theorem abv (ho:DE X o mo)(hbase:Tn o "pop" X.env (eval o X.env)=eval o X.env:=by rfl)(hline:(apos.endLine==cpos.line)=true:=by rfl) :
  DE X (.Call (.Attribute o "pop" apos) [] [] cpos) (V1 aaL mo):=aa8 PySem.F.slot_list_pop PySem.F.type_list_pop Z5 s_pop ho hbase hline
end
section
variable {X:Cx}{K:BZ}
theorem Yz:Kc X (M8 .Is) (fun x y H Q=>∃ c b,x=.bl c/\y=.bl b/\Q (.bl (c==b)) H):=by
 intro pins s σ H x y v u Q I rx ry ⟨c,b,ex,ey,q⟩
 subst ex ey
 cases rx
 cases ry
 exact is_bool (yj I q rfl)
theorem afS:Kc X (M8 .IsNot) (fun x y H Q=>∃ c b,x=.bl c/\y=.bl b/\Q (.bl (!(c==b))) H):=by
 intro pins s σ H x y v u Q I rx ry ⟨c,b,ex,ey,q⟩
 subst ex ey
 cases rx
 cases ry
 exact HY (yj I q (by cases c <;> cases b <;> rfl))
def Vi:W->Bool
 | .non=>true
 | _=>false
theorem Lk {H:Hp}{μ : Mu}{w:W}{v:V}(r:Aq K H μ w v):decide (v=.non)=Vi w:=by
 cases w with
 | non=>rw [Aq] at r;subst r;rfl
 | bl _=>rw [Aq] at r;subst r;rfl
 | int _=>rw [Aq] at r;subst r;rfl
 | str _=>rw [Aq] at r;subst r;rfl
 | ty _=>rw [Aq] at r;subst r;rfl
 | tup _=>rw [Aq] at r;obtain ⟨_,_,e,_⟩:=r;subst e;rfl
 | lst _=>rw [Aq] at r;obtain ⟨_,_,e,_⟩:=r;subst e;rfl
 | kls _=>rw [Aq] at r;obtain ⟨_,_,e,_⟩:=r;subst e;rfl
 | loc _=>rw [Aq] at r;obtain ⟨_,e,_⟩:=r;subst e;rfl
 | exc _=>rw [Aq] at r;obtain ⟨_,_,_,e,_⟩:=r;subst e;rfl
 | exa _ _=>rw [Aq] at r;obtain ⟨_,_,_,_,_,_,e,_⟩:=r;subst e;rfl
 | fnv _ _=>rw [Aq] at r;subst r;rfl
def kIs:M2:=fun x y h Q=>match x,y with
 | .bl c,.bl b=>Q (.bl (c==b)) h
 | w,.non=>Q (.bl (Vi w)) h
 | _,_=>False
def rR:M2:=fun x y h Q=>match x,y with
 | .bl c,.bl b=>Q (.bl (!(c==b))) h
 | w,.non=>Q (.bl (!Vi w)) h
 | _,_=>False
theorem acM:Nk X (M8 .Is) kIs:=⟨_,Yz.or aay,by
 intro H μ h x y wx wy Qw Q R rx ry m k
 unfold kIs at m
 split at m
 ·rw [Aq] at rx ry
  exact .inl ⟨_,_,rx,ry,k _ _ (.bl R m)⟩
 ·rw [<-Lk rx] at m
  rw [Aq] at ry
  exact .inr ⟨ry,k _ _ (.bl R m)⟩
 ·exact m.elim⟩
theorem qW:Nk X (M8 .IsNot) rR:=⟨_,afS.or aho,by
 intro H μ h x y wx wy Qw Q R rx ry m k
 unfold rR at m
 split at m
 ·rw [Aq] at rx ry
  exact .inl ⟨_,_,rx,ry,k _ _ (.bl R m)⟩
 ·rw [<-Lk rx] at m
  rw [Aq] at ry
  exact .inr ⟨ry,k _ _ (.bl R m)⟩
 ·exact m.elim⟩
def adv:MC:=fun ws h Q=>match ws with
 | [w]=>(match fG h w with
  | some us=>(match Jt us with
   | some bs=>Q (.bl (bs.any id)) h
   | none=>False)
  | none=>False)
 | _=>False
def xM:W->Bool
 | .non=>true
 | .bl _=>true
 | .int _=>true
 | .str _=>true
 | _=>false
theorem Rr {H:Hp}{μ : Mu}{w:W}{v:V}(r:Aq K H μ w v)(f:xM w=true):rC v=true:=by
 cases w <;> first | (rw [Aq] at r;subst r;rfl) | cases f
theorem J9 {H:Hp}{μ : Mu}:∀ {ws:List W} {vs:List V},aU K H μ ws vs->ws.all xM=true->vs.all rC=true
 | [],_,r,_=>by rw [aU] at r;subst r;rfl
 | w::ws,_,r,f=>by
  rw [aU] at r
  obtain ⟨v,vs,e,r1,r2⟩:=r
  subst e
  rw [Ua,O7] at f |-
  exact ⟨Rr r1 f.1,J9 r2 f.2⟩
theorem aep {H:Hp}{μ : Mu}{w u:W}{v x:V}(r:Aq K H μ w v)(q:Aq K H μ u x)(f:xM w=true)(g:xM u=true):QT v x=Ce w u:=by
 cases w <;> cases u <;> first
  | (rw [Aq] at r;rw [Aq] at q;subst r;subst q;rfl)
  | (cases f;done)
  | (cases g;done)
theorem YJ {H:Hp}{μ : Mu}{u:W}{x:V}(q:Aq K H μ u x)(g:xM u=true):∀ {ws:List W} {vs:List V},aU K H μ ws vs->ws.all xM=true->inV x vs=ws.any fun w=>Ce w u
 | [],_,r,_=>by rw [aU] at r;subst r;rfl
 | w::ws,_,r,f=>by
  rw [aU] at r
  obtain ⟨v,vs,e,r1,r2⟩:=r
  subst e
  rw [Ua,O7] at f
  have:=YJ q g r2 f.2
  unfold inV at this |-
  rw [U4,U4,this,aep r1 q f.1 g]
def ab1:M2:=fun x y h Q=>match view h y with
 | some ws=>JZ (xM x&&ws.all xM) (Q (.bl (!(ws.any fun w=>Ce w x))) h) False
 | none=>False
theorem abK:Nk X (M8 .NotIn) ab1:=⟨_,aeA,by
 intro H μ h x y wx wy Qw Q R rx ry m k
 unfold ab1 at m
 split at m
 ·rename_i ws ev
  obtain ⟨p,xs,ey,hs,rs⟩:=vf R ry ev
  cases hp:(xM wx&&ws.all xM) with
  | true=>
   rw [hp] at m
   rw [O7] at hp
   exact ⟨p,xs,ey,hs,Rr rx hp.1,J9 rs hp.2,k _ _ (by rw [if_pos rfl,YJ rx hp.1 rs hp.2];exact .bl R m)⟩
  | false=>rw [hp] at m;exact (show False from m).elim
 ·exact m.elim⟩
theorem zbf:Kc X (N7 .Add) (fun x y H Q=>∃ a b ys,x=.ref a/\y=.ref b/\Jg X.K H a []/\Jg X.K H b ys/\Q (.ref b) H):=by
 intro pins s σ H x y v u Q I rx ry ⟨a,b,ys,ex,ey,ha,hb,q⟩
 subst ex ey
 cases rx
 cases ry
 obtain ⟨its,r1,p1,_⟩:=I.tuple ha
 obtain ⟨jts,r2,p2,_⟩:=I.tuple hb
 cases r1
 obtain ⟨⟨cls,dd,data,sl⟩,ho,hc,n,hd⟩:=id p1
 obtain ⟨⟨cls2,dd2,data2,sl2⟩,ho2,hc2,n2,hd2⟩:=id p2
 simp only at hc hd hc2 hd2
 subst hc hd hc2 hd2
 exact concat_meets ⟨_,ho,rfl⟩ ⟨_,ho2,rfl⟩ noFill_tuple_add seq_tuple_add PySem.F.slot_tuple_add PySem.F.entry_tuple_add (PySem.F.args_tuple_add_2 _ _)
  (tuple_addW0 a b _ _ n n2 dd dd2 sl sl2 (by simp)) ⟨ho,ho2,⟨.ref b,H,I,rfl,q⟩⟩
def V9 (h:Gh):W->Option (List W)
 | .lst ws=>Dn ws
 | .loc n=>(match h.c n with
  | some (.lst ws)=>Dn ws
  | _=>FN)
 | _=>FN
theorem Fl {H:Hp}{μ : Mu}{h:Gh}{w:W}{v:V}{ws:List W}(R:Em K μ H h)(r:Aq K H μ w v)(e:V9 h w=Dn ws):∃ p xs,v=.ref p/\H p=Dn (.lst xs)/\aU K H μ ws xs:=by
 cases w with
 | lst us=>
  rw [Aq] at r
  obtain ⟨p,xs,ev,hs,rs⟩:=r
  cases (show Dn us=Dn ws from e)
  exact ⟨p,xs,ev,hs.1,rs⟩
 | loc n=>
  unfold V9 at e
  dsimp only at e
  cases ec:h.c n with
  | none=>rw [ec] at e;cases e
  | some cl=>
   rw [ec] at e
   cases cl with
   | lst us=>
    cases (show Dn us=Dn ws from e)
    obtain ⟨p,xs,ev,_,hx,rs⟩:=Qz R r ec
    exact ⟨p,xs,ev,hx,rs⟩
   | _=>cases e
 | _=>cases e
def cJ:M2:=fun x y h Q=>match x,y with
 | .int i,.int j=>Q (.int (i+j)) h
 | .tup [],.tup b=>Q (.tup b) h
 | .tup (a0::a),.tup b=>mH (a.length+1+b.length) (Q (.tup (a0::a++b)) h)
 | x,y=>(match V9 h x,V9 h y with
  | some a,Dn b=>mH (a.length+b.length) (Q (.lst (a++b)) h)
  | _,_=>False)
theorem cV:Nk X (N7 .Add) cJ:=⟨_,(Yh.or (zbf.or zbt)).or Yg,by
 intro H μ h x y wx wy Qw Q R rx ry m k
 unfold cJ at m
 split at m
 ·rw [Aq] at rx ry
  exact .inl (.inl ⟨_,_,rx,ry,k _ _ (.int R m)⟩)
 ·rename_i b
  have ry':=ry
  rw [Aq] at rx ry
  obtain ⟨p,xs,ex,hx,r1⟩:=rx
  obtain ⟨q,ys,ey,hy,r2⟩:=ry
  rw [aU] at r1
  subst r1
  rw [ey] at ry'
  exact .inl (.inr (.inl ⟨p,q,ys,ex,ey,hx,hy,k _ _ ⟨μ,_,h,.refl,R,ry',m⟩⟩))
 ·rename_i a0 a b
  have rx':=rx
  rw [Aq] at rx ry
  obtain ⟨p,xs,ex,hx,r1⟩:=rx
  obtain ⟨q,ys,ey,hy,r2⟩:=ry
  have sz:=m.ok.1
  refine .inl (.inr (.inr ⟨p,q,xs,ys,ex,ey,hx,hy,fun z=>(by have:=r1.ne_nil.mp z;cases this),by rw [<-r1.len,<-r2.len];exact sz,fun z=>?_,fun z l hl=>?_⟩))
  ·have eb:b=[]:=r2.ne_nil.mp z
   subst eb
   refine k _ _ ⟨μ,.tup (a0::a++[]),h,.refl,R,?_,m.ok.2⟩
   rw [Uv,<-ex]
   exact rx'
  ·exact k _ _ ⟨μ,_,h,(Ex.laid hl).ext,R.laid hl,.tupNew hl (r1.append r2),m.ok.2⟩
 ·split at m
  ·rename_i a b ea eb
   obtain ⟨p,xs,ex,hx,r1⟩:=Fl R rx ea
   obtain ⟨q,ys,ey,hy,r2⟩:=Fl R ry eb
   have sz:=m.ok.1
   exact .inr ⟨p,q,xs,ys,ex,ey,hx,hy,by rw [<-r1.len,<-r2.len];exact sz,fun l hl=>k _ _ ⟨μ,_,h,(Ex.laid hl).ext,R.laid hl,.lstNew R hl (r1.append r2),m.ok.2⟩⟩
  ·exact m.elim⟩
def j5:MM:=fun x ws h Q=>match x,ws with
 | .loc n,[w]=>(match h.c n,V9 h w with
  | some (.lst us),Dn zs=>mH (us.length+zs.length) (Q .non (h.set n (.lst (us++zs))))
  | _,_=>False)
 | _,_=>False
theorem afW:WW K LR j5:=by
 intro H μ h x vs wx ws Qw Q R rx rs m k
 unfold j5 at m
 split at m
 ·split at m
  ·rename_i n w _ _ us zs ec ez
   obtain ⟨p,xs,ex,hm,hx,r1⟩:=Qz R rx ec
   obtain ⟨v,ev,rv⟩:=oV rs
   obtain ⟨q,ys,ey,hy,r2⟩:=Fl R rv ez
   subst ey
   have sz:=m.ok.1
   exact ⟨p,q,xs,ys,ex,ev,hx,hy,by rw [<-r1.len,<-r2.len];exact sz,k _ _ (.wrote R hm (r1.append r2) (by rw [Aq]) m.ok.2)⟩
  ·exact m.elim
 ·exact m.elim
variable {o e:Expr}{mo:ME}{ma:MA}{apos cpos:Pos}
theorem Gy (ho:DE X o mo)(ha:Li X [e] ma)
  (hbase:Tn o "extend" X.env (eval o X.env)=eval o X.env:=by rfl)
  (hfew:((Kp cpos (HI [e] X.env)).all (fun x=>!x.1)&&(backToKw cpos (Uc [] X.env)).all (fun x=>x.1.isSome)
   && decide (([e]:List Expr).length+([]:List Ph).length+(if ([]:List Ph).isEmpty then 0 else 1)<30))=true:=by rfl)
  (hline:(apos.endLine==cpos.line)=true:=by rfl) (hst:HI [e] X.env=(false,eval e X.env)::HI [] X.env:=by rfl) (hplain:(Kp cpos (HI [] X.env)).any (·.1)=false:=by rfl) :
  DE X (.Call (.Attribute o "extend" apos) [e] [] cpos) (K3 j5 mo ma):=ac6 PySem.F.slot_list_extend PySem.F.type_list_extend afc afW ho ha hbase hfew hline hst hplain
end
def Ou (K:BZ):Sp:=fun vs H Q _=>∃ (a:Addr) (ns:List Int),vs=[.ref a]/\Je K H a (ns.map V.int)/\Only H/\ns.length<=63/\∀ H',Q (.bl true) H'
def g0:Gh:=⟨0,fun _=>FN⟩
def μ0:Mu:=⟨fun _=>FN,fun _=>False⟩
theorem aev {K:BZ}{H:Hp}:Em K μ0 H g0 where
 inj:=fun m n p h=>by cases (show (FN:Option Addr)=Dn p from h)
 dom:=fun n p h=>by cases (show (FN:Option Addr)=Dn p from h)
 trk:=fun n p h=>by cases (show (FN:Option Addr)=Dn p from h)
 cel:=fun n c h=>by cases (show (FN:Option Cell)=Dn c from h)
 hd:=fun p h=>Qd h
theorem Av {K:BZ}{H:Hp}{μ : Mu}:∀ ns:List Int,aU K H μ (ns.map W.int) (ns.map V.int)
 | []=>.nil
 | n::ns=>.cons (by rw [Aq]) (Av ns)
theorem agL {P:Dr}{w:Ci}{K:BZ}{mg:Str->Option FX}{base:Heap}{k:Nat}{f:Addr}{fd:DR}{ps:List Str}{ms:Mk}
  (hm:∀ ns:List Int,ns.length<=63->ms [.kls (ns.map W.int)] g0 (fun w _=>w=.bl true) EF) (F:cA P w K mg base Ea k f fd ps (lift K ms)):cA P w K mg base Ea k f fd ps (Ou K):=
 F.imp fun vs H Q E ⟨a,ns,e,hS,hO,hl,q⟩=>by
  subst e
  refine ⟨μ0,g0,[.kls (ns.map W.int)],_,aev,.one ?_,hm ns hl,fun v H' ⟨μ',w',h',_,_,r,e⟩=>?_⟩
  ·rw [Aq]
   refine ⟨a,ns.map V.int,rfl,?_,Av ns⟩
   rcases hS with (hS | hS) | hS
   ·rcases hO a with z | ⟨o,xs,z⟩ <;> rw [hS] at z <;> cases z
   ·exact .inl hS
   ·exact .inr hS
  ·subst e
   rw [Aq] at r
   subst r
   exact q H'
inductive Sk where
 | l | t
def Sk.sq (k:Sk)(h:Heap)(a:Addr)(its:Array FX):Prop:=match k with
 | .l=>h.IsList a its
 | .t=>h.IsTuple a its
def Sk.it (k:Sk)(h:Heap)(i a:Addr)(n:Nat):Prop:=match k with
 | .l=>h.IsListIter i a n
 | .t=>h.IsTupleIter i a n
def Sk.nm:Sk->String
 | .l => "list_iterator"
 | .t => "tuple_iterator"
section
variable {P:Dr}{w:Ci}{A:Dp}{E:FX->AP->Prop}{s:AP}{k k1 k2:Sk}
theorem Sk.it_at {h h':Heap}{i a:Addr}{n:Nat}(x:k.it h i a n)(e:∀ o,h.get? i=Dn o->h'.get? i=Dn o):k.it h' i a n:=by
 cases k with
 | l=>obtain ⟨o,ho,r⟩:=x;exact ⟨o,e o ho,r⟩
 | t=>obtain ⟨o,ho,r⟩:=x;exact ⟨o,e o ho,r⟩
theorem Sk.sq_at {h h':Heap}{a:Addr}{its:Array FX}(x:k.sq h a its)(e:∀ o,h.get? a=Dn o->h'.get? a=Dn o):k.sq h' a its:=by
 cases k with
 | l=>obtain ⟨o,ho,r⟩:=x;exact ⟨o,e o ho,r⟩
 | t=>obtain ⟨o,ho,r⟩:=x;exact ⟨o,e o ho,r⟩
theorem Sk.it_obj {h:Heap}{i a:Addr}{n:Nat}(x:k.it h i a n):∃ o,h.get? i=Dn o/\o.cls=.type k.nm/\o.data=.fields #[.ref a,.int n 0]:=by
 cases k with
 | l=>exact x
 | t=>exact x
theorem afr {it t:Addr}{i:Nat}{its:Array FX}{x:FX}{Q:FX->AP->Prop}(hi:s.heap.IsTupleIter it t i)(ht:s.heap.IsTuple t its)(hx:its[i]?=Dn x)
  (q:∀ h',h'.IsTupleIter it t (i+1)->UG it s.heap h'->Q x { s with heap:=h' }):Bs (Cj P w) A (Qx (.ref it)) Q E s:=by
 obtain ⟨o,go,gc,gd⟩:=id hi
 obtain ⟨ol,gol,_,nl,gdl⟩:=ht
 unfold Qx
 refine Bl (Tc (name:=TQ "__next__") hi.typeIs Ve
  (S5 Ve hi.typeIs PySem.F.entry_tuple_iterator_next ?_ (PySem.F.args_tuple_iterator_next_1 _)))
 show Bs _ _ (field (.ref it) 0 >>= _) _ _ s
 refine Bl (Lw go gd (x:=.ref t) rfl ?_)
 show Bs _ _ (if (Value.ref t==Value.none)=true then _ else _) _ _ s
 rw [if_neg (by exact Nb)]
 show Bs _ _ (field (.ref it) 1 >>= _) _ _ s
 refine Bl (Lw go gd (x:=.int i 0) rfl ?_)
 show Bs _ _ (seqItems? (.ref t) >>= _) _ _ s
 refine Bl (Tp gol gdl ?_)
 simp only [Int.toNat_natCast,hx]
 refine Bl (V3 go gd (by simp) (HY ⟨x,rfl,HY (q _ ?_ (VF ..))⟩))
 exact ⟨_,VH _ go (VN (U7 gd _)),(Obj.cls_mapFields ..).trans gc,by rw [U7 gd];simp [O4]⟩
theorem aez {it t:Addr}{i:Nat}{its:Array FX}{Q:FX->AP->Prop}(hh:A.handled=FN)(hi:s.heap.IsTupleIter it t i)(ht:s.heap.IsTuple t its)(hx:its[i]?=FN)
  (q:∀ h' e,Ue it s.heap h'->(∃ o,h'.get? e=Dn o/\o.cls=.type "StopIteration")->E (.ref e) { s with heap:=h' }):Bs (Cj P w) A (Qx (.ref it)) Q E s:=by
 obtain ⟨o,go,gc,gd⟩:=id hi
 obtain ⟨ol,gol,_,nl,gdl⟩:=ht
 unfold Qx
 refine Bl (Tc (name:=TQ "__next__") hi.typeIs Ve
  (S5 Ve hi.typeIs PySem.F.entry_tuple_iterator_next ?_ (PySem.F.args_tuple_iterator_next_1 _)))
 show Bs _ _ (field (.ref it) 0 >>= _) _ _ s
 refine Bl (Lw go gd (x:=.ref t) rfl ?_)
 show Bs _ _ (if (Value.ref t==Value.none)=true then _ else _) _ _ s
 rw [if_neg (by exact Nb)]
 show Bs _ _ (field (.ref it) 1 >>= _) _ _ s
 refine Bl (Lw go gd (x:=.int i 0) rfl ?_)
 show Bs _ _ (seqItems? (.ref t) >>= _) _ _ s
 refine Bl (Tp gol gdl ?_)
 simp only [Int.toNat_natCast,hx]
 refine Bl (U5 (Bl (V3 go gd (by simp) ?_)))
 show Bs _ _ (newExc (.type "StopIteration") [] >>= _) _ _ _
 refine Bl ?_
 simp only [newExc,newTuple]
 refine Bl (Pn ?_ (by size_fits))
 refine Bl (m:=V2 _ _) (T7 (a:=Value.none) (by first | rfl | (simp only [V2];rfl)) ?_)
 refine Pn ?_ (by size_fits)
 simp only [raiseNew]
 refine Bl (wpAny_handled ?_)
 first | rw [show A.in1.handled=FN from hh] | rw [hh]
 refine Bl (HY (wpAny_throw ?_))
 exact q _ _ (((VF ..).extBut.push _).push _) ⟨_,Lf _ rfl,rfl⟩
theorem Sk.next {it a:Addr}{i:Nat}{its:Array FX}{x:FX}{Q:FX->AP->Prop}(hi:k.it s.heap it a i)(hs:k.sq s.heap a its)(hx:its[i]?=Dn x)
  (q:∀ h',k.it h' it a (i+1)->UG it s.heap h'->Q x { s with heap:=h' }):Bs (Cj P w) A (Qx (.ref it)) Q E s:=by
 cases k with
 | l=>exact wpAny_nextOf_list_item hi hs hx q
 | t=>exact afr hi hs hx q
theorem Sk.stop {it a:Addr}{i:Nat}{its:Array FX}{Q:FX->AP->Prop}(hh:A.handled=FN)(hi:k.it s.heap it a i)(hs:k.sq s.heap a its)(hx:its[i]?=FN)
  (q:∀ h' e,Ue it s.heap h'->(∃ o,h'.get? e=Dn o/\o.cls=.type "StopIteration")->E (.ref e) { s with heap:=h' }):Bs (Cj P w) A (Qx (.ref it)) Q E s:=by
 cases k with
 | l=>exact wpAny_nextOf_list_end hh hi hs hx q
 | t=>exact aez hh hi hs hx q
theorem Sk.iter {a:Addr}{its:Array FX}{Q:FX->AP->Prop}(hs:k.sq s.heap a its)
  (q:Q (.ref s.heap.objs.size) { s with heap:=s.heap.push { cls:=.type k.nm,data:=.fields #[.ref a,.int 0 0] } }):Bs (Cj P w) A (pyIter (.ref a)) Q E s:=by
 cases k with
 | l=>exact Ux hs q
 | t=>exact wpAny_pyIter_tuple hs q
structure Zap (z TI TO i1 i2:Addr):Prop where
 a1:TI≠z
 a2:TO≠z
 a3:i1≠z
 a4:i2≠z
 a5:TI≠TO
 a6:TI≠i1
 a7:TI≠i2
 a8:TO≠i1
 a9:TO≠i2
 b1:i1≠i2
structure Off (a z TO i1 i2:Addr):Prop where
 z:a≠z
 o:a≠TO
 i:a≠i1
 j:a≠i2
theorem zbc {z TI TO i1 i2 l1 l2:Addr}{n1 n2:Nat}{xs ys:Array FX}{x y a b:FX}{Q:Option FX->AP->Prop}(D:Zap z TI TO i1 i2)(o1:Off l1 z TO i1 i2)(o2:Off l2 z TO i1 i2)
  (gz:IsZip s.heap z TI TO .none) (gI:OD s.heap TI (.ref i1) (.ref i2)) (gO:OD s.heap TO a b) (g1:k1.it s.heap i1 l1 n1) (g2:k2.it s.heap i2 l2 n2) (gx:k1.sq s.heap l1 xs) (gy:k2.sq s.heap l2 ys)
  (hx:xs[n1]?=Dn x) (hy:ys[n2]?=Dn y)
  (q:∀ h',IsZip h' z TI TO (O4 s.heap.objs.size)->OD h' TO x y->k1.it h' i1 l1 (n1+1)->k2.it h' i2 l2 (n2+1)->OD h' s.heap.objs.size x y->h'.objs.size=s.heap.objs.size+1 ->
   (∀ c o,c≠z->c≠TO->c≠i1->c≠i2->s.heap.get? c=Dn o->h'.get? c=Dn o)->Q (Dn (.ref s.heap.objs.size)) { s with heap:=h' }) :
  Bs (Cj P w) A (Oz (.ref z)) Q E s:=by
 have gT:s.TypeIs (.ref z) "zip":=⟨_,gz,rfl⟩
 unfold Oz
 refine Bl (U0 (Tc (name:=TQ "__next__") gT VP (S5 VP gT PySem.F.entry_zip_next ?_ (PySem.F.args_zip_next_1 _))))
 show Bs _ _ (field (.ref z) 2 >>= _) _ _ _
 refine Bl (Lw gz rfl (x:=.bool false) rfl ?_)
 show Bs _ _ (field (.ref z) 3 >>= _) _ _ _
 refine Bl (Lw gz rfl (x:=.ref TI) rfl ?_)
 refine Bl (Tp gI rfl ?_)
 show Bs _ _ (Vl (.ref z) >>= _) _ _ _
 refine Bl ?_
 unfold Vl
 refine Bl (Lw gz rfl (x:=.none) rfl (HY ?_))
 simp only [if_true]
 refine Bl (U5 ?_)
 refine Bl (Lw gz rfl (x:=.ref TO) rfl ?_)
 refine Bl (Us gz (by simp) fun h₁ z₁ s₁=>?_)
 replace z₁ : IsZip h₁ z TI TO .ellipsis:=z₁
 refine Bl ?_
 simp only [List.zipIdx_cons,List.zipIdx_nil,List.forIn_cons,List.forIn_nil]
 -- the first one
 refine Bl (Bl (wpAny_onRaise ?_))
 show Bs _ _ (Qx (.ref i1) >>= _) _ _ _
 refine Bl (Sk.next (k:=k1) (s:={ s with heap:=h₁ }) (Sk.it_at g1 fun o e=>s₁.extBut _ o D.a3 e) (Sk.sq_at gx fun o e=>s₁.extBut _ o o1.z e) hx fun h₂ g1₂ s₂=>HY ?_)
 have gO₂ : OD h₂ TO a b:=s₂.extBut _ _ D.a8 (s₁.extBut _ _ D.a2 gO)
 refine Bl (Tp gO₂ rfl ?_)
 refine Bl (wpAny_updateSeq_pair gO₂ fun h₃ gO₃ s₃=>?_)
 replace gO₃ : OD h₃ TO x b:=gO₃
 refine Bl (wpAny_letGo (HY ?_))
 -- the second one
 refine Bl (Bl (wpAny_onRaise ?_))
 show Bs _ _ (Qx (.ref i2) >>= _) _ _ _
 refine Bl (Sk.next (k:=k2) (s:={ s with heap:=h₃ }) (Sk.it_at g2 fun o e=>s₃.extBut _ o D.a9.symm (s₂.extBut _ o D.b1.symm (s₁.extBut _ o D.a4 e)))
  (Sk.sq_at gy fun o e=>s₃.extBut _ o o2.o (s₂.extBut _ o o2.i (s₁.extBut _ o o2.z e))) hy fun h₄ g2₄ s₄=>HY ?_)
 have gO₄ : OD h₄ TO x b:=s₄.extBut _ _ D.a9 gO₃
 refine Bl (Tp gO₄ rfl ?_)
 refine Bl (wpAny_updateSeq_pair gO₄ fun h₅ gO₅ s₅=>?_)
 replace gO₅ : OD h₅ TO x y:=gO₅
 refine Bl (wpAny_letGo (HY (HY ?_)))
 -- the pair is handed out
 refine Bl (Tp gO₅ rfl ?_)
 refine Bl (wpAny_newTuple ?_)
 have size:h₅.objs.size=s.heap.objs.size:=by rw [s₅.1,s₄.1,s₃.1,s₂.1,s₁.1]
 have z₅ : IsZip h₅ z TI TO .ellipsis:=s₅.extBut _ _ D.a2.symm (s₄.extBut _ _ D.a4.symm (s₃.extBut _ _ D.a2.symm (s₂.extBut _ _ D.a3.symm z₁)))
 have all₅ : ∀ c o,c≠z->c≠TO->c≠i1->c≠i2->s.heap.get? c=Dn o->h₅.get? c=Dn o:=fun c o c1 c2 c3 c4 e=>s₅.extBut _ _ c2 (s₄.extBut _ _ c4 (s₃.extBut _ _ c2 (s₂.extBut _ _ c3 (s₁.extBut _ _ c1 e))))
 have g1₅ : k1.it h₅ i1 l1 (n1+1):=Sk.it_at g1₂ fun o e=>s₅.extBut _ o D.a8.symm (s₄.extBut _ o D.b1 (s₃.extBut _ o D.a8.symm e))
 have g2₅ : k2.it h₅ i2 l2 (n2+1):=Sk.it_at g2₄ fun o e=>s₅.extBut _ o D.a9.symm e
 have zlt:z<h₅.objs.size:=Il z₅
 show Bs _ _ (Builtin.SmallTypes.ownedTupleHandOut (.ref z) (.ref h₅.objs.size) >>= _) _ _ _
 refine Bl ?_
 unfold Builtin.SmallTypes.ownedTupleHandOut
 have z₆ : IsZip (h₅.push { cls:=.type "tuple",data:=.seq #[x,y] }) z TI TO .ellipsis:=J6 _ z₅
 refine Bl (Us z₆ (by simp) fun h₇ z₇ s₇=>?_)
 replace z₇ : IsZip h₇ z TI TO (O4 h₅.objs.size):=z₇
 refine Us z₇ (by simp) fun h₈ z₈ s₈=>?_
 replace z₈ : IsZip h₈ z TI TO (O4 h₅.objs.size):=z₈
 have up:∀ c o,c≠z->h₅.get? c=Dn o->h₈.get? c=Dn o:=fun c o c1 e=>s₈.extBut _ _ c1 (s₇.extBut _ _ c1 (J6 _ e))
 have T₈ : OD h₈ h₅.objs.size x y:=s₈.extBut _ _ (Qs zlt) (s₇.extBut _ _ (Qs zlt) (Lf _ rfl))
 have size8:h₈.objs.size=h₅.objs.size+1:=by rw [s₈.1,s₇.1,Qe]
 rw [size] at z₈ T₈ size8
 refine HY ⟨_,rfl,HY ?_⟩
 show Q (Dn (.ref h₅.objs.size)) _
 rw [size]
 exact q h₈ z₈ (up _ _ D.a2 gO₅) (Sk.it_at g1₅ fun o e=>up _ o D.a3 e) (Sk.it_at g2₅ fun o e=>up _ o D.a4 e) T₈ size8 fun c o c1 c2 c3 c4 e=>up c o c1 (all₅ c o c1 c2 c3 c4 e)
theorem afA {z TI TO i1 i2 l1 l2:Addr}{n1 n2:Nat}{xs ys:Array FX}{a b:FX}{Q:Option FX->AP->Prop}(hh:A.handled=FN)(D:Zap z TI TO i1 i2)(o1:Off l1 z TO i1 i2)(o2:Off l2 z TO i1 i2)
  (gz:IsZip s.heap z TI TO .none) (gI:OD s.heap TI (.ref i1) (.ref i2)) (gO:OD s.heap TO a b) (g1:k1.it s.heap i1 l1 n1) (g2:k2.it s.heap i2 l2 n2) (gx:k1.sq s.heap l1 xs) (gy:k2.sq s.heap l2 ys)
  (hend:xs[n1]?=FN\/ys[n2]?=FN)
  (q:∀ h',(∀ c o,c≠z->c≠TO->c≠i1->c≠i2->s.heap.get? c=Dn o->h'.get? c=Dn o)->Q FN { s with heap:=h' }):Bs (Cj P w) A (Oz (.ref z)) Q E s:=by
 have gT:s.TypeIs (.ref z) "zip":=⟨_,gz,rfl⟩
 have fin:∀ (h':Heap) (e:Addr),(∀ c o,c≠z->c≠TO->c≠i1->c≠i2->s.heap.get? c=Dn o->h'.get? c=Dn o)->(∃ o,h'.get? e=Dn o/\o.cls=.type "StopIteration") ->
   Bs (Cj P w) A (do if <-isInstance (.ref e) (.type "StopIteration") then pure FN else throw (.ref e)) Q E { s with heap:=h' }:=fun h' e all ⟨o,ho,hc⟩=>
  Bl (wpAny_isInstance (T := "StopIteration") (b:=true) ⟨o,ho,hc⟩ isSubtype_stop (HY (q _ all)))
 unfold Oz
 refine Bl (U0 (Tc (name:=TQ "__next__") gT VP (S5 VP gT PySem.F.entry_zip_next ?_ (PySem.F.args_zip_next_1 _))))
 show Bs _ _ (field (.ref z) 2 >>= _) _ _ _
 refine Bl (Lw gz rfl (x:=.bool false) rfl ?_)
 show Bs _ _ (field (.ref z) 3 >>= _) _ _ _
 refine Bl (Lw gz rfl (x:=.ref TI) rfl ?_)
 refine Bl (Tp gI rfl ?_)
 show Bs _ _ (Vl (.ref z) >>= _) _ _ _
 refine Bl ?_
 unfold Vl
 refine Bl (Lw gz rfl (x:=.none) rfl (HY ?_))
 simp only [if_true]
 refine Bl (U5 ?_)
 refine Bl (Lw gz rfl (x:=.ref TO) rfl ?_)
 refine Bl (Us gz (by simp) fun h₁ z₁ s₁=>?_)
 replace z₁ : IsZip h₁ z TI TO .ellipsis:=z₁
 refine Bl ?_
 simp only [List.zipIdx_cons,List.zipIdx_nil,List.forIn_cons,List.forIn_nil]
 refine Bl (Bl (wpAny_onRaise ?_))
 show Bs _ _ (Qx (.ref i1) >>= _) _ _ _
 have g1₁ : k1.it h₁ i1 l1 n1:=Sk.it_at g1 fun o e=>s₁.extBut _ o D.a3 e
 have gx₁ : k1.sq h₁ l1 xs:=Sk.sq_at gx fun o e=>s₁.extBut _ o o1.z e
 cases hx:xs[n1]? with
 | none=>
  refine Bl (Sk.stop (k:=k1) (s:={ s with heap:=h₁ }) hh g1₁ gx₁ hx fun h₂ e s₂ he=>?_)
  obtain ⟨oe,hoe,hce⟩:=he
  have z₂ : IsZip h₂ z TI TO .ellipsis:=s₂ _ _ D.a3.symm z₁
  have ez:e≠z:=fun y=>by subst y;rw [z₂] at hoe;cases hoe;simp at hce
  refine Us z₂ (by simp) fun h₃ _ s₃=>fin h₃ e (fun c o c1 _ c3 _ y=>s₃.extBut _ _ c1 (s₂ _ _ c3 (s₁.extBut _ _ c1 y))) ⟨oe,s₃.extBut _ _ ez hoe,hce⟩
 | some x=>
  have hy:ys[n2]?=FN:=by
   rcases hend with h | h
   ·rw [hx] at h;cases h
   ·exact h
  refine Bl (Sk.next (k:=k1) (s:={ s with heap:=h₁ }) g1₁ gx₁ hx fun h₂ g1₂ s₂=>HY ?_)
  have gO₂ : OD h₂ TO a b:=s₂.extBut _ _ D.a8 (s₁.extBut _ _ D.a2 gO)
  refine Bl (Tp gO₂ rfl ?_)
  refine Bl (wpAny_updateSeq_pair gO₂ fun h₃ gO₃ s₃=>?_)
  refine Bl (wpAny_letGo (HY ?_))
  refine Bl (Bl (wpAny_onRaise ?_))
  show Bs _ _ (Qx (.ref i2) >>= _) _ _ _
  refine Bl (Sk.stop (k:=k2) (s:={ s with heap:=h₃ }) hh (Sk.it_at g2 fun o e=>s₃.extBut _ o D.a9.symm (s₂.extBut _ o D.b1.symm (s₁.extBut _ o D.a4 e)))
   (Sk.sq_at gy fun o e=>s₃.extBut _ o o2.o (s₂.extBut _ o o2.i (s₁.extBut _ o o2.z e))) hy fun h₄ e s₄ he=>?_)
  obtain ⟨oe,hoe,hce⟩:=he
  have z₄ : IsZip h₄ z TI TO .ellipsis:=s₄ _ _ D.a4.symm (s₃.extBut _ _ D.a2.symm (s₂.extBut _ _ D.a3.symm z₁))
  have ez:e≠z:=fun y=>by subst y;rw [z₄] at hoe;cases hoe;simp at hce
  refine Us z₄ (by simp) fun h₅ _ s₅=>fin h₅ e (fun c o c1 c2 c3 c4 y=>s₅.extBut _ _ c1 (s₄ _ _ c4 (s₃.extBut _ _ c2 (s₂.extBut _ _ c3 (s₁.extBut _ _ c1 y))))) ⟨oe,s₅.extBut _ _ ez hoe,hce⟩
abbrev zh1 (k1:Sk)(h:Heap)(l1:Addr):Heap:=h.push { cls:=.type k1.nm,data:=.fields #[.ref l1,.int 0 0] }
abbrev zh2 (k1 k2:Sk)(h:Heap)(l1 l2:Addr):Heap:=(zh1 k1 h l1).push { cls:=.type k2.nm,data:=.fields #[.ref l2,.int 0 0] }
abbrev zh3 (k1 k2:Sk)(h:Heap)(l1 l2:Addr):Heap:=(zh2 k1 k2 h l1 l2).push { cls:=.type "tuple",data:=.seq #[.ref h.objs.size,.ref (zh1 k1 h l1).objs.size] }
abbrev zh4 (k1 k2:Sk)(h:Heap)(l1 l2:Addr):Heap:=(zh3 k1 k2 h l1 l2).push { cls:=.type "tuple",data:=.seq #[.none,.none] }
abbrev zh5 (k1 k2:Sk)(h:Heap)(l1 l2:Addr):Heap:=(zh4 k1 k2 h l1 l2).push { cls:=.type "zip",data:=.fields #[.none,.bool false,.bool false,.ref (zh2 k1 k2 h l1 l2).objs.size,.ref (zh3 k1 k2 h l1 l2).objs.size] }
theorem zbv (l1 l2:Addr)(xs ys:Array FX):Meets (Qu.«zip.__new__» ⟨[.type "zip",.ref l1,.ref l2],[]⟩) (fun _ R s=>k1.sq s.heap l1 xs/\k2.sq s.heap l2 ys /\
   R (.ok (.ret (.ref (zh4 k1 k2 s.heap l1 l2).objs.size))) { s with heap:=zh5 k1 k2 s.heap l1 l2 }):=
 .of_wp fun prog w A R s h=>by
  obtain ⟨hp,g,d,tk,os⟩:=s;obtain ⟨gl1,gl2,h⟩:=h
  have hsub:=sub_zip
  have L1:k1.sq (Shared.heap ⟨hp,g,d,tk,os⟩) l1 xs:=gl1
  have L2':k2.sq (Shared.heap ⟨hp.push { cls:=.type k1.nm,data:=.fields #[.ref l1,.int 0 0] },g,d,tk,os⟩) l2 ys:=Sk.sq_at gl2 fun o e=>J6 _ e
  wp_walk using Sk.iter L1,Sk.iter L2'
  exact ⟨_,rfl,h⟩
theorem agj {l1 l2:Addr}{xs ys:Array FX}{Q:FX->AP->Prop}(gl1:k1.sq s.heap l1 xs)(gl2:k2.sq s.heap l2 ys)
  (q:∀ h',IsZip h' (s.heap.objs.size+4) (s.heap.objs.size+2) (s.heap.objs.size+3) .none->OD h' (s.heap.objs.size+2) (.ref s.heap.objs.size) (.ref (s.heap.objs.size+1)) ->
   OD h' (s.heap.objs.size+3) .none .none->k1.it h' s.heap.objs.size l1 0->k2.it h' (s.heap.objs.size+1) l2 0->h'.objs.size=s.heap.objs.size+5 ->
   (∀ c o,s.heap.get? c=Dn o->h'.get? c=Dn o)->Q (.ref (s.heap.objs.size+4)) { s with heap:=h' }):Bs (Cj P w) A (call (.type "zip") [.ref l1,.ref l2]) Q E s:=by
 refine callType_new PySem.F.called_zip (by decide) (PySem.F.typeCall_zip_2 _ _) (PySem.F.newCall_zip_2 _ _) (fun obj=>PySem.F.args_object_init_3 obj _ _) PySem.F.entry_zip_new (zbv (k1:=k1) (k2:=k2) l1 l2 xs ys) ⟨gl1,gl2,?_⟩
 have e1:(zh1 k1 s.heap l1).objs.size=s.heap.objs.size+1:=Qe ..
 have e2:(zh2 k1 k2 s.heap l1 l2).objs.size=s.heap.objs.size+2:=by rw [Qe,e1]
 have e3:(zh3 k1 k2 s.heap l1 l2).objs.size=s.heap.objs.size+3:=by rw [Qe,e2]
 have e4:(zh4 k1 k2 s.heap l1 l2).objs.size=s.heap.objs.size+4:=by rw [Qe,e3]
 have e5:(zh5 k1 k2 s.heap l1 l2).objs.size=s.heap.objs.size+5:=by rw [Qe,e4]
 have f5:(zh5 k1 k2 s.heap l1 l2).get? (zh4 k1 k2 s.heap l1 l2).objs.size=Dn _:=Lf _ rfl
 have f4:(zh5 k1 k2 s.heap l1 l2).get? (zh3 k1 k2 s.heap l1 l2).objs.size=Dn _:=J6 _ (Lf _ rfl)
 have f3:(zh5 k1 k2 s.heap l1 l2).get? (zh2 k1 k2 s.heap l1 l2).objs.size=Dn _:=J6 _ (J6 _ (Lf _ rfl))
 have f2:(zh5 k1 k2 s.heap l1 l2).get? (zh1 k1 s.heap l1).objs.size=Dn _:=J6 _ (J6 _ (J6 _ (Lf _ rfl)))
 have f1:(zh5 k1 k2 s.heap l1 l2).get? s.heap.objs.size=Dn _:=J6 _ (J6 _ (J6 _ (J6 _ (Lf _ rfl))))
 show _/\_
 rw [e2,e3,e4] at f5
 rw [e1,e2] at f3
 rw [e3] at f4
 rw [e1] at f2
 rw [e4]
 refine ⟨⟨_,f5,rfl⟩,q _ f5 f3 f4 ?_ ?_ e5 fun c o x=>J6 _ (J6 _ (J6 _ (J6 _ (J6 _ x))))⟩
 ·cases k1 with
  | l=>exact ⟨_,f1,rfl,rfl⟩
  | t=>exact ⟨_,f1,rfl,rfl⟩
 ·cases k2 with
  | l=>exact ⟨_,f2,rfl,rfl⟩
  | t=>exact ⟨_,f2,rfl,rfl⟩
end
section
variable {X:Cx}{pins:List (Addr×Obj)}{σ : St}{H:Hp}{s:AP}{h':Heap}
theorem BL.turnedL {t':Nat}{ch:List Addr}(I:BL X pins σ H s)(k:∀ b o,b∉ch->s.heap.get? b=Dn o->h'.get? b=Dn o)(hf:∀ b∈ch,Ji X pins H b):BL X pins σ H { s with heap:=h',toks:=t' }:=by
 have nit:∀ b u,H b=Dn u->b∉ch:=fun b u e z=>by rw [(hf b z).1] at e;cases e
 refine I.step (g':=s.gens) (d':=s.drawn) (ch:=ch) (fun b hb=>?_) (fun b o _ _ hc e _=>k b o hc e) (fun b o _ _ hc e _=>⟨o.slots,k b o hc e⟩) (fun _ _ _ _ n=>n)
  (fun b o hc e=>⟨o,k b o hc e⟩) (fun _ _ e=>e) (fun _ _ _ e=>e) (fun b ps e=>⟨#[],by rw [e];simp⟩) (fun m hm=>?_) (fun b u e=>?_) I.bare
 ·obtain ⟨_,f1,_,f3,f4,f5⟩:=hf b hb
  exact ⟨f3,f1,f4,f5⟩
 ·obtain ⟨o,es,ep,ho,r⟩:=hm
  exact ⟨o,es,ep,k _ o (fun z=>(hf _ z).2.1 rfl) ho,r⟩
 ·refine (I.hok b u e).stay (fun c v hc q=>k c v ?_ q) (fun _ q=>q) fun _ _ q=>q
  rcases hc with z | z
  ·rw [z];exact nit b u e
  ·exact nit c _ z
end
def Sk.v (k:Sk)(K:BZ)(H:Hp)(a:Addr)(xs:List V):Prop:=match k with
 | .l=>Je K H a xs
 | .t=>Jg K H a xs
theorem BL.sk {X:Cx}{pins:List (Addr×Obj)}{σ : St}{H:Hp}{s:AP}{k:Sk}{a:Addr}{xs:List V}(I:BL X pins σ H s)(h:k.v X.K H a xs):∃ its:List FX,Bm xs its/\k.sq s.heap a its.toArray:=by
 cases k with
 | l=>obtain ⟨its,r,p,_⟩:=I.list h;exact ⟨its,r,p.isList⟩
 | t=>obtain ⟨its,r,p,_⟩:=I.tuple h;exact ⟨its,r,p⟩
theorem BL.sk_inj {X:Cx}{pins:List (Addr×Obj)}{σ : St}{H:Hp}{s:AP}{k:Sk}{a:Addr}{xs ys:List V}(I:BL X pins σ H s)(h:k.v X.K H a xs)(g:k.v X.K H a ys):xs=ys:=by
 cases k with
 | l=>exact I.list_inj h g
 | t=>exact I.tuple_inj h g
def Itz (K:BZ)(k1 k2:Sk)(l1 l2:Addr):It:=
  ⟨fun i H=>∃ xs ys x y,k1.v K H l1 xs/\k2.v K H l2 ys/\xs[i]?=Dn x/\ys[i]?=Dn y,
   fun i H v H'=>∃ p x y,H p=FN/\v=.ref p/\H'=IW H p (.tup [x,y])/\(∀ xs,k1.v K H l1 xs->xs[i]?=Dn x)/\∀ ys,k2.v K H l2 ys->ys[i]?=Dn y,
   fun i H=>∃ xs ys,k1.v K H l1 xs/\k2.v K H l2 ys/\(xs.length<=i\/ys.length<=i),true⟩
def acA (k1 k2:Sk)(z TI TO i1 i2 l1 l2:Addr)(n:Nat)(h:Heap):Prop:=IsZip h z TI TO .none/\OD h TI (.ref i1) (.ref i2)/\(∃ a b,OD h TO a b)/\k1.it h i1 l1 n/\k2.it h i2 l2 n
theorem afy {P:Dr}{w:Ci}{K:BZ}{elts:List Expr}{kt:Nat}{pos:Pos}{k1 k2:Sk}{z TI TO i1 i2 l1 l2:Addr}(D:Zap z TI TO i1 i2)(o1:Off l1 z TO i1 i2)(o2:Off l2 z TO i1 i2) :
  Turn P w K (.Tuple elts kt pos) (Itz K k1 k2 l1 l2) [z,TI,TO,i1,i2] z (acA k1 k2 z TI TO i1 i2 l1 l2) where
 mem:=by simp
 obj:=fun i h st b hb=>by
  obtain ⟨gz,gI,⟨a,b',gO⟩,g1,g2⟩:=st
  simp only [K9,NT,or_false] at hb
  rcases hb with rfl | rfl | rfl | rfl | rfl
  ·exact ⟨_,gz,fun v y=>by cases y⟩
  ·exact ⟨_,gI,fun v y=>by cases y⟩
  ·exact ⟨_,gO,fun v y=>by cases y⟩
  ·obtain ⟨o,e,_,d⟩:=Sk.it_obj g1;exact ⟨o,e,fun v y=>by rw [d] at y;cases y⟩
  ·obtain ⟨o,e,_,d⟩:=Sk.it_obj g2;exact ⟨o,e,fun v y=>by rw [d] at y;cases y⟩
 keep:=fun i h h' st k=>by
  obtain ⟨gz,gI,⟨a,b,gO⟩,g1,g2⟩:=st
  exact ⟨k z (by simp) _ gz,k TI (by simp) _ gI,⟨a,b,k TO (by simp) _ gO⟩,Sk.it_at g1 fun o e=>k i1 (by simp) o e,Sk.it_at g2 fun o e=>k i2 (by simp) o e⟩
 item:=by
  intro X hP hw hK hc i pins s σ H E I hf st hg
  subst hP hw hK
  obtain ⟨gz,gI,⟨a,b,gO⟩,g1,g2⟩:=st
  obtain ⟨xs,ys,x,y,hx,hy,ex,ey⟩:=hg
  obtain ⟨its,r1,p1⟩:=I.sk hx
  obtain ⟨jts,r2,p2⟩:=I.sk hy
  obtain ⟨u,hu,ru⟩:=r1.get ex
  obtain ⟨v,hv,rv⟩:=r2.get ey
  refine zbc D o1 o2 gz gI gO g1 g2 p1 p2 (x:=u) (y:=v) (by simpa using hu) (by simpa using hv) fun h1 z1 O1 g1' g2' T1 size1 all1=>⟨_,rfl,?_⟩
  have pz:s.heap.objs.size≠z:=Qs (Il gz)
  have lt:∀ b∈[z,TI,TO,i1,i2],s.heap.objs.size≠b:=fun b hb=>by
   simp only [K9,NT,or_false] at hb
   rcases hb with rfl | rfl | rfl | rfl | rfl
   ·exact pz
   ·exact Qs (Il gI)
   ·exact Qs (Il gO)
   ·obtain ⟨o,e,_⟩:=Sk.it_obj g1;exact Qs (Il e)
   ·obtain ⟨o,e,_⟩:=Sk.it_obj g2;exact Qs (Il e)
  have all:∀ c o,c∉[z,TI,TO,i1,i2]->s.heap.get? c=Dn o->h1.get? c=Dn o:=fun c o hc e=>
   all1 c o (fun q=>hc (by simp [q])) (fun q=>hc (by simp [q])) (fun q=>hc (by simp [q])) (fun q=>hc (by simp [q])) e
  refine wpAny_letOwnedTupleGo_zip (s:={ s with heap:=h1 }) z1 fun h2 z2 sb=>?_
  have fr:H s.heap.objs.size=FN:=I.hok.fresh (Ij _)
  have I1:BL X pins σ (IW H s.heap.objs.size (.tup [x,y])) { s with heap:=s.heap.push { cls:=.type "tuple",data:=.seq #[u,v] } }:=
   I.laid (t':=s.toks) (fun b o e=>J6 _ e) (Ij _) ⟨(by show 2<=Ig;decide),[u,v],.cons ru (.cons rv .nil),⟨_,Lf _ rfl,rfl,⟨_,rfl⟩,rfl⟩⟩
  have hf1:∀ b∈[z,TI,TO,i1,i2],Ji X pins (IW H s.heap.objs.size (.tup [x,y])) b:=fun b hb=>⟨by rw [aV (N8 (lt b hb))];exact (hf b hb).1,(hf b hb).2⟩
  have I2:BL X pins σ (IW H s.heap.objs.size (.tup [x,y])) { s with heap:=h2 }:=by
   refine BL.turnedL (s:={ s with heap:=s.heap.push { cls:=.type "tuple",data:=.seq #[u,v] } }) (h':=h2) (t':=s.toks) (ch:=[z,TI,TO,i1,i2]) I1 (fun b o hb e=>?_) hf1
   have bz:b≠z:=fun q=>hb (by simp [q])
   rcases Heap.get?_push_cases e with ⟨rfl,rfl⟩ | e'
   ·exact sb.extBut _ _ bz T1
   ·exact sb.extBut _ _ bz (all b o hb e')
  refine ⟨.ref s.heap.objs.size,_,I2,rfl,⟨s.heap.objs.size,x,y,fr,rfl,rfl,fun xs' q=>by rw [I.sk_inj q hx];exact ex,fun ys' q=>by rw [I.sk_inj q hy];exact ey⟩,?_,fun b hb=>(hf1 b hb).1⟩
  exact ⟨z2,sb.extBut _ _ D.a1 (all1 _ _ D.a1 D.a5 D.a6 D.a7 gI),⟨u,v,sb.extBut _ _ D.a2 O1⟩,Sk.it_at g1' fun o e=>sb.extBut _ o D.a3 e,Sk.it_at g2' fun o e=>sb.extBut _ o D.a4 e⟩
 done:=by
  intro X hP hw hK hc i pins s σ H E I hf st hg
  subst hP hw hK
  obtain ⟨gz,gI,⟨a,b,gO⟩,g1,g2⟩:=st
  obtain ⟨xs,ys,hx,hy,hend⟩:=hg
  obtain ⟨its,r1,p1⟩:=I.sk hx
  obtain ⟨jts,r2,p2⟩:=I.sk hy
  have l1:=r1.length
  have l2:=r2.length
  refine afA (I.ok.hd (hc rfl)) D o1 o2 gz gI gO g1 g2 p1 p2 (hend.imp (fun q=>by simp;lia) fun q=>by simp;lia) fun h1 all1=>⟨rfl,I.turnedL (t':=s.toks) (ch:=[z,TI,TO,i1,i2]) (fun c o hc e=>?_) hf⟩
  exact all1 c o (fun q=>hc (by simp [q])) (fun q=>hc (by simp [q])) (fun q=>hc (by simp [q])) (fun q=>hc (by simp [q])) e
 self:=fun _ _ _ _ _ st h=>wpAny_pyIter_zip st.1 h
section
variable {X:Cx}{K:BZ}
def sqk (K:BZ)(H:Hp)(x:V)(k:Sk)(a:Addr):Prop:=x=.ref a/\∃ xs,k.v K H a xs
def ad9 (K:BZ)(ta:TA):TI:=fun σ H R=>ta σ H fun vs H1=>∃ x y k1 k2 a b,vs=[x,y]/\sqk K H1 x k1 a/\sqk K H1 y k2 b/\R (Itz K k1 k2 a b) H1
theorem Sk.sq_lt {k:Sk}{h:Heap}{a:Addr}{its:Array FX}(x:k.sq h a its):a<h.objs.size:=by
 cases k with
 | l=>obtain ⟨o,e,_⟩:=x;exact Il e
 | t=>obtain ⟨o,e,_⟩:=x;exact Il e
theorem qT {a b:Nat}(h:a≠b):(show Addr from a)≠(show Addr from b):=h
theorem aah (n:Nat):Zap (n+4) (n+2) (n+3) n (n+1) where
 a1:=qT (show n+2≠n+4 by lia)
 a2:=qT (show n+3≠n+4 by lia)
 a3:=qT (show n≠n+4 by lia)
 a4:=qT (show n+1≠n+4 by lia)
 a5:=qT (show n+2≠n+3 by lia)
 a6:=qT (show n+2≠n by lia)
 a7:=qT (show n+2≠n+1 by lia)
 a8:=qT (show n+3≠n by lia)
 a9:=qT (show n+3≠n+1 by lia)
 b1:=qT (show n≠n+1 by lia)
theorem Ra {a n:Nat}(h:a<n):Off a (n+4) (n+3) n (n+1) where
 z:=qT (show a≠n+4 by lia)
 o:=qT (show a≠n+3 by lia)
 i:=qT (show a≠n by lia)
 j:=qT (show a≠n+1 by lia)
theorem abw {n c:Nat}(h:c∈([n+4,n+2,n+3,n,n+1]:List Nat)):n<=c:=by
 simp only [K9,NT,or_false] at h
 lia
theorem Yk {e1 e2:Expr}{ta:TA}{p pos tpos:Pos}{elts:List Expr}{kt:Nat}(hg:Gl X "zip")(hm:X.mg "zip" = FN)(ha:PA X [e1,e2] ta)
  (hs:HI [e1,e2] X.env=(false,eval e1 X.env)::HI [e2] X.env:=by rfl) (hpl:(Kp pos (HI [e2] X.env)).any (·.1)=false:=by rfl) :
  PI X (.Tuple elts kt tpos) (.Call (.Name "zip" p) [e1,e2] [] pos) (ad9 X.K ta):=by
 intro pins s σ H R I h
 refine U6 (uY I hg hm boot_zip ?_ (by decide) (by decide))
 refine V5 (Ia (ha pos pins s σ H _ I h) fun us s1 ⟨vs,H1,I1,r1,q1⟩=>?_) hs hpl
 obtain ⟨x,y,k1,k2,a,b,ev,⟨ex,xs,hx⟩,⟨ey,ys,hy⟩,q⟩:=q1
 subst ev ex ey
 obtain ⟨u1,u2,eu,ru1,ru2⟩:=vals2 r1
 subst eu
 cases ru1
 cases ru2
 obtain ⟨its,r1,p1⟩:=I1.sk hx
 obtain ⟨jts,r2,p2⟩:=I1.sk hy
 have la:=Sk.sq_lt p1
 have lb:=Sk.sq_lt p2
 refine agj p1 p2 fun h' gz gI gO g1 g2 size all=>?_
 refine wpAny_pyIter_zip gz ?_
 have I2:BL X pins σ H1 { s1 with heap:=h' }:=I1.kept (t':=s1.toks) all
 generalize hn:s1.heap.objs.size=n at gz gI gO g1 g2 size la lb |-
 refine ⟨n+4,[n+4,n+2,n+3,n,n+1],_,_,H1,rfl,I2,afy (aah n) (Ra la) (Ra lb),⟨gz,gI,⟨_,_,gO⟩,g1,g2⟩,fun c hc=>?_,q⟩
 have hc':n<=c:=abw hc
 exact I1.fpOk (by rw [hn];exact hc') (I1.hok.fresh (by rw [hn];exact hc'))
def vg:List W->List W->List W
 | a::as,b::bs=>.tup [a,b]::vg as bs
 | _,_=>[]
theorem Hs:∀ {as bs:List W} {i:Nat} {w:W},(vg as bs)[i]?=Dn w->∃ a b,as[i]?=Dn a/\bs[i]?=Dn b/\w=.tup [a,b]
 | [],_,_,_,e=>by simp [vg] at e
 | _::_,[],_,_,e=>by simp [vg] at e
 | a::as,b::bs,0,w,e=>by
  have e:Dn (W.tup [a,b])=Dn w:=e
  exact ⟨a,b,rfl,rfl,(Ja e).symm⟩
 | a::as,b::bs,i+1,w,e=>by
  obtain ⟨x,y,h1,h2,h3⟩:=Hs (as:=as) (bs:=bs) (i:=i) (w:=w) (by simpa [vg] using e)
  exact ⟨x,y,by simpa using h1,by simpa using h2,h3⟩
theorem Gn:∀ {as bs:List W},(vg as bs).length=min as.length bs.length
 | [],bs=>by simp [vg]
 | _::_,[]=>by simp [vg]
 | a::as,b::bs=>by rw [vg,S6,Gn,S6,S6];lia
def vX:W->Option (List W)
 | .tup ws=>Dn ws
 | .lst ws=>Dn ws
 | .kls ws=>Dn ws
 | _=>FN
theorem HW {H:Hp}{μ : Mu}{w:W}{v:V}{ws:List W}(r:Aq K H μ w v)(e:vX w=Dn ws):∃ k a,v=.ref a/\∀ {H2:Hp} {μ2:Mu},Jb K H μ H2 μ2->∃ xs,Sk.v k K H2 a xs/\aU K H2 μ2 ws xs:=by
 cases w with
 | tup us=>
  cases (show Dn us=Dn ws from e)
  have r0:=r
  rw [Aq] at r
  obtain ⟨p,xs,ev,hs,rs⟩:=r
  subst ev
  refine ⟨.t,p,rfl,fun {H2 μ2} x=>?_⟩
  have r2:=x.r _ _ r0
  rw [Aq] at r2
  obtain ⟨q,ys,ev,hs,rs⟩:=r2
  cases ev
  exact ⟨ys,hs,rs⟩
 | lst us=>
  cases (show Dn us=Dn ws from e)
  have r0:=r
  rw [Aq] at r
  obtain ⟨p,xs,ev,hs,rs⟩:=r
  subst ev
  refine ⟨.l,p,rfl,fun {H2 μ2} x=>?_⟩
  have r2:=x.r _ _ r0
  rw [Aq] at r2
  obtain ⟨q,ys,ev,hs,rs⟩:=r2
  cases ev
  exact ⟨ys,hs.sq,rs⟩
 | kls us=>
  cases (show Dn us=Dn ws from e)
  have r0:=r
  rw [Aq] at r
  obtain ⟨p,xs,ev,hs,rs⟩:=r
  subst ev
  refine ⟨.l,p,rfl,fun {H2 μ2} x=>?_⟩
  have r2:=x.r _ _ r0
  rw [Aq] at r2
  obtain ⟨q,ys,ev,hs,rs⟩:=r2
  cases ev
  exact ⟨ys,hs.sq,rs⟩
 | _=>cases e
def R6 (h:Gh)(x y:W):Option Src:=match vX x,vX y with
 | some as,Dn bs=>Dn ⟨vg as bs,FN⟩
 | none,Dn bs=>(match x with
  | .loc n=>(match h.c n with
   | some (.lst as)=>Dn ⟨vg as bs,Dn (n,as)⟩
   | _=>FN)
  | _=>FN)
 | _,_=>FN
theorem agr {H:Hp}{μ : Mu}{h:Gh}{w:W}{v:V}{ws:List W}{o:Option (Nat×List W)}(R:Em K μ H h)(r:Aq K H μ w v)(e:(vX w=Dn ws/\o=FN)\/∃ n,w=.loc n/\h.c n=Dn (.lst ws)/\o=Dn (n,ws)) :
  ∃ k a,v=.ref a/\∀ {H2:Hp} {μ2:Mu} {h2:Gh},Jb K H μ H2 μ2->Em K μ2 H2 h2->Src.chk ⟨ws,o⟩ h2->∃ xs,Sk.v k K H2 a xs/\aU K H2 μ2 ws xs:=by
 rcases e with ⟨e,rfl⟩ | ⟨n,rfl,ec,rfl⟩
 ·obtain ⟨k,a,ev,f⟩:=HW r e
  exact ⟨k,a,ev,fun x _ _=>f x⟩
 ·have r0:=r
  rw [Aq] at r
  obtain ⟨p,ev,hm⟩:=r
  subst ev
  refine ⟨.l,p,rfl,fun {H2 μ2 h2} x R2 ck=>?_⟩
  have r2:=x.r _ _ r0
  rw [Aq] at r2
  obtain ⟨q,eq,hm2⟩:=r2
  cases eq
  obtain ⟨p',xs,hm',hx,rs⟩:=R2.lstAt (show h2.c n=Dn (.lst ws) from ck)
  have ep:p'=p:=by rw [hm2] at hm';exact (Ja hm').symm
  subst ep
  exact ⟨xs,.of hx,rs⟩
theorem agC {h:Gh}{x y:W}{s:Src}(e:R6 h x y=Dn s):∃ as bs o,s=⟨vg as bs,o⟩/\((vX x=Dn as/\o=FN)\/∃ n,x=.loc n/\h.c n=Dn (.lst as)/\o=Dn (n,as))/\vX y=Dn bs:=by
 unfold R6 at e
 split at e
 ·rename_i as bs ea eb
  exact ⟨as,bs,FN,(Ja e).symm,.inl ⟨ea,rfl⟩,eb⟩
 ·rename_i bs ea eb
  split at e
  ·split at e
   ·rename_i n _ as ec
    exact ⟨as,bs,_,(Ja e).symm,.inr ⟨n,rfl,ec,rfl⟩,eb⟩
   ·cases e
  ·cases e
 ·cases e
def aaO (ma:MA):MI:=fun σ h R=>ma σ h fun ws h1=>match ws with
 | [x,y]=>(match R6 h1 x y with
  | some s=>R s h1
  | none=>False)
 | _=>False
theorem Rp {e1 e2:Expr}{mr:MA}{p pos tpos:Pos}{elts:List Expr}{kt:Nat}(hg:Gl X "zip")(hm:X.mg "zip" = FN)(ha:Li X [e1,e2] mr)
  (hs:HI [e1,e2] X.env=(false,eval e1 X.env)::HI [e2] X.env:=by rfl) (hpl:(Kp pos (HI [e2] X.env)).any (·.1)=false:=by rfl) :
  Te X (.Tuple elts kt tpos) (.Call (.Name "zip" p) [e1,e2] [] pos) (aaO mr):=PI.of (Yk hg hm ha hs hpl) fun σ H Q ⟨μ,h,σw,Rw,R,S,m,k⟩=>by
 refine ⟨μ,h,σw,_,R,S,m,fun vs H1 ⟨μ1,ws,h1,e1,R1,r1,m1⟩=>?_⟩
 split at m1
 ·split at m1
  ·rename_i x y _ s es
   obtain ⟨as,bs,o,rfl,ea,eb⟩:=agC es
   obtain ⟨v,u,ev,rv,ru⟩:=Qf r1
   obtain ⟨ka,a,e3,fa⟩:=agr R1 rv ea
   obtain ⟨kb,b,e4,fb⟩:=HW ru eb
   have ck1:Src.chk ⟨as,o⟩ h1:=by
    rcases ea with ⟨_,rfl⟩ | ⟨n,_,ec,rfl⟩
    ·exact trivial
    ·exact ec
   obtain ⟨xs,hxs,_⟩:=fa .refl R1 ck1
   obtain ⟨ys,hys,_⟩:=fb .refl
   refine ⟨v,u,ka,kb,a,b,ev,⟨e3,xs,hxs⟩,⟨e4,ys,hys⟩,k _ _ ⟨μ1,⟨vg as bs,o⟩,h1,e1,R1,?_,m1⟩⟩
   intro H2 μ2 h2 i e2 R2 ck
   obtain ⟨xs2,hxs2,rxs⟩:=fa e2 R2 ck
   obtain ⟨ys2,hys2,rys⟩:=fb e2
   refine ⟨fun w ew=>?_,fun hl=>⟨xs2,ys2,hxs2,hys2,?_⟩⟩
   ·obtain ⟨p1,p2,ep1,ep2,rfl⟩:=Hs ew
    obtain ⟨q1,eq1,rq1⟩:=rxs.get ep1
    obtain ⟨q2,eq2,rq2⟩:=rys.get ep2
    refine ⟨⟨xs2,ys2,q1,q2,hxs2,hys2,eq1,eq2⟩,fun x' H3 ⟨pa,x1,x2,hp,ex',eH3,f1,f2⟩=>?_⟩
    have g1:=f1 xs2 hxs2
    have g2:=f2 ys2 hys2
    rw [eq1] at g1
    rw [eq2] at g2
    cases g1
    cases g2
    subst ex' eH3
    exact ⟨μ2,(Ex.laid hp).ext,R2.laid hp,.tupNew hp (.cons rq1 (.one rq2))⟩
   ·have l1:=rxs.len
    have l2:=rys.len
    have:min as.length bs.length<=i:=by rw [<-Gn];exact hl
    lia
  ·exact m1.elim
 ·exact m1.elim
theorem zX:∀ {ns:List Int} {its:List FX} {i:Nat} {v:FX},Bm (ns.map V.int) its->its[i]?=Dn v->∃ t,v=.int (ns.getD i 0) t
 | [],_,_,_,.nil,e=>by simp at e
 | n::ns,_,0,_,.cons r _,e=>by
  simp at e
  subst e
  exact r
 | _::ns,_,i+1,v,.cons _ t,e=>by
  obtain ⟨t',h⟩:=zX (i:=i) (v:=v) t (by simpa using e)
  exact ⟨t',by simpa using h⟩
theorem uT (ns:List Int):∀ k,k<=ns.length->preSum (fun i=>ns.getD i 0) k=(ns.take k).sum
 | 0,_=>by simp [preSum]
 | k+1,h=>by
  rw [preSum,uT ns k (by lia),Mw,List.sum_append,KY (by lia),Oc,KY (by lia)]
  show _=_+(ns[k]+0)
  rw [Int.add_zero]
  rfl
theorem aeD (hc:X.calm=true):mF X (.builtin "sum") (fun xs H Q=>∃ (p:Addr) (ns:List Int),xs=[.ref p]/\Je X.K H p (ns.map V.int)/\Q (.int ns.sum) H):=by
 intro pins s σ H xs us Q I r ⟨p,ns,e,hS,q⟩
 subst e
 obtain ⟨u,rfl,ru⟩:=vals1 r
 cases ru
 obtain ⟨its,rv,pl,hz⟩:=I.list hS
 have hlen:its.length=ns.length:=by rw [<-rv.length,Iu]
 have hl:=pl.isList
 have hlt:p<s.heap.objs.size:=by obtain ⟨_,e,_⟩:=hl;exact Il e
 refine call_sum_walkAnyS (Ux hl ?_)
 refine ⟨s.heap.objs.size,[s.heap.objs.size,p],[s.heap.objs.size],_,its.toArray.size,_,_,fun i=>ns.getD i 0,rfl,(Walks.list (A:=X.A.in1) (I.ok.hd hc) _ p (KQ hlt) its.toArray).toS,
  ⟨⟨_,Lf _ rfl,rfl,rfl⟩,hl.push _⟩,fun b hb=>?_,fun i v hP=>zX rv (by simpa using hP),fun s' t' hm=>?_⟩
 ·rw [Qe]
  simp only [K9,NT,or_false] at hb
  rcases hb with rfl | rfl
  ·exact Nat.lt_succ_self _
  ·exact Nat.lt_succ_of_lt hlt
 ·have e:preSum (fun i=>ns.getD i 0) its.toArray.size=ns.sum:=by rw [Jr,hlen,uT ns _ (Ij _),Ov]
  rw [e]
  obtain ⟨hh,gg,dd,tt,oo⟩:=s'
  have hg:gg=s.gens:=hm.gens
  have hd:dd=s.drawn:=hm.drawn
  have ho:oo=s.os:=hm.os
  subst hg hd ho
  refine ⟨.int ns.sum,H,I.kept (h':=hh) (t':=tt) (fun b x e=>?_),⟨t',rfl⟩,q⟩
  exact hm.heap b x (fun hm=>by rw [Oa.mp hm] at e;exact P0 _ (Il e)) (J6 _ e)
def Jc:List W->Option (List Int)
 | []=>Dn []
 | .int i::ws=>(Jc ws).map (i::·)
 | _=>FN
theorem Hr {H:Hp}{μ : Mu}:∀ {ws:List W} {xs:List V} {ns:List Int},aU K H μ ws xs->Jc ws=Dn ns->xs=ns.map V.int
 | [],xs,ns,r,e=>by
  rw [aU] at r
  cases (show Dn []=Dn ns from e)
  exact r
 | w::ws,xs,ns,r,e=>by
  rw [aU] at r
  obtain ⟨v,vr,ev,ra,r⟩:=r
  cases w with
  | int b=>
   rw [Aq] at ra
   rw [Jc] at e
   cases q:Jc ws with
   | none=>rw [q] at e;cases e
   | some cs=>
    rw [q] at e
    cases (show Dn (b::cs)=Dn ns from e)
    rw [ev,ra,Hr r q]
    rfl
  | _=>cases e
def WD:MC:=fun ws h Q=>match ws with
 | [w]=>(match fG h w with
  | some us=>(match Jc us with
   | some ns=>Q (.int ns.sum) h
   | none=>False)
  | none=>False)
 | _=>False
theorem Z9 (hc:X.calm=true):qp X (.builtin "sum") WD:=⟨_,aeD hc,by
 intro H μ h vs ws Qw Q R r m k
 unfold WD at m
 split at m
 ·split at m
  ·split at m
   ·rename_i w _ us ev _ ns eb
    obtain ⟨v,e,rv⟩:=oV r
    obtain ⟨p,ys,ex,hs,rs⟩:=dU R rv ev
    subst e ex
    exact ⟨p,ns,rfl,by rw [<-Hr rs eb];exact hs,k _ _ (.int R m)⟩
   ·exact m.elim
  ·exact m.elim
 ·exact m.elim⟩
end
theorem Ht:Manifest.owners.lookup (String.ofList ['d','e','s','r','e','v','e','r'].reverse)=Dn Manifest.sig_reversed:=by kernel_rfl
theorem Rt:mroOf (.type "reversed")=pure [.type "reversed",.type "object"]:=by
 rw [mroOf_type]
 kernel_rfl
theorem Zu:typeLookup (.type "reversed") "__new__" = pure (Dn (.builtin "reversed.__new__")):=by
 rw [Uu,V6]
 kernel_rfl
theorem gC:Slot "reversed" "__next__" "reversed.__next__":=
  .of (owner := "reversed") (n := "__next__")
    (by rw [Uu,V6]
        kernel_rfl)
    (by decide +kernel) (by decide +kernel)
    (by decide +kernel)
    (by first
        | exact .inl (by decide +kernel)
        | exact .inr (by decide +kernel))
    (by rw [Ub]
        kernel_rfl)
theorem qx:entryFor table "reversed.__next__" = Dn Qu.«reversed.__next__»:=entryFor_of_tree (by kernel_rfl)
theorem tG (a:FX):argsOk "reversed.__next__" ⟨[a],[]⟩:=by
 unfold argsOk
 rw [signature?_of (id := "reversed.__next__") (n:=['_','_','t','x','e','n','_','_']) (o:=['d','e','s','r','e','v','e','r']) (by kernel_rfl) Ht]
 kernel_rfl
theorem tR:Slot "reversed" "__iter__" "reversed.__iter__":=
  .of (owner := "reversed") (n := "__iter__")
    (by rw [Uu,V6]
        kernel_rfl)
    (by decide +kernel) (by decide +kernel)
    (by decide +kernel)
    (by first
        | exact .inl (by decide +kernel)
        | exact .inr (by decide +kernel))
    (by rw [Ub]
        kernel_rfl)
theorem zai (a:FX):argsOk "reversed.__iter__" ⟨[a],[]⟩:=by
 unfold argsOk
 rw [signature?_of (id := "reversed.__iter__") (n:=['_','_','r','e','t','i','_','_']) (o:=['d','e','s','r','e','v','e','r']) (by kernel_rfl) Ht]
 kernel_rfl
theorem zR:entryFor table "reversed.__iter__" = Dn Qu.«dict_keyiterator.__iter__»:=
  entryFor_alias (id' := "dict_keyiterator.__iter__") (by kernel_rfl)
    (by first
        | rfl
        | decide +kernel
        | (unfold String.splitOn;simp +decide [String.splitOnAux]))
    (by decide +kernel) (by kernel_rfl)
theorem zan (a:FX):checkTypeCall "reversed" ⟨[a],[]⟩=pure ():=by kernel_rfl
theorem zar (a:FX):checkBuiltinCall "reversed.__new__" ⟨[.type "reversed",a],[]⟩=pure ():=by kernel_rfl
theorem aeF:entryFor table "reversed.__new__" = Dn Qu.«reversed.__new__»:=entryFor_of_tree (by kernel_rfl)
theorem Yt:isSubtype (.type "reversed") (.type "reversed")=pure true:=by
 rw [Ub]
 kernel_rfl
theorem aeO:typeLookup (.type "tuple") "__reversed__" = pure FN:=by
 rw [Uu,V6]
 kernel_rfl
theorem zap:isSubtype (.type "tuple") (.type "dict")=pure false:=by
 rw [Ub]
 kernel_rfl
def Vv (l:Addr)(i:Int):Obj:={ cls:=.type "reversed",data:=.fields #[.ref l,O4 i] }
def Lr (h:Heap)(a l:Addr)(i:Int):Prop:=∃ o,h.get? a=Dn o/\o.cls=.type "reversed"/\o.data=.fields #[.ref l,O4 i]
section
variable {P:Dr}{w:Ci}{A:Dp}{E:FX->AP->Prop}{s:AP}
theorem Lr.typeIs {a l:Addr}{i:Int}(x:Lr s.heap a l i):s.TypeIs (.ref a) "reversed":=let ⟨o,g,c,_⟩:=x;⟨o,g,c⟩
theorem Lr.at {h h':Heap}{a l:Addr}{i:Int}(x:Lr h a l i)(e:∀ o,h.get? a=Dn o->h'.get? a=Dn o):Lr h' a l i:=let ⟨o,g,r⟩:=x;⟨o,e _ g,r⟩
theorem agS (a:FX):Builtin.SmallTypes.newClass "reversed" ⟨[.type "reversed",a],[]⟩=pure (.type "reversed",[a]):=by
 unfold Builtin.SmallTypes.newClass
 simp only [isType,Yt,pure_bind,Bool.not_true,Ug]
 rfl
theorem Wk:Slot "reversed" "__init__" "object.__init__":=
  .of (owner := "object") (n := "__init__")
    (by rw [Uu,V6]
        kernel_rfl)
    (by decide +kernel) (by decide +kernel)
    (by decide +kernel)
    (by first
        | exact .inl (by decide +kernel)
        | exact .inr (by decide +kernel))
    (by rw [Ub]
        kernel_rfl)
theorem zaX:TypeCalled "reversed" "reversed.__new__" "object.__init__":=
  ⟨by decide +kernel,by decide +kernel,⟨_,_,Rt⟩,madeBy_type Rt Zu (by decide +kernel),by decide +kernel,
    by rw [Ub]
       kernel_rfl,Wk⟩
theorem ahf (l:Addr)(xs:Array FX):Meets (Qu.«reversed.__new__» ⟨[.type "reversed",.ref l],[]⟩) (fun _ R s=>IsTup s.heap l xs/\(xs.size:Int)<2^63 /\
   R (.ok (.ret (.ref s.heap.objs.size))) { s with heap:=s.heap.push (Vv l ((xs.size:Int) - 1)),toks:=s.toks+1+1 }):=by
 refine .of_wp fun prog w A R s ⟨ht,hfit,q⟩=>?_
 unfold Qu.«reversed.__new__»
 refine Bl (T7 (agS _) ?_)
 try dsimp only
 refine Bl (T7 (a:=()) (by rfl) ?_)
 refine Bl (T7 (a:=()) (by rfl) ?_)
 try dsimp only
 refine Bl (wpAny_specialOf ht.typeIs aeO ?_)
 try dsimp only
 refine Bl ?_
 refine Bl (wpAny_isInstance (U := "dict") (b:=false) ht.typeIs zap ?_)
 rw [if_neg Nb]
 refine Bl (wpAny_specialOf ht.typeIs Tq.lookup ?_)
 show Bs _ _ (if (_:Bool)=true then pure true else _) _ _ _
 rw [if_pos (by decide +kernel)]
 refine HY ?_
 rw [if_neg (by decide)]
 refine Bl (len_tuple ht hfit ?_)
 refine Bl (T7 (a:=Dn (xs.size:Int)) (by rfl) ?_)
 try dsimp only
 refine Bl ?_
 show Bs _ _ (newObj (.type "reversed") (.fields #[.ref l,O4 ((xs.size:Int) - 1)])) _ _ _
 exact Pn (HY ⟨_,rfl,q⟩) (by size_fits)
theorem ahw {l:Addr}{xs:Array FX}{Q:FX->AP->Prop}(ht:IsTup s.heap l xs)(hfit:(xs.size:Int)<2^63)
  (q:Q (.ref s.heap.objs.size) { s with heap:=s.heap.push (Vv l ((xs.size:Int) - 1)),toks:=s.toks+1+1 }):Bs (Cj P w) A (call (.type "reversed") [.ref l]) Q E s:=by
 refine callType_new zaX (by decide) (zan _) (zar _) (fun obj=>PySem.F.args_object_init_2 obj _) aeF (ahf l xs) ⟨ht,hfit,?_⟩
 exact ⟨⟨_,Lf _ rfl,rfl⟩,q⟩
theorem agi {it l:Addr}{i:Nat}{xs:Array FX}{x:FX}{Q:Option FX->AP->Prop}(hi:Lr s.heap it l (i:Int))(ht:IsTup s.heap l xs)(hfit:(xs.size:Int)<2^63)(hx:xs[i]?=Dn x)
  (q:∀ h',Lr h' it l ((i:Int) - 1)->UG it s.heap h'->Q (Dn x) { s with heap:=h',toks:=s.toks+1 }):Bs (Cj P w) A (Oz (.ref it)) Q E s:=by
 obtain ⟨o,go,gc,gd⟩:=id hi
 have hlt:i<xs.size:=(Array.getElem?_eq_some_iff.mp hx).1
 unfold Oz
 refine Bl (U0 (Tc (name:=TQ "__next__") hi.typeIs gC
  (S5 gC hi.typeIs qx ?_ (tG _))))
 unfold Qu.«reversed.__next__»
 refine Bl (T7 (a:=(Value.ref it,([]:List FX))) (by rfl) ?_)
 try dsimp only
 refine Bl (Lw go gd (x:=.ref l) rfl ?_)
 refine Bl (Lw go gd (x:=O4 (i:Int)) rfl ?_)
 show Bs _ _ (if (i:Int)<0 then _ else _) _ _ s
 rw [if_neg (by lia)]
 refine Bl (wpAny_specialOf ht.typeIs Tq.lookup ?_)
 rw [if_neg (by decide)]
 refine Bl (wpAny_mkInt ?_)
 refine Bl (U0 (getItem_tuple (s:={ s with toks:=s.toks+1 }) ht (by lia) (by lia) (j:=i) ?_ hx ?_))
 ·have e:=seqIndex_of (k:=(i:Int)) (n:=xs.size) (by lia) (by lia)
  rw [Int.toNat_natCast] at e
  exact e
 try dsimp only
 refine Bl (Lw go gd (x:=O4 (i:Int)) rfl ?_)
 refine Bl (V3 go gd (by simp) ?_)
 refine HY ⟨x,rfl,HY (q _ ?_ (VF ..))⟩
 exact ⟨_,VH _ go (VN (U7 gd _)),(Obj.cls_mapFields ..).trans gc,by rw [U7 gd];simp⟩
theorem zag {it l:Addr}{Q:Option FX->AP->Prop}(hh:A.handled=FN)(hi:Lr s.heap it l (-1))
  (q:∀ h',Ue it s.heap h'->Q FN { s with heap:=h' }):Bs (Cj P w) A (Oz (.ref it)) Q E s:=by
 obtain ⟨o,go,gc,gd⟩:=id hi
 unfold Oz
 refine Bl (U0 (Tc (name:=TQ "__next__") hi.typeIs gC
  (S5 gC hi.typeIs qx ?_ (tG _))))
 unfold Qu.«reversed.__next__»
 refine Bl (T7 (a:=(Value.ref it,([]:List FX))) (by rfl) ?_)
 try dsimp only
 refine Bl (Lw go gd (x:=.ref l) rfl ?_)
 refine Bl (Lw go gd (x:=O4 (-1)) rfl ?_)
 show Bs _ _ (if (-1:Int)<0 then _ else _) _ _ s
 rw [if_pos (by decide)]
 refine Bl (U5 ?_)
 refine Bl ?_
 refine Bl (V3 go gd (by simp) ?_)
 have g1:=VH (fun o=>o.mapFields fun x=>x.setIfInBounds 1 (O4 (-1))) go (VN (U7 gd _))
 refine V3 g1 (U7 gd _) (by simp) ?_
 refine Bl ?_
 show Bs _ _ (newExc (.type "StopIteration") [] >>= fun e0=>raiseNew e0) _ _ _
 refine Bl ?_
 simp only [newExc,newTuple,raiseNew]
 refine Bl (Pn (by
  refine Bl (m:=V2 _ _) (T7 (a:=Value.none) (by rfl) (Pn ?_ (by size_fits)))
  refine Bl (wpAny_handled (by
   first
    | rw [show A.in1.handled=FN from hh]
    | rw [hh]
   refine Bl (HY (wpAny_throw ?_))
   refine Bl (wpAny_isInstance (T := "StopIteration") (b:=true) ⟨_,Lf _ rfl,rfl⟩ isSubtype_stop (HY (q _ ?_)))
   intro b ob hb eb
   exact J6 _ (J6 _ ((VF ..).extBut b ob hb ((VF ..).extBut b ob hb eb))))) ) (by size_fits))
theorem Hl {it l:Addr}{i:Int}{Q:FX->AP->Prop}(hi:Lr s.heap it l i)(q:Q (.ref it) s):Bs (Cj P w) A (pyIter (.ref it)) Q E s:=by
 refine wpAny_pyIter_slot hi.typeIs tR (S5 tR hi.typeIs zR ?_ (zai _))
 show Bs _ _ (ret (.ref it)) _ _ s
 exact HY ⟨_,rfl, "reversed",_,hi.typeIs,gC.lookup,q⟩
end
def Itv (K:BZ)(n:Nat)(l:Addr):It:=
  ⟨fun i H=>i<n/\∃ xs x,Jg K H l xs/\xs.length=n/\xs[n - 1 - i]?=Dn x,
   fun i H v H'=>H'=H/\∀ xs,Jg K H l xs->xs[n - 1 - i]?=Dn v,
   fun i _=>n<=i,true⟩
def adH (n:Nat)(it l:Addr)(i:Nat)(h:Heap):Prop:=i<=n/\Lr h it l ((n:Int) - 1 - (i:Int))
theorem afY {P:Dr}{w:Ci}{K:BZ}{tg:Expr}{n:Nat}{it l:Addr}(hne:l≠it):Turn P w K tg (Itv K n l) [it] it (adH n it l) where
 mem:=by simp
 obj:=fun i h st b hb=>by
  obtain ⟨_,o,g,_,d⟩:=st
  rw [Oa] at hb
  subst hb
  exact ⟨o,g,fun v y=>by rw [d] at y;cases y⟩
 keep:=fun i h h' st k=>⟨st.1,st.2.at fun o e=>k it (by simp) o e⟩
 item:=by
  intro X hP hw hK hc i pins s σ H E I hf st hg
  subst hP hw hK
  obtain ⟨hin,xs,x,hx,hlen,ex⟩:=hg
  obtain ⟨its,r,pl,hz⟩:=I.tuple hx
  obtain ⟨u,hu,ru⟩:=r.get ex
  have hl:=r.length
  have e1:(n:Int) - 1 - (i:Int)=((n - 1 - i:Nat):Int):=by lia
  have hi:=st.2
  rw [e1] at hi
  have hn:=tW
  refine agi hi pl (by simp only [Jr];lia) (x:=u) (by simpa using hu) fun h1 g1 sb=>⟨u,rfl,?_⟩
  have e2:((n - 1 - i:Nat):Int) - 1=(n:Int) - 1 - ((i+1:Nat):Int):=by lia
  rw [e2] at g1
  obtain ⟨o,go,gc,gd⟩:=id g1
  refine M9 (s:={ s with heap:=h1,toks:=s.toks+1 }) go gc gd (by decide) ⟨x,H,I.turnedL (t':=s.toks+1) (ch:=[it]) (fun b o hb e=>sb.extBut b o (fun q=>hb (by simp [q])) e) hf,ru,⟨rfl,fun ys hy=>?_⟩,⟨hin,g1⟩,fun b hb=>(hf b hb).1⟩
  rw [I.tuple_inj hy hx]
  exact ex
 done:=by
  intro X hP hw hK hc i pins s σ H E I hf st hg
  subst hP hw hK
  have hi:=st.2
  have e1:(n:Int) - 1 - (i:Int) = -1:=by
   have:=st.1
   have:n<=i:=hg
   lia
  rw [e1] at hi
  exact zag (I.ok.hd (hc rfl)) hi fun h1 eb=>⟨rfl,I.turnedL (t':=s.toks) (ch:=[it]) (fun b o hb e=>eb b o (fun q=>hb (by simp [q])) e) hf⟩
 self:=fun _ _ _ _ _ st h=>Hl st.2 h
section
variable {X:Cx}{K:BZ}
end
section
variable {X:Cx}
def acu (i j k:Nat)(ta:MA):MS:=fun D σ h=>ta σ h fun ws h1=>match ws with
 | [a,b,c]=>D.nx (((σ.set i (Dn a)).set j (Dn b)).set k (Dn c)) h1
 | _=>False
end
def Itw (K:BZ)(n:Nat)(l:Addr):It:=
  ⟨fun i H=>i<n/\∃ xs x,Je K H l xs/\xs.length=n/\xs[n - 1 - i]?=Dn x,
   fun i H v H'=>H'=H/\∀ xs,Je K H l xs->xs[n - 1 - i]?=Dn v,
   fun i _=>n<=i,true⟩
def aes (n:Nat)(it l:Addr)(i:Nat)(h:Heap):Prop:=i<=n/\h.IsRevIter it l ((n:Int) - 1 - (i:Int))
theorem zaA {P:Dr}{w:Ci}{K:BZ}{tg:Expr}{n:Nat}{it l:Addr}(hne:l≠it):Turn P w K tg (Itw K n l) [it] it (aes n it l) where
 mem:=by simp
 obj:=fun i h st b hb=>by
  obtain ⟨_,o,g,_,d⟩:=st
  rw [Oa] at hb
  subst hb
  exact ⟨o,g,fun v y=>by rw [d] at y;cases y⟩
 keep:=fun i h h' st k=>⟨st.1,st.2.at fun o e=>k it (by simp) o e⟩
 item:=by
  intro X hP hw hK hc i pins s σ H E I hf st hg
  subst hP hw hK
  obtain ⟨hin,xs,x,hx,hlen,ex⟩:=hg
  obtain ⟨its,r,pl,hz⟩:=I.list hx
  obtain ⟨u,hu,ru⟩:=r.get ex
  have hl:=r.length
  have e1:(n:Int) - 1 - (i:Int)=((n - 1 - i:Nat):Int):=by lia
  have hi:=st.2
  rw [e1] at hi
  refine wpAny_pyNext_rev_item hi pl.isList (x:=u) (by simpa using hu) fun h1 g1 sb=>⟨u,rfl,?_⟩
  have e2:((n - 1 - i:Nat):Int) - 1=(n:Int) - 1 - ((i+1:Nat):Int):=by lia
  rw [e2] at g1
  obtain ⟨o,go,gc,gd⟩:=id g1
  refine M9 (s:={ s with heap:=h1 }) go gc gd (by decide) ⟨x,H,I.turnedL (t':=s.toks) (ch:=[it]) (fun b o hb e=>sb.extBut b o (fun q=>hb (by simp [q])) e) hf,ru,⟨rfl,fun ys hy=>?_⟩,⟨hin,g1⟩,fun b hb=>(hf b hb).1⟩
  rw [I.list_inj hy hx]
  exact ex
 done:=by
  intro X hP hw hK hc i pins s σ H E I hf st hg
  subst hP hw hK
  have hi:=st.2
  have e1:(n:Int) - 1 - (i:Int) = -1:=by
   have:=st.1
   have:n<=i:=hg
   lia
  rw [e1] at hi
  exact wpAny_pyNext_rev_end (I.ok.hd (hc rfl)) hi fun h1 eb=>⟨rfl,I.turnedL (t':=s.toks) (ch:=[it]) (fun b o hb e=>eb b o (fun q=>hb (by simp [q])) e) hf⟩
 self:=fun _ _ _ _ _ st h=>wpAny_pyIter_revIter st.2 h
section
variable {X:Cx}{K:BZ}
def abZ (K:BZ)(ta:TA):TI:=fun σ H R=>ta σ H fun vs H1=>∃ a xs,vs=[.ref a]/\((Jg K H1 a xs/\R (Itv K xs.length a) H1)\/(Je K H1 a xs/\R (Itw K xs.length a) H1))
theorem agp {tg e1:Expr}{ta:TA}{p pos:Pos}(hg:Gl X "reversed")(hm:X.mg "reversed" = FN)(ha:PA X [e1] ta)
  (hs:HI [e1] X.env=(false,eval e1 X.env)::HI [] X.env:=by rfl) (hpl:(Kp pos (HI [] X.env)).any (·.1)=false:=by rfl) :
  PI X tg (.Call (.Name "reversed" p) [e1] [] pos) (abZ X.K ta):=by
 intro pins s σ H R I h
 refine U6 (uY I hg hm boot_reversed ?_ (by decide) (by decide))
 refine V5 (Ia (ha pos pins s σ H _ I h) fun us s1 ⟨vs,H1,I1,r1,q1⟩=>?_) hs hpl
 obtain ⟨a,xs,ev,hx⟩:=q1
 subst ev
 obtain ⟨u1,eu,ru1⟩:=vals1 r1
 subst eu
 cases ru1
 rcases hx with ⟨hx,q⟩ | ⟨hx,q⟩
 ·obtain ⟨its,r,pl,hz⟩:=I1.tuple hx
  have hl:=r.length
  have hn:=tW
  refine ahw pl (by simp only [Jr];lia) ?_
  have gi:Lr (s1.heap.push (Vv a ((its.toArray.size:Int) - 1))) s1.heap.objs.size a ((xs.length:Int) - 1 - ((0:Nat):Int)):=by
   refine ⟨_,Lf _ rfl,rfl,?_⟩
   show Data.fields #[.ref a,O4 ((its.toArray.size:Int) - 1)]=_
   rw [Jr,<-hl]
   simp
  have la:a<s1.heap.objs.size:=by obtain ⟨_,e,_⟩:=pl;exact Il e
  refine Hl gi ?_
  refine ⟨_,[s1.heap.objs.size],_,_,H1,rfl,I1.kept (t':=s1.toks+1+1) (fun b o e=>J6 _ e),afY (KQ la),⟨TF _,gi⟩,fun c hc=>?_,q⟩
  rw [Oa] at hc
  subst hc
  exact I1.fpOk (Ij _) (I1.hok.fresh (Ij _))
 ·obtain ⟨its,r,pl,hz⟩:=I1.list hx
  have hl:=r.length
  refine call_reversed_list pl.isList ?_
  have gi:(s1.heap.push (revObj a ((its.toArray.size:Int) - 1))).IsRevIter s1.heap.objs.size a ((xs.length:Int) - 1 - ((0:Nat):Int)):=by
   refine ⟨_,Lf _ rfl,rfl,?_⟩
   show Data.fields #[.ref a,O4 ((its.toArray.size:Int) - 1)]=_
   rw [Jr,<-hl]
   simp
  have la:a<s1.heap.objs.size:=by obtain ⟨_,e,_⟩:=pl.isList;exact Il e
  refine wpAny_pyIter_revIter gi ?_
  refine ⟨_,[s1.heap.objs.size],_,_,H1,rfl,I1.kept (t':=s1.toks) (fun b o e=>J6 _ e),zaA (KQ la),⟨TF _,gi⟩,fun c hc=>?_,q⟩
  rw [Oa] at hc
  subst hc
  exact I1.fpOk (Ij _) (I1.hok.fresh (Ij _))
def XJ (ma:MA):MI:=fun σ h R=>ma σ h fun ws h1=>match ws with
 | [.tup us]=>R ⟨us.reverse,FN⟩ h1
 | [.lst us]=>R ⟨us.reverse,FN⟩ h1
 | _=>False
theorem agF {tg e1:Expr}{mr:MA}{p pos:Pos}(hg:Gl X "reversed")(hm:X.mg "reversed" = FN)(ha:Li X [e1] mr)
  (hs:HI [e1] X.env=(false,eval e1 X.env)::HI [] X.env:=by rfl) (hpl:(Kp pos (HI [] X.env)).any (·.1)=false:=by rfl) :
  Te X tg (.Call (.Name "reversed" p) [e1] [] pos) (XJ mr):=PI.of (agp hg hm ha hs hpl) fun σ H Q ⟨μ,h,σw,Rw,R,S,m,k⟩=>by
 refine ⟨μ,h,σw,_,R,S,m,fun vs H1 ⟨μ1,ws,h1,e1,R1,r1,m1⟩=>?_⟩
 split at m1
 ·rename_i us
  obtain ⟨v,ev,rv⟩:=oV r1
  have rv0:=rv
  rw [Aq] at rv
  obtain ⟨a,xs,ea,hx,rs⟩:=rv
  subst ev ea
  have hl:=rs.len
  refine ⟨a,xs,rfl,.inl ⟨hx,k _ _ ⟨μ1,⟨us.reverse,FN⟩,h1,e1,R1,?_,m1⟩⟩⟩
  intro H2 μ2 h2 i e2 R2 _
  have r2:=e2.r _ _ rv0
  rw [Aq] at r2
  obtain ⟨b,ys,eb,hy,ry⟩:=r2
  cases eb
  have hl2:=ry.len
  refine ⟨fun w ew=>?_,fun hle=>?_⟩
  ·have hi:i<us.length:=by
    have:=(Ox.mp ew).1
    simpa using this
   rw [List.getElem?_reverse hi] at ew
   obtain ⟨v,hv,rv⟩:=ry.get ew
   refine ⟨⟨by lia,ys,v,hy,by lia,by rw [show xs.length - 1 - i=us.length - 1 - i by lia];exact hv⟩,fun x H3 ⟨e3,y⟩=>?_⟩
   subst e3
   have:=y ys hy
   rw [show xs.length - 1 - i=us.length - 1 - i by lia,hv] at this
   cases this
   exact ⟨μ2,.refl,R2,rv⟩
  ·have:us.length<=i:=by simpa using hle
   show xs.length<=i
   lia
 ·rename_i us
  obtain ⟨v,ev,rv⟩:=oV r1
  have rv0:=rv
  rw [Aq] at rv
  obtain ⟨a,xs,ea,hx,rs⟩:=rv
  subst ev ea
  have hl:=rs.len
  refine ⟨a,xs,rfl,.inr ⟨hx.sq,k _ _ ⟨μ1,⟨us.reverse,FN⟩,h1,e1,R1,?_,m1⟩⟩⟩
  intro H2 μ2 h2 i e2 R2 _
  have r2:=e2.r _ _ rv0
  rw [Aq] at r2
  obtain ⟨b,ys,eb,hy,ry⟩:=r2
  cases eb
  have hl2:=ry.len
  refine ⟨fun w ew=>?_,fun hle=>?_⟩
  ·have hi:i<us.length:=by
    have:=(Ox.mp ew).1
    simpa using this
   rw [List.getElem?_reverse hi] at ew
   obtain ⟨v,hv,rv⟩:=ry.get ew
   refine ⟨⟨by lia,ys,v,hy.sq,by lia,by rw [show xs.length - 1 - i=us.length - 1 - i by lia];exact hv⟩,fun x H3 ⟨e3,y⟩=>?_⟩
   subst e3
   have:=y ys hy.sq
   rw [show xs.length - 1 - i=us.length - 1 - i by lia,hv] at this
   cases this
   exact ⟨μ2,.refl,R2,rv⟩
  ·have:us.length<=i:=by simpa using hle
   show xs.length<=i
   lia
 ·exact m1.elim
end
theorem KH {K:BZ}{H:Hp}{μ : Mu}:aU K H μ [] []:=by rw [aU]
theorem nW {K:BZ}{H:Hp}{μ : Mu}{w:W}{v:V}{ws:List W}{vs:List V}(h:Aq K H μ w v)(t:aU K H μ ws vs):aU K H μ (w::ws) (v::vs):=by rw [aU];exact ⟨v,vs,rfl,h,t⟩
theorem Jj {K:BZ}{H:Hp}{μ : Mu}{i:Int}:Aq K H μ (.int i) (.int i):=by rw [Aq]
theorem pH {K:BZ}{a:Addr}{sl:Array (Option FX)}{its:Array FX}{n:Nat}{xs:List V}{ws:List W}(h:K.lookup a=Dn ⟨.type "tuple",FN,.seq its n,sl⟩)(hz:its.size<=Ig)(hv:Bm xs its.toList)(hr:∀ H μ,aU K H μ ws xs):∀ H μ,Aq K H μ (.tup ws) (.ref a):=by
 intro H μ
 rw [Aq]
 exact ⟨a,xs,rfl,.inr ⟨_,its,n,h,rfl,rfl,hz,hv,rfl⟩,hr H μ⟩
theorem Jk {i:Int}{t}:RelV (.int i) (.int i t):=⟨t,rfl⟩
theorem aaK {a:Addr}:RelV (.ref a) (.ref a):=rfl
section
variable {prog:Dr}{w:Ci}{A:Dp}{E:FX->AP->Prop}{s:AP}
theorem Bd {it t:Addr}{items:Array FX}(hne:t≠it):∀ (n i:Nat) (s:AP) (Q:List FX->AP->Prop),s.heap.IsListIter it t i->s.heap.IsList t items->i+n<=items.size ->
  (∀ h',h'.IsListIter it t (i+n)->UG it s.heap h'->Q ((items.toList.drop i).take n) { s with heap:=h' })->Bs (Cj prog w) A (draw (.ref it) n) Q E s
 | 0,i,s,Q,hit,_,_,hQ=>by
  show Bs _ _ (pure []) Q E s
  exact HY (by simpa using hQ s.heap hit (Heap.SameBut.refl ..))
 | n+1,i,s,Q,hit,ht,hle,hQ=>by
  have hlt:i<items.size:=by lia
  show Bs _ _ (Oz (.ref it) >>= _) Q E s
  refine Bl (wpAny_pyNext_list_item hit ht (x:=items[i]) (by simp [hlt]) fun h1 hit1 hs1=>?_)
  refine Bl (Qc (Bd hne n (i+1) _ _ hit1 (ht.at fun o e=>hs1.extBut _ o hne e) (by lia) fun h2 hit2 hs2=>HY ?_))
  have hd:items.toList.drop i=items[i]::items.toList.drop (i+1):=by simp [List.drop_eq_getElem_cons,hlt]
  have:=hQ h2 (by rw [show i+(n+1)=i+1+n by lia];exact hit2) (hs1.trans hs2)
  rw [hd,List.take_succ_cons] at this
  exact this
theorem uh {t:Addr}{items:Array FX}{Q:List FX->AP->Prop}(hh:A.handled=FN)(ht:s.heap.IsList t items)
  (hQ:∀ h',Ue s.heap.objs.size s.heap h'->Q items.toList { s with heap:=h' }):Bs (Cj prog w) A (unpackItems (.ref t) items.size FN) Q E s:=by
 have hlt:t≠s.heap.objs.size:=by obtain ⟨o,ho,_⟩:=ht;exact KQ (Il ho)
 unfold unpackItems
 refine Bl ?_
 ·unfold notIterableAtAll
  refine Bl (wpAny_specialOf ht.typeIs slot_list_iter.lookup ?_)
  refine HY ?_
  simp only [Ug,if_false]
  refine Bl (Qc (Ux ht ?_))
  refine Bl (Qc (Bd hlt items.size 0 _ _ ⟨_,Lf _ rfl,rfl,rfl⟩ (ht.at fun o e=>J6 _ e) (by lia) fun h1 hit1 hs1=>?_))
  have hall:List.take items.size (List.drop 0 items.toList)=items.toList:=by
   rw [List.drop_zero];exact List.take_of_length_le (by simp)
  rw [hall]
  rw [if_neg (by simp)]
  have ht1:h1.IsList t items:=ht.at fun o e=>hs1.extBut _ o hlt (J6 _ e)
  refine Bl (Qc (wpAny_pyNext_list_end hh hit1 ht1 (by simp) fun h2 he2=>?_))
  simp only [Option.isSome_none,Ug,if_false]
  refine HY (hQ h2 fun b o hb e=>he2 b o hb (hs1.extBut b o hb (J6 _ e)))
theorem rW {env:Env}{elts:List Expr}{x1}{pos:Pos}{t:Addr}{items:Array FX}{Q:Unit->AP->Prop}(hh:A.handled=FN)(ht:s.heap.IsList t items)
  (hn:(MH elts env).length=items.size) (hstar:(MH elts env).findIdx? (·.1)=FN)
  (h:∀ h',Ue s.heap.objs.size s.heap h'->Bs (Cj prog w) A (assignInOrder ((MH elts env).map (·.2)) items.toList) Q E { s with heap:=h' }) :
  Bs (Cj prog w) A (assign (.Tuple elts x1 pos) env (.ref t)) Q E s:=by
 rw [assign_Tuple]
 refine Bl (wpAny_standAt ?_)
 unfold unpack
 rw [hn,hstar]
 exact Bl (Qc (uh hh ht h))
end
section
variable {X:Cx}{pos:Pos}
def abY (K:BZ)(n:Nat)(t:Qk):TG:=fun v σ H Q=>∃ a xs,v=.ref a/\(Jg K H a xs\/Je K H a xs)/\xs.length=n/\t xs σ H Q
theorem ahF {es:List Expr}{k:Nat}{t:Qk}{n:Nat}(hc:X.calm=true)(h:S9 X es t)
  (hn:(MH es X.env).length=n:=by rfl) (hst:(MH es X.env).findIdx? (·.1)=FN:=by rfl):PG X (.Tuple es k pos) (abY X.K n t):=by
 intro pins s σ H v u Q I r hw
 obtain ⟨a,xs,e1,hq,hl,hw⟩:=hw
 subst e1
 cases r
 rcases hq with hq | hq
 ·obtain ⟨its,rv,ht,hz⟩:=I.tuple hq
  refine assign_Tuple_tuple (I.ok.hd hc) ht (by simp [hn,<-hl,rv.length]) hst fun h' hx=>?_
  have I1:BL X pins σ H { s with heap:=h' }:=I.kept (t':=s.toks) fun b o e=>hx b o (KQ (Il e)) e
  exact h pins _ σ H xs _ Q I1 (by simpa using rv) hw
 ·obtain ⟨its,rv,ht,hz⟩:=I.list hq
  refine rW (I.ok.hd hc) ht.isList (by simp [hn,<-hl,rv.length]) hst fun h' hx=>?_
  have I1:BL X pins σ H { s with heap:=h' }:=I.kept (t':=s.toks) fun b o e=>hx b o (KQ (Il e)) e
  exact h pins _ σ H xs _ Q I1 (by simpa using rv) hw
def u5 (n:Nat)(g:PJ):MG:=fun w σ h N=>match w with
 | .tup ws=>JZ (Mj ws.length n) (g ws σ h N) False
 | .lst ws=>JZ (Mj ws.length n) (g ws σ h N) False
 | .loc j=>(match h.c j with
  | some (.lst ws)=>JZ (Mj ws.length n) (g ws σ h N) False
  | _=>False)
 | _=>False
theorem oX {es:List Expr}{k:Nat}{g:PJ}{n:Nat}(hc:X.calm=true)(h:aaV X es g)(hn:(MH es X.env).length=n:=by rfl)(hst:(MH es X.env).findIdx? (·.1)=FN:=by rfl):DG X (.Tuple es k pos) (u5 n g):=
 (ahF (n:=n) hc h hn hst).of fun v σ H N ⟨μ,h,σw,w,Nw,R,S,r,m,k⟩=>by
  cases w with
  | tup ws=>
   rw [Aq] at r
   obtain ⟨p,xs,e1,hs,hr⟩:=r
   have m:JZ (Mj ws.length n) (g ws σw h Nw) False:=m
   cases en:Mj ws.length n with
   | true=>rw [en] at m;exact ⟨p,xs,e1,.inl hs,by rw [<-hr.len];exact V8 en,μ,h,σw,ws,Nw,R,S,hr,m,k⟩
   | false=>rw [en] at m;exact (show False from m).elim
  | lst ws=>
   rw [Aq] at r
   obtain ⟨p,xs,e1,hs,hr⟩:=r
   have m:JZ (Mj ws.length n) (g ws σw h Nw) False:=m
   cases en:Mj ws.length n with
   | true=>rw [en] at m;exact ⟨p,xs,e1,.inr hs.sq,by rw [<-hr.len];exact V8 en,μ,h,σw,ws,Nw,R,S,hr,m,k⟩
   | false=>rw [en] at m;exact (show False from m).elim
  | loc j=>
   have m:(match h.c j with
    | some (.lst ws)=>JZ (Mj ws.length n) (g ws σw h Nw) False
    | _=>False):=m
   split at m
   ·rename_i ws ec
    obtain ⟨p,xs,e1,hs,hr⟩:=dU R r (show fG h (.loc j)=Dn ws by simp only [fG,ec])
    cases en:Mj ws.length n with
    | true=>rw [en] at m;exact ⟨p,xs,e1,.inr hs,by rw [<-hr.len];exact V8 en,μ,h,σw,ws,Nw,R,S,hr,m,k⟩
    | false=>rw [en] at m;exact (show False from m).elim
   ·exact m.elim
  | _=>exact m.elim
end
section
variable {K:BZ}{H:Hp}{μ : Mu}{h:Gh}{p:Addr}{ws:List W}{xs:List V}
end
def acK (Q:WK):WK:=fun w h=>match w with
 | .lst ws=>Q (.loc h.nx) (h.new (.lst ws))
 | _=>False
def aeb (own:W->Option (List W))(ix:List Nat)(mi:MI)(tt:MT)(te:ME):ME:=fun σ h Q=>Ih own ix mi tt te σ h (acK Q)
section
variable {X:Cx}{tg iter elt:Expr}{ifs:List Expr}{pos:Pos}{scope:Scope}{xs:List Str}{mi:MI}{tt:MT}{te:ME}
end
def Io:Expr->Bool
 | .Starred _ _=>true
 | _=>false
theorem aj {e:Expr}{es:List Expr}{env:Env}(h:Io e=false):HI (e::es) env=(false,eval e env)::HI es env:=by
 cases e <;> first | rfl | cases h
theorem lW {e:Expr}{env:Env}(h:Io e=false):HI [e] env=[(false,eval e env)]:=(aj h).trans rfl
def noStar:List Expr->Bool
 | []=>true
 | e::r=>!Io e&&noStar r
theorem ao {pos:Pos}{env:Env}:∀ {es:List Expr},noStar es=true->(Kp pos (HI es env)).any (·.1)=false
 | [],_=>rfl
 | e::r,h=>by
  rw [noStar,O7,Bool.not_eq_true'] at h
  rw [aj h.1]
  show (false||(Kp pos (HI r env)).any (·.1))=false
  rw [ao h.2]
  rfl
theorem Ec {cpos:Pos}{e:Expr}{env:Env}(h:Io e=false):((Kp cpos (HI [e] env)).all (fun x=>!x.1)&&(backToKw cpos (Uc [] env)).all (fun x=>x.1.isSome)
   && decide (([e]:List Expr).length+([]:List Ph).length+(if ([]:List Ph).isEmpty then 0 else 1)<30))=true:=by
 rw [lW h];rfl
section
variable {prog:Dr}{w:Ci}{A:Dp}{E:FX->AP->Prop}{s:AP}
open HT in
theorem oZ {t sl:Addr}{items:Array FX}{vl vu:FX}{lo hi:Option Int}{Q:FX->AP->Prop}(ht:IsTup s.heap t items)(hs:s.heap.IsSliceOf sl vl vu .none)(pl:IsPart vl lo)(pu:IsPart vu hi)
  (h0:sIx items.size 0 lo=0) (h1:sIx items.size items.size hi=items.size) (h:Q (.ref t) s):Bs (Cj prog w) A (getItem (.ref t) (.ref sl)) Q E s:=by
 obtain ⟨os,hos,hcs,hds⟩:=id hs
 have hTs:s.TypeIs (.ref sl) "slice":=⟨os,hos,hcs⟩
 unfold getItem
 try with_reducible refine Qc ?_
 first | refine Bl (HY ?_) | skip
 refine Bl (wpAny_sequenceKey ht.typeIs (by decide) ?_)
 refine Bl (Tc (name:=TQ "__getitem__") ht.typeIs Tq
  (S5 Tq ht.typeIs entry_tuple_getitem ?_ (args_tuple_getitem _ _)))
 show Bs _ _ (Builtin.Tuple.tupleItemsOf (.ref t) >>= _) _ _ s
 refine Bl (tupleItemsOf_ ht ?_)
 refine Bl (wpAny_typeOf hTs ?_)
 rw [if_pos (by decide)]
 refine Bl (lY hs pl pu ?_)
 have hyes:((((sIx items.size 0 lo:Nat):Int)==0&&(1:Int)==1&&(sIx items.size items.size hi - sIx items.size 0 lo)==items.size)=true):=by
  rw [h0,h1]
  simp
 show Bs _ _ (if (((sIx items.size 0 lo:Nat):Int)==0&&(1:Int)==1&&(sIx items.size items.size hi - sIx items.size 0 lo)==items.size)=true then _ else _) _ _ s
 rw [if_pos hyes]
 unfold Builtin.Tuple.tupleIsExact
 refine Bl (Bl (wpAny_typeOf ht.typeIs (HY ?_)))
 rw [if_pos (by decide)]
 refine Bl (U5 ?_)
 first
  | exact HY ⟨_,rfl,HY h⟩
  | exact Bl (HY (HY ⟨_,rfl,HY h⟩))
end
section
variable {X:Cx}
def aeu (K:BZ):V->Option Int->Option Int->Hp->VK->Prop:=fun x lo hi H Q=>∃ a xs,x=.ref a/\Jg K H a xs /\
 HT.sIx xs.length 0 lo=0/\HT.sIx xs.length xs.length hi=xs.length/\Q x H
theorem ahx:Ql X (aeu X.K):=by
 intro pins s σ H x v vl vu lo hi sl Q I rx hs pl pu h
 obtain ⟨a,xs,rfl,hx,h0,h1,q⟩:=h
 cases rx
 obtain ⟨its,r,ht,hz⟩:=I.tuple hx
 have hlen:its.toArray.size=xs.length:=by rw [Jr];exact r.length.symm
 refine ⟨"tuple",_,Tq.lookup,ht.typeIs,?_⟩
 refine oZ ht hs pl pu (by rw [hlen];exact h0) (by rw [hlen];exact h1) ?_
 exact ⟨.ref a,H,I,rfl,q⟩
def NK (x:W)(lo hi:Option Int)(h:Gh)(Q:WK):Prop:=match x with
 | .tup ws=>Q (.tup (M5 ws lo hi)) h
 | x=>(match fG h x with
  | some ws=>Q (.lst (M5 ws lo hi)) h
  | none=>False)
theorem Dg {e:Expr}{lo hi:Option Expr}{ma:ME}{ml mh:MO}{p2 pos:Pos}(he:DE X e ma)(hl:DO X lo ml)(hu:DO X hi mh):DE X (.Subscript e (.Slice lo hi FN p2) pos) (PX NK ma ml mh):=
 (zbg (Ql.or (Ql.or Vo Zw) ahx) he hl hu).of fun σ H Q ⟨μ,h,σw,Qw,R,S,m,k⟩=>by
  refine ⟨μ,h,σw,_,R,S,m,fun x H1 ⟨μ1,wx,h1,e1,R1,r1,m1⟩=>?_⟩
  refine ⟨μ1,h1,σw,_,R1,S.ext e1,m1,fun lo H2 ⟨μ2,h2,e2,R2,m2⟩=>?_⟩
  refine ⟨μ2,h2,σw,_,R2,(S.ext e1).ext e2,m2,fun hi H3 ⟨μ3,h3,e3,R3,m3⟩=>?_⟩
  have e13:=(e1.trans e2).trans e3
  have r3:=e3.r _ _ (e2.r _ _ r1)
  have oth:∀ wy,Aq X.K H3 μ3 wy x->(match fG h3 wy with
    | some ws=>Qw (.lst (M5 ws lo hi)) h3
    | none=>False)->∃ p xs,x=.ref p/\Je X.K H3 p xs/\∀ l,H3 l=FN->Q (.ref l) (IW H3 l (.lst (O6 xs lo hi))):=by
   intro wy ry my
   split at my
   ·rename_i ws ev
    obtain ⟨p,xs,ex,hs,rs⟩:=dU R3 ry ev
    exact ⟨p,xs,ex,hs,fun l hl=>k _ _ ⟨μ3,_,h3,e13.trans (Ex.laid hl).ext,R3.laid hl,.lstNew R3 hl (rs.cutv lo hi),my⟩⟩
   ·exact my.elim
  cases wx with
  | tup ws=>
   have m3:Qw (.tup (M5 ws lo hi)) h3:=m3
   have r30:=r3
   rw [Aq] at r3
   obtain ⟨p,xs,ex,hx,rs⟩:=r3
   have hl:=rs.len
   by_cases hw:HT.sIx xs.length 0 lo=0/\HT.sIx xs.length xs.length hi=xs.length
   ·have ec:M5 ws lo hi=ws:=by
     unfold M5
     rw [hl,hw.1,hw.2,List.drop_zero,Nat.sub_zero,<-hl,Ov]
    rw [ec] at m3
    exact .inr ⟨p,xs,ex,hx,hw.1,hw.2,k _ _ ⟨μ3,.tup ws,h3,e13,R3,r30,m3⟩⟩
   ·exact .inl (.inr ⟨p,xs,ex,hx,hw,fun q hq=>k _ _ ⟨μ3,.tup (M5 ws lo hi),h3,e13.trans (Ex.laid hq).ext,R3.laid hq,.tupNew hq (rs.cutv lo hi),m3⟩⟩)
  | _=>exact .inl (.inl (oth _ r3 m3))
def adT:MC:=fun ws h Q=>match ws with
 | [.int i]=>Q (.int i) h
 | [.bl b]=>Q (.int (if b then 1 else 0)) h
 | _=>False
def acY:MM:=fun x ws h Q=>match ws with
 | [.int k]=>(match fG h x with
  | some us=>∃ (ns:List Int) (j:Nat),us=ns.map W.int/\ns[j]?=Dn k/\(∀ m,m<j->ns[m]?≠Dn k)/\Q (.int j) h
  | none=>False)
 | _=>False
theorem xZ {K:BZ}{H:Hp}{μ : Mu}:∀ {ns:List Int} {xs:List V},aU K H μ (ns.map W.int) xs->xs=ns.map V.int
 | [],xs,r=>by rw [List.map_nil,aU] at r;exact r
 | n::ns,xs,r=>by
  rw [Nh,aU] at r
  obtain ⟨v,vs,e,rv,r⟩:=r
  rw [Aq] at rv
  rw [e,rv,xZ r];rfl
def xX (h:Gh)(w:W)(P:Prop):Prop:=match fG h w with
 | some _=>P
 | none=>False
theorem Ak {K:BZ}{H:Hp}{μ : Mu}{h:Gh}{w:W}{v:V}{P:Prop}(R:Em K μ H h)(r:Aq K H μ w v)(e:xX h w P):tyV K "list" v H/\P:=by
 unfold xX at e
 split at e
 ·rename_i us ev
  obtain ⟨p,xs,ex,hs,_⟩:=dU R r ev
  subst ex
  exact ⟨.inl ⟨rfl,xs,hs⟩,e⟩
 ·exact e.elim
def abb (r:MM)(mo:ME)(ma:MA):ME:=fun σ h Q=>mo σ h fun x h1=>xX h1 x (ma σ h1 fun xs h2=>r x xs h2 Q)
def aef (mo:ME):ME:=fun σ h Q=>mo σ h fun x h1=>match x with
 | .int i=>Q (.int (Builtin.Int.intBits i:Nat)) h1
 | _=>False
theorem zaF (hc:X.calm=true):mF X (.builtin "max") (fun xs H Q=>∃ (p:Addr) (ns:List Int),xs=[.ref p]/\Je X.K H p (ns.map V.int)/\0<ns.length/\∀ M,M∈ns->(∀ a,a∈ns->a<=M)->Q (.int M) H):=by
 intro pins s σ H xs us Q I r ⟨p,ns,e,hS,hne,q⟩
 subst e
 obtain ⟨u,rfl,ru⟩:=vals1 r
 cases ru
 obtain ⟨its,rv,pl,hz⟩:=I.list hS
 have hlen:its.length=ns.length:=by rw [<-rv.length,Iu]
 have all:AllInts its.toArray:=fun v hv=>by
  obtain ⟨i,hi,e⟩:=Array.mem_iff_getElem.mp hv
  obtain ⟨t,e2⟩:=zX (i:=i) (v:=v) rv (by rw [<-e];simp at hi |-)
  exact ⟨_,t,e2⟩
 obtain ⟨ys,ey⟩:=all.items
 have hl:=pl.isList
 rw [ey] at hl
 have hys:ys.size=ns.length:=by
  have:=congrArg Array.size ey
  simp [intItems] at this
  lia
 have num:∀ i,i<ns.length->numAt ys i=ns.getD i 0:=fun i hi=>by
  obtain ⟨t,e2⟩:=zX (i:=i) (v:=its[i]'(by lia)) rv (KY (by lia))
  have e3:(intItems ys)[i]?=Dn (its[i]'(by lia)):=by rw [<-ey];simp
  obtain ⟨t',e4⟩:=intItems_at e3
  rw [e2] at e4
  injection e4 with e5 _
  exact e5.symm
 refine max_intList (I.ok.hd hc) hl (by lia) fun v h' tk hv hk=>?_
 obtain ⟨t,rfl⟩:=intItems_at hv
 obtain ⟨h1,h2⟩:=argBest_gt (numAt ys) (ys.size - 1)
 refine ⟨.int _,H,I.kept (h':=h') (t':=tk) hk,⟨t,rfl⟩,q _ ?_ fun a ha=>?_⟩
 ·rw [num _ (by lia),Oc,KY (by lia)]
  exact Uy _
 ·obtain ⟨j,hj,e⟩:=Uk.mp ha
  have:=h2 j (by lia)
  rw [num j hj,Oc,KY hj] at this
  rw [<-e]
  exact this
def U8:MC:=fun ws h Q=>match ws with
 | [.int i,.int j]=>Q (.int (if j>i then j else i)) h
 | [w]=>(match fG h w with
  | some us=>∃ ns:List Int,us=ns.map W.int/\0<ns.length/\∀ M,M∈ns->(∀ a,a∈ns->a<=M)->Q (.int M) h
  | none=>False)
 | _=>False
theorem Yp (hc:X.calm=true):qp X (.builtin "max") U8:=⟨_,mF.or (Cp hc) (zaF hc),by
 intro H μ h vs ws Qw Q R r m k
 unfold U8 at m
 split at m
 ·rename_i i j
  rw [aU] at r
  obtain ⟨v,vs',e,rv,r⟩:=r
  rw [aU] at r
  obtain ⟨v2,vs2,e2,rv2,r⟩:=r
  rw [aU] at r
  rw [Aq] at rv rv2
  subst e e2 rv rv2 r
  exact .inl ⟨i,j,rfl,k _ _ (.int R m)⟩
 ·split at m
  ·rename_i w us ev
   obtain ⟨v,e,rv⟩:=oV r
   obtain ⟨p,ys,ex,hs,rs⟩:=dU R rv ev
   obtain ⟨ns,eu,hne,m⟩:=m
   subst e ex
   rw [eu] at rs
   have:=xZ rs
   subst this
   exact .inr ⟨p,ns,rfl,hs,hne,fun M hM ha=>k _ _ (.int R (m M hM ha))⟩
  ·exact m.elim
 ·exact m.elim⟩
end
def XO (h:Heap)(P:Addr->Prop)(e C:Addr)(od:Option Addr):Prop:=P e/\∃ (oe:Obj) (vs:Array FX),h.get? e=Dn oe/\oe.cls=.ref C/\oe.dict=od/\oe.data=.fields vs/\vs.size<=1000/\vs[2]?=Dn .none /\
 (vs[1]?=Dn .none\/∃ (T:Addr) (oT:Obj) (ts:Array FX),vs[1]?=Dn (.ref T)/\T≠e/\P T/\h.get? T=Dn oT/\oT.data=.fields ts/\3<ts.size)
def XN (h:Heap)(P:Addr->Prop)(e C:Addr)(od:Option Addr):Prop:=P e/\∃ (oe:Obj) (vs:Array FX),h.get? e=Dn oe/\oe.cls=.ref C/\oe.dict=od/\oe.data=.fields vs/\vs.size<=1000/\vs[2]?=Dn .none /\
 ∃ (T:Addr) (oT:Obj) (ts:Array FX),vs[1]?=Dn (.ref T)/\T≠e/\P T/\h.get? T=Dn oT/\oT.data=.fields ts/\3<ts.size
structure Stp (P:Addr->Prop) (fs:List Addr) (h h':Heap):Prop where
 keep:∀ b o,¬ P b->b∉fs->h.get? b=Dn o->h'.get? b=Dn o
 slot:∀ b o,¬ P b->h.get? b=Dn o->∃ sl,h'.get? b=Dn { o with slots:=sl }
 there:∀ b o,h.get? b=Dn o->∃ o',h'.get? b=Dn o'
section
variable {M:Model}{A:Dp}{E:FX->AP->Prop}{s:AP}{P:Addr->Prop}{e C:Addr}{od:Option Addr}
end
section
variable {X:Cx}{pins:List (Addr×Obj)}{σ : St}{H H':Hp}{s s':AP}{b e C:Addr}{od:Option Addr}
structure New (X:Cx) (pins:List (Addr×Obj)) (H:Hp) (b:Addr):Prop where
 h:H b=FN
 s:b∈X.ex\/X.s₀.heap.get? b=FN
 l:b≠X.env.locals
 c:∀ x c,X.env.cells.lookup x=Dn c->c≠b
 p:∀ p∈X.pn++pins,p.1≠b
 f:b∉X.fs
structure aeB (X:Cx) (pins:List (Addr×Obj)) (σ : St) (H:Hp) (s:AP) (e C:Addr) (od:Option Addr):Prop where
 inv:BL X pins σ H s
 xo:XO s.heap (New X pins H) e C od
structure zab (X:Cx) (pins:List (Addr×Obj)) (σ : St) (H:Hp) (s:AP) (e C:Addr) (od:Option Addr):Prop where
 inv:BL X pins σ H s
 xn:XN s.heap (New X pins H) e C od
end
section
variable {X:Cx}{pins:List (Addr×Obj)}{σ : St}{H:Hp}{s:AP}{C:Addr}{x:Str}{np cpos pos:Pos}{e:Expr}{es:List Expr}{t:TA}
end
section
variable {X:Cx}{Γ : St->Prop}{e c:Expr}{es:List Expr}{mr:MA}{pos:Pos}{st:Stmt}{rest:List Stmt}
end
section
variable {X:Cx}{pins pins':List (Addr×Obj)}{σ : St}{H:Hp}{s:AP}{xe:FX->AP->Prop}{a C:Addr}{o:Obj}{u:HO}
end
section
variable {prog:Dr}{w:Ci}{A:Dp}{E:FX->AP->Prop}{s:AP}{K:BZ}{x D:Addr}{ox:Obj}
end
def QM (n d:Str):Bool:=n==d||d == "EaselError"
section
variable {K:BZ}{C D:Addr}{n d:Str}
def aej (K:BZ)(v:V)(f:Str->Bool):Prop:=∀ (u:FX),RelV v u->∀ (C:Addr) (n:Str),abR K C n=true->PySem.W.kitOne K (.ref C) u=Dn (f n)
end
def cj.lost (D:cj):cj:={ D with nx:=fun σ h=>D.nx (σ.map fun _=>FN) h,bk:=fun σ h=>D.bk (σ.map fun _=>FN) h,ct:=fun σ h=>D.ct (σ.map fun _=>FN) h }
def aaU (x:Xw):W:=match x.fs with
 | []=>.exc x.cls
 | f::fs=>.exa x.cls ((f::fs).map (·.2))
def aec (i:Nat)(d:Str)(mb:Bq->MS)(mh:MS):MS:=fun D σ h=>mb (fun x h'=>JZ (QM x.cls d) (mh D.lost (σ.set i (Dn (aaU x))) h') False) D σ h
section
variable {X:Cx}{body:List Stmt}{b₀ : Stmt}{suite:List Stmt}{y d:Str}{np hpos pos:Pos}{i:Nat}{D:Addr}{mb:Bq->MS}{mh:MS}
end
section
variable {X:Cx}{a:Expr}{ma:ME}{pos p:Pos}
def aeh (f:Str->Bool)(m:ME):ME:=fun σ h Q=>m σ h fun w h1=>match w with
 | .exc n=>Q (.bl (f n)) h1
 | .exa n _=>Q (.bl (f n)) h1
 | _=>False
inductive PCs (X:Cx):List Expr->List V->(Str->Bool)->Prop
 | nil:PCs X [] [] (fun _=>false)
 | cons {e:Expr} {es:List Expr} {v:V} {vs:List V} {f g:Str->Bool}:PE X e (tC v)->aej X.K v f->PCs X es vs g->HI (e::es) X.env=(false,eval e X.env)::HI es X.env->PCs X (e::es) (v::vs) (fun n=>f n||g n)
end
section
variable {X:Cx}{tg elt:Expr}{ifs:List Expr}{scope:Scope}{xs:List Str}{tt:MT}{te:ME}{pos p ppos:Pos}
end
section
variable {prog:Dr}{w:Ci}{A:Dp}{E:FX->AP->Prop}{s:AP}
end
section
variable {X:Cx}
end
section
variable {X:Cx}{K:BZ}{o e:Expr}{mo:ME}{ma:MA}{apos cpos:Pos}
def adt:MM:=fun x ws h Q=>match x,ws with
 | .loc n,[]=>(match h.c n with
  | some (.lst _)=>Q .non (h.set n (.lst []))
  | _=>False)
 | _,_=>False
variable {H:Hp}{pins:List (Addr×Obj)}{s:AP}{σ : St}
mutual
theorem Ew (I:BL X pins σ H s):∀ {w u:W} {v:V},Dt X.K H w v->Dt X.K H u v->w=u
 | .non,u,v,h,g=>by rw [Dt] at h;subst h;cases u <;> rw [Dt] at g <;> first | rfl | exact g.elim | (obtain ⟨_,_,g,_⟩:=g;cases g;done) | (cases g;done)
 | .bl b,u,v,h,g=>by rw [Dt] at h;subst h;cases u <;> rw [Dt] at g <;> first | (injection g with g;rw [g];done) | exact g.elim | (obtain ⟨_,_,g,_⟩:=g;cases g;done) | (cases g;done)
 | .int b,u,v,h,g=>by rw [Dt] at h;subst h;cases u <;> rw [Dt] at g <;> first | (injection g with g;rw [g];done) | exact g.elim | (obtain ⟨_,_,g,_⟩:=g;cases g;done) | (cases g;done)
 | .str b,u,v,h,g=>by rw [Dt] at h;subst h;cases u <;> rw [Dt] at g <;> first | (injection g with g;rw [g];done) | exact g.elim | (obtain ⟨_,_,g,_⟩:=g;cases g;done) | (cases g;done)
 | .tup ws,u,v,h,g=>by
  rw [Dt] at h
  obtain ⟨p,xs,e,hs,ds⟩:=h
  subst e
  cases u with
  | tup us=>
   rw [Dt] at g
   obtain ⟨p',xs',e',hs',ds'⟩:=g
   cases e'
   have:=I.tuple_inj hs hs'
   subst this
   rw [zW I ds ds']
  | lst us=>
   rw [Dt] at g
   obtain ⟨p',xs',e',hs',ds'⟩:=g
   cases e'
   obtain ⟨_,_,t,_⟩:=I.tuple hs
   obtain ⟨_,_,l,_⟩:=I.list hs'
   exact absurd rfl (Va l.isList (show s.heap.IsTuple _ _ from t))
  | ty _=>rw [Dt] at g;exact g.elim
  | loc _=>rw [Dt] at g;exact g.elim
  | kls _=>rw [Dt] at g;exact g.elim
  | exc _=>rw [Dt] at g;exact g.elim
  | exa _ _=>rw [Dt] at g;exact g.elim
  | _=>rw [Dt] at g;cases g
 | .lst ws,u,v,h,g=>by
  rw [Dt] at h
  obtain ⟨p,xs,e,hs,ds⟩:=h
  subst e
  cases u with
  | lst us=>
   rw [Dt] at g
   obtain ⟨p',xs',e',hs',ds'⟩:=g
   cases e'
   have:=I.list_inj hs hs'
   subst this
   rw [zW I ds ds']
  | tup us=>
   rw [Dt] at g
   obtain ⟨p',xs',e',hs',ds'⟩:=g
   cases e'
   obtain ⟨_,_,t,_⟩:=I.tuple hs'
   obtain ⟨_,_,l,_⟩:=I.list hs
   exact absurd rfl (Va l.isList (show s.heap.IsTuple _ _ from t))
  | ty _=>rw [Dt] at g;exact g.elim
  | loc _=>rw [Dt] at g;exact g.elim
  | kls _=>rw [Dt] at g;exact g.elim
  | exc _=>rw [Dt] at g;exact g.elim
  | exa _ _=>rw [Dt] at g;exact g.elim
  | _=>rw [Dt] at g;cases g
 | .ty _,_,_,h,_=>by rw [Dt] at h;exact h.elim
 | .kls _,_,_,h,_=>by rw [Dt] at h;exact h.elim
 | .loc _,_,_,h,_=>by rw [Dt] at h;exact h.elim
 | .exc _,_,_,h,_=>by rw [Dt] at h;exact h.elim
 | .exa _ _,_,_,h,_=>by rw [Dt] at h;exact h.elim
theorem zW (I:BL X pins σ H s):∀ {ws us:List W} {vs:List V},Jf X.K H ws vs->Jf X.K H us vs->ws=us
 | [],us,vs,h,g=>by
  have e:vs=[]:=by rw [Jf] at h;exact h
  subst e
  cases us with
  | nil=>rfl
  | cons u us=>rw [Jf] at g;obtain ⟨_,_,e,_⟩:=g;cases e
 | w::ws,us,vs,h,g=>by
  rw [Jf] at h
  obtain ⟨v,vs',e,d,ds⟩:=h
  subst e
  cases us with
  | nil=>
   have e:v::vs'=[]:=by rw [Jf] at g;exact g
   cases e
  | cons u us=>
   rw [Jf] at g
   obtain ⟨v2,vs2,e2,d2,ds2⟩:=g
   cases e2
   rw [Ew I d d2,zW I ds ds2]
end
theorem yx {α β : Type}{p:α->Bool}{q:β->Bool}:∀ {xs:List α} {ys:List β},xs.length=ys.length->(∀ a b,(a,b)∈xs.zip ys->p a=q b)->xs.countP p=ys.countP q
 | [],[],_,_=>rfl
 | [],_::_,h,_=>by cases h
 | _::_,[],h,_=>by cases h
 | a::xs,b::ys,h,e=>by
  rw [List.countP_cons,List.countP_cons,yx (Nat.succ.inj h) fun a' b' m=>e a' b' (by rw [Uj];exact Oq _ m),e a b (by rw [Uj];exact Oo)]
theorem wR:∀ {us:List W} {xs:List V} {its:List FX},Jf X.K H us xs->Bm xs its->∀ a u,(a,u)∈its.zip us->∃ v,RelV v a/\Dt X.K H u v/\u∈us
 | [],_,its,_,_,a,u,m=>by rw [List.zip_nil_right] at m;exact absurd m (by simp)
 | w::us,xs,its,d,r,a,u,m=>by
  rw [Jf] at d
  obtain ⟨v,vs,e,d1,ds⟩:=d
  subst e
  cases r with
  | cons r1 rs=>
   rw [Uj] at m
   rcases K9.mp m with m | m
   ·cases m
    exact ⟨v,r1,d1,Oo⟩
   ·obtain ⟨v',q1,q2,q3⟩:=wR ds rs a u m
    exact ⟨v',q1,q2,Oq _ q3⟩
theorem rG {α β : Type}:∀ {xs:List α} {ys:List β},xs.length=ys.length->∀ a∈xs,∃ b,(a,b)∈xs.zip ys
 | [],_,_,a,m=>absurd m (by simp)
 | _::_,[],h,_,_=>by cases h
 | x::xs,y::ys,h,a,m=>by
  rw [Uj]
  rcases K9.mp m with rfl | m
  ·exact ⟨y,Oo⟩
  ·obtain ⟨b,q⟩:=rG (Nat.succ.inj h) a m
   exact ⟨b,Oq _ q⟩
def Rf (K:BZ):V->List V->Hp->VK->Prop:=fun x vs H Q=>∃ (l:Addr) (y:V) (xs:List V) (us:List W) (w:W),x=.ref l/\vs=[y]/\Je K H l xs/\Jf K H us xs/\Dt K H w y/\us.all (Ed 20)=true/\Ed 20 w=true/\Q (.int (us.countP fun u=>Ce u w)) H
theorem afk (hu:X.A.units+30<Lp):MtR X "list.count" (Rf X.K):=by
 intro pins s σ H x vs v us' Q I rx rv h
 obtain ⟨l,y,xs,us,w,rfl,rfl,hx,hd,hw,pl1,pl2,q⟩:=h
 cases rx
 obtain ⟨b,rfl,rb⟩:=rv.one
 obtain ⟨its,r,pl,hz⟩:=I.list hx
 obtain ⟨⟨cl,dd,da,sl⟩,n,e,c1,c2,c3⟩:=pl
 simp only at c1 c2 c3
 subst c1 c2 c3
 have hl:its.length=us.length:=by rw [<-r.length,hd.len]
 let ev:FX->Bool:=fun a=>@decide (∃ u,(a,u)∈its.zip us/\Ce u w=true) (Ul _)
 have hev:∀ a u,(a,u)∈its.zip us->ev a=Ce u w:=by
  intro a u m
  cases c:Ce u w with
  | true=>exact (@decide_eq_true_iff _ (Ul _)).mpr ⟨u,m,c⟩
  | false=>
   refine (@decide_eq_false_iff_not _ (Ul _)).mpr fun ⟨u2,m2,c2⟩=>?_
   obtain ⟨v1,r1,d1,_⟩:=wR hd r a u m
   obtain ⟨v2,r2,d2,_⟩:=wR hd r a u2 m2
   have ev:v1=v2:=r1.inj r2
   subst ev
   rw [Ew I d1 d2,c2] at c
   cases c
 refine call_meets F.slot_list_count ⟨_,e,rfl⟩ F.entry_list_count (F.args_list_count_2 _ _) (SeqAt.list_countAt l its.toArray n FN sl b ev) ⟨e,?_,?_⟩
 ·intro a ha
  have ha':a∈its:=by simpa using ha
  obtain ⟨u,m⟩:=rG hl a ha'
  obtain ⟨v,r1,d1,mu⟩:=wR hd r a u m
  rw [hev a u m]
  exact Vt I 20 (by show X.A.in1.units+20<Lp;show X.A.units+1+20<Lp;lia) d1 hw (O8.mp pl1 u mu) pl2 r1 rb
 ·rw [show its.toArray.toList=its from rfl,yx hl hev]
  exact ⟨.int _,H,I.tok _,⟨_,rfl⟩,q⟩
def BP:MM:=fun x ws h Q=>match ws with
 | [w]=>(match fG h x with
  | some us=>JZ (Ed 20 w&&us.all (Ed 20)) (Q (.int (us.countP fun u=>Ce u w)) h) False
  | none=>False)
 | _=>False
theorem agP:WW K (Rf K) BP:=by
 intro H μ h x vs wx ws Qw Q R rx rs m k
 unfold BP at m
 split at m
 ·rename_i w
  obtain ⟨v,ev,rv⟩:=oV rs
  split at m
  ·rename_i us eu
   obtain ⟨p,xs,ex,hs,rr⟩:=dU R rx eu
   cases c:(Ed 20 w&&us.all (Ed 20)) with
   | true=>
    rw [c] at m
    rw [O7] at c
    exact ⟨p,v,xs,us,w,ex,ev,hs,yO (Jh 20) rr c.2,Jh 20 rv c.1,c.2,c.1,k _ _ (.int R m)⟩
   | false=>rw [c] at m;exact (show False from m).elim
  ·exact m.elim
 ·exact m.elim
theorem Wf (hu:X.A.units+30<Lp)(ho:DE X o mo)(ha:Li X [e] ma)
  (hbase:Tn o "count" X.env (eval o X.env)=eval o X.env:=by rfl)
  (hfew:((Kp cpos (HI [e] X.env)).all (fun x=>!x.1)&&(backToKw cpos (Uc [] X.env)).all (fun x=>x.1.isSome)
   && decide (([e]:List Expr).length+([]:List Ph).length+(if ([]:List Ph).isEmpty then 0 else 1)<30))=true:=by rfl)
  (hline:(apos.endLine==cpos.line)=true:=by rfl) (hst:HI [e] X.env=(false,eval e X.env)::HI [] X.env:=by rfl) (hplain:(Kp cpos (HI [] X.env)).any (·.1)=false:=by rfl) :
  DE X (.Call (.Attribute o "count" apos) [e] [] cpos) (abb BP mo ma):=(W9 PySem.F.plainAttrs_list PySem.F.slot_list_count PySem.F.type_list_count (afk hu) ho ha hbase hfew hline hst hplain).of fun σ H Q ⟨μ,h,σw,Qw,R,S,m,k⟩=>by
 refine ⟨μ,h,σw,_,R,S,m,fun v H1 ⟨μ1,w,h1,e1,R1,r1,il⟩=>⟨(Ak R1 r1 il).1,?_⟩⟩
 have m1:=(Ak R1 r1 il).2
 exact ⟨μ1,h1,σw,_,R1,S.ext e1,m1,fun vs H2 ⟨μ2,ws,h2,e2,R2,r2,m2⟩=>agP R2 (e2.r _ _ r1) r2 m2 fun v H' z=>k _ _ ((z.trans e2).trans e1)⟩
end
section
variable {X:Cx}{elt iter tg:Expr}{ifs:List Expr}{scope:Scope}{pos:Pos}{xs:List Str}{mi:MI}{tt:MT}{te:ME}
end
section
variable {X:Cx}{Γ : St->Prop}{e:Expr}{es:List Expr}{pos:Pos}
variable {mr:Bq->MA}
end
section
variable {X:Cx}{K:BZ}{H:Hp}{pins:List (Addr×Obj)}{s:AP}{σ : St}
theorem M6 {α β : Type}{p:α->Bool}{q:β->Bool}:∀ {xs:List α} {ys:List β},xs.length=ys.length->(∀ a b,(a,b)∈xs.zip ys->p a=q b)->xs.any p=ys.any q
 | [],[],_,_=>rfl
 | [],_::_,h,_=>by cases h
 | _::_,[],h,_=>by cases h
 | a::xs,b::ys,h,e=>by
  rw [U4,U4,M6 (Nat.succ.inj h) fun a' b' m=>e a' b' (by rw [Uj];exact Oq _ m),e a b (by rw [Uj];exact Oo)]
theorem aft (I:BL X pins σ H s){us:List W}{xs:List V}{its:List FX}{w:W}{y:V}{b:FX}(hd:Jf X.K H us xs)(r:Bm xs its)(hw:Dt X.K H w y)(rb:RelV y b)(pl1:us.all (Ed 20)=true)(pl2:Ed 20 w=true){A:Dp}(hu:A.units+20<Lp) :
  ∃ ev:FX->Bool,(∀ a,a∈its->TY A s a b (ev a))/\its.any ev=us.any (fun u=>Ce u w):=by
 have hl:its.length=us.length:=by rw [<-r.length,hd.len]
 let ev:FX->Bool:=fun a=>@decide (∃ u,(a,u)∈its.zip us/\Ce u w=true) (Ul _)
 have hev:∀ a u,(a,u)∈its.zip us->ev a=Ce u w:=by
  intro a u m
  cases c:Ce u w with
  | true=>exact (@decide_eq_true_iff _ (Ul _)).mpr ⟨u,m,c⟩
  | false=>
   refine (@decide_eq_false_iff_not _ (Ul _)).mpr fun ⟨u2,m2,c2⟩=>?_
   obtain ⟨v1,r1,d1,_⟩:=wR hd r a u m
   obtain ⟨v2,r2,d2,_⟩:=wR hd r a u2 m2
   have ev:v1=v2:=r1.inj r2
   subst ev
   rw [Ew I d1 d2,c2] at c
   cases c
 refine ⟨ev,fun a ha=>?_,M6 hl hev⟩
 obtain ⟨u,m⟩:=rG hl a ha
 obtain ⟨v,r1,d1,mu⟩:=wR hd r a u m
 rw [hev a u m]
 exact Vt I 20 hu d1 hw (O8.mp pl1 u mu) pl2 r1 rb
def adU (K:BZ)(neg:Bool):R2:=fun x y H Q=>∃ p xs us w,y=.ref p/\Je K H p xs/\Jf K H us xs/\Dt K H w x/\us.all (Ed 20)=true/\Ed 20 w=true/\Q (.bl (if neg then !(us.any fun u=>Ce u w) else us.any fun u=>Ce u w)) H
theorem ahl (hu:X.A.units+30<Lp):Kc X (M8 .NotIn) (adU X.K true):=by
 intro pins s σ H x y v u Q I rx ry h
 obtain ⟨p,xs,us,w,rfl,hq,hd,hw,p1,p2,q⟩:=h
 cases ry
 obtain ⟨its,r,pl,hz⟩:=I.list hq
 obtain ⟨ev,he,ea⟩:=aft I hd r hw rx p1 p2 (A:=X.A.in1) (by show X.A.units+1+20<Lp;lia)
 refine SeqAt.notIn_listAt ev pl.isList (fun w hw=>he w (by simpa using hw)) ⟨.bl _,H,I,rfl,?_⟩
 rw [show its.toArray.any ev=its.any ev by simp,ea]
 exact q
def Qo:M2:=fun x y h Q=>match fG h y with
 | some us=>JZ (Ed 20 x&&us.all (Ed 20)) (Q (.bl (!(us.any fun u=>Ce u x))) h) False
 | none=>False
theorem Xo (hu:X.A.units+30<Lp):Nk X (M8 .NotIn) Qo:=⟨_,ahl hu,by
 intro H μ h x y wx wy Qw Q R rx ry m k
 unfold Qo at m
 split at m
 ·rename_i us eu
  obtain ⟨p,xs,ex,hs,rr⟩:=dU R ry eu
  cases c:(Ed 20 wx&&us.all (Ed 20)) with
  | true=>
   rw [c] at m
   rw [O7] at c
   exact ⟨p,xs,us,wx,ex,hs,yO (Jh 20) rr c.2,Jh 20 rx c.1,c.2,c.1,k _ _ (.bl R m)⟩
  | false=>rw [c] at m;exact (show False from m).elim
 ·exact m.elim⟩
end
section
variable {X:Cx}{K:BZ}{H:Hp}{μ : Mu}{h:Gh}
end
section
variable {X:Cx}{K:BZ}{o e e':Expr}{mo:ME}{ma:MA}{apos cpos:Pos}
end
def T4 (m:Nat):List Nat:=(O9 8).filter fun j=>m.testBit j
def rk (m j:Nat):Nat:=((O9 j).filter fun i=>m.testBit i).length
def pq (h:Int):Nat->Nat×Nat
 | 0=>(UJ h % 8,UJ h)
 | n+1=>SetTable.leap 7 (pq h n).1 (pq h n).2
def pb (h:Int)(n:Nat):SetTable.Probe:=⟨(pq h n).1,0,(pq h n).1,(pq h n).2,FN⟩
theorem abP (h:Int):∀ n,(pq h n).1<8
 | 0=>Nat.mod_lt _ (by decide)
 | n+1=>Nat.mod_lt _ (by decide)
theorem Jx (h:Int):∀ n,(pq h n).2=UJ h / 32^n
 | 0=>by simp [pq]
 | n+1=>by
  show (pq h n).2 / 32=_
  rw [Jx h n,Nat.div_div_eq_div_mul,Nat.pow_succ]
theorem Wd (h:Int)(n:Nat)(hn:13<=n):(pq h n).2=0:=by
 rw [Jx]
 apply Nat.div_eq_of_lt
 have h1:UJ h<2^64:=by
  unfold UJ
  have a:=Int.emod_lt_of_pos h (show (0:Int)<2^64 by decide)
  have b:=Int.emod_nonneg h (show (2^64:Int)≠0 by decide)
  lia
 have h2:32^13<=32^n:=Nat.pow_le_pow_right (by decide) hn
 have h3:(2:Nat)^64<32^13:=by decide
 lia
def lcg:Nat->Nat->Nat
 | i,0=>i
 | i,k+1=>(lcg i k*5+1) % 8
theorem RD (h:Int):∀ k,(pq h (13+k)).1=lcg (pq h 13).1 k
 | 0=>rfl
 | k+1=>by
  show ((pq h (13+k)).1*5+1+(pq h (13+k)).2 / 32) % (7+1)=_
  rw [Wd h _ (by lia),RD h k]
  rfl
theorem ahu:∀ i:Fin 8,∀ j:Fin 8,∃ k:Fin 8,lcg i k=j.val:=by decide +kernel
theorem XS (h:Int){j:Nat}(hj:j<8):∃ n,n<21/\(pq h n).1=j:=by
 obtain ⟨k,e⟩:=ahu ⟨(pq h 13).1,abP h 13⟩ ⟨j,hj⟩
 exact ⟨13+k.val,by lia,by rw [RD];exact e⟩
theorem least {P:Nat->Bool}:∀ (B:Nat),(∃ n,n<B/\P n=true)->∃ N,N<B/\P N=true/\∀ n,n<N->P n=false
 | 0,⟨n,h,_⟩=>absurd h (Nat.not_lt_zero _)
 | B+1,⟨n,h,e⟩=>by
  by_cases q:∃ n,n<B/\P n=true
  ·obtain ⟨N,a,b,c⟩:=least B q
   exact ⟨N,by lia,b,c⟩
  ·refine ⟨n,h,e,fun i hi=>?_⟩
   cases r:P i with
   | false=>rfl
   | true=>exact absurd ⟨i,by lia,r⟩ q
theorem road {m:Nat}(h:Int)(hf:∃ j,j<8/\m.testBit j=false):∃ N,N<21/\m.testBit (pq h N).1=false/\∀ n,n<N->m.testBit (pq h n).1=true:=by
 obtain ⟨j,hj,e⟩:=hf
 obtain ⟨n,hn,en⟩:=XS h hj
 obtain ⟨N,a,b,c⟩:=least (P:=fun n=>!m.testBit (pq h n).1) 21 ⟨n,hn,by simp [en,e]⟩
 exact ⟨N,a,by simpa using b,fun n hn=>by simpa using c n hn⟩
section
variable {prog:Dr}{w:Ci}{A:Dp}{E:FX->AP->Prop}{s:AP}{m:Nat}{ka:Nat->List Int}{ad:Nat->Addr}{t:Vf}{a b:Addr}{k:List Int}
abbrev agJ (prog:Dr)(w:Ci)(h:Heap)(k:List Int)(a:Addr):Prop:=IsTupleKey (intKind prog w) h k a
def hT (prog:Dr)(w:Ci)(k:List Int):Int:=tupleKeyHash (intKind prog w) k
def elL (prog:Dr)(w:Ci)(m:Nat)(ka:Nat->List Int)(ad:Nat->Addr):List (Int×FX):=(T4 m).map fun j=>(hT prog w (ka j),Value.ref (ad j))
structure ad7 (prog:Dr) (w:Ci) (h:Heap) (m:Nat) (ka:Nat->List Int) (ad:Nat->Addr) (t:Vf):Prop where
 mask:t.mask=7
 place:t.place=(T4 m).toArray
 dum:t.dummies = #[]
 m8:m<256
 few:(T4 m).length<=4
 key:∀ j,j∈T4 m->agJ prog w h (ka j) (ad j)
 way:∀ j,j∈T4 m->∃ n,(pq (hT prog w (ka j)) n).1=j/\∀ i,i<n->m.testBit (pq (hT prog w (ka j)) i).1=true
def adY (es:Array (Int×FX))(ep:Nat)(t:Vf):Obj:={ cls:=.type "set",dict:=FN,data:=.set es ep t }
def aau (prog:Dr)(w:Ci)(h:Heap)(a:Addr)(m:Nat)(ka:Nat->List Int)(ad:Nat->Addr):Prop:=∃ ep t,h.get? a=Dn (adY (elL prog w m ka ad).toArray ep t)/\ad7 prog w h m ka ad t
end
section
variable {prog:Dr}{w:Ci}{A:Dp}{E:FX->AP->Prop}{R:Result->AP->Prop}
structure aee (prog:Dr) (w:Ci) (z:Nat) (h:Heap) (S:Addr) (seen:List (List Int)) (m:Nat) (ka:Nat->List Int) (ad:Nat->Addr):Prop where
 set:aau prog w h S m ka ad
 low:∀ j,j∈T4 m->ad j<z
 mem:∀ k,k∈seen↔∃ j,j∈T4 m/\ka j=k
 len:(T4 m).length=seen.length
end
section
variable {prog:Dr}{w:Ci}{A:Dp}{E:FX->AP->Prop}{s:AP}
end
section
variable {X:Cx}{K:BZ}
end
section
variable {κ : Type} [DecidableEq κ]
end
section
variable {P:Dr}{w:Ci}{H:Hp}{h:Heap}{a:Addr}
end
section
variable {X:Cx}{pins:List (Addr×Obj)}{σ : St}{H:Hp}{s:AP}{a:Addr}{y v:V}{u r:FX}{o:Option V}{A:Dp}{E:FX->AP->Prop}
end
section
variable {X:Cx}{pins:List (Addr×Obj)}{σ : St}{H:Hp}{s:AP}{a:Addr}{kvs:List (Key×V)}{k:Key}{u:FX}{A:Dp}{E:FX->AP->Prop}
end
section
variable {X:Cx}{o i e value:Expr}{pos pos' tpos:Pos}{td ty tv:TE}
end
section
variable {X:Cx}{pos:Pos}
end
section
variable {K:BZ}{H:Hp}{μ : Mu}{kvs:List (Key×W)}{kvv:List (Key×V)}{k:Key}{w:W}{v:V}
end
section
variable {X:Cx}{a b:Expr}{ma mb:ME}{pos:Pos}
inductive DDs (X:Cx):List (Option Expr)->List Expr->List (Key×ME)->Prop
 | nil:DDs X [] [] []
 | cons {x:Str} {j pos} {v:Expr} {m:ME} {ks:List (Option Expr)} {vs:List Expr} {r:List (Key×ME)} (h:DE X v m) (t:DDs X ks vs r):DDs X (Dn (.Constant (.str x) j pos)::ks) (v::vs) ((.inr x,m)::r)
end
inductive ab0 (w:Ci) (K:BZ):List DictEntry->List (Key×W)->Prop
 | nil:ab0 w K [] []
 | cons {x:Str} {t} {v:V} {u:FX} {d:W} {es:List DictEntry} {tbl:List (Key×W)} (r:RelV v u) (q:∀ H μ,Aq K H μ d v) (h:ab0 w K es tbl):ab0 w K (⟨PyData.keyHash w.params x,.str x t,u⟩::es) ((.inr x,d)::tbl)
section
variable {X:Cx}{b:Expr}{mb:ME}{pos p:Pos}{x:Str}{a:Addr}{tbl:List (Key×W)}
end
section
variable {X:Cx}{pos p p':Pos}{x:Str}{a:Addr}{tbl:List (Key×W)}
end
section
variable {X:Cx}
end
section
variable {X:Cx}{K:BZ}{H:Hp}{μ : Mu}{h:Gh}
end
section
variable {X:Cx}{a b c:Expr}{ma mb mc:ME}{pos:Pos}
end
section
variable {K:BZ}{H:Hp}{μ : Mu}{fs:List (Str×W)}{fvs:List (Str×V)}{f:Str}{w:W}{v:V}
end
section
variable {X:Cx}{e o value:Expr}{es:List Expr}{ma mo mv:ME}{mr:MA}{f:Str}{C:Addr}{pos pos' apos:Pos}
end
section
variable {prog:Dr}{w:Ci}{A:Dp}{E:FX->AP->Prop}{s:AP}
end
section
variable {X:Cx}
end
section
variable {X:Cx}{e:Expr}{me:ME}{x:Str}{a:Addr}{tbl:List (Key×W)}{p pos:Pos}
end
section
variable {X:Cx}{Γ : St->Prop}{C:Addr}{o e:Expr}{es:List Expr}{mo:ME}{mr:MA}{pos apos:Pos}
end
section
variable {X:Cx}{pins:List (Addr×Obj)}{σ : St}{H:Hp}{s:AP}{K:BZ}{μ : Mu}
end
section
variable {X:Cx}{a b o i:Expr}{ma mb:ME}{td ty:TE}{pos:Pos}
end
section
variable {prog:Dr}{w:Ci}{A:Dp}{E:FX->AP->Prop}{s:AP}
end
section
variable {X:Cx}
end
def ps (h:Int):Nat->Nat×Nat
 | 0=>(UJ h % 32,UJ h)
 | n+1=>SetTable.leap 31 (ps h n).1 (ps h n).2
def liv (o:Array (Option Nat)):List (Nat×Nat):=(O9 32).filterMap fun j=>(o.getD j FN).map (j,·)
structure Lay (o:Array (Option Nat)) (k:Nat):Prop where
 sz:o.size=32
 len:(liv o).length=k
 low:∀ p,p∈liv o->p.2<k
section
variable {prog:Dr}{w:Ci}{A:Dp}{E:FX->AP->Prop}{s:AP}{a:Addr}
end
section
variable {prog:Dr}{w:Ci}{A:Dp}{E:FX->AP->Prop}{s:AP}{m:Nat}{ka:Nat->List Int}{ad:Nat->Addr}{t:Vf}{a b:Addr}{k:List Int}
end
section
variable {prog:Dr}{w:Ci}{A:Dp}{E:FX->AP->Prop}{R:Result->AP->Prop}
end
section
variable {prog:Dr}{w:Ci}{A:Dp}{E:FX->AP->Prop}{s:AP}
end
section
variable {X:Cx}{K:BZ}
end
section
variable {X:Cx}{K:BZ}{o e:Expr}{mo:ME}{apos cpos:Pos}
end
section
variable {prog:Dr}{w:Ci}{A:Dp}{s:AP}{K:BZ}{x C:Addr}{R:Result->AP->Prop}
end
section
variable {prog:Dr}{w:Ci}{A:Dp}{E:FX->AP->Prop}{s:AP}{K:BZ}{x dx C f:Addr}{mA:Str->Option FX}{name:Str}{v:FX}
end
section
variable {prog:Dr}{w:Ci}{A:Dp}{E:FX->AP->Prop}{s:AP}{K:BZ}{x D:Addr}{ox:Obj}
end
section
variable {prog:Dr}{w:Ci}{A:Dp}{E:FX->AP->Prop}{h:Heap}{g:Array GenState}{d:Drawn}{t:Nat}{os:OsState}
variable {nm q:Str}{C N:Addr}{bs bm bmB:List FX}{hdct:Bool}{sn:List Str}{sub:List FX}{ab:Bool}{col:Option Bool}{dd:Option Addr}{k0 k1 k2 k3 k5:Option FX}{B newId initId:String}{K:BZ}{f:Addr}
end
section
variable {prog:Dr}{w:Ci}{M:Model}{A:Dp}{E:FX->AP->Prop}{s:AP}{env:Env}{K:BZ}{f:Addr}
variable {nm q:Str}{C N:Addr}{bs bm bmB:List FX}{hdct:Bool}{sn:List Str}{sub:List FX}{ab:Bool}{col:Option Bool}{dd:Option Addr}{k0 k1 k2 k3 k5:Option FX}{B newId initId:String}
end
section
variable {X:Cx}{o value:Expr}{f:Str}{C:Addr}{pos pos':Pos}{ta tv:TE}
end
section
variable {X:Cx}{pins:List (Addr×Obj)}{σ : St}{H:Hp}{s:AP}{e:Addr}
end
section
variable {X:Cx}{pins:List (Addr×Obj)}{σ : St}{H:Hp}{s:AP}{C fi:Addr}{x f:Str}{np cpos pos:Pos}{e:Expr}{t:TA}{k:Nat}{fd:DR}{ps:List Str}
end
section
variable {X:Cx}{Γ : St->Prop}{e:Expr}{pos:Pos}{ma:ME}
end
section
variable {X:Cx}{e:Expr}{f:Str}{pos:Pos}{ma:ME}
end
section
variable {X:Cx}
end
section
variable {X:Cx}{Γ : St->Prop}{tg:Expr}
end
section
variable {X:Cx}{K:BZ}
def enW:Nat->List W->List W
 | _,[]=>[]
 | i,a::as=>.tup [.int (i:Int),a]::enW (i+1) as
def enS (h:Gh)(x:W):Option Src:=match x with
 | .lst as=>Dn ⟨enW 0 as,FN⟩
 | .kls as=>Dn ⟨enW 0 as,FN⟩
 | .loc n=>(match h.c n with
  | some (.lst as)=>Dn ⟨enW 0 as,Dn (n,as)⟩
  | _=>FN)
 | _=>FN
end
section
variable {X:Cx}{mr:MA}{pos p:Pos}{e:Expr}{es:List Expr}{k:Nat}{fs:List (Addr×Mk)}
theorem Ip {x:Str}{f:Addr}(i:Nat)(hg:Gl X x)(hm:X.mg x=Dn (.ref f))(hd:(x==("__debug__" : Str))=false:=by decide):DE X (.Name x p) (mC (.fnv f i)):=
 dc (J1 (v:=.ref f) hg hm rfl hd) fun _ _=>by rw [Aq]
inductive QJ (X:Cx) (k:Nat):List (Addr×Mk)->Prop
 | nil:QJ X k []
 | cons {f:Addr} {fd:DR} {ps:List Str} {ms:Mk} {fs:List (Addr×Mk)} (F:cA X.prog X.w X.K X.mg X.base Ea k f fd ps (lift X.K ms)) (hk:Qt X.K (.ref f)=true) (hb:Binds X.K fd ps []) (r:QJ X k fs):QJ X k ((f,ms)::fs)
theorem QJ.get:∀ {fs:List (Addr×Mk)} {j:Nat} {f:Addr} {ms:Mk},QJ X k fs->fs[j]?=Dn (f,ms) ->
  ∃ fd ps,cA X.prog X.w X.K X.mg X.base Ea k f fd ps (lift X.K ms)/\Qt X.K (.ref f)=true/\Binds X.K fd ps []
 | [],_,_,_,_,e=>by simp at e
 | _::_,0,_,_,.cons F hk hb _,e=>by
  simp at e
  obtain ⟨rfl,rfl⟩:=e
  exact ⟨_,_,F,hk,hb⟩
 | _::_,j+1,_,_,.cons _ _ _ r,e=>QJ.get (j:=j) r (by simpa using e)
def Bx (fs:List (Addr×Mk))(i:Nat)(ma:MA):ME:=fun σ h Q=>match σ[i]? with
 | some (Dn (.fnv f j))=>(match fs[j]? with
  | some x=>f=x.1/\ma σ h fun ws h1=>x.2 ws h1 Q EF
  | none=>False)
 | _=>False
theorem zbs {i:Nat}{x:Str}(F:QJ X k fs)(hr:ud k X.A)(hN:PE X (.Name x p) (aaX i))(ha:Li X (e::es) mr)(he:HI (e::es) X.env=(false,eval e X.env)::HI es X.env:=by rfl)(hpl:(Kp pos (HI es X.env)).any (·.1)=false:=by rfl) :
  DE X (.Call (.Name x p) (e::es) [] pos) (Bx fs i mr):=by
 intro pins s σ H Q I ⟨μ,g,σw,Qw,R,S,m,q⟩
 unfold Bx at m
 split at m
 ·rename_i f j es'
  obtain ⟨v,ev,rv⟩:=S.get i _ es'
  rw [Aq] at rv
  subst rv
  split at m
  ·rename_i y ey
   obtain ⟨rfl,m⟩:=m
   obtain ⟨fd,ps,F,hk,hb⟩:=F.get (f:=y.1) (ms:=y.2) ey
   refine U6 (Ia (hN pins s σ H (fun v H1=>v=.ref y.1/\H1=H) I ⟨_,ev,rfl,rfl⟩) fun u s1 ⟨v,H1,I1,ru,e1,e2⟩=>?_)
   subst e1 e2
   obtain rfl:u=Value.ref y.1:=ru
   refine PySem.W.callWith_K (h₀:=X.base) I1.ok.mod.kin hk (Ia (ha pos pins s1 σ H1 _ I1 (call_of (E:=E0) (ms:=y.2) ⟨μ,g,σw,Qw,R,S,m,q⟩)) fun us s2 ⟨vs,H2,I2,r,q2⟩=>⟨I2.kIn,?_⟩) he hpl
   exact JQ F hr hb .nil TV I2 r q2
  ·exact m.elim
 ·exact m.elim
end
def Cmp (P:Dr)(w:Ci)(A:Dp)(s:AP)(kd:T6)(rk:FX->Nat)(good:FX->Prop):Prop:=
 ∀ (E:FX->AP->Prop) (Q:Bool->AP->Prop) (x y:FX),good x->good y->Q (decide (rk x<rk y)) s->Bs (Cj P w) A (keyLt' kd x y) Q E s
section
variable {P:Dr}{w:Ci}{A:Dp}{E:FX->AP->Prop}{s:AP}{kd:T6}{rk:FX->Nat}{good:FX->Prop}
def Rk (rk:FX->Nat)(a:Array Ls)(i:Nat):Nat:=match a[i]? with
 | some p=>rk p.1
 | none=>0
def Nv (rk:FX->Nat)(a:Array Ls)(i j:Nat):Prop:=∀ p q,i<=p->p<q->q<j->Rk rk a p<Rk rk a q
structure Keys (rk:FX->Nat) (good:FX->Prop) (a:Array Ls):Prop where
 good:∀ p∈a.toList,good p.1
 nd:(a.toList.map fun p=>rk p.1).Nodup
structure SOk (kd:T6) (rk:FX->Nat) (good:FX->Prop) (st:Od):Prop where
 kind:N5 st=kd
 failed:failedOf st=FN
 keys:Keys rk good (arrOf st)
theorem w_lt (C:Cmp P w A s kd rk good){x y:Ls}{st:Od}{Q:Option Bool->Od->Prop}(hk:N5 st=kd)(hx:good x.1)(hy:good y.1)(q:Q (Dn (decide (rk x.1<rk y.1))) st):wpS (Cj P w) A E s (lt' x y) Q st:=by
 rw [lt'_eq]
 refine wpS_bind (wpS_get ?_)
 rw [hk]
 exact wpS_bind (wpS_lift (U0 (C _ _ _ _ hx hy ⟨rfl,wpS_pure q⟩)))
structure Within (a b:Array Ls) (lo hi:Nat):Prop where
 perm:b.Perm a
 out:∀ k,k<lo\/hi<=k->b[k]?=a[k]?
end
section
variable {P:Dr}{w:Ci}{A:Dp}{E:FX->AP->Prop}{s:AP}{d it:Addr}{es:Array DictEntry}{ep i:Nat}
end
section
variable {P:Dr}{w:Ci}{A:Dp}{E:FX->AP->Prop}{s:AP}{kd:T6}{rk:FX->Nat}{good:FX->Prop}
structure aew (B:Nat->Bool) (n:Nat) (st:Od) (x:Nat) (c:Option (Option Nat)×Nat×Nat) (st':Od):Prop where
 s:st'=st
 e:c.1=FN
 a:c.2.1<=c.2.2
 b:c.2.2<=n
 d:c.2.2 - c.2.1<=n - x
 lo:∀ i,i<c.2.1->B i=true
 hi:∀ i,c.2.2<=i->i<n->B i=false
structure aex (B:Nat->Bool) (v:Bool) (mx:Nat) (st:Od) (x:Nat) (c:Option (Option Nat)×Nat×Nat) (st':Od):Prop where
 s:st'=st
 e:c.1=FN
 a:c.2.1<c.2.2
 b:x<c.2.2
 d:c.2.1<mx
 h:B c.2.1=v
end
section
variable {rk:FX->Nat}
def SL (rk:FX->Nat)(l:List Ls):Prop:=l.Pairwise fun x y=>rk x.1<rk y.1
def Be (rk:FX->Nat)(xs ys:List Ls):Prop:=∀ x∈xs,∀ y∈ys,rk x.1<rk y.1
def aeZ (rk:FX->Nat)(A B out al bl:List Ls):Prop:=∃ a1 b1,A=a1++al/\B=b1++bl/\out.Perm (a1++b1)/\SL rk out/\Be rk out al/\Be rk out bl
def Mrg (rk:FX->Nat)(A B r:List Ls):Prop:=r.Perm (A++B)/\SL rk r
end
section
variable {P:Dr}{w:Ci}{A:Dp}{E:FX->AP->Prop}{s:AP}{kd:T6}{rk:FX->Nat}{good:FX->Prop}
def Vs (st st':Od):Prop:=arrOf st'=arrOf st/\N5 st'=N5 st/\failedOf st'=failedOf st/\pendingOf st'=pendingOf st
structure Two (rk:FX->Nat) (good:FX->Prop) (a b:Array Ls):Prop where
 sa:SL rk a.toList
 sb:SL rk b.toList
 ga:∀ p∈a.toList,good p.1
 gb:∀ p∈b.toList,good p.1
 ne:∀ x∈a.toList,∀ y∈b.toList,rk x.1≠rk y.1
structure zaR (rk:FX->Nat) (a b out:Array Ls) (ia ib:Nat):Prop where
 ml:aeZ rk a.toList b.toList out.toList (a.toList.drop ia) (b.toList.drop ib)
 ia:ia+1<a.size
 ib:ib<b.size
structure Go (rk:FX->Nat) (a b:Array Ls) (st:Od) (n:Nat) {β : Type} (c:Option (Array Ls)×Array Ls×Nat×Nat×β) (st':Od):Prop where
 sm:Vs st st'
 e:c.1=FN
 li:zaR rk a b c.2.1 c.2.2.1 c.2.2.2.1
 le:n<=c.2.2.1+c.2.2.2.1
structure zaa (rk:FX->Nat) (a b:Array Ls) (st:Od) {β : Type} (c:Option (Array Ls)×β) (st':Od):Prop where
 sm:Vs st st'
 r:∃ l,c.1=Dn l/\Mrg rk a.toList b.toList l.toList
end
section
variable {rk:FX->Nat}
def afM (rk:FX->Nat)(A B o ah bh:List Ls):Prop:=∃ a2 b2,A=ah++a2/\B=bh++b2/\o.Perm (a2++b2)/\SL rk o/\Be rk ah o/\Be rk bh o
end
section
variable {P:Dr}{w:Ci}{A:Dp}{E:FX->AP->Prop}{s:AP}{kd:T6}{rk:FX->Nat}{good:FX->Prop}
structure aeS (rk:FX->Nat) (a b out:Array Ls) (na nb:Nat):Prop where
 mh:afM rk a.toList b.toList out.toList.reverse (a.toList.take na) (b.toList.take nb)
 pa:0<na
 pb:1<nb
 la:na<=a.size
 lb:nb<=b.size
structure GoH (rk:FX->Nat) (a b:Array Ls) (st:Od) (n:Nat) {β : Type} (c:Option (Array Ls)×Nat×Nat×Array Ls×β) (st':Od):Prop where
 sm:Vs st st'
 e:c.1=FN
 li:aeS rk a b c.2.2.2.1 c.2.1 c.2.2.1
 le:c.2.1+c.2.2.1+n<=a.size+b.size
structure Runs (rk:FX->Nat) (a:Array Ls) (sa k sb n' e:Nat):Prop where
 h1:sa+k<=sb
 h2:sb+n'<=e
 h3:e<=a.size
 r1:Nv rk a sa sb
 r2:Nv rk a sb e
 lo:∀ p,sa<=p->p<sa+k->Rk rk a p<Rk rk a sb
 hi:∀ p,sb+n'<=p->p<e->Rk rk a (sb - 1)<Rk rk a p
def Cont (rk:FX->Nat)(a:Array Ls):List (Nat×Nat×Nat)->Nat->Nat->Prop
 | [],i,j=>i=j
 | (s,n,_)::r,i,j=>s=i/\0<n/\Nv rk a i (i+n)/\Cont rk a r (i+n) j
structure zac (kd:T6) (rk:FX->Nat) (good:FX->Prop) (a0:Array Ls) (lo:Nat) (st:Od):Prop where
 ok:SOk kd rk good st
 perm:(arrOf st).Perm a0
 cont:Cont rk (arrOf st) (pendingOf st).toList 0 lo
end
section
variable {P:Dr}{w:Ci}{A:Dp}{E:FX->AP->Prop}{s:AP}
def rankOf (ks:List (List Int))(k:List Int):Nat:=ks.countP fun l=>decide (l<k)
structure KyT (T:Heap->FX->List Int->Prop):Prop where
 fn:∀ {h:Heap} {v:FX} {k l:List Int},T h v k->T h v l->k=l
 of:∀ {h h':Heap} {v:FX} {k:List Int},T h v k->(∀ b o,o.cls=.type "tuple"->h.get? b=Dn o->h'.get? b=Dn o)->T h' v k
abbrev PdT (T:Heap->FX->List Int->Prop)(h:Heap):List (List Int)->List FX->Prop:=Tw fun k v=>T h v k
section
variable {T:Heap->FX->List Int->Prop}(F:KyT T)
include F
open Classical in
noncomputable def keyV (_:KyT T)(h:Heap)(v:FX):List Int:=if e:∃ k,T h v k then e.choose else []
noncomputable def rkV (F:KyT T)(h:Heap)(ks:List (List Int))(v:FX):Nat:=rankOf ks (keyV F h v)
end
structure SkT (P:Dr) (w:Ci) (A:Dp) {T:Heap->FX->List Int->Prop} (F:KyT T) (kd:T6) (ks:List (List Int)) (vs:List FX):Prop where
 kind:∀ {E:FX->AP->Prop} {s:AP} {Q:T6->AP->Prop},2<=vs.length->PdT T s.heap ks vs->Q kd s->Bs (Cj P w) A (keyKind' vs.toArray) Q E s
 cmp:∀ {s:AP},PdT T s.heap ks vs->Cmp P w A s kd (rkV F s.heap ks) (·∈vs)
end
section
variable {X:Cx}{K:BZ}
end
section
variable {X:Cx}{o e1 e2:Expr}{mo:ME}{ma:MA}{apos cpos:Pos}
end
section
variable {X:Cx}{K:BZ}
variable {o e:Expr}{mo:ME}{ma:MA}{apos cpos:Pos}
end
section
variable {prog:Dr}{w:Ci}{A:Dp}{R:Result->AP->Prop}{E:FX->AP->Prop}{L I:Addr}{ns:List Int}{its:List FX}
end
section
variable {X:Cx}
end
section
open AutoSeq1 (wpAny_loadPart')
end
section
variable {prog:Dr}{w:Ci}{A:Dp}{E:FX->AP->Prop}{s:AP}
end
section
variable {X:Cx}{K:BZ}
end
section
variable {prog:Dr}{w:Ci}{A:Dp}{R:Result->AP->Prop}{L I:Addr}{its:List FX}
end
section
variable {X:Cx}{K:BZ}
def aa4 (h:Gh)(x y:W):Option Src:=match vX x,y with
 | some as,.loc n=>(match h.c n with
  | some (.lst bs)=>Dn ⟨vg as bs,Dn (n,bs)⟩
  | _=>FN)
 | _,_=>FN
end
section
variable {X:Cx}
end
section
variable {prog:Dr}{w:Ci}{A:Dp}{E:FX->AP->Prop}{s:AP}
end
section
variable {X:Cx}{K:BZ}
end
section
variable {prog:Dr}{w:Ci}{A:Dp}{E:FX->AP->Prop}{s:AP}{r l:Addr}{items:Array FX}
end
section
variable {X:Cx}
end
section
variable {P:Dr}{w:Ci}{A:Dp}{E:FX->AP->Prop}{s:AP}
end
section
variable {X:Cx}{K:BZ}
end
section
variable {X:Cx}{o e1 e2:Expr}{mo:ME}{ma:MA}{apos cpos:Pos}
end
section
variable {prog:Dr}{w:Ci}{A:Dp}{R:Result->AP->Prop}{E:FX->AP->Prop}{L I:Addr}{ns:List Int}{its:List FX}
end
section
variable {X:Cx}
end
section
variable {X:Cx}{a b o i:Expr}{ma mb:ME}{td ty:TE}{pos:Pos}
end
section
variable {P:Dr}{w:Ci}{A:Dp}{E:FX->AP->Prop}{s:AP}
end
section
variable {X:Cx}
end
section
variable {X:Cx}{e e2 e3 e4:Expr}{es:List Expr}{mr:MA}{ma mb mc md:ME}{pos:Pos}{k:Nat}{zl:List Str}{x:Str}{p:Pos}
theorem aC (h1:DE X e ma)(h2:Li X es mr)(s:Io e=false:=by with_unfolding_all rfl):Li X (e::es) (aq ma mr):=ak h1 h2 (aj s)
theorem a1 (h1:DE X e ma)(s:Io e=false:=by with_unfolding_all rfl):Li X [e] (aq ma aM):=aC h1 au s
theorem a2 (h1:DE X e ma)(h2:DE X e2 mb)(s1:Io e=false:=by with_unfolding_all rfl)(s2:Io e2=false:=by with_unfolding_all rfl):Li X [e,e2] (aq ma (aq mb aM)):=aC h1 (a1 h2 s2) s1
theorem a3 (h1:DE X e ma)(h2:DE X e2 mb)(h3:DE X e3 mc)(s1:Io e=false:=by with_unfolding_all rfl)(s2:Io e2=false:=by with_unfolding_all rfl)(s3:Io e3=false:=by with_unfolding_all rfl):Li X [e,e2,e3] (aq ma (aq mb (aq mc aM))):=aC h1 (a2 h2 h3 s2 s3) s1
theorem dct {T:String}{mc:MC}(hc:qp X (.type T) mc)(hv:TJ x=Dn (.type T))(ha:Li X (e::es) mr)(z:∀ n∈zl,X.mg n=FN:=by with_unfolding_all assumption)(hz:x∈zl:=by decide)(hg:Gl X x:=by with_unfolding_all rfl)(hn:x ≠ "__name__":=by decide)(hdb:(x==("__debug__" : Str))=false:=by decide)
  (h1:Io e=false:=by with_unfolding_all rfl) (h2:noStar es=true:=by with_unfolding_all rfl):DE X (.Call (.Name x p) (e::es) [] pos) (JK mc mr):=gY hc hg (z _ hz) hv ha hn hdb (aj h1) (ao h2)
theorem hh (hc:X.calm=true:=by with_unfolding_all assumption):X.calm=true:=hc
end
section
variable {X:Cx}{e:Expr}{ma:ME}
end
section
variable {X:Cx}{o e1:Expr}{mo:ME}{ma:MA}{apos cpos:Pos}
end
section
variable {X:Cx}
end
section
variable {prog:Dr}{w:Ci}{A:Dp}{E:FX->AP->Prop}{s:AP}
end
section
variable {X:Cx}{K:BZ}
end
section
variable {X:Cx}{Γ : St->Prop}{c:Expr}{t:MT}
end
end L2
namespace My
open PySem L2 PyProof.Rows
def rZ:W:=(.tup [(.tup [(.int 1),(.int 0),(.int 0)]),(.tup [(.int 0),(.int 1),(.int 0)]),(.tup [(.int 0),(.int 0),(.int 1)]),(.tup [(.int 1),(.int 1),(.int 1)])])
def top (i:Nat):Stmt:=PySem.Challenge.pw_easelroom_k26_whole_of_one_floor.main.body.getD i (.Pass ⟨0,0,0,0⟩)
abbrev eU:Stmt:=top 8
theorem jN:aN ["one", "other", "rest"] ["one", "other"] (aJ eU):=⟨rfl,rfl,rfl,by decide +kernel,rfl,by decide +kernel,by decide +kernel⟩
abbrev qI:Stmt:=top 9
theorem yP:aN ["numbers", "found", "number"] ["numbers"] (aJ qI):=⟨rfl,rfl,rfl,by decide +kernel,rfl,by decide +kernel,by decide +kernel⟩
abbrev jr:Stmt:=top 10
theorem p8:aN ["numbers", "number"] ["numbers"] (aJ jr):=⟨rfl,rfl,rfl,by decide +kernel,rfl,by decide +kernel,by decide +kernel⟩
abbrev zN:Stmt:=top 11
theorem GD:aN ["numbers", "factor"] ["numbers"] (aJ zN):=⟨rfl,rfl,rfl,by decide +kernel,rfl,by decide +kernel,by decide +kernel⟩
abbrev Og:Stmt:=top 13
theorem Ss:aN ["one", "other"] ["one", "other"] (aJ Og):=⟨rfl,rfl,rfl,by decide +kernel,rfl,by decide +kernel,by decide +kernel⟩
abbrev Ab:Stmt:=top 14
theorem Fv:aN ["one", "other"] ["one", "other"] (aJ Ab):=⟨rfl,rfl,rfl,by decide +kernel,rfl,by decide +kernel,by decide +kernel⟩
abbrev Gd:Stmt:=top 15
theorem KN:aN ["one", "other", "third"] ["one", "other", "third"] (aJ Gd):=⟨rfl,rfl,rfl,by decide +kernel,rfl,by decide +kernel,by decide +kernel⟩
abbrev qC:Stmt:=top 16
theorem yM:aN ["spot", "line"] ["spot", "line"] (aJ qC):=⟨rfl,rfl,rfl,by decide +kernel,rfl,by decide +kernel,by decide +kernel⟩
abbrev kJ:Stmt:=top 17
theorem sX:aN ["rows", "unlike", "shared"] ["rows"] (aJ kJ):=⟨rfl,rfl,rfl,by decide +kernel,rfl,by decide +kernel,by decide +kernel⟩
abbrev pI:Stmt:=top 18
theorem yQ:aN ["spots"] ["spots"] (aJ pI):=⟨rfl,rfl,rfl,by decide +kernel,rfl,by decide +kernel,by decide +kernel⟩
abbrev iI:Stmt:=top 19
theorem oH:aN ["one", "other"] ["one", "other"] (aJ iI):=⟨rfl,rfl,rfl,by decide +kernel,rfl,by decide +kernel,by decide +kernel⟩
abbrev Ft:Stmt:=top 20
theorem JW:aN ["one", "other"] ["one", "other"] (aJ Ft):=⟨rfl,rfl,rfl,by decide +kernel,rfl,by decide +kernel,by decide +kernel⟩
abbrev uM:Stmt:=top 22
theorem Bo:aN ["many", "size", "found", "taken", "longer", "places", "first"] ["many", "size"] (aJ uM):=⟨rfl,rfl,rfl,by decide +kernel,rfl,by decide +kernel,by decide +kernel⟩
abbrev uN:Stmt:=top 23
theorem Bj:aN ["things", "places"] ["things", "places"] (aJ uN):=⟨rfl,rfl,rfl,by decide +kernel,rfl,by decide +kernel,by decide +kernel⟩
abbrev qR:Stmt:=top 26
theorem xW:aN ["table"] ["table"] (aJ qR):=⟨rfl,rfl,rfl,by decide +kernel,rfl,by decide +kernel,by decide +kernel⟩
abbrev dY:Stmt:=top 27
theorem jw:aN ["table", "row"] ["table", "row"] (aJ dY):=⟨rfl,rfl,rfl,by decide +kernel,rfl,by decide +kernel,by decide +kernel⟩
abbrev qO:Stmt:=top 28
theorem yc:aN ["table"] ["table"] (aJ qO):=⟨rfl,rfl,rfl,by decide +kernel,rfl,by decide +kernel,by decide +kernel⟩
abbrev cP:Stmt:=top 29
theorem gU:aN ["one", "other", "columns", "numbers", "row"] ["one", "other"] (aJ cP):=⟨rfl,rfl,rfl,by decide +kernel,rfl,by decide +kernel,by decide +kernel⟩
abbrev uH:Stmt:=top 30
theorem Di:aN ["table", "rows"] ["table"] (aJ uH):=⟨rfl,rfl,rfl,by decide +kernel,rfl,by decide +kernel,by decide +kernel⟩
abbrev Qy:Stmt:=top 31
theorem Ry:aN ["by", "spot"] ["by", "spot"] (aJ Qy):=⟨rfl,rfl,rfl,by decide +kernel,rfl,by decide +kernel,by decide +kernel⟩
abbrev Hf:Stmt:=top 32
theorem Ld:aN ["one", "other"] ["one", "other"] (aJ Hf):=⟨rfl,rfl,rfl,by decide +kernel,rfl,by decide +kernel,by decide +kernel⟩
abbrev Ga:Stmt:=top 33
theorem Jm:aN ["by"] ["by"] (aJ Ga):=⟨rfl,rfl,rfl,by decide +kernel,rfl,by decide +kernel,by decide +kernel⟩
abbrev Aa:Stmt:=top 34
theorem Hw:aN [] [] (aJ Aa):=⟨rfl,rfl,rfl,by decide +kernel,rfl,by decide +kernel,by decide +kernel⟩
abbrev nQ:Stmt:=top 35
theorem uW:aN ["four", "turns"] ["four"] (aJ nQ):=⟨rfl,rfl,rfl,by decide +kernel,rfl,by decide +kernel,by decide +kernel⟩
abbrev ju:Stmt:=top 36
theorem qK:aN ["four", "factors"] ["four"] (aJ ju):=⟨rfl,rfl,rfl,by decide +kernel,rfl,by decide +kernel,by decide +kernel⟩
abbrev iD:Stmt:=top 37
theorem oE:aN ["four", "others"] ["four", "others"] (aJ iD):=⟨rfl,rfl,rfl,by decide +kernel,rfl,by decide +kernel,by decide +kernel⟩
abbrev fC:Stmt:=top 39
theorem mq:aN ["picture"] ["picture"] (aJ fC):=⟨rfl,rfl,rfl,by decide +kernel,rfl,by decide +kernel,by decide +kernel⟩
abbrev jx:Stmt:=top 40
theorem qY:aN ["picture", "places"] ["picture"] (aJ jx):=⟨rfl,rfl,rfl,by decide +kernel,rfl,by decide +kernel,by decide +kernel⟩
abbrev gw:Stmt:=top 41
theorem mO:aN ["picture", "found", "spot"] ["picture"] (aJ gw):=⟨rfl,rfl,rfl,by decide +kernel,rfl,by decide +kernel,by decide +kernel⟩
abbrev fj:Stmt:=top 42
theorem lM:aN ["unlike", "places", "three"] ["unlike"] (aJ fj):=⟨rfl,rfl,rfl,by decide +kernel,rfl,by decide +kernel,by decide +kernel⟩
abbrev qZ:Stmt:=top 43
theorem yh:aN ["picture"] ["picture"] (aJ qZ):=⟨rfl,rfl,rfl,by decide +kernel,rfl,by decide +kernel,by decide +kernel⟩
abbrev zY:Stmt:=top 44
theorem GQ:aN [] [] (aJ zY):=⟨rfl,rfl,rfl,by decide +kernel,rfl,by decide +kernel,by decide +kernel⟩
abbrev gq:Stmt:=top 45
theorem mU:aN ["spots"] ["spots"] (aJ gq):=⟨rfl,rfl,rfl,by decide +kernel,rfl,by decide +kernel,by decide +kernel⟩
abbrev dZ:Stmt:=top 46
theorem jh:aN ["unlike", "line", "on", "off"] ["unlike", "line"] (aJ dZ):=⟨rfl,rfl,rfl,by decide +kernel,rfl,by decide +kernel,by decide +kernel⟩
abbrev lK:Stmt:=top 47
theorem tL:aN ["unlike", "three", "unit"] ["unlike"] (aJ lK):=⟨rfl,rfl,rfl,by decide +kernel,rfl,by decide +kernel,by decide +kernel⟩
abbrev eG:Stmt:=top 48
theorem jK:aN ["unlike", "three"] ["unlike"] (aJ eG):=⟨rfl,rfl,rfl,by decide +kernel,rfl,by decide +kernel,by decide +kernel⟩
abbrev pU:Stmt:=top 49
theorem yN:aN ["picture", "places", "unlike", "line"] ["picture"] (aJ pU):=⟨rfl,rfl,rfl,by decide +kernel,rfl,by decide +kernel,by decide +kernel⟩
abbrev iH:Stmt:=top 50
theorem n8:aN ["by", "picture"] ["by", "picture"] (aJ iH):=⟨rfl,rfl,rfl,by decide +kernel,rfl,by decide +kernel,by decide +kernel⟩
abbrev Fw:Stmt:=top 51
theorem Jy:aN ["picture"] ["picture"] (aJ Fw):=⟨rfl,rfl,rfl,by decide +kernel,rfl,by decide +kernel,by decide +kernel⟩
abbrev lq:Stmt:=top 53
theorem sO:aN ["spots", "unlike", "line"] ["spots"] (aJ lq):=⟨rfl,rfl,rfl,by decide +kernel,rfl,by decide +kernel,by decide +kernel⟩
abbrev pZ:Stmt:=top 54
theorem yL:aN ["one", "other", "place", "first", "second"] ["one", "other", "place"] (aJ pZ):=⟨rfl,rfl,rfl,by decide +kernel,rfl,by decide +kernel,by decide +kernel⟩
abbrev dX:Stmt:=top 55
theorem jq:aN ["four"] ["four"] (aJ dX):=⟨rfl,rfl,rfl,by decide +kernel,rfl,by decide +kernel,by decide +kernel⟩
abbrev fJ:Stmt:=top 56
theorem lO:aN ["four", "place"] ["four"] (aJ fJ):=⟨rfl,rfl,rfl,by decide +kernel,rfl,by decide +kernel,by decide +kernel⟩
abbrev iB:Stmt:=top 59
theorem n6:aN ["one", "other"] ["one", "other"] (aJ iB):=⟨rfl,rfl,rfl,by decide +kernel,rfl,by decide +kernel,by decide +kernel⟩
abbrev fu:Stmt:=top 60
theorem lR:aN ["one", "other"] ["one", "other"] (aJ fu):=⟨rfl,rfl,rfl,by decide +kernel,rfl,by decide +kernel,by decide +kernel⟩
abbrev fH:Stmt:=top 61
theorem lU:aN ["one", "other", "mine", "its"] ["one", "other"] (aJ fH):=⟨rfl,rfl,rfl,by decide +kernel,rfl,by decide +kernel,by decide +kernel⟩
abbrev gk:Stmt:=top 58
theorem nH:aN ["one", "other", "size", "differs", "places"] ["one", "other", "size", "differs"] (aJ gk):=⟨rfl,rfl,rfl,by decide +kernel,rfl,by decide +kernel,by decide +kernel⟩
abbrev iG:Stmt:=top 62
theorem oG:aN ["one", "other", "places", "by", "other_by", "place"] ["one", "other"] (aJ iG):=⟨rfl,rfl,rfl,by decide +kernel,rfl,by decide +kernel,by decide +kernel⟩
abbrev dh:Stmt:=top 63
theorem je:aN ["one", "other", "word", "size", "differs", "places"] ["one", "other"] (aJ dh):=⟨rfl,rfl,rfl,by decide +kernel,rfl,by decide +kernel,by decide +kernel⟩
abbrev yX:Stmt:=top 64
theorem Fq:aN ["one", "other"] ["one", "other"] (aJ yX):=⟨rfl,rfl,rfl,by decide +kernel,rfl,by decide +kernel,by decide +kernel⟩
abbrev uI:Stmt:=top 65
theorem Aw:aN ["one", "other", "found"] ["one", "other"] (aJ uI):=⟨rfl,rfl,rfl,by decide +kernel,rfl,by decide +kernel,by decide +kernel⟩
abbrev kW:Stmt:=top 67
theorem tO:aN ["_law_script", "_law_k"] ["_law_script", "_law_k"] (aJ kW):=⟨rfl,rfl,rfl,by decide +kernel,rfl,by decide +kernel,by decide +kernel⟩
abbrev ur:Stmt:=top 68
theorem BK:aN ["_law_script", "_law_k", "_law_cell", "_law_one", "_law_big", "_law_j"] ["_law_script", "_law_k"] (aJ ur):=⟨rfl,rfl,rfl,by decide +kernel,rfl,by decide +kernel,by decide +kernel⟩
abbrev p7:Stmt:=top 69
theorem yg:aN ["_law_rest_here", "_law_many", "_law_digit_here"] ["_law_rest_here", "_law_many"] (aJ p7):=⟨rfl,rfl,rfl,by decide +kernel,rfl,by decide +kernel,by decide +kernel⟩
abbrev nO:Stmt:=top 70
theorem u6:aN ["_law_rest_here", "_law_far", "_law_way"] ["_law_rest_here", "_law_far"] (aJ nO):=⟨rfl,rfl,rfl,by decide +kernel,rfl,by decide +kernel,by decide +kernel⟩
abbrev lF:Stmt:=top 72
theorem sW:aN ["_law_numbers", "_law_found", "_law_number_here", "_law_one", "_law_other"] ["_law_numbers"] (aJ lF):=⟨rfl,rfl,rfl,by decide +kernel,rfl,by decide +kernel,by decide +kernel⟩
abbrev qm:Stmt:=top 73
theorem yD:aN ["_law_numbers", "_law_by"] ["_law_numbers"] (aJ qm):=⟨rfl,rfl,rfl,by decide +kernel,rfl,by decide +kernel,by decide +kernel⟩
abbrev uE:Stmt:=top 74
theorem Aj:aN ["_law_rest_here", "_law_far", "_law_numbers"] ["_law_rest_here", "_law_far"] (aJ uE):=⟨rfl,rfl,rfl,by decide +kernel,rfl,by decide +kernel,by decide +kernel⟩
abbrev zM:Stmt:=top 76
theorem Gg:aN ["_law_one", "_law_other"] ["_law_one", "_law_other"] (aJ zM):=⟨rfl,rfl,rfl,by decide +kernel,rfl,by decide +kernel,by decide +kernel⟩
abbrev uL:Stmt:=top 77
theorem Dc:aN ["_law_numbers", "_law_a", "_law_b", "_law_c", "_law_d", "_law_e", "_law_f", "_law_g", "_law_h", "_law_i", "_law_whole_here"] ["_law_numbers"] (aJ uL):=⟨rfl,rfl,rfl,by decide +kernel,rfl,by decide +kernel,by decide +kernel⟩
abbrev zT:Stmt:=top 78
theorem G8:aN ["_law_rest_here", "_law_far", "_law_numbers"] ["_law_rest_here", "_law_far"] (aJ zT):=⟨rfl,rfl,rfl,by decide +kernel,rfl,by decide +kernel,by decide +kernel⟩
abbrev z6:Stmt:=top 79
theorem G5:aN ["_law_by", "_law_spot_here"] ["_law_by", "_law_spot_here"] (aJ z6):=⟨rfl,rfl,rfl,by decide +kernel,rfl,by decide +kernel,by decide +kernel⟩
abbrev qg:Stmt:=top 80
theorem yE:aN ["_law_one", "_law_other", "_law_rest_here", "_law_left", "_law_right", "_law_numbers"] ["_law_one", "_law_other", "_law_rest_here"] (aJ qg):=⟨rfl,rfl,rfl,by decide +kernel,rfl,by decide +kernel,by decide +kernel⟩
abbrev uO:Stmt:=top 81
theorem Bv:aN ["_law_spots", "_law_style", "_law_rest_here", "_law_way", "_law_one", "_law_other"] ["_law_spots", "_law_style", "_law_rest_here"] (aJ uO):=⟨rfl,rfl,rfl,by decide +kernel,rfl,by decide +kernel,by decide +kernel⟩
abbrev lg:Stmt:=top 82
theorem tM:aN ["_law_rest_here", "_law_most", "_law_many", "_law_style", "_law_spots", "_law_k"] ["_law_rest_here", "_law_most"] (aJ lg):=⟨rfl,rfl,rfl,by decide +kernel,rfl,by decide +kernel,by decide +kernel⟩
abbrev qG:Stmt:=top 83
theorem yt:aN ["_law_by", "_law_one", "_law_other"] ["_law_by", "_law_one", "_law_other"] (aJ qG):=⟨rfl,rfl,rfl,by decide +kernel,rfl,by decide +kernel,by decide +kernel⟩
abbrev PB:Stmt:=top 84
theorem RM:aN ["_law_script", "_law_one", "_law_by", "_law_other", "_law_third", "_law_due", "_law_first", "_law_second", "_law_both"] ["_law_script"] (aJ PB):=⟨rfl,rfl,rfl,by decide +kernel,rfl,by decide +kernel,by decide +kernel⟩
def pF (E:Bq):MS:=
  (bV (aB 0))
def lZ:Mk:=Ey 2 3 false fun E=>
  (bG (bW (JK QL (aq (aB 0) aM)) (JI 0))
  (bG (bW (JK QL (aq (aB 1) aM)) (JI 1))
  (bG (FQ (bJ (kI KC (aB 1) (mC (.int 0)))) (bG (bW (kI uF (aB 0) (aB 1)) (JI 2))
  (bG (bW (aB 1) (JI 0))
  (bW (aB 2) (JI 1)))))
  (pF E))))
def eN:Mk:=lZ
def vC (c_divisor_of_two:Mk)(E:Bq):MS:=
  (bV (aB 1))
def Bt (c_divisor_of_two:Mk):Mk:=Ey 1 3 false fun E=>
  (bG (bW (mC (.int 0)) (JI 1))
  (bG (uD (Iw (aB 0)) (JI 2) (bW (aL c_divisor_of_two E (aq (aB 2) (aq (aB 1) aM))) (JI 1)))
  (vC c_divisor_of_two E)))
def qL:Mk:=Bt eN
def oA (E:Bq):MS:=
  (bV (mC (.bl false)))
def sY:Mk:=Ey 1 2 false fun E=>
  (bG (uD (XJ (aq (aB 0) aM)) (JI 1) (jF (bJ (kI KC (aB 1) (mC (.int 0)))) (bV (kI kLt (aB 1) (mC (.int 0)))) cH))
  (oA E))
def jm:Mk:=sY
def Cv (c_divisor c_ends_below:Mk)(E:Bq):MS:=
  (bV (JK Ca (aq (Ih JG [1] (Iw (aB 0)) j6 (kI Dl (aB 0) (aB 1))) aM)))
def zaP (c_divisor c_ends_below:Mk)(E:Bq):MS:=
  (bG (jF (Bg (aL c_ends_below E (aq (aB 0) aM))) (bW (mUn aaR (aB 1)) (JI 1)) cH)
  (Cv c_divisor c_ends_below E))
def JN (c_divisor c_ends_below:Mk):Mk:=Ey 1 2 false fun E=>
  (bG (bW (aL c_divisor E (aq (aB 0) aM)) (JI 1))
  (bG (jF (bJ (kI Ke (aB 1) (mC (.int 0)))) (wk "Nothing" E) cH)
  (zaP c_divisor c_ends_below E)))
def eX:Mk:=JN qL jm
def Vk:Mk:=Ey 2 2 false fun E=>
  (bV (kI cJ (kI cJ (kI eZ (kI CG (aB 0) (mC (.int 0))) (kI CG (aB 1) (mC (.int 0)))) (kI eZ (kI CG (aB 0) (mC (.int 1))) (kI CG (aB 1) (mC (.int 1))))) (kI eZ (kI CG (aB 0) (mC (.int 2))) (kI CG (aB 1) (mC (.int 2))))))
def tZ:Mk:=Vk
def Ej:Mk:=Ey 2 2 false fun E=>
  (bV (wZ (aq (kI wI (kI eZ (kI CG (aB 0) (mC (.int 1))) (kI CG (aB 1) (mC (.int 2)))) (kI eZ (kI CG (aB 0) (mC (.int 2))) (kI CG (aB 1) (mC (.int 1))))) (aq (kI wI (kI eZ (kI CG (aB 0) (mC (.int 2))) (kI CG (aB 1) (mC (.int 0)))) (kI eZ (kI CG (aB 0) (mC (.int 0))) (kI CG (aB 1) (mC (.int 2))))) (aq (kI wI (kI eZ (kI CG (aB 0) (mC (.int 0))) (kI CG (aB 1) (mC (.int 1)))) (kI eZ (kI CG (aB 0) (mC (.int 1))) (kI CG (aB 1) (mC (.int 0))))) aM)))))
def fM:Mk:=Ej
def Q0 (c_dot c_cross:Mk):Mk:=Ey 3 3 false fun E=>
  (bV (aL c_dot E (aq (aL c_cross E (aq (aB 0) (aq (aB 1) aM))) (aq (aB 2) aM))))
def vV:Mk:=Q0 tZ fM
def Dq (c_dot:Mk):Mk:=Ey 2 2 false fun E=>
  (bV (kI Ke (aL c_dot E (aq (aB 0) (aq (aB 1) aM))) (mC (.int 0))))
def mL:Mk:=Dq tZ
def z8 (c_dot c_cross:Mk)(E:Bq):MS:=
  (bG (bW (aL c_cross E (aq (kI CG (aB 0) (mC (.int 0))) (aq (kI CG (aB 1) (mC (.int 0))) aM))) (JI 2))
  (bV (JK Xk (aq (Ih JG [2] (Iw (aB 1)) j6 (kI Ke (aL c_dot E (aq (aB 1) (aq (aB 0) aM))) (mC (.int 0)))) aM))))
def wJ (c_dot c_cross:Mk):Mk:=Ey 1 3 false fun E=>
  (bG (bW (Ih JG [0] (Iw (aB 0)) (bJ (kI KC (aB 0) (kI CG (aB 1) (mC (.int 0))))) (aB 0)) (JI 1))
  (bG (jF (K8 (Bg (aB 1))) (bV (mC (.bl true))) cH)
  (z8 c_dot c_cross E)))
def jW:Mk:=wJ tZ fM
def Ax (c_share_one:Mk):Mk:=Ey 1 1 false fun E=>
  (bV (aL c_share_one E (aq (aB 0) aM)))
def cU:Mk:=Ax jW
def wC (c_plain c_cross:Mk)(E:Bq):MS:=
  (bV (aL c_plain E (aq (aL c_cross E (aq (aB 0) (aq (aB 1) aM))) aM)))
def pP (c_plain c_cross:Mk):Mk:=Ey 2 2 false fun E=>
  (bG (jF (bJ (kI Ke (aB 0) (aB 1))) (wk "Alike" E) cH)
  (wC c_plain c_cross E))
def g8:Mk:=pP eX fM
def RP (c_plain_cross:Mk):Mk:=Ey 2 2 false fun E=>
  (bV (aL c_plain_cross E (aq (aB 0) (aq (aB 1) aM))))
def CZ:Mk:=RP g8
def xU (E:Bq):MS:=
  (bV (aB 2))
def yV:Mk:=Ey 2 7 true fun E=>
  (bG (bW (Ds (aq (wZ aM) aM)) (JI 2))
  (bG (uD (jg (aq (aB 1) aM)) (JI 3) (bG (bW (wX aM) (JI 4))
  (bG (uD (Iw (aB 2)) (JI 5) (bG (bW (mIf (bJ (kI Pa (aB 3) (mC (.int 0)))) (kI cJ (kI CG (aB 5) (kI wI (aB 3) (mC (.int 1)))) (mC (.int 1))) (mC (.int 0))) (JI 6))
  (rJ (K3 j5 (aB 4) (aq (Ih JG [5] (Jv (aq (aB 6) (aq (aB 0) aM))) j6 (kI cJ (aB 1) (wZ (aq (aB 0) aM)))) aM)))))
  (bW (aB 4) (JI 2)))))
  (xU E)))
def iC:Mk:=yV
def zc:Mk:=Ey 2 2 false fun E=>
  (bV (Ih JG [0] (Iw (aB 1)) j6 (kI CG (aB 1) (aB 0))))
def cN:Mk:=zc
def Cz:Mk:=Ey 1 1 false fun E=>
  (bV (Ds (aq (PX NK (aB 0) (jD (mC (.int 0))) (jD (mC (.int 3)))) (aq (PX NK (aB 0) (jD (mC (.int 3))) (jD (mC (.int 6)))) (aq (PX NK (aB 0) (jD (mC (.int 6))) (jD (mC (.int 9)))) aM)))))
def eF:Mk:=Cz
def jH (c_dot c_rows_of:Mk):Mk:=Ey 2 2 false fun E=>
  (bV (Ih JG [1] (Iw (aL c_rows_of E (aq (aB 0) aM))) j6 (aL c_dot E (aq (aB 0) (aq (aB 1) aM)))))
def bL:Mk:=jH tZ eF
def BX:Mk:=Ey 1 1 false fun E=>
  (bV (Ih JG [0] (jg (aq (mC (.int 9)) aM)) j6 (kI CG (aB 1) (kI cJ (kI eZ (mC (.int 3)) (kI uF (aB 0) (mC (.int 3)))) (kI Dl (aB 0) (mC (.int 3)))))))
def jM:Mk:=BX
def mX (c_dot c_rows_of c_flipped:Mk)(E:Bq):MS:=
  (bV (aB 3))
def iV (c_dot c_rows_of c_flipped:Mk):Mk:=Ey 2 5 true fun E=>
  (bG (bW (aL c_rows_of E (aq (aL c_flipped E (aq (aB 1) aM)) aM)) (JI 2))
  (bG (bW (wX aM) (JI 3))
  (bG (uD (Iw (aL c_rows_of E (aq (aB 0) aM))) (JI 4) (rJ (K3 j5 (aB 3) (aq (Ih JG [4] (Iw (aB 2)) j6 (aL c_dot E (aq (aB 1) (aq (aB 0) aM)))) aM))))
  (mX c_dot c_rows_of c_flipped E))))
def cg:Mk:=iV tZ eF jM
def HD (c_cross c_rows_of:Mk):Mk:=Ey 1 2 false fun E=>
  (bG (bW (aL c_rows_of E (aq (aB 0) aM)) (JI 1))
  (bV (kI cJ (kI cJ (aL c_cross E (aq (kI CG (aB 1) (mC (.int 1))) (aq (kI CG (aB 1) (mC (.int 2))) aM))) (aL c_cross E (aq (kI CG (aB 1) (mC (.int 2))) (aq (kI CG (aB 1) (mC (.int 0))) aM)))) (aL c_cross E (aq (kI CG (aB 1) (mC (.int 0))) (aq (kI CG (aB 1) (mC (.int 1))) aM))))))
def lu:Mk:=HD fM eF
def S7 (c_plain c_table_times_row:Mk):Mk:=Ey 2 2 false fun E=>
  (bV (aL c_plain E (aq (aL c_table_times_row E (aq (aB 0) (aq (aB 1) aM))) aM)))
def xG:Mk:=S7 eX bL
def Ni (c_plain c_table_times_table:Mk):Mk:=Ey 2 2 false fun E=>
  (bV (aL c_plain E (aq (aL c_table_times_table E (aq (aB 1) (aq (aB 0) aM))) aM)))
def q9:Mk:=Ni eX cg
def RB (c_plain c_flipped c_turned:Mk):Mk:=Ey 1 1 false fun E=>
  (bV (aL c_plain E (aq (aL c_flipped E (aq (aL c_turned E (aq (aB 0) aM)) aM)) aM)))
def vW:Mk:=RB eX jM lu
def Fj:Mk:=Ey 0 0 false fun E=>
  (bV (JK CN (aq (mC rZ) aM)))
def fB:Mk:=Fj
def xT (c_turn:Mk):Mk:=Ey 1 2 false fun E=>
  (bG (bW (Ds (aq (aL c_turn E (aq (kI CG (aB 0) (mC (.int 0))) (aq (kI CG (aB 0) (mC (.int 1))) (aq (kI CG (aB 0) (mC (.int 2))) aM)))) (aq (aL c_turn E (aq (kI CG (aB 0) (mC (.int 0))) (aq (kI CG (aB 0) (mC (.int 1))) (aq (kI CG (aB 0) (mC (.int 3))) aM)))) (aq (aL c_turn E (aq (kI CG (aB 0) (mC (.int 0))) (aq (kI CG (aB 0) (mC (.int 2))) (aq (kI CG (aB 0) (mC (.int 3))) aM)))) (aq (aL c_turn E (aq (kI CG (aB 0) (mC (.int 1))) (aq (kI CG (aB 0) (mC (.int 2))) (aq (kI CG (aB 0) (mC (.int 3))) aM)))) aM))))) (JI 1))
  (bV (kI ab1 (mC (.int 0)) (aB 1))))
def eY:Mk:=xT vV
def sU (c_plain c_table_times_row c_turned:Mk):Mk:=Ey 1 2 false fun E=>
  (bG (bW (aL c_table_times_row E (aq (aL c_turned E (aq (kI cJ (kI cJ (kI CG (aB 0) (mC (.int 0))) (kI CG (aB 0) (mC (.int 1)))) (kI CG (aB 0) (mC (.int 2)))) aM)) (aq (kI CG (aB 0) (mC (.int 3))) aM))) (JI 1))
  (bV (aL c_plain E (aq (Ih JG [0,1] (jg (aq (mC (.int 9)) aM)) j6 (kI eZ (kI CG (aB 2) (kI uF (aB 0) (mC (.int 3)))) (kI CG (kI CG (aB 1) (kI uF (aB 0) (mC (.int 3)))) (kI Dl (aB 0) (mC (.int 3)))))) aM))))
def gK:Mk:=sU eX bL lu
def nj (c_then c_back c_are_free c_from_tiles:Mk)(E:Bq):MS:=
  (bV (aL c_then E (aq (aL c_back E (aq (aL c_from_tiles E (aq (aB 0) aM)) aM)) (aq (aL c_from_tiles E (aq (aB 1) aM)) aM))))
def lD (c_then c_back c_are_free c_from_tiles:Mk):Mk:=Ey 2 2 false fun E=>
  (bG (jF (Pz (K8 (Bg (aL c_are_free E (aq (aB 0) aM)))) (K8 (Bg (aL c_are_free E (aq (aB 1) aM))))) (wk "NotFree" E) cH)
  (nj c_then c_back c_are_free c_from_tiles E))
def bC:Mk:=lD q9 vW eY gK
def jc:Mk:=Ey 1 1 false fun E=>
  (jF (Pz (bJ (kI kLt (JK JM (aq (aB 0) aM)) (mC (.int 1)))) (bJ (kI Pa (JK JM (aq (aB 0) aM)) (mC (.int 12))))) (wk "NoPicture" E) cH)
def bI:Mk:=jc
def oF (c_rising c_picked c_are_free:Mk)(E:Bq):MS:=
  (bV (mC .non))
def nA (c_rising c_picked c_are_free:Mk):Mk:=Ey 1 2 false fun E=>
  (bG (uD (Iw (aL c_rising E (aq (JK JM (aq (aB 0) aM)) (aq (mC (.int 4)) aM)))) (JI 1) (jF (Bg (aL c_are_free E (aq (aL c_picked E (aq (aB 0) (aq (aB 1) aM))) aM))) (bV (aB 1)) cH))
  (oF c_rising c_picked c_are_free E))
def cB:Mk:=nA iC cN eY
def lX (E:Bq):MS:=
  (bV (aB 1))
def jy:Mk:=Ey 1 3 true fun E=>
  (bG (bW (wX aM) (JI 1))
  (bG (uD (Iw (aB 0)) (JI 2) (jF (bJ (kI Qo (aB 2) (aB 1))) (rJ (K3 jB (aB 1) (aq (aB 2) aM))) cH))
  (lX E)))
def cW:Mk:=jy
def fV (c_on_line c_join c_rising c_picked:Mk)(E:Bq):MS:=
  (bV (mC .non))
def dF (c_on_line c_join c_rising c_picked:Mk):Mk:=Ey 1 3 false fun E=>
  (bG (uD (Iw (aL c_rising E (aq (JK JM (aq (aB 0) aM)) (aq (mC (.int 3)) aM)))) (JI 1) (bG (bW (aL c_picked E (aq (aB 0) (aq (aB 1) aM))) (JI 2))
  (jF (Bg (aL c_on_line E (aq (aB 2) aM))) (bV (aL c_join E (aq (kI CG (aB 2) (mC (.int 0))) (aq (kI CG (aB 2) (mC (.int 1))) aM)))) cH)))
  (fV c_on_line c_join c_rising c_picked E))
def cF:Mk:=dF cU CZ iC cN
def uV (c_check_picture c_first_free c_unlike_spots c_line_of_three:Mk)(E:Bq):MS:=
  (bV (mC (.str "few")))
def vN (c_check_picture c_first_free c_unlike_spots c_line_of_three:Mk)(E:Bq):MS:=
  (bG (jF (bJ (kI rR (aL c_line_of_three E (aq (aL c_unlike_spots E (aq (aB 0) aM)) aM)) (mC .non))) (bV (mC (.str "line"))) cH)
  (uV c_check_picture c_first_free c_unlike_spots c_line_of_three E))
def wF (c_check_picture c_first_free c_unlike_spots c_line_of_three:Mk):Mk:=Ey 1 1 false fun E=>
  (bG (rJ (aL c_check_picture E (aq (aB 0) aM)))
  (bG (jF (bJ (kI rR (aL c_first_free E (aq (aB 0) aM)) (mC .non))) (bV (mC (.str "four"))) cH)
  (vN c_check_picture c_first_free c_unlike_spots c_line_of_three E)))
def qN:Mk:=wF bI cB cW cF
def DP (c_tiles:Mk):Mk:=Ey 0 0 false fun E=>
  (bV (PX NK (aL c_tiles E aM) Jl (jD (mC (.int 3)))))
def pD:Mk:=DP fB
def eE (c_plain:Mk):Mk:=Ey 1 1 false fun E=>
  (bV (aL c_plain E (aq (Ih JG [0] (jg (aq (mC (.int 3)) aM)) j6 (JK WD (aq (Ih JG [0] (Iw (aB 1)) j6 (kI CG (aB 0) (aB 1))) aM))) aM)))
def cD:Mk:=eE eX
def fW (c_lies_on c_tiles c_map_between c_units c_spot_between:Mk):Mk:=Ey 2 4 false fun E=>
  (bG (bW (Ih JG [1] (Iw (aB 0)) (Bg (aL c_lies_on E (aq (aB 0) (aq (aB 1) aM)))) (aB 0)) (JI 2))
  (bG (bW (Ih JG [1] (Iw (kI cJ (aB 0) (aL c_units E aM))) (K8 (Bg (aL c_lies_on E (aq (aB 0) (aq (aB 1) aM))))) (aB 0)) (JI 3))
  (bV (aL c_map_between E (aq (Ds (aq (kI CG (aB 2) (mC (.int 0))) (aq (kI CG (aB 2) (mC (.int 1))) (aq (kI CG (aB 3) (mC (.int 0))) (aq (aL c_spot_between E (aq (Ds (aq (kI CG (aB 3) (mC (.int 0))) (aq (kI CG (aB 2) (mC (.int 2))) aM))) aM)) aM))))) (aq (aL c_tiles E aM) aM))))))
def dR:Mk:=fW mL fB bC pD cD
def rm (c_on_line c_units:Mk)(E:Bq):MS:=
  (bV (aB 1))
def o8 (c_on_line c_units:Mk):Mk:=Ey 1 3 true fun E=>
  (bG (bW (JK G9 (aq (aB 0) aM)) (JI 1))
  (bG (uD (Iw (aL c_units E aM)) (JI 2) (jF (RN (bJ (kI Ke (JK JM (aq (aB 1) aM)) (mC (.int 1)))) (bJ (kI KC (aB 2) (kI CG (aB 1) (mC (.int 0)))))) (rJ (K3 jB (aB 1) (aq (aB 2) aM))) (jF (RN (bJ (kI Ke (JK JM (aq (aB 1) aM)) (mC (.int 2)))) (K8 (Bg (aL c_on_line E (aq (kI cJ (aB 1) (Ds (aq (aB 2) aM))) aM))))) (rJ (K3 jB (aB 1) (aq (aB 2) aM))) cH)))
  (rm c_on_line c_units E)))
def j9:Mk:=o8 cU pD
def gR (c_tiles c_map_between c_spot_between c_filled_up:Mk):Mk:=Ey 1 2 false fun E=>
  (bG (bW (aL c_filled_up E (aq (aB 0) aM)) (JI 1))
  (bV (aL c_map_between E (aq (kI cJ (aB 1) (Ds (aq (aL c_spot_between E (aq (aB 1) aM)) aM))) (aq (aL c_tiles E aM) aM)))))
def eO:Mk:=gR fB bC cD j9
def wD (c_picked c_tiles c_map_between c_check_picture c_first_free c_unlike_spots c_line_of_three c_leading_of_line c_leading_of_few:Mk)(E:Bq):MS:=
  (bV (aL c_leading_of_few E (aq (aB 2) aM)))
def vR (c_picked c_tiles c_map_between c_check_picture c_first_free c_unlike_spots c_line_of_three c_leading_of_line c_leading_of_few:Mk)(E:Bq):MS:=
  (bG (bW (aL c_unlike_spots E (aq (aB 0) aM)) (JI 2))
  (bG (bW (aL c_line_of_three E (aq (aB 2) aM)) (JI 3))
  (bG (jF (bJ (kI rR (aB 3) (mC .non))) (bV (aL c_leading_of_line E (aq (aB 2) (aq (aB 3) aM)))) cH)
  (wD c_picked c_tiles c_map_between c_check_picture c_first_free c_unlike_spots c_line_of_three c_leading_of_line c_leading_of_few E))))
def uP (c_picked c_tiles c_map_between c_check_picture c_first_free c_unlike_spots c_line_of_three c_leading_of_line c_leading_of_few:Mk):Mk:=Ey 1 4 false fun E=>
  (bG (rJ (aL c_check_picture E (aq (aB 0) aM)))
  (bG (bW (aL c_first_free E (aq (aB 0) aM)) (JI 1))
  (bG (jF (bJ (kI rR (aB 1) (mC .non))) (bV (aL c_map_between E (aq (aL c_picked E (aq (aB 0) (aq (aB 1) aM))) (aq (aL c_tiles E aM) aM)))) cH)
  (vR c_picked c_tiles c_map_between c_check_picture c_first_free c_unlike_spots c_line_of_three c_leading_of_line c_leading_of_few E))))
def gD:Mk:=uP cN fB bC bI cB cW cF dR eO
def jX (c_led:Mk):Mk:=Ey 2 2 false fun E=>
  (bV (Ih JG [0] (Iw (aB 1)) j6 (aL c_led E (aq (aB 1) (aq (aB 0) aM)))))
def iM:Mk:=jX xG
def Jo (c_kind_of c_leading c_led_picture:Mk):Mk:=Ey 1 1 false fun E=>
  (bV (wZ (aq (aL c_kind_of E (aq (aB 0) aM)) (aq (aL c_led_picture E (aq (aL c_leading E (aq (aB 0) aM)) (aq (aB 0) aM))) aM))))
def yC:Mk:=Jo qN gD iM
def oJ (c_cross:Mk):Mk:=Ey 1 3 false fun E=>
  (bG (bW (Ih JG [0] (Iw (aB 0)) (bJ (kI KC (aB 0) (kI CG (aB 1) (mC (.int 0))))) (aB 0)) (JI 1))
  (bG (bW (aL c_cross E (aq (kI CG (aB 0) (mC (.int 0))) (aq (kI CG (aB 1) (mC (.int 0))) aM))) (JI 2))
  (bV (kI CG (Ih JG [2] (jg (aq (mC (.int 3)) aM)) (bJ (kI KC (kI CG (aB 1) (aB 0)) (mC (.int 0)))) (aB 0)) (mC (.int 0))))))
def kE:Mk:=oJ fM
def v8:Mk:=Ey 3 5 false fun E=>
  (bG (bW (kI uF (kI cJ (aB 2) (mC (.int 1))) (mC (.int 3))) (JI 3))
  (bG (bW (kI uF (kI cJ (aB 2) (mC (.int 2))) (mC (.int 3))) (JI 4))
  (bV (kI wI (kI eZ (kI CG (aB 0) (aB 3)) (kI CG (aB 1) (aB 4))) (kI eZ (kI CG (aB 0) (aB 4)) (kI CG (aB 1) (aB 3)))))))
def iY:Mk:=v8
def fY:Mk:=Ey 1 1 false fun E=>
  (bV (kI Pa (JK U8 (aq (Ih JG [0] (Iw (aB 0)) j6 (abb BP (aB 1) (aq (aB 0) aM))) aM)) (mC (.int 2))))
def d7:Mk:=fY
def jf (c_place_off c_turn_at:Mk):Mk:=Ey 1 2 false fun E=>
  (bG (bW (aL c_place_off E (aq (aB 0) aM)) (JI 1))
  (bV (Ds (aq (kI eZ (aL c_turn_at E (aq (kI CG (aB 0) (mC (.int 0))) (aq (kI CG (aB 0) (mC (.int 2))) (aq (aB 1) aM)))) (aL c_turn_at E (aq (kI CG (aB 0) (mC (.int 1))) (aq (kI CG (aB 0) (mC (.int 3))) (aq (aB 1) aM))))) (aq (kI eZ (aL c_turn_at E (aq (kI CG (aB 0) (mC (.int 0))) (aq (kI CG (aB 0) (mC (.int 3))) (aq (aB 1) aM)))) (aL c_turn_at E (aq (kI CG (aB 0) (mC (.int 1))) (aq (kI CG (aB 0) (mC (.int 2))) (aq (aB 1) aM))))) aM)))))
def dD:Mk:=jf kE iY
def j7:Mk:=Ey 2 2 false fun E=>
  (bV (kI KC (kI Ke (kI CG (aB 0) (mC (.int 0))) (kI CG (aB 0) (mC (.int 1)))) (kI Ke (kI CG (aB 1) (mC (.int 0))) (kI CG (aB 1) (mC (.int 1))))))
def fD:Mk:=j7
def iR (c_on_line:Mk):Mk:=Ey 2 2 false fun E=>
  (bV (kI KC (aL c_on_line E (aq (aB 0) aM)) (aL c_on_line E (aq (aB 1) aM))))
def dH:Mk:=iR cU
def jP (c_on_line c_has_three_alike c_throw_numbers:Mk)(E:Bq):MS:=
  (bG (bW (aL c_throw_numbers E (aq (aB 0) aM)) (JI 2))
  (bG (bW (aL c_throw_numbers E (aq (aB 1) aM)) (JI 3))
  (bV (kI KC (kI eZ (kI CG (aB 2) (mC (.int 0))) (kI CG (aB 3) (mC (.int 1)))) (kI eZ (kI CG (aB 2) (mC (.int 1))) (kI CG (aB 3) (mC (.int 0))))))))
def jd (c_on_line c_has_three_alike c_throw_numbers:Mk):Mk:=Ey 2 4 false fun E=>
  (bG (jF (Pz (K8 (Bg (aL c_on_line E (aq (aB 0) aM)))) (Bg (aL c_has_three_alike E (aq (aB 0) aM)))) (bV (mC (.bl false))) cH)
  (jP c_on_line c_has_three_alike c_throw_numbers E))
def dJ:Mk:=jd cU d7 dD
def lQ (F_twos_differ F_threes_differ F_throws_differ:Addr)(c_rising c_picked c_twos_differ c_threes_differ c_throws_differ:Mk)(E:Bq):MS:=
  (bV (mC .non))
def fZ (F_twos_differ F_threes_differ F_throws_differ:Addr)(c_rising c_picked c_twos_differ c_threes_differ c_throws_differ:Mk):Mk:=Ey 4 5 false fun E=>
  (bG (uD (Iw (aL c_rising E (aq (JK JM (aq (aB 0) aM)) (aq (aB 2) aM)))) (JI 4) (jF (Bg (Bx [(F_twos_differ,c_twos_differ),(F_threes_differ,c_threes_differ),(F_throws_differ,c_throws_differ)] 3 (aq (aL c_picked E (aq (aB 0) (aq (aB 4) aM))) (aq (aL c_picked E (aq (aB 1) (aq (aB 4) aM))) aM)))) (bV (aB 4)) cH))
  (lQ F_twos_differ F_threes_differ F_throws_differ c_rising c_picked c_twos_differ c_threes_differ c_throws_differ E))
def cX (F_twos_differ F_threes_differ F_throws_differ:Addr):Mk:=fZ F_twos_differ F_threes_differ F_throws_differ iC cN fD dH dJ
def mV (c_picked c_led c_tiles c_map_between c_first_free:Mk)(E:Bq):MS:=
  (bV (mC .non))
def nF (c_picked c_led c_tiles c_map_between c_first_free:Mk)(E:Bq):MS:=
  (bG (bW (aL c_map_between E (aq (aL c_picked E (aq (aB 0) (aq (aB 2) aM))) (aq (aL c_tiles E aM) aM))) (JI 3))
  (bG (bW (aL c_map_between E (aq (aL c_picked E (aq (aB 1) (aq (aB 2) aM))) (aq (aL c_tiles E aM) aM))) (JI 4))
  (bG (uD (jg (aq (JK JM (aq (aB 0) aM)) aM)) (JI 5) (jF (bJ (kI KC (aL c_led E (aq (aB 3) (aq (kI CG (aB 0) (aB 5)) aM))) (aL c_led E (aq (aB 4) (aq (kI CG (aB 1) (aB 5)) aM))))) (bV (kI cJ (aB 2) (wZ (aq (aB 5) aM)))) cH))
  (mV c_picked c_led c_tiles c_map_between c_first_free E))))
def lJ (c_picked c_led c_tiles c_map_between c_first_free:Mk):Mk:=Ey 2 6 false fun E=>
  (bG (bW (aL c_first_free E (aq (aB 0) aM)) (JI 2))
  (bG (jF (bJ (kI kIs (aB 2) (mC .non))) (bV (mC .non)) cH)
  (nF c_picked c_led c_tiles c_map_between c_first_free E)))
def iJ:Mk:=lJ cN xG fB bC cB
def gW (F_twos_differ F_threes_differ F_throws_differ:Addr)(c_first_places c_fifth_apart:Mk)(E:Bq):MS:=
  (bG (bW (aL c_fifth_apart E (aq (aB 0) (aq (aB 1) aM))) (JI 5))
  (bV (mIf (bJ (kI kIs (aB 5) (mC .non))) (mC .non) (wZ (aq (mC (.str "five")) (aq (aB 5) aM))))))
def fP (F_twos_differ F_threes_differ F_throws_differ:Addr)(c_first_places c_fifth_apart:Mk):Mk:=Ey 2 6 false fun E=>
  (bG (uD (Iw (Ds (aq (wZ (aq (mC (.str "two")) (aq (mC (.int 2)) (aq (mC (.fnv F_twos_differ 0)) aM)))) (aq (wZ (aq (mC (.str "three")) (aq (mC (.int 3)) (aq (mC (.fnv F_threes_differ 1)) aM)))) (aq (wZ (aq (mC (.str "throw")) (aq (mC (.int 4)) (aq (mC (.fnv F_throws_differ 2)) aM)))) aM))))) (u5 3 (mG (JI 2) (mG (JI 3) (mG (JI 4) RQ)))) (bG (bW (aL c_first_places E (aq (aB 0) (aq (aB 1) (aq (aB 3) (aq (aB 4) aM))))) (JI 5))
  (jF (bJ (kI rR (aB 5) (mC .non))) (bV (wZ (aq (aB 2) (aq (aB 5) aM)))) cH)))
  (gW F_twos_differ F_threes_differ F_throws_differ c_first_places c_fifth_apart E))
def cZ (F_twos_differ F_threes_differ F_throws_differ:Addr):Mk:=fP F_twos_differ F_threes_differ F_throws_differ (cX F_twos_differ F_threes_differ F_throws_differ) iJ
def Cg (c_check_picture c_apart_of_as_many:Mk)(E:Bq):MS:=
  (bV (aL c_apart_of_as_many E (aq (aB 0) (aq (aB 1) aM))))
def Eu (c_check_picture c_apart_of_as_many:Mk):Mk:=Ey 2 2 false fun E=>
  (bG (rJ (aL c_check_picture E (aq (aB 0) aM)))
  (bG (rJ (aL c_check_picture E (aq (aB 1) aM)))
  (bG (jF (bJ (kI KC (JK JM (aq (aB 0) aM)) (JK JM (aq (aB 1) aM)))) (bV (wZ (aq (mC (.str "many")) (aq (wZ aM) aM)))) cH)
  (Cg c_check_picture c_apart_of_as_many E))))
def mR (F_twos_differ F_threes_differ F_throws_differ:Addr):Mk:=Eu bI (cZ F_twos_differ F_threes_differ F_throws_differ)
def yI (c_then c_back c_leading c_apart:Mk)(E:Bq):MS:=
  (bV (aL c_then E (aq (aL c_leading E (aq (aB 0) aM)) (aq (aL c_back E (aq (aL c_leading E (aq (aB 1) aM)) aM)) aM))))
def zm (c_then c_back c_leading c_apart:Mk):Mk:=Ey 2 3 false fun E=>
  (bG (bW (aL c_apart E (aq (aB 0) (aq (aB 1) aM))) (JI 2))
  (bG (jF (bJ (kI rR (aB 2) (mC .non))) (wk "Apart" E) cH)
  (yI c_then c_back c_leading c_apart E)))
def jT (F_twos_differ F_threes_differ F_throws_differ:Addr):Mk:=zm q9 vW gD (mR F_twos_differ F_threes_differ F_throws_differ)
def zJ (E:Bq):MS:=
  (bV (mC (.int 0)))
def vh:Mk:=Ey 2 2 false fun E=>
  (bG (jF (bJ (kI kLt (aB 1) (JK JM (aq (aB 0) aM)))) (bV (kI CG (aB 0) (aB 1))) cH)
  (zJ E))
def j4:Mk:=vh
def aeY (c_l_cell_at:Mk)(E:Bq):MS:=
  (bV (wX (aq (kI Dl (aB 2) (mC (.int 2))) (aq (aB 4) aM))))
def aeG (c_l_cell_at:Mk)(E:Bq):MS:=
  (bG (jF (bJ (kI Ke (kI uF (aB 2) (mC (.int 2))) (mC (.int 0)))) (bV (wX (aq (aB 4) aM))) cH)
  (aeY c_l_cell_at E))
def G6 (c_l_cell_at:Mk):Mk:=Ey 2 6 false fun E=>
  (bG (bW (aL c_l_cell_at E (aq (aB 0) (aq (aB 1) aM))) (JI 2))
  (bG (bW (kI uF (kI eZ (kI cJ (kI cJ (kI uF (kI Dl (aB 2) (mC (.int 2))) (kI QC (mC (.int 10)) (mC (.int 18)))) (kI eZ (kI eZ (mC (.int 7919)) (aB 1)) (aB 1))) (mC (.int 1))) (mC (.int 48271))) (mC (.int 999999000001))) (JI 3))
  (bG (bW (mC (.int 0)) (JI 4))
  (bG (uD (jg (aq (mC (.int 60)) aM)) (JI 5) (bG (bW (kI uF (kI cJ (kI cJ (kI eZ (aB 3) (mC (.int 69621))) (kI eZ (aB 5) (aB 5))) (mC (.int 1))) (mC (.int 999999000001))) (JI 3))
  (bW (kI cJ (kI eZ (aB 4) (kI QC (mC (.int 10)) (mC (.int 12)))) (kI uF (kI eZ (aB 3) (kI cJ (aB 3) (kI eZ (mC (.int 31)) (aB 5)))) (mC (.int 1000000000039)))) (JI 4))))
  (aeG c_l_cell_at E)))))
def lG:Mk:=G6 j4
def zao (E:Bq):MS:=
  (bG (bW (kI uF (kI CG (aB 0) (mC (.int 0))) (aB 1)) (JI 2))
  (bG (bW (kI Dl (kI CG (aB 0) (mC (.int 0))) (aB 1)) (aaA (aB 0) (mC (.int 0)) Ka))
  (bV (aB 2))))
def Cy:Mk:=Ey 2 3 false fun E=>
  (bG (jF (RN (bJ (kI kLt (kI CG (aB 0) (mC (.int 0))) (mC (.int 2)))) (bJ (kI Pa (JK JM (aq (aB 0) aM)) (mC (.int 1))))) (bW (V1 aaL (aB 0)) (aaA (aB 0) (mC (.int 0)) Ka)) cH)
  (zao E))
def bK:Mk:=Cy
def afa (c_l_digit:Mk)(E:Bq):MS:=
  (bV (kI cJ (kI wI (aL c_l_digit E (aq (aB 0) (aq (kI wI (kI eZ (mC (.int 2)) (aB 1)) (mC (.int 1))) aM))) (aB 1)) (mC (.int 1))))
def zak (c_l_digit:Mk)(E:Bq):MS:=
  (bG (jF (bJ (kI Ke (aB 2) (mC (.int 1)))) (bV (kI wI (aL c_l_digit E (aq (aB 0) (aq (mC (.int 41)) aM))) (mC (.int 20)))) cH)
  (afa c_l_digit E))
def yG (c_l_digit:Mk):Mk:=Ey 2 3 false fun E=>
  (bG (bW (aL c_l_digit E (aq (aB 0) (aq (mC (.int 3)) aM))) (JI 2))
  (bG (jF (bJ (kI Ke (aB 2) (mC (.int 0)))) (bV (kI wI (aL c_l_digit E (aq (aB 0) (aq (mC (.int 7)) aM))) (mC (.int 3)))) cH)
  (zak c_l_digit E)))
def fX:Mk:=yG bK
def pY (E:Bq):MS:=
  (bV (aB 1))
def vB:Mk:=Ey 1 5 false fun E=>
  (bG (bW (mC (.int 0)) (JI 1))
  (bG (uD (Iw (aB 0)) (JI 2) (bG (bW (JK aaI (aq (aB 1) (aq (JK QL (aq (aB 2) aM)) aM))) (JI 3))
  (bG (bW (JK aaQ (aq (aB 1) (aq (JK QL (aq (aB 2) aM)) aM))) (JI 4))
  (bG (FQ (bJ (kI Pa (aB 4) (mC (.int 0)))) (abt 3 4 (aq (aB 4) (aq (kI uF (aB 3) (aB 4)) aM))))
  (bW (aB 3) (JI 1))))))
  (pY E)))
def jY:Mk:=vB
def wg (c_l_divisor:Mk)(E:Bq):MS:=
  (bV (JK Ca (aq (Ih JG [1] (Iw (aB 0)) j6 (kI Dl (aB 0) (aB 1))) aM)))
def Df (c_l_divisor:Mk):Mk:=Ey 1 2 false fun E=>
  (bG (bW (aL c_l_divisor E (aq (aB 0) aM)) (JI 1))
  (bG (jF (bJ (kI kLt (kI CG (Ih JG [] (Iw (aB 0)) (bJ (kI KC (aB 0) (mC (.int 0)))) (aB 0)) (mUn aaR (mC (.int 1)))) (mC (.int 0)))) (bW (kI wI (mC (.int 0)) (aB 1)) (JI 1)) cH)
  (wg c_l_divisor E)))
def dO:Mk:=Df jY
def zay (c_l_number c_l_plain:Mk)(E:Bq):MS:=
  (bV (aL c_l_plain E (aq (aB 2) aM)))
def yU (c_l_number c_l_plain:Mk):Mk:=Ey 2 3 false fun E=>
  (bG (bW (Ih JG [0,1] (jg (aq (mC (.int 3)) aM)) j6 (aL c_l_number E (aq (aB 1) (aq (aB 2) aM)))) (JI 2))
  (bG (jF (bJ (kI Ke (aB 2) (Ds (aq (mC (.int 0)) (aq (mC (.int 0)) (aq (mC (.int 0)) aM)))))) (bW (Ds (aq (mC (.int 0)) (aq (mC (.int 0)) (aq (mC (.int 1)) aM)))) (JI 2)) cH)
  (zay c_l_number c_l_plain E)))
def jV:Mk:=yU fX dO
def Np:Mk:=Ey 2 2 false fun E=>
  (bV (JK WD (aq (Ih (owT 2) [] (aaO (aq (aB 0) (aq (aB 1) aM))) j6 (kI eZ (aB 0) (aB 1))) aM)))
def zQ:Mk:=Np
def Hg:Mk:=Ey 1 11 false fun E=>
  (bG (bW (PX NK (aB 0) (jD (mC (.int 0))) (jD (mC (.int 3)))) (u5 3 (mG (JI 1) (mG (JI 2) (mG (JI 3) RQ)))))
  (bG (bW (PX NK (aB 0) (jD (mC (.int 3))) (jD (mC (.int 6)))) (u5 3 (mG (JI 4) (mG (JI 5) (mG (JI 6) RQ)))))
  (bG (bW (PX NK (aB 0) (jD (mC (.int 6))) (jD (mC (.int 9)))) (u5 3 (mG (JI 7) (mG (JI 8) (mG (JI 9) RQ)))))
  (bG (bW (kI eZ (aB 1) (kI wI (kI eZ (aB 5) (aB 9)) (kI eZ (aB 6) (aB 8)))) (JI 10))
  (bG (bW (kI wI (aB 10) (kI eZ (aB 2) (kI wI (kI eZ (aB 4) (aB 9)) (kI eZ (aB 6) (aB 7))))) (JI 10))
  (bV (kI cJ (aB 10) (kI eZ (aB 3) (kI wI (kI eZ (aB 4) (aB 8)) (kI eZ (aB 5) (aB 7)))))))))))
def uq:Mk:=Hg
def aeW (c_l_number c_l_plain c_l_size:Mk)(E:Bq):MS:=
  (bV (aL c_l_plain E (aq (aB 2) aM)))
def Ku (c_l_number c_l_plain c_l_size:Mk):Mk:=Ey 2 3 false fun E=>
  (bG (bW (Ih JG [0,1] (jg (aq (mC (.int 9)) aM)) j6 (aL c_l_number E (aq (aB 1) (aq (aB 2) aM)))) (JI 2))
  (bG (jF (bJ (kI Ke (aL c_l_size E (aq (aB 2) aM)) (mC (.int 0)))) (bW (Ds (aq (mC (.int 1)) (aq (mC (.int 0)) (aq (kI CG (aB 2) (mC (.int 2))) (aq (mC (.int 0)) (aq (mC (.int 1)) (aq (kI CG (aB 2) (mC (.int 5))) (aq (mC (.int 0)) (aq (mC (.int 0)) (aq (mC (.int 1)) aM)))))))))) (JI 2)) cH)
  (aeW c_l_number c_l_plain c_l_size E)))
def vo:Mk:=Ku fX dO uq
def JR (c_l_plain c_l_dot:Mk):Mk:=Ey 2 2 false fun E=>
  (bV (aL c_l_plain E (aq (Ih JG [0,1] (jg (aq (mC (.int 3)) aM)) j6 (aL c_l_dot E (aq (PX NK (aB 1) (jD (kI eZ (mC (.int 3)) (aB 0))) (jD (kI cJ (kI eZ (mC (.int 3)) (aB 0)) (mC (.int 3))))) (aq (aB 2) aM)))) aM)))
def mQ:Mk:=JR dO zQ
def wK (c_l_digit c_l_plain:Mk)(E:Bq):MS:=
  (bV (aL c_l_plain E (aq (aB 5) aM)))
def uZ (c_l_digit c_l_plain:Mk):Mk:=Ey 3 6 false fun E=>
  (bG (bW (kI wI (aL c_l_digit E (aq (aB 2) (aq (mC (.int 41)) aM))) (mC (.int 20))) (JI 3))
  (bG (bW (kI wI (aL c_l_digit E (aq (aB 2) (aq (mC (.int 41)) aM))) (mC (.int 20))) (JI 4))
  (bG (bW (Ih (owT 2) [3,4] (aaO (aq (aB 0) (aq (aB 1) aM))) j6 (kI cJ (kI eZ (aB 2) (aB 0)) (kI eZ (aB 3) (aB 1)))) (JI 5))
  (bG (jF (bJ (kI Ke (aB 5) (Ds (aq (mC (.int 0)) (aq (mC (.int 0)) (aq (mC (.int 0)) aM)))))) (bV (aB 0)) cH)
  (wK c_l_digit c_l_plain E)))))
def jQ:Mk:=uZ bK dO
def xR (c_l_digit c_l_spot c_l_mixed:Mk)(E:Bq):MS:=
  (bV (aL c_l_spot E (aq (aB 2) (aq (kI QC (mC (.int 10)) (mC (.int 9))) aM))))
def rK (c_l_digit c_l_spot c_l_mixed:Mk)(E:Bq):MS:=
  (bG (jF (bJ (kI Pa (aB 3) (mC (.int 1)))) (bV (aL c_l_mixed E (aq (aB 4) (aq (aB 5) (aq (aB 2) aM))))) cH)
  (xR c_l_digit c_l_spot c_l_mixed E))
def rY (c_l_digit c_l_spot c_l_mixed:Mk)(E:Bq):MS:=
  (bG (jF (Pz (RN (bJ (kI Ke (aB 1) (mC (.int 2)))) (bJ (kI Pa (JK JM (aq (aB 0) aM)) (mC (.int 2))))) (bJ (kI Ke (aB 3) (mC (.int 4))))) (bV (aB 4)) cH)
  (rK c_l_digit c_l_spot c_l_mixed E))
def Ag (c_l_digit c_l_spot c_l_mixed:Mk):Mk:=Ey 3 6 false fun E=>
  (bG (bW (aL c_l_digit E (aq (aB 2) (aq (mC (.int 6)) aM))) (JI 3))
  (bG (bW (kI CG (aB 0) (aL c_l_digit E (aq (aB 2) (aq (JK JM (aq (aB 0) aM)) aM)))) (JI 4))
  (bG (bW (kI CG (aB 0) (aL c_l_digit E (aq (aB 2) (aq (JK JM (aq (aB 0) aM)) aM)))) (JI 5))
  (bG (jF (RN (bJ (kI Ke (aB 1) (mC (.int 1)))) (RN (bJ (kI Pa (JK JM (aq (aB 0) aM)) (mC (.int 1)))) (bJ (kI kLt (aB 3) (mC (.int 5)))))) (bV (aL c_l_mixed E (aq (kI CG (aB 0) (mC (.int 0))) (aq (kI CG (aB 0) (mC (.int 1))) (aq (aB 2) aM))))) cH)
  (rY c_l_digit c_l_spot c_l_mixed E)))))
def uw:Mk:=Ag bK jV jQ
def qF (c_l_digit c_l_spot c_l_next:Mk)(E:Bq):MS:=
  (bV (aB 4))
def oU (c_l_digit c_l_spot c_l_next:Mk):Mk:=Ey 2 6 false fun E=>
  (bG (bW (aL c_l_digit E (aq (aB 0) (aq (aB 1) aM))) (JI 2))
  (bG (bW (aL c_l_digit E (aq (aB 0) (aq (mC (.int 4)) aM))) (JI 3))
  (bG (bW (wX (aq (aL c_l_spot E (aq (aB 0) (aq (kI QC (mC (.int 10)) (mC (.int 9))) aM))) aM)) (JI 4))
  (bG (uD (jg (aq (aB 2) aM)) (JI 5) (rJ (K3 jB (aB 4) (aq (aL c_l_next E (aq (aB 4) (aq (aB 3) (aq (aB 0) aM)))) aM))))
  (qF c_l_digit c_l_spot c_l_next E)))))
def iU:Mk:=oU bK jV uw
def wA (c_led c_l_led:Mk)(E:Bq):MS:=
  (bV (kI Ke (Ih JG [0] (Iw (aB 1)) j6 (aL c_led E (aq (aB 1) (aq (aB 0) aM)))) (aB 2)))
def wM (c_led c_l_led:Mk):Mk:=Ey 3 3 false fun E=>
  (bG (jF (Pz (K8 (Bg (JK Yr (aq (aB 0) (aq (mC (.ty "tuple")) aM))))) (Pz (bJ (kI KC (JK JM (aq (aB 0) aM)) (mC (.int 9)))) (bJ (kI KC (Ih JG [0] (Iw (aB 1)) j6 (aL c_l_led E (aq (aB 1) (aq (aB 0) aM)))) (aB 2))))) (bV (mC (.bl false))) cH)
  (wA c_led c_l_led E))
def jL:Mk:=wM xG mQ
def Ny (c_then c_form c_apart c_map_to c_l_rest c_l_map c_l_led c_l_picture c_l_leads:Mk)(E:Bq):MS:=
  (bG (bW (aL c_then E (aq (aL c_map_to E (aq (aB 1) (aq (aB 3) aM))) (aq (aL c_map_to E (aq (aB 3) (aq (aB 4) aM))) aM))) (JI 8))
  (bV (aL c_l_leads E (aq (aB 8) (aq (aB 1) (aq (aB 4) aM))))))
def Fo (c_then c_form c_apart c_map_to c_l_rest c_l_map c_l_led c_l_picture c_l_leads:Mk)(E:Bq):MS:=
  (bG (uD (Iw (Ds (aq (wZ (aq (aB 1) (aq (aB 3) aM))) (aq (wZ (aq (aB 3) (aq (aB 4) aM))) (aq (wZ (aq (aB 1) (aq (aB 4) aM))) (aq (wZ (aq (aB 4) (aq (aB 1) aM))) (aq (wZ (aq (aB 1) (aq (aB 1) aM))) aM))))))) (u5 2 (mG (JI 6) (mG (JI 7) RQ))) (jF (Pz (bJ (kI rR (aL c_apart E (aq (JK CN (aq (aB 6) aM)) (aq (JK CN (aq (aB 7) aM)) aM))) (mC .non))) (K8 (Bg (aL c_l_leads E (aq (aL c_map_to E (aq (aB 6) (aq (aB 7) aM))) (aq (aB 6) (aq (aB 7) aM))))))) (bV (mC (.bl false))) cH))
  (Ny c_then c_form c_apart c_map_to c_l_rest c_l_map c_l_led c_l_picture c_l_leads E))
def Vy (c_then c_form c_apart c_map_to c_l_rest c_l_map c_l_led c_l_picture c_l_leads:Mk):Mk:=Ey 1 9 false fun E=>
  (bG (bW (aL c_l_picture E (aq (aL c_l_rest E (aq (aB 0) (aq (mC (.int 0)) aM))) (aq (mC (.int 12)) aM))) (JI 1))
  (bG (bW (aL c_l_map E (aq (aL c_l_rest E (aq (aB 0) (aq (mC (.int 1)) aM))) (aq (kI QC (mC (.int 10)) (mC (.int 9))) aM))) (JI 2))
  (bG (bW (Ih JG [2] (Iw (aB 1)) j6 (aL c_l_led E (aq (aB 1) (aq (aB 0) aM)))) (JI 3))
  (bG (bW (aL c_l_map E (aq (aL c_l_rest E (aq (aB 0) (aq (mC (.int 2)) aM))) (aq (kI QC (mC (.int 10)) (mC (.int 9))) aM))) (JI 2))
  (bG (bW (Ih JG [2] (Iw (aB 3)) j6 (aL c_l_led E (aq (aB 1) (aq (aB 0) aM)))) (JI 4))
  (bG (bW (aL c_form E (aq (aB 1) aM)) (JI 5))
  (bG (jF (Pz (bJ (kI KC (aL c_form E (aq (aB 3) aM)) (aB 5))) (bJ (kI KC (aL c_form E (aq (aB 4) aM)) (aB 5)))) (bV (mC (.bl false))) cH)
  (Fo c_then c_form c_apart c_map_to c_l_rest c_l_map c_l_led c_l_picture c_l_leads E))))))))
def Ow (F_twos_differ F_threes_differ F_throws_differ:Addr):Mk:=Vy q9 yC (mR F_twos_differ F_threes_differ F_throws_differ) (jT F_twos_differ F_threes_differ F_throws_differ) lG vo mQ iU jL
structure Ad where
 f_divisor_of_two:Addr
 d_divisor_of_two:DR
 f_divisor:Addr
 d_divisor:DR
 f_ends_below:Addr
 d_ends_below:DR
 f_plain:Addr
 d_plain:DR
 f_dot:Addr
 d_dot:DR
 f_cross:Addr
 d_cross:DR
 f_turn:Addr
 d_turn:DR
 f_lies_on:Addr
 d_lies_on:DR
 f_share_one:Addr
 d_share_one:DR
 f_on_line:Addr
 d_on_line:DR
 f_plain_cross:Addr
 d_plain_cross:DR
 f_join:Addr
 d_join:DR
 f_rising:Addr
 d_rising:DR
 f_picked:Addr
 d_picked:DR
 f_rows_of:Addr
 d_rows_of:DR
 f_table_times_row:Addr
 d_table_times_row:DR
 f_flipped:Addr
 d_flipped:DR
 f_table_times_table:Addr
 d_table_times_table:DR
 f_turned:Addr
 d_turned:DR
 f_led:Addr
 d_led:DR
 f_then:Addr
 d_then:DR
 f_back:Addr
 d_back:DR
 f_tiles:Addr
 d_tiles:DR
 f_are_free:Addr
 d_are_free:DR
 f_from_tiles:Addr
 d_from_tiles:DR
 f_map_between:Addr
 d_map_between:DR
 f_check_picture:Addr
 d_check_picture:DR
 f_first_free:Addr
 d_first_free:DR
 f_unlike_spots:Addr
 d_unlike_spots:DR
 f_line_of_three:Addr
 d_line_of_three:DR
 f_kind_of:Addr
 d_kind_of:DR
 f_units:Addr
 d_units:DR
 f_spot_between:Addr
 d_spot_between:DR
 f_leading_of_line:Addr
 d_leading_of_line:DR
 f_filled_up:Addr
 d_filled_up:DR
 f_leading_of_few:Addr
 d_leading_of_few:DR
 f_leading:Addr
 d_leading:DR
 f_led_picture:Addr
 d_led_picture:DR
 f_form:Addr
 d_form:DR
 f_place_off:Addr
 d_place_off:DR
 f_turn_at:Addr
 d_turn_at:DR
 f_has_three_alike:Addr
 d_has_three_alike:DR
 f_throw_numbers:Addr
 d_throw_numbers:DR
 f_twos_differ:Addr
 d_twos_differ:DR
 f_threes_differ:Addr
 d_threes_differ:DR
 f_throws_differ:Addr
 d_throws_differ:DR
 f_first_places:Addr
 d_first_places:DR
 f_fifth_apart:Addr
 d_fifth_apart:DR
 f_apart_of_as_many:Addr
 d_apart_of_as_many:DR
 f_apart:Addr
 d_apart:DR
 f_map_to:Addr
 d_map_to:DR
 f_l_cell_at:Addr
 d_l_cell_at:DR
 f_l_rest:Addr
 d_l_rest:DR
 f_l_digit:Addr
 d_l_digit:DR
 f_l_number:Addr
 d_l_number:DR
 f_l_divisor:Addr
 d_l_divisor:DR
 f_l_plain:Addr
 d_l_plain:DR
 f_l_spot:Addr
 d_l_spot:DR
 f_l_dot:Addr
 d_l_dot:DR
 f_l_size:Addr
 d_l_size:DR
 f_l_map:Addr
 d_l_map:DR
 f_l_led:Addr
 d_l_led:DR
 f_l_mixed:Addr
 d_l_mixed:DR
 f_l_next:Addr
 d_l_next:DR
 f_l_picture:Addr
 d_l_picture:DR
 f_l_leads:Addr
 d_l_leads:DR
 f_law:Addr
 d_law:DR
 a_TILES:Addr
structure Txt (K:BZ) (mg:Str->Option FX) (t:Ad):Prop where
 F_divisor_of_two:HX K "divisor_of_two" "divisor_of_two" eU t.f_divisor_of_two t.d_divisor_of_two
 eN:mg "divisor_of_two" = Dn (.ref t.f_divisor_of_two)
 b_divisor_of_two:Binds K t.d_divisor_of_two ["one", "other"] []
 F_divisor:HX K "divisor" "divisor" qI t.f_divisor t.d_divisor
 qL:mg "divisor" = Dn (.ref t.f_divisor)
 b_divisor:Binds K t.d_divisor ["numbers"] []
 F_ends_below:HX K "ends_below" "ends_below" jr t.f_ends_below t.d_ends_below
 jm:mg "ends_below" = Dn (.ref t.f_ends_below)
 b_ends_below:Binds K t.d_ends_below ["numbers"] []
 F_plain:HX K "plain" "plain" zN t.f_plain t.d_plain
 eX:mg "plain" = Dn (.ref t.f_plain)
 b_plain:Binds K t.d_plain ["numbers"] []
 F_dot:HX K "dot" "dot" Og t.f_dot t.d_dot
 tZ:mg "dot" = Dn (.ref t.f_dot)
 b_dot:Binds K t.d_dot ["one", "other"] []
 F_cross:HX K "cross" "cross" Ab t.f_cross t.d_cross
 fM:mg "cross" = Dn (.ref t.f_cross)
 b_cross:Binds K t.d_cross ["one", "other"] []
 F_turn:HX K "turn" "turn" Gd t.f_turn t.d_turn
 vV:mg "turn" = Dn (.ref t.f_turn)
 b_turn:Binds K t.d_turn ["one", "other", "third"] []
 F_lies_on:HX K "lies_on" "lies_on" qC t.f_lies_on t.d_lies_on
 mL:mg "lies_on" = Dn (.ref t.f_lies_on)
 b_lies_on:Binds K t.d_lies_on ["spot", "line"] []
 F_share_one:HX K "share_one" "share_one" kJ t.f_share_one t.d_share_one
 jW:mg "share_one" = Dn (.ref t.f_share_one)
 b_share_one:Binds K t.d_share_one ["rows"] []
 F_on_line:HX K "on_line" "on_line" pI t.f_on_line t.d_on_line
 cU:mg "on_line" = Dn (.ref t.f_on_line)
 b_on_line:Binds K t.d_on_line ["spots"] []
 F_plain_cross:HX K "plain_cross" "plain_cross" iI t.f_plain_cross t.d_plain_cross
 g8:mg "plain_cross" = Dn (.ref t.f_plain_cross)
 b_plain_cross:Binds K t.d_plain_cross ["one", "other"] []
 F_join:HX K "join" "join" Ft t.f_join t.d_join
 CZ:mg "join" = Dn (.ref t.f_join)
 b_join:Binds K t.d_join ["one", "other"] []
 F_rising:HX K "rising" "rising" uM t.f_rising t.d_rising
 iC:mg "rising" = Dn (.ref t.f_rising)
 b_rising:Binds K t.d_rising ["many", "size"] []
 F_picked:HX K "picked" "picked" uN t.f_picked t.d_picked
 cN:mg "picked" = Dn (.ref t.f_picked)
 b_picked:Binds K t.d_picked ["things", "places"] []
 F_rows_of:HX K "rows_of" "rows_of" qR t.f_rows_of t.d_rows_of
 eF:mg "rows_of" = Dn (.ref t.f_rows_of)
 b_rows_of:Binds K t.d_rows_of ["table"] []
 F_table_times_row:HX K "table_times_row" "table_times_row" dY t.f_table_times_row t.d_table_times_row
 bL:mg "table_times_row" = Dn (.ref t.f_table_times_row)
 b_table_times_row:Binds K t.d_table_times_row ["table", "row"] []
 F_flipped:HX K "flipped" "flipped" qO t.f_flipped t.d_flipped
 jM:mg "flipped" = Dn (.ref t.f_flipped)
 b_flipped:Binds K t.d_flipped ["table"] []
 F_table_times_table:HX K "table_times_table" "table_times_table" cP t.f_table_times_table t.d_table_times_table
 cg:mg "table_times_table" = Dn (.ref t.f_table_times_table)
 b_table_times_table:Binds K t.d_table_times_table ["one", "other"] []
 F_turned:HX K "turned" "turned" uH t.f_turned t.d_turned
 lu:mg "turned" = Dn (.ref t.f_turned)
 b_turned:Binds K t.d_turned ["table"] []
 F_led:HX K "led" "led" Qy t.f_led t.d_led
 xG:mg "led" = Dn (.ref t.f_led)
 b_led:Binds K t.d_led ["by", "spot"] []
 F_then:HX K "then" "then" Hf t.f_then t.d_then
 q9:mg "then" = Dn (.ref t.f_then)
 b_then:Binds K t.d_then ["one", "other"] []
 F_back:HX K "back" "back" Ga t.f_back t.d_back
 vW:mg "back" = Dn (.ref t.f_back)
 b_back:Binds K t.d_back ["by"] []
 F_tiles:HX K "tiles" "tiles" Aa t.f_tiles t.d_tiles
 fB:mg "tiles" = Dn (.ref t.f_tiles)
 b_tiles:Binds K t.d_tiles [] []
 F_are_free:HX K "are_free" "are_free" nQ t.f_are_free t.d_are_free
 eY:mg "are_free" = Dn (.ref t.f_are_free)
 b_are_free:Binds K t.d_are_free ["four"] []
 F_from_tiles:HX K "from_tiles" "from_tiles" ju t.f_from_tiles t.d_from_tiles
 gK:mg "from_tiles" = Dn (.ref t.f_from_tiles)
 b_from_tiles:Binds K t.d_from_tiles ["four"] []
 F_map_between:HX K "map_between" "map_between" iD t.f_map_between t.d_map_between
 bC:mg "map_between" = Dn (.ref t.f_map_between)
 b_map_between:Binds K t.d_map_between ["four", "others"] []
 F_check_picture:HX K "check_picture" "check_picture" fC t.f_check_picture t.d_check_picture
 bI:mg "check_picture" = Dn (.ref t.f_check_picture)
 b_check_picture:Binds K t.d_check_picture ["picture"] []
 F_first_free:HX K "first_free" "first_free" jx t.f_first_free t.d_first_free
 cB:mg "first_free" = Dn (.ref t.f_first_free)
 b_first_free:Binds K t.d_first_free ["picture"] []
 F_unlike_spots:HX K "unlike_spots" "unlike_spots" gw t.f_unlike_spots t.d_unlike_spots
 cW:mg "unlike_spots" = Dn (.ref t.f_unlike_spots)
 b_unlike_spots:Binds K t.d_unlike_spots ["picture"] []
 F_line_of_three:HX K "line_of_three" "line_of_three" fj t.f_line_of_three t.d_line_of_three
 cF:mg "line_of_three" = Dn (.ref t.f_line_of_three)
 b_line_of_three:Binds K t.d_line_of_three ["unlike"] []
 F_kind_of:HX K "kind_of" "kind_of" qZ t.f_kind_of t.d_kind_of
 qN:mg "kind_of" = Dn (.ref t.f_kind_of)
 b_kind_of:Binds K t.d_kind_of ["picture"] []
 F_units:HX K "units" "units" zY t.f_units t.d_units
 pD:mg "units" = Dn (.ref t.f_units)
 b_units:Binds K t.d_units [] []
 F_spot_between:HX K "spot_between" "spot_between" gq t.f_spot_between t.d_spot_between
 cD:mg "spot_between" = Dn (.ref t.f_spot_between)
 b_spot_between:Binds K t.d_spot_between ["spots"] []
 F_leading_of_line:HX K "leading_of_line" "leading_of_line" dZ t.f_leading_of_line t.d_leading_of_line
 dR:mg "leading_of_line" = Dn (.ref t.f_leading_of_line)
 b_leading_of_line:Binds K t.d_leading_of_line ["unlike", "line"] []
 F_filled_up:HX K "filled_up" "filled_up" lK t.f_filled_up t.d_filled_up
 j9:mg "filled_up" = Dn (.ref t.f_filled_up)
 b_filled_up:Binds K t.d_filled_up ["unlike"] []
 F_leading_of_few:HX K "leading_of_few" "leading_of_few" eG t.f_leading_of_few t.d_leading_of_few
 eO:mg "leading_of_few" = Dn (.ref t.f_leading_of_few)
 b_leading_of_few:Binds K t.d_leading_of_few ["unlike"] []
 F_leading:HX K "leading" "leading" pU t.f_leading t.d_leading
 gD:mg "leading" = Dn (.ref t.f_leading)
 b_leading:Binds K t.d_leading ["picture"] []
 F_led_picture:HX K "led_picture" "led_picture" iH t.f_led_picture t.d_led_picture
 iM:mg "led_picture" = Dn (.ref t.f_led_picture)
 b_led_picture:Binds K t.d_led_picture ["by", "picture"] []
 F_form:HX K "form" "form" Fw t.f_form t.d_form
 yC:mg "form" = Dn (.ref t.f_form)
 b_form:Binds K t.d_form ["picture"] []
 F_place_off:HX K "place_off" "place_off" lq t.f_place_off t.d_place_off
 kE:mg "place_off" = Dn (.ref t.f_place_off)
 b_place_off:Binds K t.d_place_off ["spots"] []
 F_turn_at:HX K "turn_at" "turn_at" pZ t.f_turn_at t.d_turn_at
 iY:mg "turn_at" = Dn (.ref t.f_turn_at)
 b_turn_at:Binds K t.d_turn_at ["one", "other", "place"] []
 F_has_three_alike:HX K "has_three_alike" "has_three_alike" dX t.f_has_three_alike t.d_has_three_alike
 d7:mg "has_three_alike" = Dn (.ref t.f_has_three_alike)
 b_has_three_alike:Binds K t.d_has_three_alike ["four"] []
 F_throw_numbers:HX K "throw_numbers" "throw_numbers" fJ t.f_throw_numbers t.d_throw_numbers
 dD:mg "throw_numbers" = Dn (.ref t.f_throw_numbers)
 b_throw_numbers:Binds K t.d_throw_numbers ["four"] []
 F_twos_differ:HX K "twos_differ" "twos_differ" iB t.f_twos_differ t.d_twos_differ
 fD:mg "twos_differ" = Dn (.ref t.f_twos_differ)
 b_twos_differ:Binds K t.d_twos_differ ["one", "other"] []
 F_threes_differ:HX K "threes_differ" "threes_differ" fu t.f_threes_differ t.d_threes_differ
 dH:mg "threes_differ" = Dn (.ref t.f_threes_differ)
 b_threes_differ:Binds K t.d_threes_differ ["one", "other"] []
 F_throws_differ:HX K "throws_differ" "throws_differ" fH t.f_throws_differ t.d_throws_differ
 dJ:mg "throws_differ" = Dn (.ref t.f_throws_differ)
 b_throws_differ:Binds K t.d_throws_differ ["one", "other"] []
 F_first_places:HX K "first_places" "first_places" gk t.f_first_places t.d_first_places
 cX:mg "first_places" = Dn (.ref t.f_first_places)
 b_first_places:Binds K t.d_first_places ["one", "other", "size", "differs"] []
 F_fifth_apart:HX K "fifth_apart" "fifth_apart" iG t.f_fifth_apart t.d_fifth_apart
 iJ:mg "fifth_apart" = Dn (.ref t.f_fifth_apart)
 b_fifth_apart:Binds K t.d_fifth_apart ["one", "other"] []
 F_apart_of_as_many:HX K "apart_of_as_many" "apart_of_as_many" dh t.f_apart_of_as_many t.d_apart_of_as_many
 cZ:mg "apart_of_as_many" = Dn (.ref t.f_apart_of_as_many)
 b_apart_of_as_many:Binds K t.d_apart_of_as_many ["one", "other"] []
 F_apart:HX K "apart" "apart" yX t.f_apart t.d_apart
 mR:mg "apart" = Dn (.ref t.f_apart)
 b_apart:Binds K t.d_apart ["one", "other"] []
 F_map_to:HX K "map_to" "map_to" uI t.f_map_to t.d_map_to
 jT:mg "map_to" = Dn (.ref t.f_map_to)
 b_map_to:Binds K t.d_map_to ["one", "other"] []
 F_l_cell_at:HX K "_law_cell_at" "_law_cell_at" kW t.f_l_cell_at t.d_l_cell_at
 j4:mg "_law_cell_at" = Dn (.ref t.f_l_cell_at)
 b_l_cell_at:Binds K t.d_l_cell_at ["_law_script", "_law_k"] []
 F_l_rest:HX K "_law_rest" "_law_rest" ur t.f_l_rest t.d_l_rest
 lG:mg "_law_rest" = Dn (.ref t.f_l_rest)
 b_l_rest:Binds K t.d_l_rest ["_law_script", "_law_k"] []
 F_l_digit:HX K "_law_digit" "_law_digit" p7 t.f_l_digit t.d_l_digit
 bK:mg "_law_digit" = Dn (.ref t.f_l_digit)
 b_l_digit:Binds K t.d_l_digit ["_law_rest_here", "_law_many"] []
 F_l_number:HX K "_law_number" "_law_number" nO t.f_l_number t.d_l_number
 fX:mg "_law_number" = Dn (.ref t.f_l_number)
 b_l_number:Binds K t.d_l_number ["_law_rest_here", "_law_far"] []
 F_l_divisor:HX K "_law_divisor" "_law_divisor" lF t.f_l_divisor t.d_l_divisor
 jY:mg "_law_divisor" = Dn (.ref t.f_l_divisor)
 b_l_divisor:Binds K t.d_l_divisor ["_law_numbers"] []
 F_l_plain:HX K "_law_plain" "_law_plain" qm t.f_l_plain t.d_l_plain
 dO:mg "_law_plain" = Dn (.ref t.f_l_plain)
 b_l_plain:Binds K t.d_l_plain ["_law_numbers"] []
 F_l_spot:HX K "_law_spot" "_law_spot" uE t.f_l_spot t.d_l_spot
 jV:mg "_law_spot" = Dn (.ref t.f_l_spot)
 b_l_spot:Binds K t.d_l_spot ["_law_rest_here", "_law_far"] []
 F_l_dot:HX K "_law_dot" "_law_dot" zM t.f_l_dot t.d_l_dot
 zQ:mg "_law_dot" = Dn (.ref t.f_l_dot)
 b_l_dot:Binds K t.d_l_dot ["_law_one", "_law_other"] []
 F_l_size:HX K "_law_size" "_law_size" uL t.f_l_size t.d_l_size
 uq:mg "_law_size" = Dn (.ref t.f_l_size)
 b_l_size:Binds K t.d_l_size ["_law_numbers"] []
 F_l_map:HX K "_law_map" "_law_map" zT t.f_l_map t.d_l_map
 vo:mg "_law_map" = Dn (.ref t.f_l_map)
 b_l_map:Binds K t.d_l_map ["_law_rest_here", "_law_far"] []
 F_l_led:HX K "_law_led" "_law_led" z6 t.f_l_led t.d_l_led
 mQ:mg "_law_led" = Dn (.ref t.f_l_led)
 b_l_led:Binds K t.d_l_led ["_law_by", "_law_spot_here"] []
 F_l_mixed:HX K "_law_mixed" "_law_mixed" qg t.f_l_mixed t.d_l_mixed
 jQ:mg "_law_mixed" = Dn (.ref t.f_l_mixed)
 b_l_mixed:Binds K t.d_l_mixed ["_law_one", "_law_other", "_law_rest_here"] []
 F_l_next:HX K "_law_next" "_law_next" uO t.f_l_next t.d_l_next
 uw:mg "_law_next" = Dn (.ref t.f_l_next)
 b_l_next:Binds K t.d_l_next ["_law_spots", "_law_style", "_law_rest_here"] []
 F_l_picture:HX K "_law_picture" "_law_picture" lg t.f_l_picture t.d_l_picture
 iU:mg "_law_picture" = Dn (.ref t.f_l_picture)
 b_l_picture:Binds K t.d_l_picture ["_law_rest_here", "_law_most"] []
 F_l_leads:HX K "_law_leads" "_law_leads" qG t.f_l_leads t.d_l_leads
 jL:mg "_law_leads" = Dn (.ref t.f_l_leads)
 b_l_leads:Binds K t.d_l_leads ["_law_by", "_law_one", "_law_other"] []
 F_law:HX K "law" "law" PB t.f_law t.d_law
 Ow:mg "law" = Dn (.ref t.f_law)
 b_law:Binds K t.d_law ["_law_script"] []
 z_abs:mg "abs" = FN
 z_all:mg "all" = FN
 z_isinstance:mg "isinstance" = FN
 z_len:mg "len" = FN
 z_list:mg "list" = FN
 z_max:mg "max" = FN
 z_min:mg "min" = FN
 z_range:mg "range" = FN
 z_reversed:mg "reversed" = FN
 z_sum:mg "sum" = FN
 z_tuple:mg "tuple" = FN
 z_zip:mg "zip" = FN
 g_TILES:mg "TILES" = Dn (.ref t.a_TILES)
 r_TILES:∀ H μ,Aq K H μ rZ (.ref t.a_TILES)
section
variable {P:Dr}{w:Ci}{K:BZ}{mg:Str->Option FX}{base:Heap}{t:Ad}
theorem rM (T:Txt K mg t):cA P w K mg base Ea 10 t.f_divisor_of_two t.d_divisor_of_two ["one", "other"] (lift K eN):=by
 have nd:=jN.nd
 refine d9 (k:=9) T.F_divisor_of_two jN fun cdv A outer s H E hr=>?_
 have hc:=hr.calm (by decide)
 refine aA ?_ ?_
 ·exact (aQ (i:=0) nd (by rfl) (by exact Or.inl rfl) (bH Qp (by rfl) (by exact T.z_abs) boot_abs (ak (dv 0 (pv 0)) au (aj (by rfl))) (by decide) (by decide) (aj (by rfl)) (ao (by rfl))))
 refine aA ?_ ?_
 ·exact (aQ (i:=1) nd (by rfl) (by exact Or.inl rfl) (bH Qp (by rfl) (by exact T.z_abs) boot_abs (ak (dv 1 (pv 1)) au (aj (by rfl))) (by decide) (by decide) (aj (by rfl)) (ao (by rfl))))
 refine aA ?_ ?_
 ·exact (Ho Ml (bw (CV (mz hr)) (dv 1 (pv 1)) aG (aW _)) (aA (aQ (i:=2) nd (by rfl) (by exact Or.inl rfl) (bO rH (dv 0 (pv 0)) (dv 1 (pv 1))))
  (aA (aQ (i:=0) nd (by rfl) (by exact Or.inl rfl) (dv 1 (pv 1)))
  (aD (aQ (i:=1) nd (by rfl) (by exact Or.inl rfl) (dv 2 (pv 2)))))))
 refine aD ?_
 exact (aO (dv 0 (pv 0)))
theorem zaG (T:Txt K mg t):cA P w K mg base Ea 11 t.f_divisor t.d_divisor ["numbers"] (lift K qL):=by
 have nd:=yP.nd
 refine d9 (k:=10) T.F_divisor yP fun cdv A outer s H E hr=>?_
 have hc:=hr.calm (by decide)
 refine aA ?_ ?_
 ·exact (aQ (i:=1) nd (by rfl) (by exact Or.inl rfl) aG)
 refine aA ?_ ?_
 ·exact (fU Ml hc (bZ (dv 0 (pv 0))) (bD (bx (i:=2) nd (by rfl) (by exact Or.inl rfl))) (aD (aQ (i:=1) nd (by rfl) (by exact Or.inl rfl) (aF ((rM T).mono (by decide)) hr (by rfl) (by exact T.eN) (by exact T.F_divisor_of_two.kp) (by exact T.b_divisor_of_two) (ak (dv 2 (pv 2)) (ak (dv 1 (pv 1)) au (aj (by rfl))) (aj (by rfl))) (by decide) (aj (by rfl)) (ao (by rfl))))))
 refine aD ?_
 exact (aO (dv 1 (pv 1)))
theorem zf (T:Txt K mg t):cA P w K mg base Ea 10 t.f_ends_below t.d_ends_below ["numbers"] (lift K jm):=by
 have nd:=p8.nd
 refine d9 (k:=9) T.F_ends_below p8 fun cdv A outer s H E hr=>?_
 have hc:=hr.calm (by decide)
 refine aA ?_ ?_
 ·exact (fU Ml hc (agF (by rfl) (by exact T.z_reversed) (ak (dv 0 (pv 0)) au (aj (by rfl))) (aj (by rfl)) (ao (by rfl))) (bD (bx (i:=1) nd (by rfl) (by exact Or.inl rfl))) (aD (cG (bw (CV (mz hr)) (dv 1 (pv 1)) aG (aW _)) (aD (aO (wj WT (dv 1 (pv 1)) aG (aW _)))) aZ)))
 refine aD ?_
 exact (aO Ws)
theorem nJ (T:Txt K mg t):cA P w K mg base Ea 12 t.f_plain t.d_plain ["numbers"] (lift K eX):=by
 have nd:=GD.nd
 refine d9 (k:=11) T.F_plain GD fun cdv A outer s H E hr=>?_
 have hc:=hr.calm (by decide)
 refine aA ?_ ?_
 ·exact (aQ (i:=1) nd (by rfl) (by exact Or.inr rfl) (aF ((zaG T).mono (by decide)) hr (by rfl) (by exact T.qL) (by exact T.F_divisor.kp) (by exact T.b_divisor) (ak (dv 0 (pv 0)) au (aj (by rfl))) (by decide) (aj (by rfl)) (ao (by rfl))))
 refine aA ?_ ?_
 ·exact (cG (bw (Ai (mz hr)) (dv 1 (pv 1)) aG (aW _)) (aD pX) aZ)
 refine aA ?_ ?_
 ·exact (cG (iW (aF ((zf T).mono (by decide)) hr (by rfl) (by exact T.jm) (by exact T.F_ends_below.kp) (by exact T.b_ends_below) (ak (dv 0 (pv 0)) au (aj (by rfl))) (by decide) (aj (by rfl)) (ao (by rfl)))) (aD (aQ (i:=1) nd (by rfl) (by exact Or.inr rfl) (Zg (dv 1 (pv 1))))) aZ)
 refine aD ?_
 exact (aO (gY Kq (by rfl) (by exact T.z_tuple) boot_tuple (ak (zy [1] hc (aY (by rfl)) gP (gG (aY (by rfl))) (bZ (dv 0 (pv 0))) (fun _ _ _ _=>cu) (fun _ _ _ _=>(bO Ez (dv 0 (pv 0)) (dv 1 (pv 1))))) au (aj (by rfl))) (by decide) (by decide) (aj (by rfl)) (ao (by rfl))))
theorem CK (T:Txt K mg t):cA P w K mg base Ea 10 t.f_dot t.d_dot ["one", "other"] (lift K tZ):=by
 have nd:=Ss.nd
 refine d9 (k:=9) T.F_dot Ss fun cdv A outer s H E hr=>?_
 have hc:=hr.calm (by decide)
 refine aD ?_
 exact (aO (bO cV (bO cV (bO cL (bR (dv 0 (pv 0)) aG (by intro _ _;rfl)) (bR (dv 1 (pv 1)) aG (by intro _ _;rfl))) (bO cL (bR (dv 0 (pv 0)) aG (by intro _ _;rfl)) (bR (dv 1 (pv 1)) aG (by intro _ _;rfl)))) (bO cL (bR (dv 0 (pv 0)) aG (by intro _ _;rfl)) (bR (dv 1 (pv 1)) aG (by intro _ _;rfl)))))
theorem lB (T:Txt K mg t):cA P w K mg base Ea 10 t.f_cross t.d_cross ["one", "other"] (lift K fM):=by
 have nd:=Fv.nd
 refine d9 (k:=9) T.F_cross Fv fun cdv A outer s H E hr=>?_
 have hc:=hr.calm (by decide)
 refine aD ?_
 exact (aO (fK (ak (bO nU (bO cL (bR (dv 0 (pv 0)) aG (by intro _ _;rfl)) (bR (dv 1 (pv 1)) aG (by intro _ _;rfl))) (bO cL (bR (dv 0 (pv 0)) aG (by intro _ _;rfl)) (bR (dv 1 (pv 1)) aG (by intro _ _;rfl)))) (ak (bO nU (bO cL (bR (dv 0 (pv 0)) aG (by intro _ _;rfl)) (bR (dv 1 (pv 1)) aG (by intro _ _;rfl))) (bO cL (bR (dv 0 (pv 0)) aG (by intro _ _;rfl)) (bR (dv 1 (pv 1)) aG (by intro _ _;rfl)))) (ak (bO nU (bO cL (bR (dv 0 (pv 0)) aG (by intro _ _;rfl)) (bR (dv 1 (pv 1)) aG (by intro _ _;rfl))) (bO cL (bR (dv 0 (pv 0)) aG (by intro _ _;rfl)) (bR (dv 1 (pv 1)) aG (by intro _ _;rfl)))) au (aj (by rfl))) (aj (by rfl))) (aj (by rfl)))))
theorem Ac (T:Txt K mg t):cA P w K mg base Ea 11 t.f_turn t.d_turn ["one", "other", "third"] (lift K vV):=by
 have nd:=KN.nd
 refine d9 (k:=10) T.F_turn KN fun cdv A outer s H E hr=>?_
 have hc:=hr.calm (by decide)
 refine aD ?_
 exact (aO (aF ((CK T).mono (by decide)) hr (by rfl) (by exact T.tZ) (by exact T.F_dot.kp) (by exact T.b_dot) (ak (aF ((lB T).mono (by decide)) hr (by rfl) (by exact T.fM) (by exact T.F_cross.kp) (by exact T.b_cross) (ak (dv 0 (pv 0)) (ak (dv 1 (pv 1)) au (aj (by rfl))) (aj (by rfl))) (by decide) (aj (by rfl)) (ao (by rfl))) (ak (dv 2 (pv 2)) au (aj (by rfl))) (aj (by rfl))) (by decide) (aj (by rfl)) (ao (by rfl))))
theorem yR (T:Txt K mg t):cA P w K mg base Ea 11 t.f_lies_on t.d_lies_on ["spot", "line"] (lift K mL):=by
 have nd:=yM.nd
 refine d9 (k:=10) T.F_lies_on yM fun cdv A outer s H E hr=>?_
 have hc:=hr.calm (by decide)
 refine aD ?_
 exact (aO (wj (Ai (mz hr)) (aF ((CK T).mono (by decide)) hr (by rfl) (by exact T.tZ) (by exact T.F_dot.kp) (by exact T.b_dot) (ak (dv 0 (pv 0)) (ak (dv 1 (pv 1)) au (aj (by rfl))) (aj (by rfl))) (by decide) (aj (by rfl)) (ao (by rfl))) aG (aW _)))
theorem afB (T:Txt K mg t):cA P w K mg base Ea 11 t.f_share_one t.d_share_one ["rows"] (lift K jW):=by
 have nd:=sX.nd
 refine d9 (k:=10) T.F_share_one sX fun cdv A outer s H E hr=>?_
 have hc:=hr.calm (by decide)
 refine aA ?_ ?_
 ·exact (zj [0] (i:=1) nd (by rfl) (by exact Or.inl rfl) hc (aY (by rfl)) gP (gG (aY (by rfl))) (bZ (dv 0 (pv 0))) (fun _ _ _ _=>(sE (bw (CV (mz hr)) (dv 0 (pv 0)) (bR (dv 1 (pv 1)) aG (by intro _ _;rfl)) (aW _)))) (fun _ _ _ _=>(dv 0 (pv 0))))
 refine aA ?_ ?_
 ·exact (cG (pR (iW (dv 1 (pv 1)))) (aD (aO Ws)) aZ)
 refine aA ?_ ?_
 ·exact (aQ (i:=2) nd (by rfl) (by exact Or.inr rfl) (aF ((lB T).mono (by decide)) hr (by rfl) (by exact T.fM) (by exact T.F_cross.kp) (by exact T.b_cross) (ak (bR (dv 0 (pv 0)) aG (by intro _ _;rfl)) (ak (bR (dv 1 (pv 1)) aG (by intro _ _;rfl)) au (aj (by rfl))) (aj (by rfl))) (by decide) (aj (by rfl)) (ao (by rfl))))
 refine aD ?_
 exact (aO (bH (abT hc) (by rfl) (by exact T.z_all) boot_all (ak (zy [2] hc (aY (by rfl)) gP (gG (aY (by rfl))) (bZ (dv 1 (pv 1))) (fun _ _ _ _=>cu) (fun _ _ _ _=>(wj (Ai (mz hr)) (aF ((CK T).mono (by decide)) hr (by rfl) (by exact T.tZ) (by exact T.F_dot.kp) (by exact T.b_dot) (ak (dv 1 (pv 1)) (ak (dv 0 (pv 0)) au (aj (by rfl))) (aj (by rfl))) (by decide) (aj (by rfl)) (ao (by rfl))) aG (aW _)))) au (aj (by rfl))) (by decide) (by decide) (aj (by rfl)) (ao (by rfl))))
theorem jO (T:Txt K mg t):cA P w K mg base Ea 12 t.f_on_line t.d_on_line ["spots"] (lift K cU):=by
 have nd:=yQ.nd
 refine d9 (k:=11) T.F_on_line yQ fun cdv A outer s H E hr=>?_
 have hc:=hr.calm (by decide)
 refine aD ?_
 exact (aO (aF ((afB T).mono (by decide)) hr (by rfl) (by exact T.jW) (by exact T.F_share_one.kp) (by exact T.b_share_one) (ak (dv 0 (pv 0)) au (aj (by rfl))) (by decide) (aj (by rfl)) (ao (by rfl))))
theorem xq (T:Txt K mg t):cA P w K mg base Ea 13 t.f_plain_cross t.d_plain_cross ["one", "other"] (lift K g8):=by
 have nd:=oH.nd
 refine d9 (k:=12) T.F_plain_cross oH fun cdv A outer s H E hr=>?_
 have hc:=hr.calm (by decide)
 refine aA ?_ ?_
 ·exact (cG (bw (Ai (mz hr)) (dv 0 (pv 0)) (dv 1 (pv 1)) (aW _)) (aD pX) aZ)
 refine aD ?_
 exact (aO (aF ((nJ T).mono (by decide)) hr (by rfl) (by exact T.eX) (by exact T.F_plain.kp) (by exact T.b_plain) (ak (aF ((lB T).mono (by decide)) hr (by rfl) (by exact T.fM) (by exact T.F_cross.kp) (by exact T.b_cross) (ak (dv 0 (pv 0)) (ak (dv 1 (pv 1)) au (aj (by rfl))) (aj (by rfl))) (by decide) (aj (by rfl)) (ao (by rfl))) au (aj (by rfl))) (by decide) (aj (by rfl)) (ao (by rfl))))
theorem Vn (T:Txt K mg t):cA P w K mg base Ea 14 t.f_join t.d_join ["one", "other"] (lift K CZ):=by
 have nd:=JW.nd
 refine d9 (k:=13) T.F_join JW fun cdv A outer s H E hr=>?_
 have hc:=hr.calm (by decide)
 refine aD ?_
 exact (aO (aF ((xq T).mono (by decide)) hr (by rfl) (by exact T.g8) (by exact T.F_plain_cross.kp) (by exact T.b_plain_cross) (ak (dv 0 (pv 0)) (ak (dv 1 (pv 1)) au (aj (by rfl))) (aj (by rfl))) (by decide) (aj (by rfl)) (ao (by rfl))))
theorem vA (T:Txt K mg t):cA P w K mg base Ea 10 t.f_rising t.d_rising ["many", "size"] (lift K iC):=by
 have nd:=Bo.nd
 refine d9 (k:=9) T.F_rising Bo fun cdv A outer s H E hr=>?_
 have hc:=hr.calm (by decide)
 refine aA ?_ ?_
 ·first
  | (with_reducible exact (aQ (hs:=by with_unfolding_all rfl) (hf:=by with_unfolding_all first | exact .inl rfl | exact .inr rfl) (i:=2) (by with_unfolding_all exact nd) (by with_unfolding_all rfl) (by with_unfolding_all exact Or.inl rfl) (kZ (ak (fK au) au (aj (by with_unfolding_all rfl))))))
  | (exact (aQ (i:=2) nd (by rfl) (by exact Or.inl rfl) (kZ (ak (fK au) au (aj (by rfl))))))
 refine aA ?_ ?_
 ·exact (fU Ml hc (dI (by rfl) (by exact T.z_range) (ak (dv 1 (pv 1)) au (aj (by rfl))) (lW (by rfl))) (bD (bx (i:=3) nd (by rfl) (by exact Or.inl rfl))) (aA (aQ (i:=4) nd (by rfl) (by exact Or.inl rfl) (yF au))
  (aA (fU Ml hc (bZ (dv 2 (pv 2))) (bD (bx (i:=5) nd (by rfl) (by exact Or.inr rfl))) (aA (aQ (i:=6) nd (by rfl) (by exact Or.inl rfl) (acU (bw RZ (dv 3 (pv 3)) aG (aW _)) (bO cV (bR (dv 5 (pv 5)) (bO nU (dv 3 (pv 3)) aG) (by intro _ _;rfl)) aG) aG))
  (aD (jz (Gy (dv 4 (pv 4)) (ak (zy [5] hc (aY (by rfl)) gP (gG (aY (by rfl))) (aeH (by rfl) (by exact T.z_range) (ak (dv 6 (pv 6)) (ak (dv 0 (pv 0)) au (aj (by rfl))) (aj (by rfl)))) (fun _ _ _ _=>cu) (fun _ _ _ _=>(bO cV (dv 1 (pv 1)) (fK (ak (dv 0 (pv 0)) au (aj (by rfl))))))) au (aj (by rfl))) (by rfl) (Ec (by rfl)) (by rfl) (aj (by rfl)) (by rfl))))))
  (aD (aQ (i:=2) nd (by rfl) (by exact Or.inl rfl) (dv 4 (pv 4)))))))
 refine aD ?_
 exact (aO (dv 2 (pv 2)))
theorem iZ (T:Txt K mg t):cA P w K mg base Ea 10 t.f_picked t.d_picked ["things", "places"] (lift K cN):=by
 have nd:=Bj.nd
 refine d9 (k:=9) T.F_picked Bj fun cdv A outer s H E hr=>?_
 have hc:=hr.calm (by decide)
 refine aD ?_
 exact (aO (zy [0] hc (aY (by rfl)) gP (gG (aY (by rfl))) (bZ (dv 1 (pv 1))) (fun _ _ _ _=>cu) (fun _ _ _ _=>(bR (dv 1 (pv 1)) (dv 0 (pv 0)) (by intro _ _;rfl)))))
theorem nM (T:Txt K mg t):cA P w K mg base Ea 10 t.f_rows_of t.d_rows_of ["table"] (lift K eF):=by
 have nd:=xW.nd
 refine d9 (k:=9) T.F_rows_of xW fun cdv A outer s H E hr=>?_
 have hc:=hr.calm (by decide)
 refine aD ?_
 exact (aO (kZ (ak (Dg (dv 0 (pv 0)) (eV aG) (eV aG)) (ak (Dg (dv 0 (pv 0)) (eV aG) (eV aG)) (ak (Dg (dv 0 (pv 0)) (eV aG) (eV aG)) au (aj (by rfl))) (aj (by rfl))) (aj (by rfl)))))
theorem jt (T:Txt K mg t):cA P w K mg base Ea 11 t.f_table_times_row t.d_table_times_row ["table", "row"] (lift K bL):=by
 have nd:=jw.nd
 refine d9 (k:=10) T.F_table_times_row jw fun cdv A outer s H E hr=>?_
 have hc:=hr.calm (by decide)
 refine aD ?_
 exact (aO (zy [1] hc (aY (by rfl)) gP (gG (aY (by rfl))) (bZ (aF ((nM T).mono (by decide)) hr (by rfl) (by exact T.eF) (by exact T.F_rows_of.kp) (by exact T.b_rows_of) (ak (dv 0 (pv 0)) au (aj (by rfl))) (by decide) (aj (by rfl)) (ao (by rfl)))) (fun _ _ _ _=>cu) (fun _ _ _ _=>(aF ((CK T).mono (by decide)) hr (by rfl) (by exact T.tZ) (by exact T.F_dot.kp) (by exact T.b_dot) (ak (dv 0 (pv 0)) (ak (dv 1 (pv 1)) au (aj (by rfl))) (aj (by rfl))) (by decide) (aj (by rfl)) (ao (by rfl))))))
theorem xP (T:Txt K mg t):cA P w K mg base Ea 10 t.f_flipped t.d_flipped ["table"] (lift K jM):=by
 have nd:=yc.nd
 refine d9 (k:=9) T.F_flipped yc fun cdv A outer s H E hr=>?_
 have hc:=hr.calm (by decide)
 refine aD ?_
 exact (aO (zy [0] hc (aY (by rfl)) gP (gG (aY (by rfl))) (dI (by rfl) (by exact T.z_range) (ak aG au (aj (by rfl))) (lW (by rfl))) (fun _ _ _ _=>cu) (fun _ _ _ _=>(bR (dv 1 (pv 1)) (bO cV (bO cL aG (bO rH (dv 0 (pv 0)) aG)) (bO Ez (dv 0 (pv 0)) aG)) (by intro _ _;rfl)))))
theorem nZ (T:Txt K mg t):cA P w K mg base Ea 11 t.f_table_times_table t.d_table_times_table ["one", "other"] (lift K cg):=by
 have nd:=gU.nd
 refine d9 (k:=10) T.F_table_times_table gU fun cdv A outer s H E hr=>?_
 have hc:=hr.calm (by decide)
 refine aA ?_ ?_
 ·exact (aQ (i:=2) nd (by rfl) (by exact Or.inl rfl) (aF ((nM T).mono (by decide)) hr (by rfl) (by exact T.eF) (by exact T.F_rows_of.kp) (by exact T.b_rows_of) (ak (aF ((xP T).mono (by decide)) hr (by rfl) (by exact T.jM) (by exact T.F_flipped.kp) (by exact T.b_flipped) (ak (dv 1 (pv 1)) au (aj (by rfl))) (by decide) (aj (by rfl)) (ao (by rfl))) au (aj (by rfl))) (by decide) (aj (by rfl)) (ao (by rfl))))
 refine aA ?_ ?_
 ·exact (aQ (i:=3) nd (by rfl) (by exact Or.inl rfl) (yF au))
 refine aA ?_ ?_
 ·exact (fU Ml hc (bZ (aF ((nM T).mono (by decide)) hr (by rfl) (by exact T.eF) (by exact T.F_rows_of.kp) (by exact T.b_rows_of) (ak (dv 0 (pv 0)) au (aj (by rfl))) (by decide) (aj (by rfl)) (ao (by rfl)))) (bD (bx (i:=4) nd (by rfl) (by exact Or.inr rfl))) (aD (jz (Gy (dv 3 (pv 3)) (ak (zy [4] hc (aY (by rfl)) gP (gG (aY (by rfl))) (bZ (dv 2 (pv 2))) (fun _ _ _ _=>cu) (fun _ _ _ _=>(aF ((CK T).mono (by decide)) hr (by rfl) (by exact T.tZ) (by exact T.F_dot.kp) (by exact T.b_dot) (ak (dv 1 (pv 1)) (ak (dv 0 (pv 0)) au (aj (by rfl))) (aj (by rfl))) (by decide) (aj (by rfl)) (ao (by rfl))))) au (aj (by rfl))) (by rfl) (Ec (by rfl)) (by rfl) (aj (by rfl)) (by rfl)))))
 refine aD ?_
 exact (aO (dv 3 (pv 3)))
theorem Bf (T:Txt K mg t):cA P w K mg base Ea 11 t.f_turned t.d_turned ["table"] (lift K lu):=by
 have nd:=Di.nd
 refine d9 (k:=10) T.F_turned Di fun cdv A outer s H E hr=>?_
 have hc:=hr.calm (by decide)
 refine aA ?_ ?_
 ·exact (aQ (i:=1) nd (by rfl) (by exact Or.inl rfl) (aF ((nM T).mono (by decide)) hr (by rfl) (by exact T.eF) (by exact T.F_rows_of.kp) (by exact T.b_rows_of) (ak (dv 0 (pv 0)) au (aj (by rfl))) (by decide) (aj (by rfl)) (ao (by rfl))))
 refine aD ?_
 exact (aO (bO cV (bO cV (aF ((lB T).mono (by decide)) hr (by rfl) (by exact T.fM) (by exact T.F_cross.kp) (by exact T.b_cross) (ak (bR (dv 1 (pv 1)) aG (by intro _ _;rfl)) (ak (bR (dv 1 (pv 1)) aG (by intro _ _;rfl)) au (aj (by rfl))) (aj (by rfl))) (by decide) (aj (by rfl)) (ao (by rfl))) (aF ((lB T).mono (by decide)) hr (by rfl) (by exact T.fM) (by exact T.F_cross.kp) (by exact T.b_cross) (ak (bR (dv 1 (pv 1)) aG (by intro _ _;rfl)) (ak (bR (dv 1 (pv 1)) aG (by intro _ _;rfl)) au (aj (by rfl))) (aj (by rfl))) (by decide) (aj (by rfl)) (ao (by rfl)))) (aF ((lB T).mono (by decide)) hr (by rfl) (by exact T.fM) (by exact T.F_cross.kp) (by exact T.b_cross) (ak (bR (dv 1 (pv 1)) aG (by intro _ _;rfl)) (ak (bR (dv 1 (pv 1)) aG (by intro _ _;rfl)) au (aj (by rfl))) (aj (by rfl))) (by decide) (aj (by rfl)) (ao (by rfl)))))
theorem HB (T:Txt K mg t):cA P w K mg base Ea 13 t.f_led t.d_led ["by", "spot"] (lift K xG):=by
 have nd:=Ry.nd
 refine d9 (k:=12) T.F_led Ry fun cdv A outer s H E hr=>?_
 have hc:=hr.calm (by decide)
 refine aD ?_
 exact (aO (aF ((nJ T).mono (by decide)) hr (by rfl) (by exact T.eX) (by exact T.F_plain.kp) (by exact T.b_plain) (ak (aF ((jt T).mono (by decide)) hr (by rfl) (by exact T.bL) (by exact T.F_table_times_row.kp) (by exact T.b_table_times_row) (ak (dv 0 (pv 0)) (ak (dv 1 (pv 1)) au (aj (by rfl))) (aj (by rfl))) (by decide) (aj (by rfl)) (ao (by rfl))) au (aj (by rfl))) (by decide) (aj (by rfl)) (ao (by rfl))))
theorem El (T:Txt K mg t):cA P w K mg base Ea 13 t.f_then t.d_then ["one", "other"] (lift K q9):=by
 have nd:=Ld.nd
 refine d9 (k:=12) T.F_then Ld fun cdv A outer s H E hr=>?_
 have hc:=hr.calm (by decide)
 refine aD ?_
 exact (aO (aF ((nJ T).mono (by decide)) hr (by rfl) (by exact T.eX) (by exact T.F_plain.kp) (by exact T.b_plain) (ak (aF ((nZ T).mono (by decide)) hr (by rfl) (by exact T.cg) (by exact T.F_table_times_table.kp) (by exact T.b_table_times_table) (ak (dv 1 (pv 1)) (ak (dv 0 (pv 0)) au (aj (by rfl))) (aj (by rfl))) (by decide) (aj (by rfl)) (ao (by rfl))) au (aj (by rfl))) (by decide) (aj (by rfl)) (ao (by rfl))))
theorem Lj (T:Txt K mg t):cA P w K mg base Ea 13 t.f_back t.d_back ["by"] (lift K vW):=by
 have nd:=Jm.nd
 refine d9 (k:=12) T.F_back Jm fun cdv A outer s H E hr=>?_
 have hc:=hr.calm (by decide)
 refine aD ?_
 exact (aO (aF ((nJ T).mono (by decide)) hr (by rfl) (by exact T.eX) (by exact T.F_plain.kp) (by exact T.b_plain) (ak (aF ((xP T).mono (by decide)) hr (by rfl) (by exact T.jM) (by exact T.F_flipped.kp) (by exact T.b_flipped) (ak (aF ((Bf T).mono (by decide)) hr (by rfl) (by exact T.lu) (by exact T.F_turned.kp) (by exact T.b_turned) (ak (dv 0 (pv 0)) au (aj (by rfl))) (by decide) (aj (by rfl)) (ao (by rfl))) au (aj (by rfl))) (by decide) (aj (by rfl)) (ao (by rfl))) au (aj (by rfl))) (by decide) (aj (by rfl)) (ao (by rfl))))
theorem jU (T:Txt K mg t):cA P w K mg base Ea 10 t.f_tiles t.d_tiles [] (lift K fB):=by
 have nd:=Hw.nd
 refine d9 (k:=9) T.F_tiles Hw fun cdv A outer s H E hr=>?_
 have hc:=hr.calm (by decide)
 refine aD ?_
 exact (aO (gY Bu (by rfl) (by exact T.z_list) boot_list (ak (dc (v:=.ref t.a_TILES) (J1 (by rfl) T.g_TILES (by rfl)) T.r_TILES) au (aj (by rfl))) (by decide) (by decide) (aj (by rfl)) (ao (by rfl))))
theorem o7 (T:Txt K mg t):cA P w K mg base Ea 12 t.f_are_free t.d_are_free ["four"] (lift K eY):=by
 have nd:=uW.nd
 refine d9 (k:=11) T.F_are_free uW fun cdv A outer s H E hr=>?_
 have hc:=hr.calm (by decide)
 refine aA ?_ ?_
 ·exact (aQ (i:=1) nd (by rfl) (by exact Or.inl rfl) (kZ (ak (aF ((Ac T).mono (by decide)) hr (by rfl) (by exact T.vV) (by exact T.F_turn.kp) (by exact T.b_turn) (ak (bR (dv 0 (pv 0)) aG (by intro _ _;rfl)) (ak (bR (dv 0 (pv 0)) aG (by intro _ _;rfl)) (ak (bR (dv 0 (pv 0)) aG (by intro _ _;rfl)) au (aj (by rfl))) (aj (by rfl))) (aj (by rfl))) (by decide) (aj (by rfl)) (ao (by rfl))) (ak (aF ((Ac T).mono (by decide)) hr (by rfl) (by exact T.vV) (by exact T.F_turn.kp) (by exact T.b_turn) (ak (bR (dv 0 (pv 0)) aG (by intro _ _;rfl)) (ak (bR (dv 0 (pv 0)) aG (by intro _ _;rfl)) (ak (bR (dv 0 (pv 0)) aG (by intro _ _;rfl)) au (aj (by rfl))) (aj (by rfl))) (aj (by rfl))) (by decide) (aj (by rfl)) (ao (by rfl))) (ak (aF ((Ac T).mono (by decide)) hr (by rfl) (by exact T.vV) (by exact T.F_turn.kp) (by exact T.b_turn) (ak (bR (dv 0 (pv 0)) aG (by intro _ _;rfl)) (ak (bR (dv 0 (pv 0)) aG (by intro _ _;rfl)) (ak (bR (dv 0 (pv 0)) aG (by intro _ _;rfl)) au (aj (by rfl))) (aj (by rfl))) (aj (by rfl))) (by decide) (aj (by rfl)) (ao (by rfl))) (ak (aF ((Ac T).mono (by decide)) hr (by rfl) (by exact T.vV) (by exact T.F_turn.kp) (by exact T.b_turn) (ak (bR (dv 0 (pv 0)) aG (by intro _ _;rfl)) (ak (bR (dv 0 (pv 0)) aG (by intro _ _;rfl)) (ak (bR (dv 0 (pv 0)) aG (by intro _ _;rfl)) au (aj (by rfl))) (aj (by rfl))) (aj (by rfl))) (by decide) (aj (by rfl)) (ao (by rfl))) au (aj (by rfl))) (aj (by rfl))) (aj (by rfl))) (aj (by rfl)))))
 refine aD ?_
 exact (aO (wj abK aG (dv 1 (pv 1)) (by with_unfolding_all rfl)))
theorem qj (T:Txt K mg t):cA P w K mg base Ea 13 t.f_from_tiles t.d_from_tiles ["four"] (lift K gK):=by
 have nd:=qK.nd
 refine d9 (k:=12) T.F_from_tiles qK fun cdv A outer s H E hr=>?_
 have hc:=hr.calm (by decide)
 refine aA ?_ ?_
 ·exact (aQ (i:=1) nd (by rfl) (by exact Or.inr rfl) (aF ((jt T).mono (by decide)) hr (by rfl) (by exact T.bL) (by exact T.F_table_times_row.kp) (by exact T.b_table_times_row) (ak (aF ((Bf T).mono (by decide)) hr (by rfl) (by exact T.lu) (by exact T.F_turned.kp) (by exact T.b_turned) (ak (bO cV (bO cV (bR (dv 0 (pv 0)) aG (by intro _ _;rfl)) (bR (dv 0 (pv 0)) aG (by intro _ _;rfl))) (bR (dv 0 (pv 0)) aG (by intro _ _;rfl))) au (aj (by rfl))) (by decide) (aj (by rfl)) (ao (by rfl))) (ak (bR (dv 0 (pv 0)) aG (by intro _ _;rfl)) au (aj (by rfl))) (aj (by rfl))) (by decide) (aj (by rfl)) (ao (by rfl))))
 refine aD ?_
 exact (aO (aF ((nJ T).mono (by decide)) hr (by rfl) (by exact T.eX) (by exact T.F_plain.kp) (by exact T.b_plain) (ak (zy [0,1] hc (aY (by rfl)) gP (gG (aY (by rfl))) (dI (by rfl) (by exact T.z_range) (ak aG au (aj (by rfl))) (lW (by rfl))) (fun _ _ _ _=>cu) (fun _ _ _ _=>(bO cL (bR (dv 2 (pv 2)) (bO rH (dv 0 (pv 0)) aG) (by intro _ _;rfl)) (bR (bR (dv 1 (pv 1)) (bO rH (dv 0 (pv 0)) aG) (by intro _ _;rfl)) (bO Ez (dv 0 (pv 0)) aG) (by intro _ _;rfl))))) au (aj (by rfl))) (by decide) (aj (by rfl)) (ao (by rfl))))
theorem cY (T:Txt K mg t):cA P w K mg base Ea 14 t.f_map_between t.d_map_between ["four", "others"] (lift K bC):=by
 have nd:=oE.nd
 refine d9 (k:=13) T.F_map_between oE fun cdv A outer s H E hr=>?_
 have hc:=hr.calm (by decide)
 refine aA ?_ ?_
 ·exact (cG (zB (pR (iW (aF ((o7 T).mono (by decide)) hr (by rfl) (by exact T.eY) (by exact T.F_are_free.kp) (by exact T.b_are_free) (ak (dv 0 (pv 0)) au (aj (by rfl))) (by decide) (aj (by rfl)) (ao (by rfl))))) (tB (pR (iW (aF ((o7 T).mono (by decide)) hr (by rfl) (by exact T.eY) (by exact T.F_are_free.kp) (by exact T.b_are_free) (ak (dv 1 (pv 1)) au (aj (by rfl))) (by decide) (aj (by rfl)) (ao (by rfl))))))).pt (aD pX) aZ)
 refine aD ?_
 exact (aO (aF ((El T).mono (by decide)) hr (by rfl) (by exact T.q9) (by exact T.F_then.kp) (by exact T.b_then) (ak (aF ((Lj T).mono (by decide)) hr (by rfl) (by exact T.vW) (by exact T.F_back.kp) (by exact T.b_back) (ak (aF ((qj T).mono (by decide)) hr (by rfl) (by exact T.gK) (by exact T.F_from_tiles.kp) (by exact T.b_from_tiles) (ak (dv 0 (pv 0)) au (aj (by rfl))) (by decide) (aj (by rfl)) (ao (by rfl))) au (aj (by rfl))) (by decide) (aj (by rfl)) (ao (by rfl))) (ak (aF ((qj T).mono (by decide)) hr (by rfl) (by exact T.gK) (by exact T.F_from_tiles.kp) (by exact T.b_from_tiles) (ak (dv 1 (pv 1)) au (aj (by rfl))) (by decide) (aj (by rfl)) (ao (by rfl))) au (aj (by rfl))) (aj (by rfl))) (by decide) (aj (by rfl)) (ao (by rfl))))
theorem eH (T:Txt K mg t):cA P w K mg base Ea 10 t.f_check_picture t.d_check_picture ["picture"] (lift K bI):=by
 have nd:=mq.nd
 refine d9 (k:=9) T.F_check_picture mq fun cdv A outer s H E hr=>?_
 have hc:=hr.calm (by decide)
 refine aD ?_
 exact (cG (zB (bw WT (bH kh (by rfl) (by exact T.z_len) Mx (ak (dv 0 (pv 0)) au (aj (by rfl))) (by decide) (by decide) (aj (by rfl)) (ao (by rfl))) aG (aW _)) (tB (bw RZ (bH kh (by rfl) (by exact T.z_len) Mx (ak (dv 0 (pv 0)) au (aj (by rfl))) (by decide) (by decide) (aj (by rfl)) (ao (by rfl))) aG (aW _)))).pt (aD pX) aZ)
theorem jR (T:Txt K mg t):cA P w K mg base Ea 13 t.f_first_free t.d_first_free ["picture"] (lift K cB):=by
 have nd:=qY.nd
 refine d9 (k:=12) T.F_first_free qY fun cdv A outer s H E hr=>?_
 have hc:=hr.calm (by decide)
 refine aA ?_ ?_
 ·exact (fU Ml hc (bZ (aF ((vA T).mono (by decide)) hr (by rfl) (by exact T.iC) (by exact T.F_rising.kp) (by exact T.b_rising) (ak (bH kh (by rfl) (by exact T.z_len) Mx (ak (dv 0 (pv 0)) au (aj (by rfl))) (by decide) (by decide) (aj (by rfl)) (ao (by rfl))) (ak aG au (aj (by rfl))) (aj (by rfl))) (by decide) (aj (by rfl)) (ao (by rfl)))) (bD (bx (i:=1) nd (by rfl) (by exact Or.inl rfl))) (aD (cG (iW (aF ((o7 T).mono (by decide)) hr (by rfl) (by exact T.eY) (by exact T.F_are_free.kp) (by exact T.b_are_free) (ak (aF ((iZ T).mono (by decide)) hr (by rfl) (by exact T.cN) (by exact T.F_picked.kp) (by exact T.b_picked) (ak (dv 0 (pv 0)) (ak (dv 1 (pv 1)) au (aj (by rfl))) (aj (by rfl))) (by decide) (aj (by rfl)) (ao (by rfl))) au (aj (by rfl))) (by decide) (aj (by rfl)) (ao (by rfl)))) (aD (aO (dv 1 (pv 1)))) aZ)))
 refine aD ?_
 exact (aO nG)
theorem ni (T:Txt K mg t):cA P w K mg base Ea 10 t.f_unlike_spots t.d_unlike_spots ["picture"] (lift K cW):=by
 have nd:=mO.nd
 refine d9 (k:=9) T.F_unlike_spots mO fun cdv A outer s H E hr=>?_
 have hc:=hr.calm (by decide)
 refine aA ?_ ?_
 ·exact (aQ (i:=1) nd (by rfl) (by exact Or.inl rfl) (yF au))
 refine aA ?_ ?_
 ·exact (fU Ml hc (bZ (dv 0 (pv 0))) (bD (bx (i:=2) nd (by rfl) (by exact Or.inl rfl))) (aD (cG (bw (Xo (mz hr)) (dv 2 (pv 2)) (dv 1 (pv 1)) (by with_unfolding_all rfl)) (aD (jz (ux (dv 1 (pv 1)) (ak (dv 2 (pv 2)) au (aj (by rfl))) (by rfl) (Ec (by rfl)) (by rfl) (aj (by rfl)) (by rfl)))) aZ)))
 refine aD ?_
 exact (aO (dv 1 (pv 1)))
theorem lV (T:Txt K mg t):cA P w K mg base Ea 15 t.f_line_of_three t.d_line_of_three ["unlike"] (lift K cF):=by
 have nd:=lM.nd
 refine d9 (k:=14) T.F_line_of_three lM fun cdv A outer s H E hr=>?_
 have hc:=hr.calm (by decide)
 refine aA ?_ ?_
 ·exact (fU Ml hc (bZ (aF ((vA T).mono (by decide)) hr (by rfl) (by exact T.iC) (by exact T.F_rising.kp) (by exact T.b_rising) (ak (bH kh (by rfl) (by exact T.z_len) Mx (ak (dv 0 (pv 0)) au (aj (by rfl))) (by decide) (by decide) (aj (by rfl)) (ao (by rfl))) (ak aG au (aj (by rfl))) (aj (by rfl))) (by decide) (aj (by rfl)) (ao (by rfl)))) (bD (bx (i:=1) nd (by rfl) (by exact Or.inl rfl))) (aA (aQ (i:=2) nd (by rfl) (by exact Or.inl rfl) (aF ((iZ T).mono (by decide)) hr (by rfl) (by exact T.cN) (by exact T.F_picked.kp) (by exact T.b_picked) (ak (dv 0 (pv 0)) (ak (dv 1 (pv 1)) au (aj (by rfl))) (aj (by rfl))) (by decide) (aj (by rfl)) (ao (by rfl))))
  (aD (cG (iW (aF ((jO T).mono (by decide)) hr (by rfl) (by exact T.cU) (by exact T.F_on_line.kp) (by exact T.b_on_line) (ak (dv 2 (pv 2)) au (aj (by rfl))) (by decide) (aj (by rfl)) (ao (by rfl)))) (aD (aO (aF ((Vn T).mono (by decide)) hr (by rfl) (by exact T.CZ) (by exact T.F_join.kp) (by exact T.b_join) (ak (bR (dv 2 (pv 2)) aG (by intro _ _;rfl)) (ak (bR (dv 2 (pv 2)) aG (by intro _ _;rfl)) au (aj (by rfl))) (aj (by rfl))) (by decide) (aj (by rfl)) (ao (by rfl))))) aZ))))
 refine aD ?_
 exact (aO nG)
theorem zaI (T:Txt K mg t):cA P w K mg base Ea 16 t.f_kind_of t.d_kind_of ["picture"] (lift K qN):=by
 have nd:=yh.nd
 refine d9 (k:=15) T.F_kind_of yh fun cdv A outer s H E hr=>?_
 have hc:=hr.calm (by decide)
 refine aA ?_ ?_
 ·exact (jz (aF ((eH T).mono (by decide)) hr (by rfl) (by exact T.bI) (by exact T.F_check_picture.kp) (by exact T.b_check_picture) (ak (dv 0 (pv 0)) au (aj (by rfl))) (by decide) (aj (by rfl)) (ao (by rfl))))
 refine aA ?_ ?_
 ·exact (cG (bw qW (aF ((jR T).mono (by decide)) hr (by rfl) (by exact T.cB) (by exact T.F_first_free.kp) (by exact T.b_first_free) (ak (dv 0 (pv 0)) au (aj (by rfl))) (by decide) (aj (by rfl)) (ao (by rfl))) nG (aW _)) (aD (aO tX)) aZ)
 refine aA ?_ ?_
 ·exact (cG (bw qW (aF ((lV T).mono (by decide)) hr (by rfl) (by exact T.cF) (by exact T.F_line_of_three.kp) (by exact T.b_line_of_three) (ak (aF ((ni T).mono (by decide)) hr (by rfl) (by exact T.cW) (by exact T.F_unlike_spots.kp) (by exact T.b_unlike_spots) (ak (dv 0 (pv 0)) au (aj (by rfl))) (by decide) (aj (by rfl)) (ao (by rfl))) au (aj (by rfl))) (by decide) (aj (by rfl)) (ao (by rfl))) nG (aW _)) (aD (aO tX)) aZ)
 refine aD ?_
 exact (aO tX)
theorem Gp (T:Txt K mg t):cA P w K mg base Ea 11 t.f_units t.d_units [] (lift K pD):=by
 have nd:=GQ.nd
 refine d9 (k:=10) T.F_units GQ fun cdv A outer s H E hr=>?_
 have hc:=hr.calm (by decide)
 refine aD ?_
 exact (aO (Dg (lH ((jU T).mono (by decide)) hr (by rfl) (by exact T.fB) (by exact T.F_tiles.kp) (by exact T.b_tiles)) afN (eV aG)))
theorem iQ (T:Txt K mg t):cA P w K mg base Ea 13 t.f_spot_between t.d_spot_between ["spots"] (lift K cD):=by
 have nd:=mU.nd
 refine d9 (k:=12) T.F_spot_between mU fun cdv A outer s H E hr=>?_
 have hc:=hr.calm (by decide)
 refine aD ?_
 exact (aO (aF ((nJ T).mono (by decide)) hr (by rfl) (by exact T.eX) (by exact T.F_plain.kp) (by exact T.b_plain) (ak (zy [0] hc (aY (by rfl)) gP (gG (aY (by rfl))) (dI (by rfl) (by exact T.z_range) (ak aG au (aj (by rfl))) (lW (by rfl))) (fun _ _ _ _=>cu) (fun _ _ _ _=>(bH (Z9 hc) (by rfl) (by exact T.z_sum) boot_sum (ak (zy [0] hc (aY (by rfl)) gP (gG (aY (by rfl))) (bZ (dv 1 (pv 1))) (fun _ _ _ _=>cu) (fun _ _ _ _=>(bR (dv 0 (pv 0)) (dv 1 (pv 1)) (by intro _ _;rfl)))) au (aj (by rfl))) (by decide) (by decide) (aj (by rfl)) (ao (by rfl))))) au (aj (by rfl))) (by decide) (aj (by rfl)) (ao (by rfl))))
theorem qJ (T:Txt K mg t):cA P w K mg base Ea 15 t.f_leading_of_line t.d_leading_of_line ["unlike", "line"] (lift K dR):=by
 have nd:=jh.nd
 refine d9 (k:=14) T.F_leading_of_line jh fun cdv A outer s H E hr=>?_
 have hc:=hr.calm (by decide)
 refine aA ?_ ?_
 ·exact (zj [1] (i:=2) nd (by rfl) (by exact Or.inl rfl) hc (aY (by rfl)) gP (gG (aY (by rfl))) (bZ (dv 0 (pv 0))) (fun _ _ _ _=>(sE (iW (aF ((yR T).mono (by decide)) hr (by rfl) (by exact T.mL) (by exact T.F_lies_on.kp) (by exact T.b_lies_on) (ak (dv 0 (pv 0)) (ak (dv 1 (pv 1)) au (aj (by rfl))) (aj (by rfl))) (by decide) (aj (by rfl)) (ao (by rfl)))))) (fun _ _ _ _=>(dv 0 (pv 0))))
 refine aA ?_ ?_
 ·exact (zj [1] (i:=3) nd (by rfl) (by exact Or.inl rfl) hc (aY (by rfl)) gP (gG (aY (by rfl))) (bZ (bO cV (dv 0 (pv 0)) (lH ((Gp T).mono (by decide)) hr (by rfl) (by exact T.pD) (by exact T.F_units.kp) (by exact T.b_units)))) (fun _ _ _ _=>(sE (pR (iW (aF ((yR T).mono (by decide)) hr (by rfl) (by exact T.mL) (by exact T.F_lies_on.kp) (by exact T.b_lies_on) (ak (dv 0 (pv 0)) (ak (dv 1 (pv 1)) au (aj (by rfl))) (aj (by rfl))) (by decide) (aj (by rfl)) (ao (by rfl))))))) (fun _ _ _ _=>(dv 0 (pv 0))))
 refine aD ?_
 first
  | (with_reducible exact (aO (aF (k:=14) (by with_unfolding_all exact (cY T).mono (by decide)) (by with_unfolding_all exact hr) (by with_unfolding_all rfl) (by with_unfolding_all exact T.bC) (by with_unfolding_all exact T.F_map_between.kp) (by with_unfolding_all exact T.b_map_between) (ak (kZ (ak (bR (dv 2 (by with_unfolding_all exact pv 2)) aG (by with_unfolding_all (intro _ _;rfl))) (ak (bR (dv 2 (by with_unfolding_all exact pv 2)) aG (by with_unfolding_all (intro _ _;rfl))) (ak (bR (dv 3 (by with_unfolding_all exact pv 3)) aG (by with_unfolding_all (intro _ _;rfl))) (ak (aF (k:=14) (by with_unfolding_all exact (iQ T).mono (by decide)) (by with_unfolding_all exact hr) (by with_unfolding_all rfl) (by with_unfolding_all exact T.cD) (by with_unfolding_all exact T.F_spot_between.kp) (by with_unfolding_all exact T.b_spot_between) (ak (kZ (ak (bR (dv 3 (by with_unfolding_all exact pv 3)) aG (by with_unfolding_all (intro _ _;rfl))) (ak (bR (dv 2 (by with_unfolding_all exact pv 2)) aG (by with_unfolding_all (intro _ _;rfl))) au (aj (by with_unfolding_all rfl))) (aj (by with_unfolding_all rfl)))) au (aj (by with_unfolding_all rfl))) (by decide) (aj (by with_unfolding_all rfl)) (ao (by with_unfolding_all rfl))) au (aj (by with_unfolding_all rfl))) (aj (by with_unfolding_all rfl))) (aj (by with_unfolding_all rfl))) (aj (by with_unfolding_all rfl)))) (ak (lH (k:=14) (by with_unfolding_all exact (jU T).mono (by decide)) (by with_unfolding_all exact hr) (by with_unfolding_all rfl) (by with_unfolding_all exact T.fB) (by with_unfolding_all exact T.F_tiles.kp) (by with_unfolding_all exact T.b_tiles)) au (aj (by with_unfolding_all rfl))) (aj (by with_unfolding_all rfl))) (by decide) (aj (by with_unfolding_all rfl)) (ao (by with_unfolding_all rfl)))))
  | (exact (aO (aF ((cY T).mono (by decide)) hr (by rfl) (by exact T.bC) (by exact T.F_map_between.kp) (by exact T.b_map_between) (ak (kZ (ak (bR (dv 2 (pv 2)) aG (by intro _ _;rfl)) (ak (bR (dv 2 (pv 2)) aG (by intro _ _;rfl)) (ak (bR (dv 3 (pv 3)) aG (by intro _ _;rfl)) (ak (aF ((iQ T).mono (by decide)) hr (by rfl) (by exact T.cD) (by exact T.F_spot_between.kp) (by exact T.b_spot_between) (ak (kZ (ak (bR (dv 3 (pv 3)) aG (by intro _ _;rfl)) (ak (bR (dv 2 (pv 2)) aG (by intro _ _;rfl)) au (aj (by rfl))) (aj (by rfl)))) au (aj (by rfl))) (by decide) (aj (by rfl)) (ao (by rfl))) au (aj (by rfl))) (aj (by rfl))) (aj (by rfl))) (aj (by rfl)))) (ak (lH ((jU T).mono (by decide)) hr (by rfl) (by exact T.fB) (by exact T.F_tiles.kp) (by exact T.b_tiles)) au (aj (by rfl))) (aj (by rfl))) (by decide) (aj (by rfl)) (ao (by rfl)))))
theorem afg (T:Txt K mg t):cA P w K mg base Ea 13 t.f_filled_up t.d_filled_up ["unlike"] (lift K j9):=by
 have nd:=tL.nd
 refine d9 (k:=12) T.F_filled_up tL fun cdv A outer s H E hr=>?_
 have hc:=hr.calm (by decide)
 refine aA ?_ ?_
 ·exact (aQ (i:=1) nd (by rfl) (by exact Or.inl rfl) (gY Vu (by rfl) (by exact T.z_list) boot_list (ak (dv 0 (pv 0)) au (aj (by rfl))) (by decide) (by decide) (aj (by rfl)) (ao (by rfl))))
 refine aA ?_ ?_
 ·exact (fU Ml hc (bZ (lH ((Gp T).mono (by decide)) hr (by rfl) (by exact T.pD) (by exact T.F_units.kp) (by exact T.b_units))) (bD (bx (i:=2) nd (by rfl) (by exact Or.inl rfl))) (aD (cG (yr (bw (Ai (mz hr)) (bH kh (by rfl) (by exact T.z_len) Mx (ak (dv 1 (pv 1)) au (aj (by rfl))) (by decide) (by decide) (aj (by rfl)) (ao (by rfl))) aG (aW _)) (wG (bw (CV (mz hr)) (dv 2 (pv 2)) (bR (dv 1 (pv 1)) aG (by intro _ _;rfl)) (aW _)))).pt (aD (jz (ux (dv 1 (pv 1)) (ak (dv 2 (pv 2)) au (aj (by rfl))) (by rfl) (Ec (by rfl)) (by rfl) (aj (by rfl)) (by rfl)))) (aD (cG (yr (bw (Ai (mz hr)) (bH kh (by rfl) (by exact T.z_len) Mx (ak (dv 1 (pv 1)) au (aj (by rfl))) (by decide) (by decide) (aj (by rfl)) (ao (by rfl))) aG (aW _)) (wG (pR (iW (aF ((jO T).mono (by decide)) hr (by rfl) (by exact T.cU) (by exact T.F_on_line.kp) (by exact T.b_on_line) (ak (bO cV (dv 1 (pv 1)) (kZ (ak (dv 2 (pv 2)) au (aj (by rfl))))) au (aj (by rfl))) (by decide) (aj (by rfl)) (ao (by rfl))))))).pt (aD (jz (ux (dv 1 (pv 1)) (ak (dv 2 (pv 2)) au (aj (by rfl))) (by rfl) (Ec (by rfl)) (by rfl) (aj (by rfl)) (by rfl)))) aZ)))))
 refine aD ?_
 exact (aO (dv 1 (pv 1)))
theorem rF (T:Txt K mg t):cA P w K mg base Ea 15 t.f_leading_of_few t.d_leading_of_few ["unlike"] (lift K eO):=by
 have nd:=jK.nd
 refine d9 (k:=14) T.F_leading_of_few jK fun cdv A outer s H E hr=>?_
 have hc:=hr.calm (by decide)
 refine aA ?_ ?_
 ·exact (aQ (i:=1) nd (by rfl) (by exact Or.inl rfl) (aF ((afg T).mono (by decide)) hr (by rfl) (by exact T.j9) (by exact T.F_filled_up.kp) (by exact T.b_filled_up) (ak (dv 0 (pv 0)) au (aj (by rfl))) (by decide) (aj (by rfl)) (ao (by rfl))))
 refine aD ?_
 exact (aO (aF ((cY T).mono (by decide)) hr (by rfl) (by exact T.bC) (by exact T.F_map_between.kp) (by exact T.b_map_between) (ak (bO cV (dv 1 (pv 1)) (kZ (ak (aF ((iQ T).mono (by decide)) hr (by rfl) (by exact T.cD) (by exact T.F_spot_between.kp) (by exact T.b_spot_between) (ak (dv 1 (pv 1)) au (aj (by rfl))) (by decide) (aj (by rfl)) (ao (by rfl))) au (aj (by rfl))))) (ak (lH ((jU T).mono (by decide)) hr (by rfl) (by exact T.fB) (by exact T.F_tiles.kp) (by exact T.b_tiles)) au (aj (by rfl))) (aj (by rfl))) (by decide) (aj (by rfl)) (ao (by rfl))))
theorem rN (T:Txt K mg t):cA P w K mg base Ea 16 t.f_leading t.d_leading ["picture"] (lift K gD):=by
 have nd:=yN.nd
 refine d9 (k:=15) T.F_leading yN fun cdv A outer s H E hr=>?_
 have hc:=hr.calm (by decide)
 refine aA ?_ ?_
 ·exact (jz (aF ((eH T).mono (by decide)) hr (by rfl) (by exact T.bI) (by exact T.F_check_picture.kp) (by exact T.b_check_picture) (ak (dv 0 (pv 0)) au (aj (by rfl))) (by decide) (aj (by rfl)) (ao (by rfl))))
 refine aA ?_ ?_
 ·exact (aQ (i:=1) nd (by rfl) (by exact Or.inl rfl) (aF ((jR T).mono (by decide)) hr (by rfl) (by exact T.cB) (by exact T.F_first_free.kp) (by exact T.b_first_free) (ak (dv 0 (pv 0)) au (aj (by rfl))) (by decide) (aj (by rfl)) (ao (by rfl))))
 refine aA ?_ ?_
 ·exact (cG (bw qW (dv 1 (pv 1)) nG (aW _)) (aD (aO (aF ((cY T).mono (by decide)) hr (by rfl) (by exact T.bC) (by exact T.F_map_between.kp) (by exact T.b_map_between) (ak (aF ((iZ T).mono (by decide)) hr (by rfl) (by exact T.cN) (by exact T.F_picked.kp) (by exact T.b_picked) (ak (dv 0 (pv 0)) (ak (dv 1 (pv 1)) au (aj (by rfl))) (aj (by rfl))) (by decide) (aj (by rfl)) (ao (by rfl))) (ak (lH ((jU T).mono (by decide)) hr (by rfl) (by exact T.fB) (by exact T.F_tiles.kp) (by exact T.b_tiles)) au (aj (by rfl))) (aj (by rfl))) (by decide) (aj (by rfl)) (ao (by rfl))))) aZ)
 refine aA ?_ ?_
 ·exact (aQ (i:=2) nd (by rfl) (by exact Or.inl rfl) (aF ((ni T).mono (by decide)) hr (by rfl) (by exact T.cW) (by exact T.F_unlike_spots.kp) (by exact T.b_unlike_spots) (ak (dv 0 (pv 0)) au (aj (by rfl))) (by decide) (aj (by rfl)) (ao (by rfl))))
 refine aA ?_ ?_
 ·exact (aQ (i:=3) nd (by rfl) (by exact Or.inl rfl) (aF ((lV T).mono (by decide)) hr (by rfl) (by exact T.cF) (by exact T.F_line_of_three.kp) (by exact T.b_line_of_three) (ak (dv 2 (pv 2)) au (aj (by rfl))) (by decide) (aj (by rfl)) (ao (by rfl))))
 refine aA ?_ ?_
 ·exact (cG (bw qW (dv 3 (pv 3)) nG (aW _)) (aD (aO (aF ((qJ T).mono (by decide)) hr (by rfl) (by exact T.dR) (by exact T.F_leading_of_line.kp) (by exact T.b_leading_of_line) (ak (dv 2 (pv 2)) (ak (dv 3 (pv 3)) au (aj (by rfl))) (aj (by rfl))) (by decide) (aj (by rfl)) (ao (by rfl))))) aZ)
 refine aD ?_
 exact (aO (aF ((rF T).mono (by decide)) hr (by rfl) (by exact T.eO) (by exact T.F_leading_of_few.kp) (by exact T.b_leading_of_few) (ak (dv 2 (pv 2)) au (aj (by rfl))) (by decide) (aj (by rfl)) (ao (by rfl))))
theorem wY (T:Txt K mg t):cA P w K mg base Ea 14 t.f_led_picture t.d_led_picture ["by", "picture"] (lift K iM):=by
 have nd:=n8.nd
 refine d9 (k:=13) T.F_led_picture n8 fun cdv A outer s H E hr=>?_
 have hc:=hr.calm (by decide)
 refine aD ?_
 exact (aO (zy [0] hc (aY (by rfl)) gP (gG (aY (by rfl))) (bZ (dv 1 (pv 1))) (fun _ _ _ _=>cu) (fun _ _ _ _=>(aF ((HB T).mono (by decide)) hr (by rfl) (by exact T.xG) (by exact T.F_led.kp) (by exact T.b_led) (ak (dv 1 (pv 1)) (ak (dv 0 (pv 0)) au (aj (by rfl))) (aj (by rfl))) (by decide) (aj (by rfl)) (ao (by rfl))))))
theorem Ek (T:Txt K mg t):cA P w K mg base Ea 17 t.f_form t.d_form ["picture"] (lift K yC):=by
 have nd:=Jy.nd
 refine d9 (k:=16) T.F_form Jy fun cdv A outer s H E hr=>?_
 have hc:=hr.calm (by decide)
 refine aD ?_
 exact (aO (fK (ak (aF ((zaI T).mono (by decide)) hr (by rfl) (by exact T.qN) (by exact T.F_kind_of.kp) (by exact T.b_kind_of) (ak (dv 0 (pv 0)) au (aj (by rfl))) (by decide) (aj (by rfl)) (ao (by rfl))) (ak (aF ((wY T).mono (by decide)) hr (by rfl) (by exact T.iM) (by exact T.F_led_picture.kp) (by exact T.b_led_picture) (ak (aF ((rN T).mono (by decide)) hr (by rfl) (by exact T.gD) (by exact T.F_leading.kp) (by exact T.b_leading) (ak (dv 0 (pv 0)) au (aj (by rfl))) (by decide) (aj (by rfl)) (ao (by rfl))) (ak (dv 0 (pv 0)) au (aj (by rfl))) (aj (by rfl))) (by decide) (aj (by rfl)) (ao (by rfl))) au (aj (by rfl))) (aj (by rfl)))))
theorem zam (T:Txt K mg t):cA P w K mg base Ea 11 t.f_place_off t.d_place_off ["spots"] (lift K kE):=by
 have nd:=sO.nd
 refine d9 (k:=10) T.F_place_off sO fun cdv A outer s H E hr=>?_
 have hc:=hr.calm (by decide)
 refine aA ?_ ?_
 ·exact (zj [0] (i:=1) nd (by rfl) (by exact Or.inl rfl) hc (aY (by rfl)) gP (gG (aY (by rfl))) (bZ (dv 0 (pv 0))) (fun _ _ _ _=>(sE (bw (CV (mz hr)) (dv 0 (pv 0)) (bR (dv 1 (pv 1)) aG (by intro _ _;rfl)) (aW _)))) (fun _ _ _ _=>(dv 0 (pv 0))))
 refine aA ?_ ?_
 ·exact (aQ (i:=2) nd (by rfl) (by exact Or.inr rfl) (aF ((lB T).mono (by decide)) hr (by rfl) (by exact T.fM) (by exact T.F_cross.kp) (by exact T.b_cross) (ak (bR (dv 0 (pv 0)) aG (by intro _ _;rfl)) (ak (bR (dv 1 (pv 1)) aG (by intro _ _;rfl)) au (aj (by rfl))) (aj (by rfl))) (by decide) (aj (by rfl)) (ao (by rfl))))
 refine aD ?_
 exact (aO (bR (zy [2] hc (aY (by rfl)) gP (gG (aY (by rfl))) (dI (by rfl) (by exact T.z_range) (ak aG au (aj (by rfl))) (lW (by rfl))) (fun _ _ _ _=>(sE (bw (CV (mz hr)) (bR (dv 1 (pv 1)) (dv 0 (pv 0)) (by intro _ _;rfl)) aG (aW _)))) (fun _ _ _ _=>(dv 0 (pv 0)))) aG (by intro _ _;rfl)))
theorem nR (T:Txt K mg t):cA P w K mg base Ea 10 t.f_turn_at t.d_turn_at ["one", "other", "place"] (lift K iY):=by
 have nd:=yL.nd
 refine d9 (k:=9) T.F_turn_at yL fun cdv A outer s H E hr=>?_
 have hc:=hr.calm (by decide)
 refine aA ?_ ?_
 ·exact (aQ (i:=3) nd (by rfl) (by exact Or.inl rfl) (bO rH (bO cV (dv 2 (pv 2)) aG) aG))
 refine aA ?_ ?_
 ·exact (aQ (i:=4) nd (by rfl) (by exact Or.inl rfl) (bO rH (bO cV (dv 2 (pv 2)) aG) aG))
 refine aD ?_
 exact (aO (bO nU (bO cL (bR (dv 0 (pv 0)) (dv 3 (pv 3)) (by intro _ _;rfl)) (bR (dv 1 (pv 1)) (dv 4 (pv 4)) (by intro _ _;rfl))) (bO cL (bR (dv 0 (pv 0)) (dv 4 (pv 4)) (by intro _ _;rfl)) (bR (dv 1 (pv 1)) (dv 3 (pv 3)) (by intro _ _;rfl)))))
theorem qX (T:Txt K mg t):cA P w K mg base Ea 10 t.f_has_three_alike t.d_has_three_alike ["four"] (lift K d7):=by
 have nd:=jq.nd
 refine d9 (k:=9) T.F_has_three_alike jq fun cdv A outer s H E hr=>?_
 have hc:=hr.calm (by decide)
 refine aD ?_
 exact (aO (wj RZ (bH (Yp hc) (by rfl) (by exact T.z_max) boot_max (ak (zy [0] hc (aY (by rfl)) gP (gG (aY (by rfl))) (bZ (dv 0 (pv 0))) (fun _ _ _ _=>cu) (fun _ _ _ _=>(Wf (mz hr) (dv 1 (pv 1)) (ak (dv 0 (pv 0)) au (aj (by rfl))) (by rfl) (Ec (by rfl)) (by rfl) (aj (by rfl)) (by rfl)))) au (aj (by rfl))) (by decide) (by decide) (aj (by rfl)) (ao (by rfl))) aG (aW _)))
theorem mj (T:Txt K mg t):cA P w K mg base Ea 12 t.f_throw_numbers t.d_throw_numbers ["four"] (lift K dD):=by
 have nd:=lO.nd
 refine d9 (k:=11) T.F_throw_numbers lO fun cdv A outer s H E hr=>?_
 have hc:=hr.calm (by decide)
 refine aA ?_ ?_
 ·exact (aQ (i:=1) nd (by rfl) (by exact Or.inl rfl) (aF ((zam T).mono (by decide)) hr (by rfl) (by exact T.kE) (by exact T.F_place_off.kp) (by exact T.b_place_off) (ak (dv 0 (pv 0)) au (aj (by rfl))) (by decide) (aj (by rfl)) (ao (by rfl))))
 refine aD ?_
 exact (aO (kZ (ak (bO cL (aF ((nR T).mono (by decide)) hr (by rfl) (by exact T.iY) (by exact T.F_turn_at.kp) (by exact T.b_turn_at) (ak (bR (dv 0 (pv 0)) aG (by intro _ _;rfl)) (ak (bR (dv 0 (pv 0)) aG (by intro _ _;rfl)) (ak (dv 1 (pv 1)) au (aj (by rfl))) (aj (by rfl))) (aj (by rfl))) (by decide) (aj (by rfl)) (ao (by rfl))) (aF ((nR T).mono (by decide)) hr (by rfl) (by exact T.iY) (by exact T.F_turn_at.kp) (by exact T.b_turn_at) (ak (bR (dv 0 (pv 0)) aG (by intro _ _;rfl)) (ak (bR (dv 0 (pv 0)) aG (by intro _ _;rfl)) (ak (dv 1 (pv 1)) au (aj (by rfl))) (aj (by rfl))) (aj (by rfl))) (by decide) (aj (by rfl)) (ao (by rfl)))) (ak (bO cL (aF ((nR T).mono (by decide)) hr (by rfl) (by exact T.iY) (by exact T.F_turn_at.kp) (by exact T.b_turn_at) (ak (bR (dv 0 (pv 0)) aG (by intro _ _;rfl)) (ak (bR (dv 0 (pv 0)) aG (by intro _ _;rfl)) (ak (dv 1 (pv 1)) au (aj (by rfl))) (aj (by rfl))) (aj (by rfl))) (by decide) (aj (by rfl)) (ao (by rfl))) (aF ((nR T).mono (by decide)) hr (by rfl) (by exact T.iY) (by exact T.F_turn_at.kp) (by exact T.b_turn_at) (ak (bR (dv 0 (pv 0)) aG (by intro _ _;rfl)) (ak (bR (dv 0 (pv 0)) aG (by intro _ _;rfl)) (ak (dv 1 (pv 1)) au (aj (by rfl))) (aj (by rfl))) (aj (by rfl))) (by decide) (aj (by rfl)) (ao (by rfl)))) au (aj (by rfl))) (aj (by rfl)))))
theorem xO (T:Txt K mg t):cA P w K mg base Ea 10 t.f_twos_differ t.d_twos_differ ["one", "other"] (lift K fD):=by
 have nd:=n6.nd
 refine d9 (k:=9) T.F_twos_differ n6 fun cdv A outer s H E hr=>?_
 have hc:=hr.calm (by decide)
 refine aD ?_
 exact (aO (wj (CV (mz hr)) (wj (Ai (mz hr)) (bR (dv 0 (pv 0)) aG (by intro _ _;rfl)) (bR (dv 0 (pv 0)) aG (by intro _ _;rfl)) (aW _)) (wj (Ai (mz hr)) (bR (dv 1 (pv 1)) aG (by intro _ _;rfl)) (bR (dv 1 (pv 1)) aG (by intro _ _;rfl)) (aW _)) (aW _)))
theorem ug (T:Txt K mg t):cA P w K mg base Ea 13 t.f_threes_differ t.d_threes_differ ["one", "other"] (lift K dH):=by
 have nd:=lR.nd
 refine d9 (k:=12) T.F_threes_differ lR fun cdv A outer s H E hr=>?_
 have hc:=hr.calm (by decide)
 refine aD ?_
 exact (aO (wj (CV (mz hr)) (aF ((jO T).mono (by decide)) hr (by rfl) (by exact T.cU) (by exact T.F_on_line.kp) (by exact T.b_on_line) (ak (dv 0 (pv 0)) au (aj (by rfl))) (by decide) (aj (by rfl)) (ao (by rfl))) (aF ((jO T).mono (by decide)) hr (by rfl) (by exact T.cU) (by exact T.F_on_line.kp) (by exact T.b_on_line) (ak (dv 1 (pv 1)) au (aj (by rfl))) (by decide) (aj (by rfl)) (ao (by rfl))) (aW _)))
theorem uo (T:Txt K mg t):cA P w K mg base Ea 13 t.f_throws_differ t.d_throws_differ ["one", "other"] (lift K dJ):=by
 have nd:=lU.nd
 refine d9 (k:=12) T.F_throws_differ lU fun cdv A outer s H E hr=>?_
 have hc:=hr.calm (by decide)
 refine aA ?_ ?_
 ·exact (cG (zB (pR (iW (aF ((jO T).mono (by decide)) hr (by rfl) (by exact T.cU) (by exact T.F_on_line.kp) (by exact T.b_on_line) (ak (dv 0 (pv 0)) au (aj (by rfl))) (by decide) (aj (by rfl)) (ao (by rfl))))) (tB (iW (aF ((qX T).mono (by decide)) hr (by rfl) (by exact T.d7) (by exact T.F_has_three_alike.kp) (by exact T.b_has_three_alike) (ak (dv 0 (pv 0)) au (aj (by rfl))) (by decide) (aj (by rfl)) (ao (by rfl)))))).pt (aD (aO Ws)) aZ)
 refine aA ?_ ?_
 ·exact (aQ (i:=2) nd (by rfl) (by exact Or.inl rfl) (aF ((mj T).mono (by decide)) hr (by rfl) (by exact T.dD) (by exact T.F_throw_numbers.kp) (by exact T.b_throw_numbers) (ak (dv 0 (pv 0)) au (aj (by rfl))) (by decide) (aj (by rfl)) (ao (by rfl))))
 refine aA ?_ ?_
 ·exact (aQ (i:=3) nd (by rfl) (by exact Or.inl rfl) (aF ((mj T).mono (by decide)) hr (by rfl) (by exact T.dD) (by exact T.F_throw_numbers.kp) (by exact T.b_throw_numbers) (ak (dv 1 (pv 1)) au (aj (by rfl))) (by decide) (aj (by rfl)) (ao (by rfl))))
 refine aD ?_
 exact (aO (wj (CV (mz hr)) (bO cL (bR (dv 2 (pv 2)) aG (by intro _ _;rfl)) (bR (dv 3 (pv 3)) aG (by intro _ _;rfl))) (bO cL (bR (dv 2 (pv 2)) aG (by intro _ _;rfl)) (bR (dv 3 (pv 3)) aG (by intro _ _;rfl))) (aW _)))
theorem nC (T:Txt K mg t):cA P w K mg base Ea 14 t.f_first_places t.d_first_places ["one", "other", "size", "differs"] (lift K (cX t.f_twos_differ t.f_threes_differ t.f_throws_differ)):=by
 have nd:=nH.nd
 refine d9 (k:=13) T.F_first_places nH fun cdv A outer s H E hr=>?_
 have hc:=hr.calm (by decide)
 refine aA ?_ ?_
 ·exact (fU Ml hc (bZ (aF ((vA T).mono (by decide)) hr (by rfl) (by exact T.iC) (by exact T.F_rising.kp) (by exact T.b_rising) (ak (bH kh (by rfl) (by exact T.z_len) Mx (ak (dv 0 (pv 0)) au (aj (by rfl))) (by decide) (by decide) (aj (by rfl)) (ao (by rfl))) (ak (dv 2 (pv 2)) au (aj (by rfl))) (aj (by rfl))) (by decide) (aj (by rfl)) (ao (by rfl)))) (bD (bx (i:=4) nd (by rfl) (by exact Or.inl rfl))) (aD (cG (iW (zbs (QJ.cons ((xO T).mono (by decide)) (by exact T.F_twos_differ.kp) (by exact T.b_twos_differ) (QJ.cons ((ug T).mono (by decide)) (by exact T.F_threes_differ.kp) (by exact T.b_threes_differ) (QJ.cons ((uo T).mono (by decide)) (by exact T.F_throws_differ.kp) (by exact T.b_throws_differ) QJ.nil))) hr (pv 3) (ak (aF ((iZ T).mono (by decide)) hr (by rfl) (by exact T.cN) (by exact T.F_picked.kp) (by exact T.b_picked) (ak (dv 0 (pv 0)) (ak (dv 4 (pv 4)) au (aj (by rfl))) (aj (by rfl))) (by decide) (aj (by rfl)) (ao (by rfl))) (ak (aF ((iZ T).mono (by decide)) hr (by rfl) (by exact T.cN) (by exact T.F_picked.kp) (by exact T.b_picked) (ak (dv 1 (pv 1)) (ak (dv 4 (pv 4)) au (aj (by rfl))) (aj (by rfl))) (by decide) (aj (by rfl)) (ao (by rfl))) au (aj (by rfl))) (aj (by rfl))) (aj (by rfl)) (ao (by rfl)))) (aD (aO (dv 4 (pv 4)))) aZ)))
 refine aD ?_
 exact (aO nG)
theorem xu (T:Txt K mg t):cA P w K mg base Ea 15 t.f_fifth_apart t.d_fifth_apart ["one", "other"] (lift K iJ):=by
 have nd:=oG.nd
 refine d9 (k:=14) T.F_fifth_apart oG fun cdv A outer s H E hr=>?_
 have hc:=hr.calm (by decide)
 refine aA ?_ ?_
 ·exact (aQ (i:=2) nd (by rfl) (by exact Or.inl rfl) (aF ((jR T).mono (by decide)) hr (by rfl) (by exact T.cB) (by exact T.F_first_free.kp) (by exact T.b_first_free) (ak (dv 0 (pv 0)) au (aj (by rfl))) (by decide) (aj (by rfl)) (ao (by rfl))))
 refine aA ?_ ?_
 ·exact (cG (bw acM (dv 2 (pv 2)) nG (aW _)) (aD (aO nG)) aZ)
 refine aA ?_ ?_
 ·exact (aQ (i:=3) nd (by rfl) (by exact Or.inl rfl) (aF ((cY T).mono (by decide)) hr (by rfl) (by exact T.bC) (by exact T.F_map_between.kp) (by exact T.b_map_between) (ak (aF ((iZ T).mono (by decide)) hr (by rfl) (by exact T.cN) (by exact T.F_picked.kp) (by exact T.b_picked) (ak (dv 0 (pv 0)) (ak (dv 2 (pv 2)) au (aj (by rfl))) (aj (by rfl))) (by decide) (aj (by rfl)) (ao (by rfl))) (ak (lH ((jU T).mono (by decide)) hr (by rfl) (by exact T.fB) (by exact T.F_tiles.kp) (by exact T.b_tiles)) au (aj (by rfl))) (aj (by rfl))) (by decide) (aj (by rfl)) (ao (by rfl))))
 refine aA ?_ ?_
 ·exact (aQ (i:=4) nd (by rfl) (by exact Or.inl rfl) (aF ((cY T).mono (by decide)) hr (by rfl) (by exact T.bC) (by exact T.F_map_between.kp) (by exact T.b_map_between) (ak (aF ((iZ T).mono (by decide)) hr (by rfl) (by exact T.cN) (by exact T.F_picked.kp) (by exact T.b_picked) (ak (dv 1 (pv 1)) (ak (dv 2 (pv 2)) au (aj (by rfl))) (aj (by rfl))) (by decide) (aj (by rfl)) (ao (by rfl))) (ak (lH ((jU T).mono (by decide)) hr (by rfl) (by exact T.fB) (by exact T.F_tiles.kp) (by exact T.b_tiles)) au (aj (by rfl))) (aj (by rfl))) (by decide) (aj (by rfl)) (ao (by rfl))))
 refine aA ?_ ?_
 ·exact (fU Ml hc (dI (by rfl) (by exact T.z_range) (ak (bH kh (by rfl) (by exact T.z_len) Mx (ak (dv 0 (pv 0)) au (aj (by rfl))) (by decide) (by decide) (aj (by rfl)) (ao (by rfl))) au (aj (by rfl))) (lW (by rfl))) (bD (bx (i:=5) nd (by rfl) (by exact Or.inl rfl))) (aD (cG (bw (CV (mz hr)) (aF ((HB T).mono (by decide)) hr (by rfl) (by exact T.xG) (by exact T.F_led.kp) (by exact T.b_led) (ak (dv 3 (pv 3)) (ak (bR (dv 0 (pv 0)) (dv 5 (pv 5)) (by intro _ _;rfl)) au (aj (by rfl))) (aj (by rfl))) (by decide) (aj (by rfl)) (ao (by rfl))) (aF ((HB T).mono (by decide)) hr (by rfl) (by exact T.xG) (by exact T.F_led.kp) (by exact T.b_led) (ak (dv 4 (pv 4)) (ak (bR (dv 1 (pv 1)) (dv 5 (pv 5)) (by intro _ _;rfl)) au (aj (by rfl))) (aj (by rfl))) (by decide) (aj (by rfl)) (ao (by rfl))) (aW _)) (aD (aO (bO cV (dv 2 (pv 2)) (fK (ak (dv 5 (pv 5)) au (aj (by rfl))))))) aZ)))
 refine aD ?_
 exact (aO nG)
theorem oN (T:Txt K mg t):cA P w K mg base Ea 16 t.f_apart_of_as_many t.d_apart_of_as_many ["one", "other"] (lift K (cZ t.f_twos_differ t.f_threes_differ t.f_throws_differ)):=by
 have nd:=je.nd
 refine d9 (k:=15) T.F_apart_of_as_many je fun cdv A outer s H E hr=>?_
 have hc:=hr.calm (by decide)
 refine aA ?_ ?_
 ·first
  | (with_reducible exact (fU (hs:=by with_unfolding_all (intro _;rfl)) (by with_unfolding_all exact Ml) (by with_unfolding_all exact hc) (bZ (kZ (ak (fK (ak tX (ak aG (ak (Ip 0 (by with_unfolding_all rfl) (by with_unfolding_all exact T.fD)) au (aj (by with_unfolding_all rfl))) (aj (by with_unfolding_all rfl))) (aj (by with_unfolding_all rfl)))) (ak (fK (ak tX (ak aG (ak (Ip 1 (by with_unfolding_all rfl) (by with_unfolding_all exact T.dH)) au (aj (by with_unfolding_all rfl))) (aj (by with_unfolding_all rfl))) (aj (by with_unfolding_all rfl)))) (ak (fK (ak tX (ak aG (ak (Ip 2 (by with_unfolding_all rfl) (by with_unfolding_all exact T.dJ)) au (aj (by with_unfolding_all rfl))) (aj (by with_unfolding_all rfl))) (aj (by with_unfolding_all rfl)))) au (aj (by with_unfolding_all rfl))) (aj (by with_unfolding_all rfl))) (aj (by with_unfolding_all rfl))))) (oX (hn:=by with_unfolding_all rfl) (hst:=by with_unfolding_all rfl) (by with_unfolding_all exact hc) (bU (hs:=by with_unfolding_all rfl) (bD (bx (i:=2) (by with_unfolding_all exact nd) (by with_unfolding_all rfl) (by with_unfolding_all exact Or.inl rfl))) (bU (hs:=by with_unfolding_all rfl) (bD (bx (i:=3) (by with_unfolding_all exact nd) (by with_unfolding_all rfl) (by with_unfolding_all exact Or.inl rfl))) (bU (hs:=by with_unfolding_all rfl) (bD (bx (i:=4) (by with_unfolding_all exact nd) (by with_unfolding_all rfl) (by with_unfolding_all exact Or.inl rfl))) o9)))) (aA (aQ (hs:=by with_unfolding_all rfl) (hf:=by with_unfolding_all first | exact .inl rfl | exact .inr rfl) (i:=5) (by with_unfolding_all exact nd) (by with_unfolding_all rfl) (by with_unfolding_all exact Or.inl rfl) (aF (k:=15) (by with_unfolding_all exact (nC T).mono (by decide)) (by with_unfolding_all exact hr) (by with_unfolding_all rfl) (by with_unfolding_all exact T.cX) (by with_unfolding_all exact T.F_first_places.kp) (by with_unfolding_all exact T.b_first_places) (ak (dv 0 (by with_unfolding_all exact pv 0)) (ak (dv 1 (by with_unfolding_all exact pv 1)) (ak (dv 3 (by with_unfolding_all exact pv 3)) (ak (dv 4 (by with_unfolding_all exact pv 4)) au (aj (by with_unfolding_all rfl))) (aj (by with_unfolding_all rfl))) (aj (by with_unfolding_all rfl))) (aj (by with_unfolding_all rfl))) (by decide) (aj (by with_unfolding_all rfl)) (ao (by with_unfolding_all rfl))))
  (aD (cG (bw qW (dv 5 (by with_unfolding_all exact pv 5)) nG (by with_unfolding_all exact aW _)) (aD (aO (fK (ak (dv 2 (by with_unfolding_all exact pv 2)) (ak (dv 5 (by with_unfolding_all exact pv 5)) au (aj (by with_unfolding_all rfl))) (aj (by with_unfolding_all rfl)))))) aZ)))))
  | (exact (fU Ml hc (bZ (kZ (ak (fK (ak tX (ak aG (ak (Ip 0 (by rfl) (by exact T.fD)) au (aj (by rfl))) (aj (by rfl))) (aj (by rfl)))) (ak (fK (ak tX (ak aG (ak (Ip 1 (by rfl) (by exact T.dH)) au (aj (by rfl))) (aj (by rfl))) (aj (by rfl)))) (ak (fK (ak tX (ak aG (ak (Ip 2 (by rfl) (by exact T.dJ)) au (aj (by rfl))) (aj (by rfl))) (aj (by rfl)))) au (aj (by rfl))) (aj (by rfl))) (aj (by rfl))))) (oX hc (bU (bD (bx (i:=2) nd (by rfl) (by exact Or.inl rfl))) (bU (bD (bx (i:=3) nd (by rfl) (by exact Or.inl rfl))) (bU (bD (bx (i:=4) nd (by rfl) (by exact Or.inl rfl))) o9)))) (aA (aQ (i:=5) nd (by rfl) (by exact Or.inl rfl) (aF ((nC T).mono (by decide)) hr (by rfl) (by exact T.cX) (by exact T.F_first_places.kp) (by exact T.b_first_places) (ak (dv 0 (pv 0)) (ak (dv 1 (pv 1)) (ak (dv 3 (pv 3)) (ak (dv 4 (pv 4)) au (aj (by rfl))) (aj (by rfl))) (aj (by rfl))) (aj (by rfl))) (by decide) (aj (by rfl)) (ao (by rfl))))
  (aD (cG (bw qW (dv 5 (pv 5)) nG (aW _)) (aD (aO (fK (ak (dv 2 (pv 2)) (ak (dv 5 (pv 5)) au (aj (by rfl))) (aj (by rfl)))))) aZ)))))
 refine aA ?_ ?_
 ·exact (aQ (i:=5) nd (by rfl) (by exact Or.inl rfl) (aF ((xu T).mono (by decide)) hr (by rfl) (by exact T.iJ) (by exact T.F_fifth_apart.kp) (by exact T.b_fifth_apart) (ak (dv 0 (pv 0)) (ak (dv 1 (pv 1)) au (aj (by rfl))) (aj (by rfl))) (by decide) (aj (by rfl)) (ao (by rfl))))
 refine aD ?_
 exact (aO (acU (bw acM (dv 5 (pv 5)) nG (aW _)) nG (fK (ak tX (ak (dv 5 (pv 5)) au (aj (by rfl))) (aj (by rfl))))))
theorem z9 (T:Txt K mg t):cA P w K mg base Ea 17 t.f_apart t.d_apart ["one", "other"] (lift K (mR t.f_twos_differ t.f_threes_differ t.f_throws_differ)):=by
 have nd:=Fq.nd
 refine d9 (k:=16) T.F_apart Fq fun cdv A outer s H E hr=>?_
 have hc:=hr.calm (by decide)
 refine aA ?_ ?_
 ·exact (jz (aF ((eH T).mono (by decide)) hr (by rfl) (by exact T.bI) (by exact T.F_check_picture.kp) (by exact T.b_check_picture) (ak (dv 0 (pv 0)) au (aj (by rfl))) (by decide) (aj (by rfl)) (ao (by rfl))))
 refine aA ?_ ?_
 ·exact (jz (aF ((eH T).mono (by decide)) hr (by rfl) (by exact T.bI) (by exact T.F_check_picture.kp) (by exact T.b_check_picture) (ak (dv 1 (pv 1)) au (aj (by rfl))) (by decide) (aj (by rfl)) (ao (by rfl))))
 refine aA ?_ ?_
 ·first
  | (with_reducible exact (cG (bw (CV (by with_unfolding_all exact mz hr)) (bH kh (by with_unfolding_all rfl) (by with_unfolding_all exact T.z_len) Mx (ak (dv 0 (by with_unfolding_all exact pv 0)) au (aj (by with_unfolding_all rfl))) (by decide) (by decide) (aj (by with_unfolding_all rfl)) (ao (by with_unfolding_all rfl))) (bH kh (by with_unfolding_all rfl) (by with_unfolding_all exact T.z_len) Mx (ak (dv 1 (by with_unfolding_all exact pv 1)) au (aj (by with_unfolding_all rfl))) (by decide) (by decide) (aj (by with_unfolding_all rfl)) (ao (by with_unfolding_all rfl))) (by with_unfolding_all exact aW _)) (aD (aO (fK (ak tX (ak (fK au) au (aj (by with_unfolding_all rfl))) (aj (by with_unfolding_all rfl)))))) aZ))
  | (exact (cG (bw (CV (mz hr)) (bH kh (by rfl) (by exact T.z_len) Mx (ak (dv 0 (pv 0)) au (aj (by rfl))) (by decide) (by decide) (aj (by rfl)) (ao (by rfl))) (bH kh (by rfl) (by exact T.z_len) Mx (ak (dv 1 (pv 1)) au (aj (by rfl))) (by decide) (by decide) (aj (by rfl)) (ao (by rfl))) (aW _)) (aD (aO (fK (ak tX (ak (fK au) au (aj (by rfl))) (aj (by rfl)))))) aZ))
 refine aD ?_
 exact (aO (aF ((oN T).mono (by decide)) hr (by rfl) (by exact T.cZ) (by exact T.F_apart_of_as_many.kp) (by exact T.b_apart_of_as_many) (ak (dv 0 (pv 0)) (ak (dv 1 (pv 1)) au (aj (by rfl))) (aj (by rfl))) (by decide) (aj (by rfl)) (ao (by rfl))))
theorem rA (T:Txt K mg t):cA P w K mg base Ea 18 t.f_map_to t.d_map_to ["one", "other"] (lift K (jT t.f_twos_differ t.f_threes_differ t.f_throws_differ)):=by
 have nd:=Aw.nd
 refine d9 (k:=17) T.F_map_to Aw fun cdv A outer s H E hr=>?_
 have hc:=hr.calm (by decide)
 refine aA ?_ ?_
 ·exact (aQ (i:=2) nd (by rfl) (by exact Or.inl rfl) (aF ((z9 T).mono (by decide)) hr (by rfl) (by exact T.mR) (by exact T.F_apart.kp) (by exact T.b_apart) (ak (dv 0 (pv 0)) (ak (dv 1 (pv 1)) au (aj (by rfl))) (aj (by rfl))) (by decide) (aj (by rfl)) (ao (by rfl))))
 refine aA ?_ ?_
 ·exact (cG (bw qW (dv 2 (pv 2)) nG (aW _)) (aD pX) aZ)
 refine aD ?_
 exact (aO (aF ((El T).mono (by decide)) hr (by rfl) (by exact T.q9) (by exact T.F_then.kp) (by exact T.b_then) (ak (aF ((rN T).mono (by decide)) hr (by rfl) (by exact T.gD) (by exact T.F_leading.kp) (by exact T.b_leading) (ak (dv 0 (pv 0)) au (aj (by rfl))) (by decide) (aj (by rfl)) (ao (by rfl))) (ak (aF ((Lj T).mono (by decide)) hr (by rfl) (by exact T.vW) (by exact T.F_back.kp) (by exact T.b_back) (ak (aF ((rN T).mono (by decide)) hr (by rfl) (by exact T.gD) (by exact T.F_leading.kp) (by exact T.b_leading) (ak (dv 1 (pv 1)) au (aj (by rfl))) (by decide) (aj (by rfl)) (ao (by rfl))) au (aj (by rfl))) (by decide) (aj (by rfl)) (ao (by rfl))) au (aj (by rfl))) (aj (by rfl))) (by decide) (aj (by rfl)) (ao (by rfl))))
theorem zah (T:Txt K mg t):cA P w K mg base Ea 10 t.f_l_cell_at t.d_l_cell_at ["_law_script", "_law_k"] (lift K j4):=by
 have nd:=tO.nd
 refine d9 (k:=9) T.F_l_cell_at tO fun cdv A outer s H E hr=>?_
 have hc:=hr.calm (by decide)
 refine aA ?_ ?_
 ·exact (cG (bw WT (dv 1 (pv 1)) (bH kh (by rfl) (by exact T.z_len) Mx (ak (dv 0 (pv 0)) au (aj (by rfl))) (by decide) (by decide) (aj (by rfl)) (ao (by rfl))) (aW _)) (aD (aO (bR (dv 0 (pv 0)) (dv 1 (pv 1)) (by intro _ _;rfl)))) aZ)
 refine aD ?_
 exact (aO aG)
theorem uX (T:Txt K mg t):cA P w K mg base Ea 11 t.f_l_rest t.d_l_rest ["_law_script", "_law_k"] (lift K lG):=by
 have nd:=BK.nd
 refine d9 (k:=10) T.F_l_rest BK fun cdv A outer s H E hr=>?_
 have hc:=hr.calm (by decide)
 refine aA ?_ ?_
 ·exact (aQ (i:=2) nd (by rfl) (by exact Or.inl rfl) (aF ((zah T).mono (by decide)) hr (by rfl) (by exact T.j4) (by exact T.F_l_cell_at.kp) (by exact T.b_l_cell_at) (ak (dv 0 (pv 0)) (ak (dv 1 (pv 1)) au (aj (by rfl))) (aj (by rfl))) (by decide) (aj (by rfl)) (ao (by rfl))))
 refine aA ?_ ?_
 ·exact (aQ (i:=3) nd (by rfl) (by exact Or.inl rfl) (bO rH (bO cL (bO cV (bO cV (bO rH (bO Ez (dv 2 (pv 2)) aG) (bO Iz aG aG)) (bO cL (bO cL aG (dv 1 (pv 1))) (dv 1 (pv 1)))) aG) aG) aG))
 refine aA ?_ ?_
 ·exact (aQ (i:=4) nd (by rfl) (by exact Or.inl rfl) aG)
 refine aA ?_ ?_
 ·exact (fU Ml hc (dI (by rfl) (by exact T.z_range) (ak aG au (aj (by rfl))) (lW (by rfl))) (bD (bx (i:=5) nd (by rfl) (by exact Or.inl rfl))) (aA (aQ (i:=3) nd (by rfl) (by exact Or.inl rfl) (bO rH (bO cV (bO cV (bO cL (dv 3 (pv 3)) aG) (bO cL (dv 5 (pv 5)) (dv 5 (pv 5)))) aG) aG))
  (aD (aQ (i:=4) nd (by rfl) (by exact Or.inl rfl) (bO cV (bO cL (dv 4 (pv 4)) (bO Iz aG aG)) (bO rH (bO cL (dv 3 (pv 3)) (bO cV (dv 3 (pv 3)) (bO cL aG (dv 5 (pv 5))))) aG))))))
 refine aA ?_ ?_
 ·exact (cG (bw (Ai (mz hr)) (bO rH (dv 2 (pv 2)) aG) aG (aW _)) (aD (aO (yF (ak (dv 4 (pv 4)) au (aj (by rfl)))))) aZ)
 refine aD ?_
 exact (aO (yF (ak (bO Ez (dv 2 (pv 2)) aG) (ak (dv 4 (pv 4)) au (aj (by rfl))) (aj (by rfl)))))
theorem cI (T:Txt K mg t):cA P w K mg base Ea 10 t.f_l_digit t.d_l_digit ["_law_rest_here", "_law_many"] (lift K bK):=by
 have nd:=yg.nd
 refine d9 (k:=9) T.F_l_digit yg fun cdv A outer s H E hr=>?_
 have hc:=hr.calm (by decide)
 refine aA ?_ ?_
 ·exact (cG (yr (bw WT (bR (dv 0 (pv 0)) aG (by intro _ _;rfl)) aG (aW _)) (wG (bw RZ (bH kh (by rfl) (by exact T.z_len) Mx (ak (dv 0 (pv 0)) au (aj (by rfl))) (by decide) (by decide) (aj (by rfl)) (ao (by rfl))) aG (aW _)))).pt (aD (Ba (abv (dv 0 (pv 0))) (QZ (dv 0 (pv 0)) aG set_list Gm))) aZ)
 refine aA ?_ ?_
 ·exact (aQ (i:=2) nd (by rfl) (by exact Or.inl rfl) (bO rH (bR (dv 0 (pv 0)) aG (by intro _ _;rfl)) (dv 1 (pv 1))))
 refine aA ?_ ?_
 ·exact (Ba (bO Ez (bR (dv 0 (pv 0)) aG (by intro _ _;rfl)) (dv 1 (pv 1))) (QZ (dv 0 (pv 0)) aG set_list Gm))
 refine aD ?_
 exact (aO (dv 2 (pv 2)))
theorem uR (T:Txt K mg t):cA P w K mg base Ea 11 t.f_l_number t.d_l_number ["_law_rest_here", "_law_far"] (lift K fX):=by
 have nd:=u6.nd
 refine d9 (k:=10) T.F_l_number u6 fun cdv A outer s H E hr=>?_
 have hc:=hr.calm (by decide)
 refine aA ?_ ?_
 ·exact (aQ (i:=2) nd (by rfl) (by exact Or.inl rfl) (aF ((cI T).mono (by decide)) hr (by rfl) (by exact T.bK) (by exact T.F_l_digit.kp) (by exact T.b_l_digit) (ak (dv 0 (pv 0)) (ak aG au (aj (by rfl))) (aj (by rfl))) (by decide) (aj (by rfl)) (ao (by rfl))))
 refine aA ?_ ?_
 ·exact (cG (bw (Ai (mz hr)) (dv 2 (pv 2)) aG (aW _)) (aD (aO (bO nU (aF ((cI T).mono (by decide)) hr (by rfl) (by exact T.bK) (by exact T.F_l_digit.kp) (by exact T.b_l_digit) (ak (dv 0 (pv 0)) (ak aG au (aj (by rfl))) (aj (by rfl))) (by decide) (aj (by rfl)) (ao (by rfl))) aG))) aZ)
 refine aA ?_ ?_
 ·exact (cG (bw (Ai (mz hr)) (dv 2 (pv 2)) aG (aW _)) (aD (aO (bO nU (aF ((cI T).mono (by decide)) hr (by rfl) (by exact T.bK) (by exact T.F_l_digit.kp) (by exact T.b_l_digit) (ak (dv 0 (pv 0)) (ak aG au (aj (by rfl))) (aj (by rfl))) (by decide) (aj (by rfl)) (ao (by rfl))) aG))) aZ)
 refine aD ?_
 exact (aO (bO cV (bO nU (aF ((cI T).mono (by decide)) hr (by rfl) (by exact T.bK) (by exact T.F_l_digit.kp) (by exact T.b_l_digit) (ak (dv 0 (pv 0)) (ak (bO nU (bO cL aG (dv 1 (pv 1))) aG) au (aj (by rfl))) (aj (by rfl))) (by decide) (aj (by rfl)) (ao (by rfl))) (dv 1 (pv 1))) aG))
theorem zaj (T:Txt K mg t):cA P w K mg base Ea 10 t.f_l_divisor t.d_l_divisor ["_law_numbers"] (lift K jY):=by
 have nd:=sW.nd
 refine d9 (k:=9) T.F_l_divisor sW fun cdv A outer s H E hr=>?_
 have hc:=hr.calm (by decide)
 refine aA ?_ ?_
 ·exact (aQ (i:=1) nd (by rfl) (by exact Or.inl rfl) aG)
 refine aA ?_ ?_
 ·exact (fU Ml hc (bZ (dv 0 (pv 0))) (bD (bx (i:=2) nd (by rfl) (by exact Or.inl rfl))) (aA (aQ (i:=3) nd (by rfl) (by exact Or.inl rfl) (bH (acp hc) (by rfl) (by exact T.z_max) boot_max (ak (dv 1 (pv 1)) (ak (bH Qp (by rfl) (by exact T.z_abs) boot_abs (ak (dv 2 (pv 2)) au (aj (by rfl))) (by decide) (by decide) (aj (by rfl)) (ao (by rfl))) au (aj (by rfl))) (aj (by rfl))) (by decide) (by decide) (aj (by rfl)) (ao (by rfl))))
  (aA (aQ (i:=4) nd (by rfl) (by exact Or.inl rfl) (bH (abX hc) (by rfl) (by exact T.z_min) boot_min (ak (dv 1 (pv 1)) (ak (bH Qp (by rfl) (by exact T.z_abs) boot_abs (ak (dv 2 (pv 2)) au (aj (by rfl))) (by decide) (by decide) (aj (by rfl)) (ao (by rfl))) au (aj (by rfl))) (aj (by rfl))) (by decide) (by decide) (aj (by rfl)) (ao (by rfl))))
  (aA (Ho Ml (bw RZ (dv 4 (pv 4)) aG (aW _)) (aD (afi (ZR (i:=3) (j:=4) hc nd (by rfl) (by rfl) (by decide) (by rfl) (by rfl) (ak (dv 4 (pv 4)) (ak (bO rH (dv 3 (pv 3)) (dv 4 (pv 4))) au (aj (by rfl))) (aj (by rfl))) (by rfl)))))
  (aD (aQ (i:=1) nd (by rfl) (by exact Or.inl rfl) (dv 3 (pv 3))))))))
 refine aD ?_
 exact (aO (dv 1 (pv 1)))
theorem nP (T:Txt K mg t):cA P w K mg base Ea 11 t.f_l_plain t.d_l_plain ["_law_numbers"] (lift K dO):=by
 have nd:=yD.nd
 refine d9 (k:=10) T.F_l_plain yD fun cdv A outer s H E hr=>?_
 have hc:=hr.calm (by decide)
 refine aA ?_ ?_
 ·exact (aQ (i:=1) nd (by rfl) (by exact Or.inr rfl) (aF ((zaj T).mono (by decide)) hr (by rfl) (by exact T.jY) (by exact T.F_l_divisor.kp) (by exact T.b_l_divisor) (ak (dv 0 (pv 0)) au (aj (by rfl))) (by decide) (aj (by rfl)) (ao (by rfl))))
 refine aA ?_ ?_
 ·exact (cG (bw WT (bR (zy [] hc (aY (by rfl)) gP (gG (aY (by rfl))) (bZ (dv 0 (pv 0))) (fun _ _ _ _=>(sE (bw (CV (mz hr)) (dv 0 (pv 0)) aG (aW _)))) (fun _ _ _ _=>(dv 0 (pv 0)))) (Zg aG) (by intro _ _;rfl)) aG (aW _)) (aD (aQ (i:=1) nd (by rfl) (by exact Or.inr rfl) (bO nU aG (dv 1 (pv 1))))) aZ)
 refine aD ?_
 exact (aO (gY Kq (by rfl) (by exact T.z_tuple) boot_tuple (ak (zy [1] hc (aY (by rfl)) gP (gG (aY (by rfl))) (bZ (dv 0 (pv 0))) (fun _ _ _ _=>cu) (fun _ _ _ _=>(bO Ez (dv 0 (pv 0)) (dv 1 (pv 1))))) au (aj (by rfl))) (by decide) (by decide) (aj (by rfl)) (ao (by rfl))))
theorem Cd (T:Txt K mg t):cA P w K mg base Ea 12 t.f_l_spot t.d_l_spot ["_law_rest_here", "_law_far"] (lift K jV):=by
 have nd:=Aj.nd
 refine d9 (k:=11) T.F_l_spot Aj fun cdv A outer s H E hr=>?_
 have hc:=hr.calm (by decide)
 refine aA ?_ ?_
 ·exact (zj [0,1] (i:=2) nd (by rfl) (by exact Or.inl rfl) hc (aY (by rfl)) gP (gG (aY (by rfl))) (dI (by rfl) (by exact T.z_range) (ak aG au (aj (by rfl))) (lW (by rfl))) (fun _ _ _ _=>cu) (fun _ _ _ _=>(aF ((uR T).mono (by decide)) hr (by rfl) (by exact T.fX) (by exact T.F_l_number.kp) (by exact T.b_l_number) (ak (dv 1 (pv 1)) (ak (dv 2 (pv 2)) au (aj (by rfl))) (aj (by rfl))) (by decide) (aj (by rfl)) (ao (by rfl)))))
 refine aA ?_ ?_
 ·exact (cG (bw (Ai (mz hr)) (dv 2 (pv 2)) (kZ (ak aG (ak aG (ak aG au (aj (by rfl))) (aj (by rfl))) (aj (by rfl)))) (aW _)) (aD (aQ (i:=2) nd (by rfl) (by exact Or.inl rfl) (kZ (ak aG (ak aG (ak aG au (aj (by rfl))) (aj (by rfl))) (aj (by rfl)))))) aZ)
 refine aD ?_
 exact (aO (aF ((nP T).mono (by decide)) hr (by rfl) (by exact T.dO) (by exact T.F_l_plain.kp) (by exact T.b_l_plain) (ak (dv 2 (pv 2)) au (aj (by rfl))) (by decide) (aj (by rfl)) (ao (by rfl))))
theorem afG (T:Txt K mg t):cA P w K mg base Ea 10 t.f_l_dot t.d_l_dot ["_law_one", "_law_other"] (lift K zQ):=by
 have nd:=Gg.nd
 refine d9 (k:=9) T.F_l_dot Gg fun cdv A outer s H E hr=>?_
 have hc:=hr.calm (by decide)
 refine aD ?_
 exact (aO (bH (Z9 hc) (by rfl) (by exact T.z_sum) boot_sum (ak (zy [] hc (aY (by rfl)) W8 (ZF hc (aY (by rfl))) (Rp (by rfl) (by exact T.z_zip) (ak (dv 0 (pv 0)) (ak (dv 1 (pv 1)) au (aj (by rfl))) (aj (by rfl))) (aj (by rfl)) (ao (by rfl))) (fun _ _ _ _=>cu) (fun _ _ _ _=>(bO cL (dv 0 (pv 0)) (dv 1 (pv 1))))) au (aj (by rfl))) (by decide) (by decide) (aj (by rfl)) (ao (by rfl))))
theorem agv (T:Txt K mg t):cA P w K mg base Ea 10 t.f_l_size t.d_l_size ["_law_numbers"] (lift K uq):=by
 have nd:=Dc.nd
 refine d9 (k:=9) T.F_l_size Dc fun cdv A outer s H E hr=>?_
 have hc:=hr.calm (by decide)
 refine aA ?_ ?_
 ·exact (Ba (Dg (dv 0 (pv 0)) (eV aG) (eV aG)) (oX hc (bU (bD (bx (i:=1) nd (by rfl) (by exact Or.inl rfl))) (bU (bD (bx (i:=2) nd (by rfl) (by exact Or.inl rfl))) (bU (bD (bx (i:=3) nd (by rfl) (by exact Or.inl rfl))) o9)))))
 refine aA ?_ ?_
 ·exact (Ba (Dg (dv 0 (pv 0)) (eV aG) (eV aG)) (oX hc (bU (bD (bx (i:=4) nd (by rfl) (by exact Or.inl rfl))) (bU (bD (bx (i:=5) nd (by rfl) (by exact Or.inl rfl))) (bU (bD (bx (i:=6) nd (by rfl) (by exact Or.inl rfl))) o9)))))
 refine aA ?_ ?_
 ·exact (Ba (Dg (dv 0 (pv 0)) (eV aG) (eV aG)) (oX hc (bU (bD (bx (i:=7) nd (by rfl) (by exact Or.inl rfl))) (bU (bD (bx (i:=8) nd (by rfl) (by exact Or.inl rfl))) (bU (bD (bx (i:=9) nd (by rfl) (by exact Or.inl rfl))) o9)))))
 refine aA ?_ ?_
 ·exact (aQ (i:=10) nd (by rfl) (by exact Or.inl rfl) (bO cL (dv 1 (pv 1)) (bO nU (bO cL (dv 5 (pv 5)) (dv 9 (pv 9))) (bO cL (dv 6 (pv 6)) (dv 8 (pv 8))))))
 refine aA ?_ ?_
 ·exact (aQ (i:=10) nd (by rfl) (by exact Or.inl rfl) (bO nU (dv 10 (pv 10)) (bO cL (dv 2 (pv 2)) (bO nU (bO cL (dv 4 (pv 4)) (dv 9 (pv 9))) (bO cL (dv 6 (pv 6)) (dv 7 (pv 7)))))))
 refine aD ?_
 exact (aO (bO cV (dv 10 (pv 10)) (bO cL (dv 3 (pv 3)) (bO nU (bO cL (dv 4 (pv 4)) (dv 8 (pv 8))) (bO cL (dv 5 (pv 5)) (dv 7 (pv 7)))))))
theorem GK (T:Txt K mg t):cA P w K mg base Ea 12 t.f_l_map t.d_l_map ["_law_rest_here", "_law_far"] (lift K vo):=by
 have nd:=G8.nd
 refine d9 (k:=11) T.F_l_map G8 fun cdv A outer s H E hr=>?_
 have hc:=hr.calm (by decide)
 refine aA ?_ ?_
 ·exact (zj [0,1] (i:=2) nd (by rfl) (by exact Or.inl rfl) hc (aY (by rfl)) gP (gG (aY (by rfl))) (dI (by rfl) (by exact T.z_range) (ak aG au (aj (by rfl))) (lW (by rfl))) (fun _ _ _ _=>cu) (fun _ _ _ _=>(aF ((uR T).mono (by decide)) hr (by rfl) (by exact T.fX) (by exact T.F_l_number.kp) (by exact T.b_l_number) (ak (dv 1 (pv 1)) (ak (dv 2 (pv 2)) au (aj (by rfl))) (aj (by rfl))) (by decide) (aj (by rfl)) (ao (by rfl)))))
 refine aA ?_ ?_
 ·exact (cG (bw (Ai (mz hr)) (aF ((agv T).mono (by decide)) hr (by rfl) (by exact T.uq) (by exact T.F_l_size.kp) (by exact T.b_l_size) (ak (dv 2 (pv 2)) au (aj (by rfl))) (by decide) (aj (by rfl)) (ao (by rfl))) aG (aW _)) (aD (aQ (i:=2) nd (by rfl) (by exact Or.inl rfl) (kZ (ak aG (ak aG (ak (bR (dv 2 (pv 2)) aG (by intro _ _;rfl)) (ak aG (ak aG (ak (bR (dv 2 (pv 2)) aG (by intro _ _;rfl)) (ak aG (ak aG (ak aG au (aj (by rfl))) (aj (by rfl))) (aj (by rfl))) (aj (by rfl))) (aj (by rfl))) (aj (by rfl))) (aj (by rfl))) (aj (by rfl))) (aj (by rfl)))))) aZ)
 refine aD ?_
 exact (aO (aF ((nP T).mono (by decide)) hr (by rfl) (by exact T.dO) (by exact T.F_l_plain.kp) (by exact T.b_l_plain) (ak (dv 2 (pv 2)) au (aj (by rfl))) (by decide) (aj (by rfl)) (ao (by rfl))))
theorem za (T:Txt K mg t):cA P w K mg base Ea 12 t.f_l_led t.d_l_led ["_law_by", "_law_spot_here"] (lift K mQ):=by
 have nd:=G5.nd
 refine d9 (k:=11) T.F_l_led G5 fun cdv A outer s H E hr=>?_
 have hc:=hr.calm (by decide)
 refine aD ?_
 exact (aO (aF ((nP T).mono (by decide)) hr (by rfl) (by exact T.dO) (by exact T.F_l_plain.kp) (by exact T.b_l_plain) (ak (zy [0,1] hc (aY (by rfl)) gP (gG (aY (by rfl))) (dI (by rfl) (by exact T.z_range) (ak aG au (aj (by rfl))) (lW (by rfl))) (fun _ _ _ _=>cu) (fun _ _ _ _=>(aF ((afG T).mono (by decide)) hr (by rfl) (by exact T.zQ) (by exact T.F_l_dot.kp) (by exact T.b_l_dot) (ak (Dg (dv 1 (pv 1)) (eV (bO cL aG (dv 0 (pv 0)))) (eV (bO cV (bO cL aG (dv 0 (pv 0))) aG))) (ak (dv 2 (pv 2)) au (aj (by rfl))) (aj (by rfl))) (by decide) (aj (by rfl)) (ao (by rfl))))) au (aj (by rfl))) (by decide) (aj (by rfl)) (ao (by rfl))))
theorem yJ (T:Txt K mg t):cA P w K mg base Ea 12 t.f_l_mixed t.d_l_mixed ["_law_one", "_law_other", "_law_rest_here"] (lift K jQ):=by
 have nd:=yE.nd
 refine d9 (k:=11) T.F_l_mixed yE fun cdv A outer s H E hr=>?_
 have hc:=hr.calm (by decide)
 refine aA ?_ ?_
 ·exact (aQ (i:=3) nd (by rfl) (by exact Or.inr rfl) (bO nU (aF ((cI T).mono (by decide)) hr (by rfl) (by exact T.bK) (by exact T.F_l_digit.kp) (by exact T.b_l_digit) (ak (dv 2 (pv 2)) (ak aG au (aj (by rfl))) (aj (by rfl))) (by decide) (aj (by rfl)) (ao (by rfl))) aG))
 refine aA ?_ ?_
 ·exact (aQ (i:=4) nd (by rfl) (by exact Or.inr rfl) (bO nU (aF ((cI T).mono (by decide)) hr (by rfl) (by exact T.bK) (by exact T.F_l_digit.kp) (by exact T.b_l_digit) (ak (dv 2 (pv 2)) (ak aG au (aj (by rfl))) (aj (by rfl))) (by decide) (aj (by rfl)) (ao (by rfl))) aG))
 refine aA ?_ ?_
 ·exact (zj [3,4] (i:=5) nd (by rfl) (by exact Or.inl rfl) hc (aY (by rfl)) W8 (ZF hc (aY (by rfl))) (Rp (by rfl) (by exact T.z_zip) (ak (dv 0 (pv 0)) (ak (dv 1 (pv 1)) au (aj (by rfl))) (aj (by rfl))) (aj (by rfl)) (ao (by rfl))) (fun _ _ _ _=>cu) (fun _ _ _ _=>(bO cV (bO cL (dv 2 (pv 2)) (dv 0 (pv 0))) (bO cL (dv 3 (pv 3)) (dv 1 (pv 1))))))
 refine aA ?_ ?_
 ·exact (cG (bw (Ai (mz hr)) (dv 5 (pv 5)) (kZ (ak aG (ak aG (ak aG au (aj (by rfl))) (aj (by rfl))) (aj (by rfl)))) (aW _)) (aD (aO (dv 0 (pv 0)))) aZ)
 refine aD ?_
 exact (aO (aF ((nP T).mono (by decide)) hr (by rfl) (by exact T.dO) (by exact T.F_l_plain.kp) (by exact T.b_l_plain) (ak (dv 5 (pv 5)) au (aj (by rfl))) (by decide) (aj (by rfl)) (ao (by rfl))))
theorem aeJ (T:Txt K mg t):cA P w K mg base Ea 13 t.f_l_next t.d_l_next ["_law_spots", "_law_style", "_law_rest_here"] (lift K uw):=by
 have nd:=Bv.nd
 refine d9 (k:=12) T.F_l_next Bv fun cdv A outer s H E hr=>?_
 have hc:=hr.calm (by decide)
 refine aA ?_ ?_
 ·exact (aQ (i:=3) nd (by rfl) (by exact Or.inl rfl) (aF ((cI T).mono (by decide)) hr (by rfl) (by exact T.bK) (by exact T.F_l_digit.kp) (by exact T.b_l_digit) (ak (dv 2 (pv 2)) (ak aG au (aj (by rfl))) (aj (by rfl))) (by decide) (aj (by rfl)) (ao (by rfl))))
 refine aA ?_ ?_
 ·exact (aQ (i:=4) nd (by rfl) (by exact Or.inl rfl) (bR (dv 0 (pv 0)) (aF ((cI T).mono (by decide)) hr (by rfl) (by exact T.bK) (by exact T.F_l_digit.kp) (by exact T.b_l_digit) (ak (dv 2 (pv 2)) (ak (bH kh (by rfl) (by exact T.z_len) Mx (ak (dv 0 (pv 0)) au (aj (by rfl))) (by decide) (by decide) (aj (by rfl)) (ao (by rfl))) au (aj (by rfl))) (aj (by rfl))) (by decide) (aj (by rfl)) (ao (by rfl))) (by intro _ _;rfl)))
 refine aA ?_ ?_
 ·exact (aQ (i:=5) nd (by rfl) (by exact Or.inl rfl) (bR (dv 0 (pv 0)) (aF ((cI T).mono (by decide)) hr (by rfl) (by exact T.bK) (by exact T.F_l_digit.kp) (by exact T.b_l_digit) (ak (dv 2 (pv 2)) (ak (bH kh (by rfl) (by exact T.z_len) Mx (ak (dv 0 (pv 0)) au (aj (by rfl))) (by decide) (by decide) (aj (by rfl)) (ao (by rfl))) au (aj (by rfl))) (aj (by rfl))) (by decide) (aj (by rfl)) (ao (by rfl))) (by intro _ _;rfl)))
 refine aA ?_ ?_
 ·exact (cG (yr (bw (Ai (mz hr)) (dv 1 (pv 1)) aG (aW _)) (yr (bw RZ (bH kh (by rfl) (by exact T.z_len) Mx (ak (dv 0 (pv 0)) au (aj (by rfl))) (by decide) (by decide) (aj (by rfl)) (ao (by rfl))) aG (aW _)) (wG (bw WT (dv 3 (pv 3)) aG (aW _))))).pt (aD (aO (aF ((yJ T).mono (by decide)) hr (by rfl) (by exact T.jQ) (by exact T.F_l_mixed.kp) (by exact T.b_l_mixed) (ak (bR (dv 0 (pv 0)) aG (by intro _ _;rfl)) (ak (bR (dv 0 (pv 0)) aG (by intro _ _;rfl)) (ak (dv 2 (pv 2)) au (aj (by rfl))) (aj (by rfl))) (aj (by rfl))) (by decide) (aj (by rfl)) (ao (by rfl))))) aZ)
 refine aA ?_ ?_
 ·exact (cG (zB (yr (bw (Ai (mz hr)) (dv 1 (pv 1)) aG (aW _)) (wG (bw RZ (bH kh (by rfl) (by exact T.z_len) Mx (ak (dv 0 (pv 0)) au (aj (by rfl))) (by decide) (by decide) (aj (by rfl)) (ao (by rfl))) aG (aW _)))).pt (tB (bw (Ai (mz hr)) (dv 3 (pv 3)) aG (aW _)))).pt (aD (aO (dv 4 (pv 4)))) aZ)
 refine aA ?_ ?_
 ·exact (cG (bw RZ (dv 3 (pv 3)) aG (aW _)) (aD (aO (aF ((yJ T).mono (by decide)) hr (by rfl) (by exact T.jQ) (by exact T.F_l_mixed.kp) (by exact T.b_l_mixed) (ak (dv 4 (pv 4)) (ak (dv 5 (pv 5)) (ak (dv 2 (pv 2)) au (aj (by rfl))) (aj (by rfl))) (aj (by rfl))) (by decide) (aj (by rfl)) (ao (by rfl))))) aZ)
 refine aD ?_
 exact (aO (aF ((Cd T).mono (by decide)) hr (by rfl) (by exact T.jV) (by exact T.F_l_spot.kp) (by exact T.b_l_spot) (ak (dv 2 (pv 2)) (ak (bO Iz aG aG) au (aj (by rfl))) (aj (by rfl))) (by decide) (aj (by rfl)) (ao (by rfl))))
theorem zaf (T:Txt K mg t):cA P w K mg base Ea 14 t.f_l_picture t.d_l_picture ["_law_rest_here", "_law_most"] (lift K iU):=by
 have nd:=tM.nd
 refine d9 (k:=13) T.F_l_picture tM fun cdv A outer s H E hr=>?_
 have hc:=hr.calm (by decide)
 refine aA ?_ ?_
 ·exact (aQ (i:=2) nd (by rfl) (by exact Or.inl rfl) (aF ((cI T).mono (by decide)) hr (by rfl) (by exact T.bK) (by exact T.F_l_digit.kp) (by exact T.b_l_digit) (ak (dv 0 (pv 0)) (ak (dv 1 (pv 1)) au (aj (by rfl))) (aj (by rfl))) (by decide) (aj (by rfl)) (ao (by rfl))))
 refine aA ?_ ?_
 ·exact (aQ (i:=3) nd (by rfl) (by exact Or.inl rfl) (aF ((cI T).mono (by decide)) hr (by rfl) (by exact T.bK) (by exact T.F_l_digit.kp) (by exact T.b_l_digit) (ak (dv 0 (pv 0)) (ak aG au (aj (by rfl))) (aj (by rfl))) (by decide) (aj (by rfl)) (ao (by rfl))))
 refine aA ?_ ?_
 ·exact (aQ (i:=4) nd (by rfl) (by exact Or.inl rfl) (yF (ak (aF ((Cd T).mono (by decide)) hr (by rfl) (by exact T.jV) (by exact T.F_l_spot.kp) (by exact T.b_l_spot) (ak (dv 0 (pv 0)) (ak (bO Iz aG aG) au (aj (by rfl))) (aj (by rfl))) (by decide) (aj (by rfl)) (ao (by rfl))) au (aj (by rfl)))))
 refine aA ?_ ?_
 ·exact (fU Ml hc (dI (by rfl) (by exact T.z_range) (ak (dv 2 (pv 2)) au (aj (by rfl))) (lW (by rfl))) (bD (bx (i:=5) nd (by rfl) (by exact Or.inl rfl))) (aD (jz (ux (dv 4 (pv 4)) (ak (aF ((aeJ T).mono (by decide)) hr (by rfl) (by exact T.uw) (by exact T.F_l_next.kp) (by exact T.b_l_next) (ak (dv 4 (pv 4)) (ak (dv 3 (pv 3)) (ak (dv 0 (pv 0)) au (aj (by rfl))) (aj (by rfl))) (aj (by rfl))) (by decide) (aj (by rfl)) (ao (by rfl))) au (aj (by rfl))) (by rfl) (Ec (by rfl)) (by rfl) (aj (by rfl)) (by rfl)))))
 refine aD ?_
 exact (aO (dv 4 (pv 4)))
theorem sH (T:Txt K mg t):cA P w K mg base Ea 14 t.f_l_leads t.d_l_leads ["_law_by", "_law_one", "_law_other"] (lift K jL):=by
 have nd:=yt.nd
 refine d9 (k:=13) T.F_l_leads yt fun cdv A outer s H E hr=>?_
 have hc:=hr.calm (by decide)
 refine aA ?_ ?_
 ·exact (cG (zB (pR (iW (bH abL (by rfl) (by exact T.z_isinstance) boot_isinstance (ak (dv 0 (pv 0)) (ak (dc (ahe (v:=.ty "tuple") (by rfl) (by exact T.z_tuple) boot_tuple (by rfl)) (fun _ _=>by rw [Aq])) au (aj (by rfl))) (aj (by rfl))) (by decide) (by decide) (aj (by rfl)) (ao (by rfl))))) (zB (bw (CV (mz hr)) (bH kh (by rfl) (by exact T.z_len) Mx (ak (dv 0 (pv 0)) au (aj (by rfl))) (by decide) (by decide) (aj (by rfl)) (ao (by rfl))) aG (aW _)) (tB (bw (CV (mz hr)) (zy [0] hc (aY (by rfl)) gP (gG (aY (by rfl))) (bZ (dv 1 (pv 1))) (fun _ _ _ _=>cu) (fun _ _ _ _=>(aF ((za T).mono (by decide)) hr (by rfl) (by exact T.mQ) (by exact T.F_l_led.kp) (by exact T.b_l_led) (ak (dv 1 (pv 1)) (ak (dv 0 (pv 0)) au (aj (by rfl))) (aj (by rfl))) (by decide) (aj (by rfl)) (ao (by rfl))))) (dv 2 (pv 2)) (aW _))))).pt (aD (aO Ws)) aZ)
 refine aD ?_
 exact (aO (wj (Ai (mz hr)) (zy [0] hc (aY (by rfl)) gP (gG (aY (by rfl))) (bZ (dv 1 (pv 1))) (fun _ _ _ _=>cu) (fun _ _ _ _=>(aF ((HB T).mono (by decide)) hr (by rfl) (by exact T.xG) (by exact T.F_led.kp) (by exact T.b_led) (ak (dv 1 (pv 1)) (ak (dv 0 (pv 0)) au (aj (by rfl))) (aj (by rfl))) (by decide) (aj (by rfl)) (ao (by rfl))))) (dv 2 (pv 2)) (aW _)))
theorem aav (T:Txt K mg t):cA P w K mg base Ea 19 t.f_law t.d_law ["_law_script"] (lift K (Ow t.f_twos_differ t.f_threes_differ t.f_throws_differ)):=by
 have nd:=RM.nd
 refine d9 (k:=18) T.F_law RM fun cdv A outer s H E hr=>?_
 have hc:=hr.calm (by decide)
 refine aA ?_ ?_
 ·exact (aQ (i:=1) nd (by rfl) (by exact Or.inl rfl) (aF ((zaf T).mono (by decide)) hr (by rfl) (by exact T.iU) (by exact T.F_l_picture.kp) (by exact T.b_l_picture) (ak (aF ((uX T).mono (by decide)) hr (by rfl) (by exact T.lG) (by exact T.F_l_rest.kp) (by exact T.b_l_rest) (ak (dv 0 (pv 0)) (ak aG au (aj (by rfl))) (aj (by rfl))) (by decide) (aj (by rfl)) (ao (by rfl))) (ak aG au (aj (by rfl))) (aj (by rfl))) (by decide) (aj (by rfl)) (ao (by rfl))))
 refine aA ?_ ?_
 ·exact (aQ (i:=2) nd (by rfl) (by exact Or.inr rfl) (aF ((GK T).mono (by decide)) hr (by rfl) (by exact T.vo) (by exact T.F_l_map.kp) (by exact T.b_l_map) (ak (aF ((uX T).mono (by decide)) hr (by rfl) (by exact T.lG) (by exact T.F_l_rest.kp) (by exact T.b_l_rest) (ak (dv 0 (pv 0)) (ak aG au (aj (by rfl))) (aj (by rfl))) (by decide) (aj (by rfl)) (ao (by rfl))) (ak (bO Iz aG aG) au (aj (by rfl))) (aj (by rfl))) (by decide) (aj (by rfl)) (ao (by rfl))))
 refine aA ?_ ?_
 ·exact (zj [2] (i:=3) nd (by rfl) (by exact Or.inl rfl) hc (aY (by rfl)) gP (gG (aY (by rfl))) (bZ (dv 1 (pv 1))) (fun _ _ _ _=>cu) (fun _ _ _ _=>(aF ((za T).mono (by decide)) hr (by rfl) (by exact T.mQ) (by exact T.F_l_led.kp) (by exact T.b_l_led) (ak (dv 1 (pv 1)) (ak (dv 0 (pv 0)) au (aj (by rfl))) (aj (by rfl))) (by decide) (aj (by rfl)) (ao (by rfl)))))
 refine aA ?_ ?_
 ·exact (aQ (i:=2) nd (by rfl) (by exact Or.inr rfl) (aF ((GK T).mono (by decide)) hr (by rfl) (by exact T.vo) (by exact T.F_l_map.kp) (by exact T.b_l_map) (ak (aF ((uX T).mono (by decide)) hr (by rfl) (by exact T.lG) (by exact T.F_l_rest.kp) (by exact T.b_l_rest) (ak (dv 0 (pv 0)) (ak aG au (aj (by rfl))) (aj (by rfl))) (by decide) (aj (by rfl)) (ao (by rfl))) (ak (bO Iz aG aG) au (aj (by rfl))) (aj (by rfl))) (by decide) (aj (by rfl)) (ao (by rfl))))
 refine aA ?_ ?_
 ·exact (zj [2] (i:=4) nd (by rfl) (by exact Or.inl rfl) hc (aY (by rfl)) gP (gG (aY (by rfl))) (bZ (dv 3 (pv 3))) (fun _ _ _ _=>cu) (fun _ _ _ _=>(aF ((za T).mono (by decide)) hr (by rfl) (by exact T.mQ) (by exact T.F_l_led.kp) (by exact T.b_l_led) (ak (dv 1 (pv 1)) (ak (dv 0 (pv 0)) au (aj (by rfl))) (aj (by rfl))) (by decide) (aj (by rfl)) (ao (by rfl)))))
 refine aA ?_ ?_
 ·exact (aQ (i:=5) nd (by rfl) (by exact Or.inl rfl) (aF ((Ek T).mono (by decide)) hr (by rfl) (by exact T.yC) (by exact T.F_form.kp) (by exact T.b_form) (ak (dv 1 (pv 1)) au (aj (by rfl))) (by decide) (aj (by rfl)) (ao (by rfl))))
 refine aA ?_ ?_
 ·exact (cG (zB (bw (CV (mz hr)) (aF ((Ek T).mono (by decide)) hr (by rfl) (by exact T.yC) (by exact T.F_form.kp) (by exact T.b_form) (ak (dv 3 (pv 3)) au (aj (by rfl))) (by decide) (aj (by rfl)) (ao (by rfl))) (dv 5 (pv 5)) (aW _)) (tB (bw (CV (mz hr)) (aF ((Ek T).mono (by decide)) hr (by rfl) (by exact T.yC) (by exact T.F_form.kp) (by exact T.b_form) (ak (dv 4 (pv 4)) au (aj (by rfl))) (by decide) (aj (by rfl)) (ao (by rfl))) (dv 5 (pv 5)) (aW _)))).pt (aD (aO Ws)) aZ)
 refine aA ?_ ?_
 ·first
  | (with_reducible exact (fU (hs:=by with_unfolding_all (intro _;rfl)) (by with_unfolding_all exact Ml) (by with_unfolding_all exact hc) (bZ (kZ (ak (fK (ak (dv 1 (by with_unfolding_all exact pv 1)) (ak (dv 3 (by with_unfolding_all exact pv 3)) au (aj (by with_unfolding_all rfl))) (aj (by with_unfolding_all rfl)))) (ak (fK (ak (dv 3 (by with_unfolding_all exact pv 3)) (ak (dv 4 (by with_unfolding_all exact pv 4)) au (aj (by with_unfolding_all rfl))) (aj (by with_unfolding_all rfl)))) (ak (fK (ak (dv 1 (by with_unfolding_all exact pv 1)) (ak (dv 4 (by with_unfolding_all exact pv 4)) au (aj (by with_unfolding_all rfl))) (aj (by with_unfolding_all rfl)))) (ak (fK (ak (dv 4 (by with_unfolding_all exact pv 4)) (ak (dv 1 (by with_unfolding_all exact pv 1)) au (aj (by with_unfolding_all rfl))) (aj (by with_unfolding_all rfl)))) (ak (fK (ak (dv 1 (by with_unfolding_all exact pv 1)) (ak (dv 1 (by with_unfolding_all exact pv 1)) au (aj (by with_unfolding_all rfl))) (aj (by with_unfolding_all rfl)))) au (aj (by with_unfolding_all rfl))) (aj (by with_unfolding_all rfl))) (aj (by with_unfolding_all rfl))) (aj (by with_unfolding_all rfl))) (aj (by with_unfolding_all rfl))))) (oX (hn:=by with_unfolding_all rfl) (hst:=by with_unfolding_all rfl) (by with_unfolding_all exact hc) (bU (hs:=by with_unfolding_all rfl) (bD (bx (i:=6) (by with_unfolding_all exact nd) (by with_unfolding_all rfl) (by with_unfolding_all exact Or.inl rfl))) (bU (hs:=by with_unfolding_all rfl) (bD (bx (i:=7) (by with_unfolding_all exact nd) (by with_unfolding_all rfl) (by with_unfolding_all exact Or.inl rfl))) o9))) (aD (cG (zB (bw qW (aF (k:=18) (by with_unfolding_all exact (z9 T).mono (by decide)) (by with_unfolding_all exact hr) (by with_unfolding_all rfl) (by with_unfolding_all exact T.mR) (by with_unfolding_all exact T.F_apart.kp) (by with_unfolding_all exact T.b_apart) (ak (gY Bu (by with_unfolding_all rfl) (by with_unfolding_all exact T.z_list) boot_list (ak (dv 6 (by with_unfolding_all exact pv 6)) au (aj (by with_unfolding_all rfl))) (by decide) (by decide) (aj (by with_unfolding_all rfl)) (ao (by with_unfolding_all rfl))) (ak (gY Bu (by with_unfolding_all rfl) (by with_unfolding_all exact T.z_list) boot_list (ak (dv 7 (by with_unfolding_all exact pv 7)) au (aj (by with_unfolding_all rfl))) (by decide) (by decide) (aj (by with_unfolding_all rfl)) (ao (by with_unfolding_all rfl))) au (aj (by with_unfolding_all rfl))) (aj (by with_unfolding_all rfl))) (by decide) (aj (by with_unfolding_all rfl)) (ao (by with_unfolding_all rfl))) nG (by with_unfolding_all exact aW _)) (tB (pR (iW (h:=by with_unfolding_all (intro _;rfl)) (aF (k:=18) (by with_unfolding_all exact (sH T).mono (by decide)) (by with_unfolding_all exact hr) (by with_unfolding_all rfl) (by with_unfolding_all exact T.jL) (by with_unfolding_all exact T.F_l_leads.kp) (by with_unfolding_all exact T.b_l_leads) (ak (aF (k:=18) (by with_unfolding_all exact (rA T).mono (by decide)) (by with_unfolding_all exact hr) (by with_unfolding_all rfl) (by with_unfolding_all exact T.jT) (by with_unfolding_all exact T.F_map_to.kp) (by with_unfolding_all exact T.b_map_to) (ak (dv 6 (by with_unfolding_all exact pv 6)) (ak (dv 7 (by with_unfolding_all exact pv 7)) au (aj (by with_unfolding_all rfl))) (aj (by with_unfolding_all rfl))) (by decide) (aj (by with_unfolding_all rfl)) (ao (by with_unfolding_all rfl))) (ak (dv 6 (by with_unfolding_all exact pv 6)) (ak (dv 7 (by with_unfolding_all exact pv 7)) au (aj (by with_unfolding_all rfl))) (aj (by with_unfolding_all rfl))) (aj (by with_unfolding_all rfl))) (by decide) (aj (by with_unfolding_all rfl)) (ao (by with_unfolding_all rfl))))))).pt (aD (aO Ws)) aZ))))
  | (exact (fU Ml hc (bZ (kZ (ak (fK (ak (dv 1 (pv 1)) (ak (dv 3 (pv 3)) au (aj (by rfl))) (aj (by rfl)))) (ak (fK (ak (dv 3 (pv 3)) (ak (dv 4 (pv 4)) au (aj (by rfl))) (aj (by rfl)))) (ak (fK (ak (dv 1 (pv 1)) (ak (dv 4 (pv 4)) au (aj (by rfl))) (aj (by rfl)))) (ak (fK (ak (dv 4 (pv 4)) (ak (dv 1 (pv 1)) au (aj (by rfl))) (aj (by rfl)))) (ak (fK (ak (dv 1 (pv 1)) (ak (dv 1 (pv 1)) au (aj (by rfl))) (aj (by rfl)))) au (aj (by rfl))) (aj (by rfl))) (aj (by rfl))) (aj (by rfl))) (aj (by rfl))))) (oX hc (bU (bD (bx (i:=6) nd (by rfl) (by exact Or.inl rfl))) (bU (bD (bx (i:=7) nd (by rfl) (by exact Or.inl rfl))) o9))) (aD (cG (zB (bw qW (aF ((z9 T).mono (by decide)) hr (by rfl) (by exact T.mR) (by exact T.F_apart.kp) (by exact T.b_apart) (ak (gY Bu (by rfl) (by exact T.z_list) boot_list (ak (dv 6 (pv 6)) au (aj (by rfl))) (by decide) (by decide) (aj (by rfl)) (ao (by rfl))) (ak (gY Bu (by rfl) (by exact T.z_list) boot_list (ak (dv 7 (pv 7)) au (aj (by rfl))) (by decide) (by decide) (aj (by rfl)) (ao (by rfl))) au (aj (by rfl))) (aj (by rfl))) (by decide) (aj (by rfl)) (ao (by rfl))) nG (aW _)) (tB (pR (iW (aF ((sH T).mono (by decide)) hr (by rfl) (by exact T.jL) (by exact T.F_l_leads.kp) (by exact T.b_l_leads) (ak (aF ((rA T).mono (by decide)) hr (by rfl) (by exact T.jT) (by exact T.F_map_to.kp) (by exact T.b_map_to) (ak (dv 6 (pv 6)) (ak (dv 7 (pv 7)) au (aj (by rfl))) (aj (by rfl))) (by decide) (aj (by rfl)) (ao (by rfl))) (ak (dv 6 (pv 6)) (ak (dv 7 (pv 7)) au (aj (by rfl))) (aj (by rfl))) (aj (by rfl))) (by decide) (aj (by rfl)) (ao (by rfl))))))).pt (aD (aO Ws)) aZ))))
 refine aA ?_ ?_
 ·exact (aQ (i:=8) nd (by rfl) (by exact Or.inl rfl) (aF ((El T).mono (by decide)) hr (by rfl) (by exact T.q9) (by exact T.F_then.kp) (by exact T.b_then) (ak (aF ((rA T).mono (by decide)) hr (by rfl) (by exact T.jT) (by exact T.F_map_to.kp) (by exact T.b_map_to) (ak (dv 1 (pv 1)) (ak (dv 3 (pv 3)) au (aj (by rfl))) (aj (by rfl))) (by decide) (aj (by rfl)) (ao (by rfl))) (ak (aF ((rA T).mono (by decide)) hr (by rfl) (by exact T.jT) (by exact T.F_map_to.kp) (by exact T.b_map_to) (ak (dv 3 (pv 3)) (ak (dv 4 (pv 4)) au (aj (by rfl))) (aj (by rfl))) (by decide) (aj (by rfl)) (ao (by rfl))) au (aj (by rfl))) (aj (by rfl))) (by decide) (aj (by rfl)) (ao (by rfl))))
 refine aD ?_
 exact (aO (aF ((sH T).mono (by decide)) hr (by rfl) (by exact T.jL) (by exact T.F_l_leads.kp) (by exact T.b_l_leads) (ak (dv 8 (pv 8)) (ak (dv 1 (pv 1)) (ak (dv 4 (pv 4)) au (aj (by rfl))) (aj (by rfl))) (aj (by rfl))) (by decide) (aj (by rfl)) (ao (by rfl))))
end
def fO (x:Str)(s:Stmt)(oc:FX)(od:Option Addr)(kV dc pm:FX)(an:Option Addr)(cd ct:FX)(sl:Array (Option FX)):Option Obj:=Dn ⟨oc,od,.func (U3 x x (u0 s) (oM s) (aJ s) .none kV dc pm an cd ct),sl⟩
def sR (f:Addr):Option (Option FX):=Dn (Dn (.ref f))
open PySem.W (nsIn codeIn keepIn) in
theorem all_mk {l:PySem.W.OpenLaw}{w:Ci}{K:BZ}{h:Heap}{mg:Str->Option FX}{fa:Addr}(hlaw:∀ (F_twos_differ F_threes_differ F_throws_differ:Addr),∀ ns:List Int,ns.length<=63->Ow F_twos_differ F_threes_differ F_throws_differ [.kls (ns.map W.int)] g0 (fun w _=>w=.bl true) EF)(X:K.In h)(G:h.Ns Ck mg)(hfa:mg "law" = Dn (.ref fa))
  {f0 f1 f2 f3 f4 f5 f6 f7 f8 f9 f10 f11 f12 f13 f14 f15 f16 f17 f18 f19 f20 f21 f22 f23 f24 f25 f26 f27 f28 f29 f30 f31 f32 f33 f34 f35 f36 f37 f38 f39 f40 f41 f42 f43 f44 f45 f46 f47 f48 f49 f50 f51 f52 f53 f54 f55 f56 f57 f58 f59 f60 f61 f62 f63 f64 f65 f66:Addr} {od0 an0 od1 an1 od2 an2 od3 an3 od4 an4 od5 an5 od6 an6 od7 an7 od8 an8 od9 an9 od10 an10 od11 an11 od12 an12 od13 an13 od14 an14 od15 an15 od16 an16 od17 an17 od18 an18 od19 an19 od20 an20 od21 an21 od22 an22 od23 an23 od24 an24 od25 an25 od26 an26 od27 an27 od28 an28 od29 an29 od30 an30 od31 an31 od32 an32 od33 an33 od34 an34 od35 an35 od36 an36 od37 an37 od38 an38 od39 an39 od40 an40 od41 an41 od42 an42 od43 an43 od44 an44 od45 an45 od46 an46 od47 an47 od48 an48 od49 an49 od50 an50 od51 an51 od52 an52 od53 an53 od54 an54 od55 an55 od56 an56 od57 an57 od58 an58 od59 an59 od60 an60 od61 an61 od62 an62 od63 an63 od64 an64 od65 an65 od66 an66:Option Addr} {sl0 sl1 sl2 sl3 sl4 sl5 sl6 sl7 sl8 sl9 sl10 sl11 sl12 sl13 sl14 sl15 sl16 sl17 sl18 sl19 sl20 sl21 sl22 sl23 sl24 sl25 sl26 sl27 sl28 sl29 sl30 sl31 sl32 sl33 sl34 sl35 sl36 sl37 sl38 sl39 sl40 sl41 sl42 sl43 sl44 sl45 sl46 sl47 sl48 sl49 sl50 sl51 sl52 sl53 sl54 sl55 sl56 sl57 sl58 sl59 sl60 sl61 sl62 sl63 sl64 sl65 sl66:Array (Option FX)} {oc0 kV0 dc0 pm0 cd0 ct0 oc1 kV1 dc1 pm1 cd1 ct1 oc2 kV2 dc2 pm2 cd2 ct2 oc3 kV3 dc3 pm3 cd3 ct3 oc4 kV4 dc4 pm4 cd4 ct4 oc5 kV5 dc5 pm5 cd5 ct5 oc6 kV6 dc6 pm6 cd6 ct6 oc7 kV7 dc7 pm7 cd7 ct7 oc8 kV8 dc8 pm8 cd8 ct8 oc9 kV9 dc9 pm9 cd9 ct9 oc10 kV10 dc10 pm10 cd10 ct10 oc11 kV11 dc11 pm11 cd11 ct11 oc12 kV12 dc12 pm12 cd12 ct12 oc13 kV13 dc13 pm13 cd13 ct13 oc14 kV14 dc14 pm14 cd14 ct14 oc15 kV15 dc15 pm15 cd15 ct15 oc16 kV16 dc16 pm16 cd16 ct16 oc17 kV17 dc17 pm17 cd17 ct17 oc18 kV18 dc18 pm18 cd18 ct18 oc19 kV19 dc19 pm19 cd19 ct19 oc20 kV20 dc20 pm20 cd20 ct20 oc21 kV21 dc21 pm21 cd21 ct21 oc22 kV22 dc22 pm22 cd22 ct22 oc23 kV23 dc23 pm23 cd23 ct23 oc24 kV24 dc24 pm24 cd24 ct24 oc25 kV25 dc25 pm25 cd25 ct25 oc26 kV26 dc26 pm26 cd26 ct26 oc27 kV27 dc27 pm27 cd27 ct27 oc28 kV28 dc28 pm28 cd28 ct28 oc29 kV29 dc29 pm29 cd29 ct29 oc30 kV30 dc30 pm30 cd30 ct30 oc31 kV31 dc31 pm31 cd31 ct31 oc32 kV32 dc32 pm32 cd32 ct32 oc33 kV33 dc33 pm33 cd33 ct33 oc34 kV34 dc34 pm34 cd34 ct34 oc35 kV35 dc35 pm35 cd35 ct35 oc36 kV36 dc36 pm36 cd36 ct36 oc37 kV37 dc37 pm37 cd37 ct37 oc38 kV38 dc38 pm38 cd38 ct38 oc39 kV39 dc39 pm39 cd39 ct39 oc40 kV40 dc40 pm40 cd40 ct40 oc41 kV41 dc41 pm41 cd41 ct41 oc42 kV42 dc42 pm42 cd42 ct42 oc43 kV43 dc43 pm43 cd43 ct43 oc44 kV44 dc44 pm44 cd44 ct44 oc45 kV45 dc45 pm45 cd45 ct45 oc46 kV46 dc46 pm46 cd46 ct46 oc47 kV47 dc47 pm47 cd47 ct47 oc48 kV48 dc48 pm48 cd48 ct48 oc49 kV49 dc49 pm49 cd49 ct49 oc50 kV50 dc50 pm50 cd50 ct50 oc51 kV51 dc51 pm51 cd51 ct51 oc52 kV52 dc52 pm52 cd52 ct52 oc53 kV53 dc53 pm53 cd53 ct53 oc54 kV54 dc54 pm54 cd54 ct54 oc55 kV55 dc55 pm55 cd55 ct55 oc56 kV56 dc56 pm56 cd56 ct56 oc57 kV57 dc57 pm57 cd57 ct57 oc58 kV58 dc58 pm58 cd58 ct58 oc59 kV59 dc59 pm59 cd59 ct59 oc60 kV60 dc60 pm60 cd60 ct60 oc61 kV61 dc61 pm61 cd61 ct61 oc62 kV62 dc62 pm62 cd62 ct62 oc63 kV63 dc63 pm63 cd63 ct63 oc64 kV64 dc64 pm64 cd64 ct64 oc65 kV65 dc65 pm65 cd65 ct65 oc66 kV66 dc66 pm66 cd66 ct66:FX}
  {rZ:Addr} {slk_TILES:Array (Option FX)} {nk_TILES:Nat} {k_TILES_0:Addr} {slk_TILES_0:Array (Option FX)} {nk_TILES_0:Nat} {t_TILES_0_0:_} {t_TILES_0_1:_} {t_TILES_0_2:_} {k_TILES_1:Addr} {slk_TILES_1:Array (Option FX)} {nk_TILES_1:Nat} {t_TILES_1_0:_} {t_TILES_1_1:_} {t_TILES_1_2:_} {k_TILES_2:Addr} {slk_TILES_2:Array (Option FX)} {nk_TILES_2:Nat} {t_TILES_2_0:_} {t_TILES_2_1:_} {t_TILES_2_2:_} {k_TILES_3:Addr} {slk_TILES_3:Array (Option FX)} {nk_TILES_3:Nat} {t_TILES_3_0:_} {t_TILES_3_1:_} {t_TILES_3_2:_}
  (a0:nsIn K Ck "divisor_of_two" = sR f0) (l0:K.lookup f0=fO "divisor_of_two" eU oc0 od0 kV0 dc0 pm0 an0 cd0 ct0 sl0) (c0:codeIn K cd0 "divisor_of_two" = true) (k0:keepIn K (.ref f0)=true)
  (a1:nsIn K Ck "divisor" = sR f1) (l1:K.lookup f1=fO "divisor" qI oc1 od1 kV1 dc1 pm1 an1 cd1 ct1 sl1) (c1:codeIn K cd1 "divisor" = true) (k1:keepIn K (.ref f1)=true)
  (a2:nsIn K Ck "ends_below" = sR f2) (l2:K.lookup f2=fO "ends_below" jr oc2 od2 kV2 dc2 pm2 an2 cd2 ct2 sl2) (c2:codeIn K cd2 "ends_below" = true) (k2:keepIn K (.ref f2)=true)
  (a3:nsIn K Ck "plain" = sR f3) (l3:K.lookup f3=fO "plain" zN oc3 od3 kV3 dc3 pm3 an3 cd3 ct3 sl3) (c3:codeIn K cd3 "plain" = true) (k3:keepIn K (.ref f3)=true)
  (a4:nsIn K Ck "dot" = sR f4) (l4:K.lookup f4=fO "dot" Og oc4 od4 kV4 dc4 pm4 an4 cd4 ct4 sl4) (c4:codeIn K cd4 "dot" = true) (k4:keepIn K (.ref f4)=true)
  (a5:nsIn K Ck "cross" = sR f5) (l5:K.lookup f5=fO "cross" Ab oc5 od5 kV5 dc5 pm5 an5 cd5 ct5 sl5) (c5:codeIn K cd5 "cross" = true) (k5:keepIn K (.ref f5)=true)
  (a6:nsIn K Ck "turn" = sR f6) (l6:K.lookup f6=fO "turn" Gd oc6 od6 kV6 dc6 pm6 an6 cd6 ct6 sl6) (c6:codeIn K cd6 "turn" = true) (k6:keepIn K (.ref f6)=true)
  (a7:nsIn K Ck "lies_on" = sR f7) (l7:K.lookup f7=fO "lies_on" qC oc7 od7 kV7 dc7 pm7 an7 cd7 ct7 sl7) (c7:codeIn K cd7 "lies_on" = true) (k7:keepIn K (.ref f7)=true)
  (a8:nsIn K Ck "share_one" = sR f8) (l8:K.lookup f8=fO "share_one" kJ oc8 od8 kV8 dc8 pm8 an8 cd8 ct8 sl8) (c8:codeIn K cd8 "share_one" = true) (k8:keepIn K (.ref f8)=true)
  (a9:nsIn K Ck "on_line" = sR f9) (l9:K.lookup f9=fO "on_line" pI oc9 od9 kV9 dc9 pm9 an9 cd9 ct9 sl9) (c9:codeIn K cd9 "on_line" = true) (k9:keepIn K (.ref f9)=true)
  (a10:nsIn K Ck "plain_cross" = sR f10) (l10:K.lookup f10=fO "plain_cross" iI oc10 od10 kV10 dc10 pm10 an10 cd10 ct10 sl10) (c10:codeIn K cd10 "plain_cross" = true) (k10:keepIn K (.ref f10)=true)
  (a11:nsIn K Ck "join" = sR f11) (l11:K.lookup f11=fO "join" Ft oc11 od11 kV11 dc11 pm11 an11 cd11 ct11 sl11) (c11:codeIn K cd11 "join" = true) (k11:keepIn K (.ref f11)=true)
  (a12:nsIn K Ck "rising" = sR f12) (l12:K.lookup f12=fO "rising" uM oc12 od12 kV12 dc12 pm12 an12 cd12 ct12 sl12) (c12:codeIn K cd12 "rising" = true) (k12:keepIn K (.ref f12)=true)
  (a13:nsIn K Ck "picked" = sR f13) (l13:K.lookup f13=fO "picked" uN oc13 od13 kV13 dc13 pm13 an13 cd13 ct13 sl13) (c13:codeIn K cd13 "picked" = true) (k13:keepIn K (.ref f13)=true)
  (a14:nsIn K Ck "rows_of" = sR f14) (l14:K.lookup f14=fO "rows_of" qR oc14 od14 kV14 dc14 pm14 an14 cd14 ct14 sl14) (c14:codeIn K cd14 "rows_of" = true) (k14:keepIn K (.ref f14)=true)
  (a15:nsIn K Ck "table_times_row" = sR f15) (l15:K.lookup f15=fO "table_times_row" dY oc15 od15 kV15 dc15 pm15 an15 cd15 ct15 sl15) (c15:codeIn K cd15 "table_times_row" = true) (k15:keepIn K (.ref f15)=true)
  (a16:nsIn K Ck "flipped" = sR f16) (l16:K.lookup f16=fO "flipped" qO oc16 od16 kV16 dc16 pm16 an16 cd16 ct16 sl16) (c16:codeIn K cd16 "flipped" = true) (k16:keepIn K (.ref f16)=true)
  (a17:nsIn K Ck "table_times_table" = sR f17) (l17:K.lookup f17=fO "table_times_table" cP oc17 od17 kV17 dc17 pm17 an17 cd17 ct17 sl17) (c17:codeIn K cd17 "table_times_table" = true) (k17:keepIn K (.ref f17)=true)
  (a18:nsIn K Ck "turned" = sR f18) (l18:K.lookup f18=fO "turned" uH oc18 od18 kV18 dc18 pm18 an18 cd18 ct18 sl18) (c18:codeIn K cd18 "turned" = true) (k18:keepIn K (.ref f18)=true)
  (a19:nsIn K Ck "led" = sR f19) (l19:K.lookup f19=fO "led" Qy oc19 od19 kV19 dc19 pm19 an19 cd19 ct19 sl19) (c19:codeIn K cd19 "led" = true) (k19:keepIn K (.ref f19)=true)
  (a20:nsIn K Ck "then" = sR f20) (l20:K.lookup f20=fO "then" Hf oc20 od20 kV20 dc20 pm20 an20 cd20 ct20 sl20) (c20:codeIn K cd20 "then" = true) (k20:keepIn K (.ref f20)=true)
  (a21:nsIn K Ck "back" = sR f21) (l21:K.lookup f21=fO "back" Ga oc21 od21 kV21 dc21 pm21 an21 cd21 ct21 sl21) (c21:codeIn K cd21 "back" = true) (k21:keepIn K (.ref f21)=true)
  (a22:nsIn K Ck "tiles" = sR f22) (l22:K.lookup f22=fO "tiles" Aa oc22 od22 kV22 dc22 pm22 an22 cd22 ct22 sl22) (c22:codeIn K cd22 "tiles" = true) (k22:keepIn K (.ref f22)=true)
  (a23:nsIn K Ck "are_free" = sR f23) (l23:K.lookup f23=fO "are_free" nQ oc23 od23 kV23 dc23 pm23 an23 cd23 ct23 sl23) (c23:codeIn K cd23 "are_free" = true) (k23:keepIn K (.ref f23)=true)
  (a24:nsIn K Ck "from_tiles" = sR f24) (l24:K.lookup f24=fO "from_tiles" ju oc24 od24 kV24 dc24 pm24 an24 cd24 ct24 sl24) (c24:codeIn K cd24 "from_tiles" = true) (k24:keepIn K (.ref f24)=true)
  (a25:nsIn K Ck "map_between" = sR f25) (l25:K.lookup f25=fO "map_between" iD oc25 od25 kV25 dc25 pm25 an25 cd25 ct25 sl25) (c25:codeIn K cd25 "map_between" = true) (k25:keepIn K (.ref f25)=true)
  (a26:nsIn K Ck "check_picture" = sR f26) (l26:K.lookup f26=fO "check_picture" fC oc26 od26 kV26 dc26 pm26 an26 cd26 ct26 sl26) (c26:codeIn K cd26 "check_picture" = true) (k26:keepIn K (.ref f26)=true)
  (a27:nsIn K Ck "first_free" = sR f27) (l27:K.lookup f27=fO "first_free" jx oc27 od27 kV27 dc27 pm27 an27 cd27 ct27 sl27) (c27:codeIn K cd27 "first_free" = true) (k27:keepIn K (.ref f27)=true)
  (a28:nsIn K Ck "unlike_spots" = sR f28) (l28:K.lookup f28=fO "unlike_spots" gw oc28 od28 kV28 dc28 pm28 an28 cd28 ct28 sl28) (c28:codeIn K cd28 "unlike_spots" = true) (k28:keepIn K (.ref f28)=true)
  (a29:nsIn K Ck "line_of_three" = sR f29) (l29:K.lookup f29=fO "line_of_three" fj oc29 od29 kV29 dc29 pm29 an29 cd29 ct29 sl29) (c29:codeIn K cd29 "line_of_three" = true) (k29:keepIn K (.ref f29)=true)
  (a30:nsIn K Ck "kind_of" = sR f30) (l30:K.lookup f30=fO "kind_of" qZ oc30 od30 kV30 dc30 pm30 an30 cd30 ct30 sl30) (c30:codeIn K cd30 "kind_of" = true) (k30:keepIn K (.ref f30)=true)
  (a31:nsIn K Ck "units" = sR f31) (l31:K.lookup f31=fO "units" zY oc31 od31 kV31 dc31 pm31 an31 cd31 ct31 sl31) (c31:codeIn K cd31 "units" = true) (k31:keepIn K (.ref f31)=true)
  (a32:nsIn K Ck "spot_between" = sR f32) (l32:K.lookup f32=fO "spot_between" gq oc32 od32 kV32 dc32 pm32 an32 cd32 ct32 sl32) (c32:codeIn K cd32 "spot_between" = true) (k32:keepIn K (.ref f32)=true)
  (a33:nsIn K Ck "leading_of_line" = sR f33) (l33:K.lookup f33=fO "leading_of_line" dZ oc33 od33 kV33 dc33 pm33 an33 cd33 ct33 sl33) (c33:codeIn K cd33 "leading_of_line" = true) (k33:keepIn K (.ref f33)=true)
  (a34:nsIn K Ck "filled_up" = sR f34) (l34:K.lookup f34=fO "filled_up" lK oc34 od34 kV34 dc34 pm34 an34 cd34 ct34 sl34) (c34:codeIn K cd34 "filled_up" = true) (k34:keepIn K (.ref f34)=true)
  (a35:nsIn K Ck "leading_of_few" = sR f35) (l35:K.lookup f35=fO "leading_of_few" eG oc35 od35 kV35 dc35 pm35 an35 cd35 ct35 sl35) (c35:codeIn K cd35 "leading_of_few" = true) (k35:keepIn K (.ref f35)=true)
  (a36:nsIn K Ck "leading" = sR f36) (l36:K.lookup f36=fO "leading" pU oc36 od36 kV36 dc36 pm36 an36 cd36 ct36 sl36) (c36:codeIn K cd36 "leading" = true) (k36:keepIn K (.ref f36)=true)
  (a37:nsIn K Ck "led_picture" = sR f37) (l37:K.lookup f37=fO "led_picture" iH oc37 od37 kV37 dc37 pm37 an37 cd37 ct37 sl37) (c37:codeIn K cd37 "led_picture" = true) (k37:keepIn K (.ref f37)=true)
  (a38:nsIn K Ck "form" = sR f38) (l38:K.lookup f38=fO "form" Fw oc38 od38 kV38 dc38 pm38 an38 cd38 ct38 sl38) (c38:codeIn K cd38 "form" = true) (k38:keepIn K (.ref f38)=true)
  (a39:nsIn K Ck "place_off" = sR f39) (l39:K.lookup f39=fO "place_off" lq oc39 od39 kV39 dc39 pm39 an39 cd39 ct39 sl39) (c39:codeIn K cd39 "place_off" = true) (k39:keepIn K (.ref f39)=true)
  (a40:nsIn K Ck "turn_at" = sR f40) (l40:K.lookup f40=fO "turn_at" pZ oc40 od40 kV40 dc40 pm40 an40 cd40 ct40 sl40) (c40:codeIn K cd40 "turn_at" = true) (k40:keepIn K (.ref f40)=true)
  (a41:nsIn K Ck "has_three_alike" = sR f41) (l41:K.lookup f41=fO "has_three_alike" dX oc41 od41 kV41 dc41 pm41 an41 cd41 ct41 sl41) (c41:codeIn K cd41 "has_three_alike" = true) (k41:keepIn K (.ref f41)=true)
  (a42:nsIn K Ck "throw_numbers" = sR f42) (l42:K.lookup f42=fO "throw_numbers" fJ oc42 od42 kV42 dc42 pm42 an42 cd42 ct42 sl42) (c42:codeIn K cd42 "throw_numbers" = true) (k42:keepIn K (.ref f42)=true)
  (a43:nsIn K Ck "twos_differ" = sR f43) (l43:K.lookup f43=fO "twos_differ" iB oc43 od43 kV43 dc43 pm43 an43 cd43 ct43 sl43) (c43:codeIn K cd43 "twos_differ" = true) (k43:keepIn K (.ref f43)=true)
  (a44:nsIn K Ck "threes_differ" = sR f44) (l44:K.lookup f44=fO "threes_differ" fu oc44 od44 kV44 dc44 pm44 an44 cd44 ct44 sl44) (c44:codeIn K cd44 "threes_differ" = true) (k44:keepIn K (.ref f44)=true)
  (a45:nsIn K Ck "throws_differ" = sR f45) (l45:K.lookup f45=fO "throws_differ" fH oc45 od45 kV45 dc45 pm45 an45 cd45 ct45 sl45) (c45:codeIn K cd45 "throws_differ" = true) (k45:keepIn K (.ref f45)=true)
  (a46:nsIn K Ck "first_places" = sR f46) (l46:K.lookup f46=fO "first_places" gk oc46 od46 kV46 dc46 pm46 an46 cd46 ct46 sl46) (c46:codeIn K cd46 "first_places" = true) (k46:keepIn K (.ref f46)=true)
  (a47:nsIn K Ck "fifth_apart" = sR f47) (l47:K.lookup f47=fO "fifth_apart" iG oc47 od47 kV47 dc47 pm47 an47 cd47 ct47 sl47) (c47:codeIn K cd47 "fifth_apart" = true) (k47:keepIn K (.ref f47)=true)
  (a48:nsIn K Ck "apart_of_as_many" = sR f48) (l48:K.lookup f48=fO "apart_of_as_many" dh oc48 od48 kV48 dc48 pm48 an48 cd48 ct48 sl48) (c48:codeIn K cd48 "apart_of_as_many" = true) (k48:keepIn K (.ref f48)=true)
  (a49:nsIn K Ck "apart" = sR f49) (l49:K.lookup f49=fO "apart" yX oc49 od49 kV49 dc49 pm49 an49 cd49 ct49 sl49) (c49:codeIn K cd49 "apart" = true) (k49:keepIn K (.ref f49)=true)
  (a50:nsIn K Ck "map_to" = sR f50) (l50:K.lookup f50=fO "map_to" uI oc50 od50 kV50 dc50 pm50 an50 cd50 ct50 sl50) (c50:codeIn K cd50 "map_to" = true) (k50:keepIn K (.ref f50)=true)
  (a51:nsIn K Ck "_law_cell_at" = sR f51) (l51:K.lookup f51=fO "_law_cell_at" kW oc51 od51 kV51 dc51 pm51 an51 cd51 ct51 sl51) (c51:codeIn K cd51 "_law_cell_at" = true) (k51:keepIn K (.ref f51)=true)
  (a52:nsIn K Ck "_law_rest" = sR f52) (l52:K.lookup f52=fO "_law_rest" ur oc52 od52 kV52 dc52 pm52 an52 cd52 ct52 sl52) (c52:codeIn K cd52 "_law_rest" = true) (k52:keepIn K (.ref f52)=true)
  (a53:nsIn K Ck "_law_digit" = sR f53) (l53:K.lookup f53=fO "_law_digit" p7 oc53 od53 kV53 dc53 pm53 an53 cd53 ct53 sl53) (c53:codeIn K cd53 "_law_digit" = true) (k53:keepIn K (.ref f53)=true)
  (a54:nsIn K Ck "_law_number" = sR f54) (l54:K.lookup f54=fO "_law_number" nO oc54 od54 kV54 dc54 pm54 an54 cd54 ct54 sl54) (c54:codeIn K cd54 "_law_number" = true) (k54:keepIn K (.ref f54)=true)
  (a55:nsIn K Ck "_law_divisor" = sR f55) (l55:K.lookup f55=fO "_law_divisor" lF oc55 od55 kV55 dc55 pm55 an55 cd55 ct55 sl55) (c55:codeIn K cd55 "_law_divisor" = true) (k55:keepIn K (.ref f55)=true)
  (a56:nsIn K Ck "_law_plain" = sR f56) (l56:K.lookup f56=fO "_law_plain" qm oc56 od56 kV56 dc56 pm56 an56 cd56 ct56 sl56) (c56:codeIn K cd56 "_law_plain" = true) (k56:keepIn K (.ref f56)=true)
  (a57:nsIn K Ck "_law_spot" = sR f57) (l57:K.lookup f57=fO "_law_spot" uE oc57 od57 kV57 dc57 pm57 an57 cd57 ct57 sl57) (c57:codeIn K cd57 "_law_spot" = true) (k57:keepIn K (.ref f57)=true)
  (a58:nsIn K Ck "_law_dot" = sR f58) (l58:K.lookup f58=fO "_law_dot" zM oc58 od58 kV58 dc58 pm58 an58 cd58 ct58 sl58) (c58:codeIn K cd58 "_law_dot" = true) (k58:keepIn K (.ref f58)=true)
  (a59:nsIn K Ck "_law_size" = sR f59) (l59:K.lookup f59=fO "_law_size" uL oc59 od59 kV59 dc59 pm59 an59 cd59 ct59 sl59) (c59:codeIn K cd59 "_law_size" = true) (k59:keepIn K (.ref f59)=true)
  (a60:nsIn K Ck "_law_map" = sR f60) (l60:K.lookup f60=fO "_law_map" zT oc60 od60 kV60 dc60 pm60 an60 cd60 ct60 sl60) (c60:codeIn K cd60 "_law_map" = true) (k60:keepIn K (.ref f60)=true)
  (a61:nsIn K Ck "_law_led" = sR f61) (l61:K.lookup f61=fO "_law_led" z6 oc61 od61 kV61 dc61 pm61 an61 cd61 ct61 sl61) (c61:codeIn K cd61 "_law_led" = true) (k61:keepIn K (.ref f61)=true)
  (a62:nsIn K Ck "_law_mixed" = sR f62) (l62:K.lookup f62=fO "_law_mixed" qg oc62 od62 kV62 dc62 pm62 an62 cd62 ct62 sl62) (c62:codeIn K cd62 "_law_mixed" = true) (k62:keepIn K (.ref f62)=true)
  (a63:nsIn K Ck "_law_next" = sR f63) (l63:K.lookup f63=fO "_law_next" uO oc63 od63 kV63 dc63 pm63 an63 cd63 ct63 sl63) (c63:codeIn K cd63 "_law_next" = true) (k63:keepIn K (.ref f63)=true)
  (a64:nsIn K Ck "_law_picture" = sR f64) (l64:K.lookup f64=fO "_law_picture" lg oc64 od64 kV64 dc64 pm64 an64 cd64 ct64 sl64) (c64:codeIn K cd64 "_law_picture" = true) (k64:keepIn K (.ref f64)=true)
  (a65:nsIn K Ck "_law_leads" = sR f65) (l65:K.lookup f65=fO "_law_leads" qG oc65 od65 kV65 dc65 pm65 an65 cd65 ct65 sl65) (c65:codeIn K cd65 "_law_leads" = true) (k65:keepIn K (.ref f65)=true)
  (a66:nsIn K Ck "law" = sR f66) (l66:K.lookup f66=fO "law" PB oc66 od66 kV66 dc66 pm66 an66 cd66 ct66 sl66) (c66:codeIn K cd66 "law" = true) (k66:keepIn K (.ref f66)=true)
  (z_abs:Ot K Ck "abs" = Dn FN)
  (z_all:Ot K Ck "all" = Dn FN)
  (z_isinstance:Ot K Ck "isinstance" = Dn FN)
  (z_len:Ot K Ck "len" = Dn FN)
  (z_list:Ot K Ck "list" = Dn FN)
  (z_max:Ot K Ck "max" = Dn FN)
  (z_min:Ot K Ck "min" = Dn FN)
  (z_range:Ot K Ck "range" = Dn FN)
  (z_reversed:Ot K Ck "reversed" = Dn FN)
  (z_sum:Ot K Ck "sum" = Dn FN)
  (z_tuple:Ot K Ck "tuple" = Dn FN)
  (z_zip:Ot K Ck "zip" = Dn FN)
  (gk_TILES:Ot K Ck "TILES" = Dn (Dn (.ref rZ)))
  (lk_TILES:K.lookup rZ=Dn ⟨.type "tuple",FN,.seq #[(.ref k_TILES_0),(.ref k_TILES_1),(.ref k_TILES_2),(.ref k_TILES_3)] nk_TILES,slk_TILES⟩)
  (lk_TILES_0:K.lookup k_TILES_0=Dn ⟨.type "tuple",FN,.seq #[(.int 1 t_TILES_0_0),(.int 0 t_TILES_0_1),(.int 0 t_TILES_0_2)] nk_TILES_0,slk_TILES_0⟩)
  (lk_TILES_1:K.lookup k_TILES_1=Dn ⟨.type "tuple",FN,.seq #[(.int 0 t_TILES_1_0),(.int 1 t_TILES_1_1),(.int 0 t_TILES_1_2)] nk_TILES_1,slk_TILES_1⟩)
  (lk_TILES_2:K.lookup k_TILES_2=Dn ⟨.type "tuple",FN,.seq #[(.int 0 t_TILES_2_0),(.int 0 t_TILES_2_1),(.int 1 t_TILES_2_2)] nk_TILES_2,slk_TILES_2⟩)
  (lk_TILES_3:K.lookup k_TILES_3=Dn ⟨.type "tuple",FN,.seq #[(.int 1 t_TILES_3_0),(.int 1 t_TILES_3_1),(.int 1 t_TILES_3_2)] nk_TILES_3,slk_TILES_3⟩)
  : ∃ fd:DR,(∀ (s:AP) (v:FX),BindsTo s fd ⟨[v],[]⟩ [("_law_script",v)])/\∀ base:Heap,K.In base->base.Ns Ck mg->cA l.prog w K mg base Ea 19 fa fd ["_law_script"] (Ou K):=by
 have e:=hfa.symm.trans (IV X G a66)
 cases e
 have F0:=aR (st:=eU) l0 c0 k0
 have b0:=F0.binds (ps:=["one", "other"]) fun _ _ _ _ _ _ us hl=>match us,hl with | [_,_],_=>rfl
 have F1:=aR (st:=qI) l1 c1 k1
 have b1:=F1.binds (ps:=["numbers"]) fun _ _ _ _ _ _ us hl=>match us,hl with | [_],_=>rfl
 have F2:=aR (st:=jr) l2 c2 k2
 have b2:=F2.binds (ps:=["numbers"]) fun _ _ _ _ _ _ us hl=>match us,hl with | [_],_=>rfl
 have F3:=aR (st:=zN) l3 c3 k3
 have b3:=F3.binds (ps:=["numbers"]) fun _ _ _ _ _ _ us hl=>match us,hl with | [_],_=>rfl
 have F4:=aR (st:=Og) l4 c4 k4
 have b4:=F4.binds (ps:=["one", "other"]) fun _ _ _ _ _ _ us hl=>match us,hl with | [_,_],_=>rfl
 have F5:=aR (st:=Ab) l5 c5 k5
 have b5:=F5.binds (ps:=["one", "other"]) fun _ _ _ _ _ _ us hl=>match us,hl with | [_,_],_=>rfl
 have F6:=aR (st:=Gd) l6 c6 k6
 have b6:=F6.binds (ps:=["one", "other", "third"]) fun _ _ _ _ _ _ us hl=>match us,hl with | [_,_,_],_=>rfl
 have F7:=aR (st:=qC) l7 c7 k7
 have b7:=F7.binds (ps:=["spot", "line"]) fun _ _ _ _ _ _ us hl=>match us,hl with | [_,_],_=>rfl
 have F8:=aR (st:=kJ) l8 c8 k8
 have b8:=F8.binds (ps:=["rows"]) fun _ _ _ _ _ _ us hl=>match us,hl with | [_],_=>rfl
 have F9:=aR (st:=pI) l9 c9 k9
 have b9:=F9.binds (ps:=["spots"]) fun _ _ _ _ _ _ us hl=>match us,hl with | [_],_=>rfl
 have F10:=aR (st:=iI) l10 c10 k10
 have b10:=F10.binds (ps:=["one", "other"]) fun _ _ _ _ _ _ us hl=>match us,hl with | [_,_],_=>rfl
 have F11:=aR (st:=Ft) l11 c11 k11
 have b11:=F11.binds (ps:=["one", "other"]) fun _ _ _ _ _ _ us hl=>match us,hl with | [_,_],_=>rfl
 have F12:=aR (st:=uM) l12 c12 k12
 have b12:=F12.binds (ps:=["many", "size"]) fun _ _ _ _ _ _ us hl=>match us,hl with | [_,_],_=>rfl
 have F13:=aR (st:=uN) l13 c13 k13
 have b13:=F13.binds (ps:=["things", "places"]) fun _ _ _ _ _ _ us hl=>match us,hl with | [_,_],_=>rfl
 have F14:=aR (st:=qR) l14 c14 k14
 have b14:=F14.binds (ps:=["table"]) fun _ _ _ _ _ _ us hl=>match us,hl with | [_],_=>rfl
 have F15:=aR (st:=dY) l15 c15 k15
 have b15:=F15.binds (ps:=["table", "row"]) fun _ _ _ _ _ _ us hl=>match us,hl with | [_,_],_=>rfl
 have F16:=aR (st:=qO) l16 c16 k16
 have b16:=F16.binds (ps:=["table"]) fun _ _ _ _ _ _ us hl=>match us,hl with | [_],_=>rfl
 have F17:=aR (st:=cP) l17 c17 k17
 have b17:=F17.binds (ps:=["one", "other"]) fun _ _ _ _ _ _ us hl=>match us,hl with | [_,_],_=>rfl
 have F18:=aR (st:=uH) l18 c18 k18
 have b18:=F18.binds (ps:=["table"]) fun _ _ _ _ _ _ us hl=>match us,hl with | [_],_=>rfl
 have F19:=aR (st:=Qy) l19 c19 k19
 have b19:=F19.binds (ps:=["by", "spot"]) fun _ _ _ _ _ _ us hl=>match us,hl with | [_,_],_=>rfl
 have F20:=aR (st:=Hf) l20 c20 k20
 have b20:=F20.binds (ps:=["one", "other"]) fun _ _ _ _ _ _ us hl=>match us,hl with | [_,_],_=>rfl
 have F21:=aR (st:=Ga) l21 c21 k21
 have b21:=F21.binds (ps:=["by"]) fun _ _ _ _ _ _ us hl=>match us,hl with | [_],_=>rfl
 have F22:=aR (st:=Aa) l22 c22 k22
 have b22:=F22.binds (ps:=[]) fun _ _ _ _ _ _ us hl=>match us,hl with | [],_=>rfl
 have F23:=aR (st:=nQ) l23 c23 k23
 have b23:=F23.binds (ps:=["four"]) fun _ _ _ _ _ _ us hl=>match us,hl with | [_],_=>rfl
 have F24:=aR (st:=ju) l24 c24 k24
 have b24:=F24.binds (ps:=["four"]) fun _ _ _ _ _ _ us hl=>match us,hl with | [_],_=>rfl
 have F25:=aR (st:=iD) l25 c25 k25
 have b25:=F25.binds (ps:=["four", "others"]) fun _ _ _ _ _ _ us hl=>match us,hl with | [_,_],_=>rfl
 have F26:=aR (st:=fC) l26 c26 k26
 have b26:=F26.binds (ps:=["picture"]) fun _ _ _ _ _ _ us hl=>match us,hl with | [_],_=>rfl
 have F27:=aR (st:=jx) l27 c27 k27
 have b27:=F27.binds (ps:=["picture"]) fun _ _ _ _ _ _ us hl=>match us,hl with | [_],_=>rfl
 have F28:=aR (st:=gw) l28 c28 k28
 have b28:=F28.binds (ps:=["picture"]) fun _ _ _ _ _ _ us hl=>match us,hl with | [_],_=>rfl
 have F29:=aR (st:=fj) l29 c29 k29
 have b29:=F29.binds (ps:=["unlike"]) fun _ _ _ _ _ _ us hl=>match us,hl with | [_],_=>rfl
 have F30:=aR (st:=qZ) l30 c30 k30
 have b30:=F30.binds (ps:=["picture"]) fun _ _ _ _ _ _ us hl=>match us,hl with | [_],_=>rfl
 have F31:=aR (st:=zY) l31 c31 k31
 have b31:=F31.binds (ps:=[]) fun _ _ _ _ _ _ us hl=>match us,hl with | [],_=>rfl
 have F32:=aR (st:=gq) l32 c32 k32
 have b32:=F32.binds (ps:=["spots"]) fun _ _ _ _ _ _ us hl=>match us,hl with | [_],_=>rfl
 have F33:=aR (st:=dZ) l33 c33 k33
 have b33:=F33.binds (ps:=["unlike", "line"]) fun _ _ _ _ _ _ us hl=>match us,hl with | [_,_],_=>rfl
 have F34:=aR (st:=lK) l34 c34 k34
 have b34:=F34.binds (ps:=["unlike"]) fun _ _ _ _ _ _ us hl=>match us,hl with | [_],_=>rfl
 have F35:=aR (st:=eG) l35 c35 k35
 have b35:=F35.binds (ps:=["unlike"]) fun _ _ _ _ _ _ us hl=>match us,hl with | [_],_=>rfl
 have F36:=aR (st:=pU) l36 c36 k36
 have b36:=F36.binds (ps:=["picture"]) fun _ _ _ _ _ _ us hl=>match us,hl with | [_],_=>rfl
 have F37:=aR (st:=iH) l37 c37 k37
 have b37:=F37.binds (ps:=["by", "picture"]) fun _ _ _ _ _ _ us hl=>match us,hl with | [_,_],_=>rfl
 have F38:=aR (st:=Fw) l38 c38 k38
 have b38:=F38.binds (ps:=["picture"]) fun _ _ _ _ _ _ us hl=>match us,hl with | [_],_=>rfl
 have F39:=aR (st:=lq) l39 c39 k39
 have b39:=F39.binds (ps:=["spots"]) fun _ _ _ _ _ _ us hl=>match us,hl with | [_],_=>rfl
 have F40:=aR (st:=pZ) l40 c40 k40
 have b40:=F40.binds (ps:=["one", "other", "place"]) fun _ _ _ _ _ _ us hl=>match us,hl with | [_,_,_],_=>rfl
 have F41:=aR (st:=dX) l41 c41 k41
 have b41:=F41.binds (ps:=["four"]) fun _ _ _ _ _ _ us hl=>match us,hl with | [_],_=>rfl
 have F42:=aR (st:=fJ) l42 c42 k42
 have b42:=F42.binds (ps:=["four"]) fun _ _ _ _ _ _ us hl=>match us,hl with | [_],_=>rfl
 have F43:=aR (st:=iB) l43 c43 k43
 have b43:=F43.binds (ps:=["one", "other"]) fun _ _ _ _ _ _ us hl=>match us,hl with | [_,_],_=>rfl
 have F44:=aR (st:=fu) l44 c44 k44
 have b44:=F44.binds (ps:=["one", "other"]) fun _ _ _ _ _ _ us hl=>match us,hl with | [_,_],_=>rfl
 have F45:=aR (st:=fH) l45 c45 k45
 have b45:=F45.binds (ps:=["one", "other"]) fun _ _ _ _ _ _ us hl=>match us,hl with | [_,_],_=>rfl
 have F46:=aR (st:=gk) l46 c46 k46
 have b46:=F46.binds (ps:=["one", "other", "size", "differs"]) fun _ _ _ _ _ _ us hl=>match us,hl with | [_,_,_,_],_=>rfl
 have F47:=aR (st:=iG) l47 c47 k47
 have b47:=F47.binds (ps:=["one", "other"]) fun _ _ _ _ _ _ us hl=>match us,hl with | [_,_],_=>rfl
 have F48:=aR (st:=dh) l48 c48 k48
 have b48:=F48.binds (ps:=["one", "other"]) fun _ _ _ _ _ _ us hl=>match us,hl with | [_,_],_=>rfl
 have F49:=aR (st:=yX) l49 c49 k49
 have b49:=F49.binds (ps:=["one", "other"]) fun _ _ _ _ _ _ us hl=>match us,hl with | [_,_],_=>rfl
 have F50:=aR (st:=uI) l50 c50 k50
 have b50:=F50.binds (ps:=["one", "other"]) fun _ _ _ _ _ _ us hl=>match us,hl with | [_,_],_=>rfl
 have F51:=aR (st:=kW) l51 c51 k51
 have b51:=F51.binds (ps:=["_law_script", "_law_k"]) fun _ _ _ _ _ _ us hl=>match us,hl with | [_,_],_=>rfl
 have F52:=aR (st:=ur) l52 c52 k52
 have b52:=F52.binds (ps:=["_law_script", "_law_k"]) fun _ _ _ _ _ _ us hl=>match us,hl with | [_,_],_=>rfl
 have F53:=aR (st:=p7) l53 c53 k53
 have b53:=F53.binds (ps:=["_law_rest_here", "_law_many"]) fun _ _ _ _ _ _ us hl=>match us,hl with | [_,_],_=>rfl
 have F54:=aR (st:=nO) l54 c54 k54
 have b54:=F54.binds (ps:=["_law_rest_here", "_law_far"]) fun _ _ _ _ _ _ us hl=>match us,hl with | [_,_],_=>rfl
 have F55:=aR (st:=lF) l55 c55 k55
 have b55:=F55.binds (ps:=["_law_numbers"]) fun _ _ _ _ _ _ us hl=>match us,hl with | [_],_=>rfl
 have F56:=aR (st:=qm) l56 c56 k56
 have b56:=F56.binds (ps:=["_law_numbers"]) fun _ _ _ _ _ _ us hl=>match us,hl with | [_],_=>rfl
 have F57:=aR (st:=uE) l57 c57 k57
 have b57:=F57.binds (ps:=["_law_rest_here", "_law_far"]) fun _ _ _ _ _ _ us hl=>match us,hl with | [_,_],_=>rfl
 have F58:=aR (st:=zM) l58 c58 k58
 have b58:=F58.binds (ps:=["_law_one", "_law_other"]) fun _ _ _ _ _ _ us hl=>match us,hl with | [_,_],_=>rfl
 have F59:=aR (st:=uL) l59 c59 k59
 have b59:=F59.binds (ps:=["_law_numbers"]) fun _ _ _ _ _ _ us hl=>match us,hl with | [_],_=>rfl
 have F60:=aR (st:=zT) l60 c60 k60
 have b60:=F60.binds (ps:=["_law_rest_here", "_law_far"]) fun _ _ _ _ _ _ us hl=>match us,hl with | [_,_],_=>rfl
 have F61:=aR (st:=z6) l61 c61 k61
 have b61:=F61.binds (ps:=["_law_by", "_law_spot_here"]) fun _ _ _ _ _ _ us hl=>match us,hl with | [_,_],_=>rfl
 have F62:=aR (st:=qg) l62 c62 k62
 have b62:=F62.binds (ps:=["_law_one", "_law_other", "_law_rest_here"]) fun _ _ _ _ _ _ us hl=>match us,hl with | [_,_,_],_=>rfl
 have F63:=aR (st:=uO) l63 c63 k63
 have b63:=F63.binds (ps:=["_law_spots", "_law_style", "_law_rest_here"]) fun _ _ _ _ _ _ us hl=>match us,hl with | [_,_,_],_=>rfl
 have F64:=aR (st:=lg) l64 c64 k64
 have b64:=F64.binds (ps:=["_law_rest_here", "_law_most"]) fun _ _ _ _ _ _ us hl=>match us,hl with | [_,_],_=>rfl
 have F65:=aR (st:=qG) l65 c65 k65
 have b65:=F65.binds (ps:=["_law_by", "_law_one", "_law_other"]) fun _ _ _ _ _ _ us hl=>match us,hl with | [_,_,_],_=>rfl
 have F66:=aR (st:=PB) l66 c66 k66
 have b66:=F66.binds (ps:=["_law_script"]) fun _ _ _ _ _ _ us hl=>match us,hl with | [_],_=>rfl
 have T:Txt K mg ⟨f0,_,f1,_,f2,_,f3,_,f4,_,f5,_,f6,_,f7,_,f8,_,f9,_,f10,_,f11,_,f12,_,f13,_,f14,_,f15,_,f16,_,f17,_,f18,_,f19,_,f20,_,f21,_,f22,_,f23,_,f24,_,f25,_,f26,_,f27,_,f28,_,f29,_,f30,_,f31,_,f32,_,f33,_,f34,_,f35,_,f36,_,f37,_,f38,_,f39,_,f40,_,f41,_,f42,_,f43,_,f44,_,f45,_,f46,_,f47,_,f48,_,f49,_,f50,_,f51,_,f52,_,f53,_,f54,_,f55,_,f56,_,f57,_,f58,_,f59,_,f60,_,f61,_,f62,_,f63,_,f64,_,f65,_,fa,_,rZ⟩:=⟨F0,IV X G a0,b0,F1,IV X G a1,b1,F2,IV X G a2,b2,F3,IV X G a3,b3,F4,IV X G a4,b4,F5,IV X G a5,b5,F6,IV X G a6,b6,F7,IV X G a7,b7,F8,IV X G a8,b8,F9,IV X G a9,b9,F10,IV X G a10,b10,F11,IV X G a11,b11,F12,IV X G a12,b12,F13,IV X G a13,b13,F14,IV X G a14,b14,F15,IV X G a15,b15,F16,IV X G a16,b16,F17,IV X G a17,b17,F18,IV X G a18,b18,F19,IV X G a19,b19,F20,IV X G a20,b20,F21,IV X G a21,b21,F22,IV X G a22,b22,F23,IV X G a23,b23,F24,IV X G a24,b24,F25,IV X G a25,b25,F26,IV X G a26,b26,F27,IV X G a27,b27,F28,IV X G a28,b28,F29,IV X G a29,b29,F30,IV X G a30,b30,F31,IV X G a31,b31,F32,IV X G a32,b32,F33,IV X G a33,b33,F34,IV X G a34,b34,F35,IV X G a35,b35,F36,IV X G a36,b36,F37,IV X G a37,b37,F38,IV X G a38,b38,F39,IV X G a39,b39,F40,IV X G a40,b40,F41,IV X G a41,b41,F42,IV X G a42,b42,F43,IV X G a43,b43,F44,IV X G a44,b44,F45,IV X G a45,b45,F46,IV X G a46,b46,F47,IV X G a47,b47,F48,IV X G a48,b48,F49,IV X G a49,b49,F50,IV X G a50,b50,F51,IV X G a51,b51,F52,IV X G a52,b52,F53,IV X G a53,b53,F54,IV X G a54,b54,F55,IV X G a55,b55,F56,IV X G a56,b56,F57,IV X G a57,b57,F58,IV X G a58,b58,F59,IV X G a59,b59,F60,IV X G a60,b60,F61,IV X G a61,b61,F62,IV X G a62,b62,F63,IV X G a63,b63,F64,IV X G a64,b64,F65,IV X G a65,b65,F66,IV X G a66,b66,QG X G z_abs,QG X G z_all,QG X G z_isinstance,QG X G z_len,QG X G z_list,QG X G z_max,QG X G z_min,QG X G z_range,QG X G z_reversed,QG X G z_sum,QG X G z_tuple,QG X G z_zip,IV X G gk_TILES,fun _ _=>((pH lk_TILES (by simp <;> decide) (.cons aaK (.cons aaK (.cons aaK (.cons aaK .nil)))) fun _ _=>(nW ((pH lk_TILES_0 (by simp <;> decide) (.cons Jk (.cons Jk (.cons Jk .nil))) fun _ _=>(nW Jj (nW Jj (nW Jj KH)))) _ _) (nW ((pH lk_TILES_1 (by simp <;> decide) (.cons Jk (.cons Jk (.cons Jk .nil))) fun _ _=>(nW Jj (nW Jj (nW Jj KH)))) _ _) (nW ((pH lk_TILES_2 (by simp <;> decide) (.cons Jk (.cons Jk (.cons Jk .nil))) fun _ _=>(nW Jj (nW Jj (nW Jj KH)))) _ _) (nW ((pH lk_TILES_3 (by simp <;> decide) (.cons Jk (.cons Jk (.cons Jk .nil))) fun _ _=>(nW Jj (nW Jj (nW Jj KH)))) _ _) KH))))) _ _)⟩
 exact ⟨_,fun s v=>.of_eq rfl,fun base _ _=>agL (hlaw _ _ _) (aav T)⟩
theorem walk {l:PySem.W.OpenLaw}{q:Dr}{loose:List Str}{XP:(Str->Option FX)->Heap->Prop}{YP:Ci->Heap->Prop}{d:DefRec}{K:Params->BZ}(hn:l.most=Dn 63)(hdf:d.params.defaults=[])
  (hY:∀ (w:Ci) (h:Heap),YP w h->(K w.params).In h)
  (F:∀ (w:Ci) (mg:Str->Option FX) (fa:Addr) (h:Heap),(K w.params).In h->h.Ns Ck mg->mg d.name=Dn (.ref fa) ->
   ∃ fd:DR,(∀ (s:AP) (u:FX),BindsTo s fd ⟨[u],[]⟩ [("_law_script",u)])/\∀ base:Heap,(K w.params).In base->base.Ns Ck mg->cA l.prog w (K w.params) mg base Ea 19 fa fd ["_law_script"] (Ou (K w.params))) :
  PySem.W.WalkO q loose XP YP l.row.toRowW d [] (fun f vs=>PySem.call f vs):=
 L2.MJ (n:=63) (k:=19) (x := "_law_script") (CX:=fun _=>Ea) (sp:=fun w=>Ou (K w.params)) hn (by decide) hdf ⟨fun _=>rfl,by decide,by decide⟩ hY F (fun _ _ a ns hl hO hS=>⟨a,ns,rfl,hS,hO,hl,fun _=>rfl⟩) fun _ _ _ _ _ z=>z
local macro_rules | `(tactic| trivial) => `(tactic| with_reducible exact Sm.lit (by decide))
local macro_rules | `(tactic| trivial) => `(tactic| with_reducible exact Sm.zero)
local macro_rules | `(tactic| trivial) => `(tactic| with_reducible exact Sm.neg (by trivial))
local macro_rules | `(tactic| trivial) => `(tactic| with_reducible exact Sm.sub (by trivial) (by trivial))
local macro_rules | `(tactic| trivial) => `(tactic| with_reducible exact Sm.add (by trivial) (by trivial))
local macro_rules | `(tactic| trivial) => `(tactic| with_reducible exact Sm.mul (by trivial) (by trivial))
local macro_rules | `(tactic| trivial) => `(tactic| with_reducible assumption)
theorem tY (h:Gh)(n:Nat)(c:Cell):(h.set n c).c n=Dn c:=by show (if n=n then Dn c else h.c n)=Dn c;rw [if_pos rfl]
theorem vO {h:Gh}{n m:Nat}{c:Cell}(e:m≠n):(h.set n c).c m=h.c m:=by show (if m=n then Dn c else h.c m)=_;rw [if_neg e]
theorem DW (h:Gh)(c:Cell):(h.new c).c h.nx=Dn c:=by show (if h.nx=h.nx then Dn c else h.c h.nx)=Dn c;rw [if_pos rfl]
theorem xQ {h:Gh}{m:Nat}{c:Cell}(e:m≠h.nx):(h.new c).c m=h.c m:=by show (if m=h.nx then Dn c else h.c m)=_;rw [if_neg e]
theorem fL {h:Gh}{n:Nat}{ws:List W}(e:h.c n=Dn (.lst ws)):view h (.loc n)=Dn ws:=by simp only [view,fG,e]
def Rs (h:Gh)(n:Nat):Prop:=(∃ a,h.c n=Dn (.lst [.int a]))\/∃ a b,h.c n=Dn (.lst [.int a,.int b])
def MP (n:Nat)(h h':Gh):Prop:=h'.nx=h.nx/\∀ m,m≠n->h'.c m=h.c m
theorem MP.refl (n:Nat)(h:Gh):MP n h h:=⟨rfl,fun _ _=>rfl⟩
theorem MP.trans {n:Nat}{a b c:Gh}(x:MP n a b)(y:MP n b c):MP n a c:=⟨y.1.trans x.1,fun m e=>(y.2 m e).trans (x.2 m e)⟩
theorem MP.set {n:Nat}{h:Gh}{c:Cell}:MP n h (h.set n c):=⟨rfl,fun _ e=>vO e⟩
theorem qM {a b:Int}(h:0<b):a.fmod b=a % b:=Int.fmod_eq_emod_of_nonneg a (Int.le_of_lt h)
theorem N6 {A B:Prop}{c:Bool}(e:c=true)(h:A):JZ c A B:=by subst e;exact h
theorem ZL {A B:Prop}{c:Bool}(e:c=false)(h:B):JZ c A B:=by subst e;exact h
theorem Er {c:Prop} [Decidable c] {A B:Prop} (h1:c->A) (h2:¬ c->B):JZ (decide c) A B:=by
 by_cases h:c
 ·rw [decide_eq_true h];exact h1 h
 ·rw [decide_eq_false h];exact h2 h
theorem lC {h:Gh}{n:Nat}{a many:Int}{r:List W}{Q:WK}(hr:r=[]\/∃ b,r=[.int b])(e:h.c n=Dn (.lst (.int a::r)))(hm:0<many)(hb:Sm 8000 many)(k:∀ d h',0<=d->d<many->Rs h' n->MP n h h'->Q (.int d) h') :
  bG (bW (kI uF (kI CG (aB 0) (mC (.int 0))) (aB 1)) (JI 2)) (bG (bW (kI Dl (kI CG (aB 0) (mC (.int 0))) (aB 1)) (aaA (aB 0) (mC (.int 0)) Ka)) (bV (aB 2)))
   { nx:=fun _ h'=>Q .non h',rt:=fun w h'=>Q w h' } [Dn (.loc n),Dn (.int many),FN] h:=by
 have hm0:many≠0:=by lia
 have ev:=fL e
 rcases hr with rfl | ⟨b,rfl⟩
 all_goals
  conv=>whnf
  rw [ev]
  conv=>whnf
  refine ⟨hm0,?_⟩
  conv=>whnf
  rw [ev]
  conv=>whnf
  refine ⟨⟨hm0,8000,by decide,hb⟩,?_⟩
  conv=>whnf
  rw [e]
  show Q (.int (a.fmod many)) (h.set n _)
  rw [qM hm]
  refine k _ _ (Int.emod_nonneg _ hm0) (Int.emod_lt_of_pos _ hm) ?_ MP.set
 ·exact .inl ⟨_,tY _ _ _⟩
 ·exact .inr ⟨_,_,tY _ _ _⟩
def rE (c:Mk):Prop:=∀ {h:Gh} {n:Nat} {many:Int} {Q:WK} {E:Bq},Rs h n->0<many->Sm 8000 many->(∀ d h',0<=d->d<many->Rs h' n->MP n h h'->Q (.int d) h')->c [.loc n,.int many] h Q E
theorem afK:rE Cy:=by
 intro h n many Q E e hm hb k
 rcases e with ⟨a,e⟩ | ⟨a,b,e⟩
 ·have ev:=fL e
  conv=>whnf
  rw [ev]
  show br (decide (a<2)) _ _
  refine vp (fun _=>?_) (fun _=>?_)
  ·conv=>whnf
   rw [ev]
   refine wN rfl ?_
   exact lC (r:=[]) (.inl rfl) e hm hb k
  ·refine wN rfl ?_
   exact lC (r:=[]) (.inl rfl) e hm hb k
 ·have ev:=fL e
  conv=>whnf
  rw [ev]
  show br (decide (a<2)) _ _
  refine vp (fun _=>?_) (fun _=>?_)
  ·conv=>whnf
   rw [ev]
   refine QV rfl ?_
   conv=>whnf
   rw [e]
   conv=>whnf
   rw [e]
   conv=>whnf
   rw [tY]
   refine lC (r:=[]) (h:=(h.set n (.lst [.int a])).set n (.lst [.int b])) (.inl rfl) (tY _ _ _) hm hb fun d h' d0 d1 r o=>?_
   exact k d h' d0 d1 r (MP.set.trans (MP.set.trans o))
  ·refine wN rfl ?_
   exact lC (r:=[.int b]) (.inr ⟨b,rfl⟩) e hm hb k
def uz (c:Mk):Prop:=∀ {h:Gh} {n:Nat} {far:Int} {Q:WK} {E:Bq},Rs h n->20<far->Sm 7000 far->(∀ x h',-far<x->x<far->Rs h' n->MP n h h'->Q (.int x) h')->c [.loc n,.int far] h Q E
theorem zbp {dg:Mk}(hd:rE dg):uz (yG dg):=by
 intro h n far Q E e hf hb k
 conv=>whnf
 refine hd (n:=n) (many:=3) e (by decide) (by unfold Sm;decide +kernel) fun d h1 d0 d1 r1 o1=>?_
 refine ⟨fun h0=>?_,fun h0=>?_⟩
 ·conv=>whnf
  refine hd (n:=n) (many:=7) r1 (by decide) (by unfold Sm;decide +kernel) fun d h2 e0 e1 r2 o2=>?_
  exact k _ _ (by lia) (by lia) r2 (o1.trans o2)
 ·refine ⟨fun h0=>?_,fun h0=>?_⟩
  ·conv=>whnf
   refine hd (n:=n) (many:=41) r1 (by decide) (by unfold Sm;decide +kernel) fun d h2 e0 e1 r2 o2=>?_
   exact k _ _ (by lia) (by lia) r2 (o1.trans o2)
  ·conv=>whnf
   refine ⟨⟨3,7000,by decide,by decide,by unfold Sm;decide +kernel,hb⟩,?_⟩
   conv=>whnf
   refine hd (n:=n) (many:=2*far - 1) r1 (by lia) ?_ fun d h2 e0 e1 r2 o2=>?_
   ·have:Sm 7004 (2*far - 1):=(Sm.sub (m:=7003) (n:=1) (Sm.mul (m:=3) (n:=7000) (by unfold Sm;decide +kernel) hb) (by unfold Sm;decide +kernel))
    exact this.mono (by decide)
   ·exact k _ _ (by lia) (by lia) r2 (o1.trans o2)
theorem rD {ws ws0:List W}{g:MG}{b:MS}{D:cj}(I:Nat->Sw->Gh->Prop)
  (step:∀ (i:Nat) (w:W) (σ : Sw) (h:Gh) (N:Sw->Gh->Prop),(∀ σ' h',I (i+1) σ' h'->N σ' h')->ws[i]?=Dn w->I i σ h->g w σ h fun σ1 h1=>b { D with nx:=N,ct:=N,bk:=D.nx } σ1 h1)
  (fin:∀ σ h,I ws.length σ h->D.nx σ h):∀ {σ : Sw} {h:Gh},I 0 σ h->gJ ⟨ws0,FN⟩ g b D ws σ h:=by
 induction ws generalizing I with
 | nil=>intro σ h h0;exact fin σ h h0
 | cons w ws ih=>
  intro σ h h0
  refine step 0 w σ h _ (fun σ' h' q=>?_) rfl h0
  exact ih (fun i=>I (i+1)) (fun i w σ h N hN e hi=>step (i+1) w σ h N hN (by simpa using e) hi) (fun σ h q=>fin σ h q) q
theorem vU {ws ws0:List W}{own:W->Option (List W)}{ix:List Nat}{tt:MT}{te:ME}{σ : Sw}{Q:WK}(I:Nat->List W->Gh->Prop)
  (step:∀ (i:Nat) (w:W) (acc:List W) (h:Gh) (N:List W->Gh->Prop),(∀ acc' h',I (i+1) acc' h'->N acc' h')->ws[i]?=Dn w->I i acc h ->
   ∃ vs,own w=Dn vs/\tt (vs.map Dn++vq ix σ) h fun c h1=>JZ c (te (vs.map Dn++vq ix σ) h1 fun v h2=>N (acc++[v]) h2) (N acc h1))
  (fin:∀ acc h,I ws.length acc h->Q (.lst acc) h):∀ {acc:List W} {h:Gh},I 0 acc h->rO ⟨ws0,FN⟩ own ix tt te σ Q ws acc h:=by
 induction ws generalizing I with
 | nil=>intro acc h h0;exact fin acc h h0
 | cons w ws ih=>
  intro acc h h0
  obtain ⟨vs,ev,q⟩:=step 0 w acc h _ (fun acc' h' q=>ih (fun i=>I (i+1)) (fun i w acc h N hN e hi=>step (i+1) w acc h N hN (by simpa using e) hi) (fun acc h q=>fin acc h q) q) rfl h0
  show (match own w with
   | some vs=>_
   | none=>False)
  rw [ev]
  exact q
theorem Gu {lo:Int}{n i:Nat}{w:W}(e:(Du lo n)[i]?=Dn w):i<n/\w=.int (lo+(i:Int)):=by
 have hi:i<n:=by
  have:=(Ox.mp e).1
  simpa [Du] using this
 unfold Du at e
 rw [ML,List.getElem?_range hi] at e
 exact ⟨hi,(Ja e).symm⟩
theorem zZ {lo:Int}{n:Nat}:(Du lo n).length=n:=by simp [Du]
theorem agW {ma:MA}{j:Int}{g:MG}{b:MS}{D:cj}{σ : Sw}{h:Gh}(hm:∀ R,ma σ h R=R [.int j] h)(h1:-(2^62)<=j)(h2:j<2^62)(I:Nat->Sw->Gh->Prop)
  (step:∀ (i:Nat) (σ : Sw) (h:Gh) (N:Sw->Gh->Prop),(∀ σ' h',I (i+1) σ' h'->N σ' h')->i<j.toNat->I i σ h->g (.int (i:Int)) σ h fun σ1 h1=>b { D with nx:=N,ct:=N,bk:=D.nx } σ1 h1)
  (fin:∀ σ h,I j.toNat σ h->D.nx σ h) (h0:I 0 σ h):uD (jg ma) g b D σ h:=by
 unfold uD jg
 rw [hm]
 refine CT.mk h1 h2 ?_
 refine rD I (fun i w σ h N hN e hi=>?_) (fun σ h q=>fin σ h (by rw [zZ] at q;exact q)) h0
 obtain ⟨hlt,rfl⟩:=Gu e
 rw [Int.zero_add]
 exact step i σ h N hN hlt hi
theorem agK {ns:List Int}{k:Int}(h0:0<=k)(h1:k<((ns.map W.int).length:Int)):Ks (ns.map W.int) k=Dn (.int (ns.getD k.toNat 0)):=by
 have hk:k.toNat<ns.length:=by rw [Iu] at h1;lia
 have e:(ns.map W.int)[k.toNat]?=Dn (.int (ns.getD k.toNat 0)):=by
  rw [ML,KY hk,Oc,KY hk];rfl
 have:=v7 e
 rwa [show ((k.toNat:Nat):Int)=k by lia] at this
def Hv (c:Mk):Prop:=∀ {h:Gh} {ns:List Int} {k:Int} {Q:WK} {E:Bq},0<=k->Q (.int (ns.getD k.toNat 0)) h->c [.kls (ns.map .int),.int k] h Q E
theorem zaU:Hv vh:=by
 intro h ns k Q E h0 q
 show br (decide (k<((ns.map W.int).length:Int))) _ _
 refine vp (fun hk=>?_) (fun hk=>?_)
 ·conv=>whnf
  rw [agK h0 hk]
  exact q
 ·have e:ns.getD k.toNat 0=0:=by
   rw [Oc,VJ (by rw [Iu] at hk;lia)];rfl
  rw [e] at q
  exact q
def J7 (c:Mk):Prop:=∀ {h:Gh} {ns:List Int} {k:Int} {Q:WK} {E:Bq},0<=k->k<=1000->(∀ h',Rs h' h.nx->h'.nx=h.nx+1->(∀ m,m≠h.nx->h'.c m=h.c m)->Q (.loc h.nx) h')->c [.kls (ns.map .int),.int k] h Q E
theorem ahH {big one j:Int}{i:Nat}(h0:0<=big)(h1:Sm (50*i) big)(m0:0<=one)(m1:one<1000000000039):0<=big*10^12+one/\Sm (50*(i+1)) (big*10^12+one):=by
 have e:(2:Nat)^(50*(i+1))=2^(50*i)*2^50:=by rw [Nat.mul_add,Nat.pow_add]
 unfold Sm at h1 |-
 rw [e]
 have p:(10:Int)^12=1000000000000:=by decide
 rw [p]
 have q:(2:Nat)^50=1125899906842624:=by decide
 rw [q]
 generalize 2^(50*i)=t at h1 |-
 refine ⟨by lia,by lia⟩
theorem Zy {ca:Mk}(hca:Hv ca):J7 (G6 ca):=by
 intro h ns k Q E h0 h1 q
 conv=>whnf
 refine hca h0 ?_
 generalize ns.getD k.toNat 0=cell
 have c1:(10:Int)^(18:Int).toNat=1000000000000000000:=by decide
 have c2:(10:Int)^(12:Int).toNat=1000000000000:=by decide
 conv=>whnf
 refine ⟨⟨by decide,64,by decide,.lit rfl⟩,?_⟩
 conv=>whnf
 refine ⟨⟨by decide,by decide,by decide⟩,?_⟩
 conv=>whnf
 refine ⟨by decide,?_⟩
 conv=>whnf
 rw [c1,qM (by decide)]
 have y0:=Int.emod_nonneg (cell.fdiv 2) (show (1000000000000000000:Int)≠0 by decide)
 have y1:=Int.emod_lt_of_pos (cell.fdiv 2) (show (0:Int)<1000000000000000000 by decide)
 generalize cell.fdiv 2 % 1000000000000000000=y at y0 y1 |-
 refine ⟨.of (n:=10) (.lit rfl) (xJ (by lia) (by lia)) (by decide) (by decide),?_⟩
 conv=>whnf
 refine ⟨.of (m:=23) (n:=10) (xJ (by lia) (by lia)) (xJ (by lia) (by lia)) (by decide) (by decide),?_⟩
 conv=>whnf
 have k0:0<=k*k:=Int.mul_nonneg h0 h0
 have k1:k*k<=1000*1000:=Int.mul_le_mul h1 h1 h0 (by decide)
 have kk:7919*k*k=7919*(k*k):=Int.mul_assoc ..
 rw [kk]
 generalize k*k=k2 at k0 k1 |-
 refine ⟨.of (m:=64) (xJ (by lia) (by lia)) (.lit rfl) (by decide) (by decide),?_⟩
 conv=>whnf
 refine ⟨by decide,?_⟩
 rw [qM (by decide)]
 generalize hz:(y+7919*k2+1)*48271 % 999999000001=one
 have z0:0<=one:=by lia
 have z1:one<999999000001:=by lia
 dsimp only [JI,bG,bW,mC]
 refine agW (j:=60) (fun _=>rfl) (by decide) (by decide) (fun i σ h'=>h'=h/\∃ one big o,σ = [Dn (.kls (ns.map .int)),Dn (.int k),Dn (.int cell),Dn (.int one),Dn (.int big),o]/\0<=one/\one<999999000001/\0<=big/\Sm (50*i) big) ?_ ?_ ⟨rfl,one,0,FN,rfl,z0,z1,Int.le_refl _,Sm.zero⟩
 ·rintro i σ h' N hN hi ⟨rfl,one,big,o,rfl,o0,o1,b0,b1⟩
  have hi:i<60:=hi
  conv=>whnf
  refine ⟨.of (m:=40) (xJ (by lia) (by lia)) (.lit rfl) (by decide) (by decide),?_⟩
  conv=>whnf
  refine ⟨.of (m:=6) (n:=6) (xJ (by lia) (by lia)) (xJ (by lia) (by lia)) (by decide) (by decide),?_⟩
  conv=>whnf
  refine ⟨by decide,?_⟩
  rw [qM (by decide)]
  generalize hj:(i:Int)*(i:Int)=jj
  generalize hz:(one*69621+jj+1) % 999999000001=one'
  have z0:0<=one':=by lia
  have z1:one'<999999000001:=by lia
  conv=>whnf
  refine ⟨⟨by decide,by decide,by decide⟩,?_⟩
  conv=>whnf
  rw [c2]
  refine ⟨.of (m:=50*i) b1 (.lit rfl) (by lia) (by decide),?_⟩
  conv=>whnf
  refine ⟨.of (n:=6) (.lit rfl) (xJ (by lia) (by lia)) (by decide) (by decide),?_⟩
  conv=>whnf
  refine ⟨.of (m:=40) (n:=41) (xJ (by lia) (by lia)) (xJ (by lia) (by lia)) (by decide) (by decide),?_⟩
  conv=>whnf
  refine ⟨by decide,?_⟩
  rw [qM (by decide)]
  generalize hm:one'*(one'+31*(i:Int)) % 1000000000039=m
  obtain ⟨g0,g1⟩:=ahH (one:=m) (i:=i) (j:=0) b0 b1 (by lia) (by lia)
  have g2:(10:Int)^12=1000000000000:=by decide
  rw [g2] at g0 g1
  exact hN _ _ ⟨rfl,one',_,_,rfl,z0,z1,g0,g1⟩
 ·rintro σ h' ⟨rfl,one,big,o,rfl,o0,o1,b0,b1⟩
  conv=>whnf
  refine ⟨by decide,?_⟩
  refine ⟨fun _=>?_,fun _=>?_⟩
  ·exact q _ (.inl ⟨_,DW _ _⟩) rfl fun m hm=>xQ hm
  ·conv=>whnf
   refine ⟨⟨by decide,64,by decide,.lit rfl⟩,?_⟩
   exact q _ (.inr ⟨_,_,DW _ _⟩) rfl fun m hm=>xQ hm
def gF (f n:Int):Int:=((NQ n f:Nat):Int)
def gL (ns:List Int):Int:=ns.foldl gF 0
theorem Mf (ns:List Int)(n:Int):gL (ns++[n])=gF (gL ns) n:=by unfold gL;rw [List.foldl_append];rfl
theorem X3 (f n:Int):0<=gF f n:=Int.natCast_nonneg _
theorem Xd (ns:List Int):0<=gL ns:=by
 rcases List.eq_nil_or_concat ns with rfl | ⟨l,a,rfl⟩
 ·exact Int.le_refl _
 ·rw [List.concat_eq_append,Mf];exact X3 _ _
theorem Gw {x y:Int}(hx:0<=x)(hy:0<y):NQ y (x.fmod y)=NQ x y/\0<=x.fmod y/\x.fmod y<y:=by
 rw [Int.fmod_eq_emod_of_nonneg x (Int.le_of_lt hy)]
 refine ⟨?_,Int.emod_nonneg _ (by lia),Int.emod_lt_of_pos _ hy⟩
 obtain ⟨m,rfl⟩:=Int.eq_ofNat_of_zero_le hx
 obtain ⟨n,rfl⟩:=Int.eq_ofNat_of_zero_le (Int.le_of_lt hy)
 rw [<-Int.natCast_emod,Int.gcd_natCast_natCast,Int.gcd_natCast_natCast,Nat.gcd_comm m n,Nat.gcd_rec n m,Nat.gcd_comm]
theorem GX (a:Int):0<=(if a<0 then -a else a):=by split <;> lia
theorem abs_eq (a:Int):(if a<0 then -a else a)=(a.natAbs:Int):=by split <;> lia
theorem ahj (a b:Int):NQ (if a<0 then -a else a) (if b<0 then -b else b)=NQ a b:=by
 rw [abs_eq,abs_eq];simp [NQ]
theorem vH {x:Int}(h:0<=x):((NQ x 0:Nat):Int)=x:=by
 rw [Int.gcd_zero_right];lia
def Y4 (c:Mk):Prop:=∀ {h:Gh} {a b:Int} {Q:WK} {E:Bq},Q (.int (gF b a)) h->c [.int a,.int b] h Q E
theorem ab5:Y4 lZ:=by
 intro h a b Q E q
 conv=>whnf
 refine ⟨fun m σ h'=>h'=h/\∃ x y r,σ = [Dn (.int x),Dn (.int y),r]/\0<=x/\0<=y/\NQ x y=NQ a b/\m=y.toNat,⟨_,rfl,_,_,FN,rfl,GX a,GX b,ahj a b,rfl⟩,?_⟩
 rintro m σ h' ⟨rfl,x,y,r,rfl,x0,y0,hg,rfl⟩
 refine ⟨fun e=>?_,fun e=>?_⟩
 ·have hy:y≠0:=by simpa [Ce] using e
  obtain ⟨g1,g2,g3⟩:=Gw x0 (by lia:0<y)
  conv=>whnf
  refine ⟨hy,?_⟩
  refine ⟨(x.fmod y).toNat,by lia,rfl,y,x.fmod y,_,rfl,y0,g2,g1.trans hg,rfl⟩
 ·have hy:y=0:=by simpa [Ce] using e
  subst hy
  have:gF b a=x:=by unfold gF;rw [<-hg];exact vH x0
  rw [this] at q
  exact q
def Ints (w:W)(ns:List Int):Prop:=w=.lst (ns.map .int)\/w=.tup (ns.map .int)
def qQ (c:Mk):Prop:=∀ {h:Gh} {w:W} {ns:List Int} {Q:WK} {E:Bq},Ints w ns->Q (.int (gL ns)) h->c [w] h Q E
theorem ints_get {ns:List Int}{i:Nat}{w:W}(e:(ns.map W.int)[i]?=Dn w):∃ n,ns[i]?=Dn n/\w=.int n:=by
 rw [ML] at e
 cases q:ns[i]? with
 | none=>rw [q] at e;cases e
 | some n=>rw [q] at e;exact ⟨n,rfl,(Ja e).symm⟩
theorem Mr {ns:List Int}{i:Nat}{n:Int}(e:ns[i]?=Dn n):gL (ns.take (i+1))=gF (gL (ns.take i)) n:=by
 rw [Mw,e,<-Mf];rfl
theorem zaC {tw:Mk}(ht:Y4 tw):qQ (Bt tw):=by
 intro h w ns Q E hw q
 have key:gJ ⟨ns.map .int,FN⟩ (JI 2) (bW (aL tw E (aq (aB 2) (aq (aB 1) aM))) (JI 1)) { nx:=vC tw E { nx:=fun _ h'=>Q .non h',rt:=fun w h'=>Q w h' },rt:=fun w h'=>Q w h' } (ns.map .int) [Dn w,Dn (.int 0),FN] h:=by
  refine rD (fun i σ h'=>h'=h/\∃ o,σ = [Dn w,Dn (.int (gL (ns.take i))),o]) ?_ ?_ ⟨rfl,FN,rfl⟩
  ·rintro i x σ h' N hN e ⟨rfl,o,rfl⟩
   obtain ⟨n,en,rfl⟩:=ints_get e
   conv=>whnf
   refine ht ?_
   refine hN _ _ ⟨rfl,Dn (.int n),?_⟩
   rw [Mr en]
   rfl
  ·rintro σ h' ⟨rfl,o,rfl⟩
   rw [Iu,Ov]
   exact q
 rcases hw with rfl | rfl <;> exact key
theorem ZK (f n:Int)(hf:0<=f):NQ (if (if n<0 then -n else n)>f then (if n<0 then -n else n) else f) (if (if n<0 then -n else n)<f then (if n<0 then -n else n) else f)=NQ n f:=by
 rw [abs_eq]
 have e:NQ (n.natAbs:Int) f=NQ n f:=by simp [NQ]
 rw [<-e]
 generalize (n.natAbs:Int)=m
 by_cases h1:m>f
 ·rw [if_pos h1,if_neg (by lia)]
 ·rw [if_neg h1]
  by_cases h2:m<f
  ·rw [if_pos h2,Int.gcd_comm]
  ·rw [if_neg h2,show m=f by lia]
theorem aeN:qQ vB:=by
 intro h w ns Q E hw q
 have key:∀ D:cj,D.nx=pY E { nx:=fun _ h'=>Q .non h',rt:=fun w h'=>Q w h' } ->
   gJ ⟨ns.map .int,FN⟩ (JI 2) (bG (bW (JK aaI (aq (aB 1) (aq (JK QL (aq (aB 2) aM)) aM))) (JI 3))
    (bG (bW (JK aaQ (aq (aB 1) (aq (JK QL (aq (aB 2) aM)) aM))) (JI 4))
    (bG (FQ (bJ (kI Pa (aB 4) (mC (.int 0)))) (abt 3 4 (aq (aB 4) (aq (kI uF (aB 3) (aB 4)) aM))))
    (bW (aB 3) (JI 1))))) D (ns.map .int) [Dn w,Dn (.int 0),FN,FN,FN] h:=by
  intro D hD
  refine rD (fun i σ h'=>h'=h/\∃ o p r,σ = [Dn w,Dn (.int (gL (ns.take i))),o,p,r]) ?_ ?_ ⟨rfl,FN,FN,FN,rfl⟩
  ·rintro i x σ h' N hN e ⟨rfl,o,p,r,rfl⟩
   obtain ⟨n,en,rfl⟩:=ints_get e
   have f0:=Xd (ns.take i)
   generalize hf:gL (ns.take i)=f at f0
   conv=>whnf
   refine ⟨fun m σ h2=>h2=h'/\∃ x y,σ = [Dn w,Dn (.int f),Dn (.int n),Dn (.int x),Dn (.int y)]/\0<=x/\0<=y/\NQ x y=NQ n f/\m=y.toNat,⟨_,rfl,_,_,rfl,?_,?_,ZK f n f0,rfl⟩,?_⟩
   ·have:=GX n;split <;> lia
   ·have:=GX n;split <;> lia
   ·rintro m σ h2 ⟨rfl,x,y,rfl,x0,y0,hg,rfl⟩
    refine ⟨fun e=>?_,fun e=>?_⟩
    ·have hy:0<y:=by simpa using e
     obtain ⟨g1,g2,g3⟩:=Gw x0 hy
     conv=>whnf
     refine ⟨by lia,?_⟩
     refine ⟨(x.fmod y).toNat,by lia,rfl,y,x.fmod y,rfl,y0,g2,g1.trans hg,rfl⟩
    ·have hy:y=0:=by
      have:¬ 0<y:=by simpa using e
      lia
     subst hy
     refine hN _ _ ⟨rfl,Dn (.int n),Dn (.int x),Dn (.int 0),?_⟩
     have:gL (ns.take (i+1))=x:=by rw [Mr en,hf];unfold gF;rw [<-hg];exact vH x0
     rw [this]
     rfl
  ·rintro σ h' ⟨rfl,o,p,r,rfl⟩
   rw [Iu,Ov]
   rw [hD]
   exact q
 rcases hw with rfl | rfl <;> exact key _ rfl
theorem YC (f n k:Int)(hf:0<=f):gF (f*(k.natAbs:Int)) (n*k)=gF f n*(k.natAbs:Int):=by
 unfold gF
 rw [<-Int.natCast_mul]
 congr 1
 unfold NQ
 rw [Int.natAbs_mul,Int.natAbs_mul,Int.natAbs_natCast,Nat.gcd_mul_right]
theorem Ln (k:Int)(ns:List Int):gL (ns.map (· * k))=gL ns*(k.natAbs:Int):=by
 have:∀ (ns:List Int) (f:Int),0<=f->(ns.map (· * k)).foldl gF (f*(k.natAbs:Int))=ns.foldl gF f*(k.natAbs:Int):=by
  intro ns
  induction ns with
  | nil=>intro f _;rfl
  | cons n ns ih=>intro f hf;rw [Nh,List.foldl_cons,List.foldl_cons,YC f n k hf];exact ih _ (X3 _ _)
 have h:=this ns 0 (Int.le_refl _)
 rw [Tz] at h
 exact h
theorem abp {m:Nat}{f n:Int}(hf:Sm m f)(hn:Sm m n):Sm m (gF f n):=by
 unfold gF Sm at *
 rw [Int.natAbs_natCast]
 unfold NQ
 by_cases e:n.natAbs=0
 ·rw [e,Nat.gcd_zero_left];exact hf
 ·exact Tj (Nat.gcd_le_left _ (Nat.pos_of_ne_zero e)) hn
theorem YH {m:Nat}{ns:List Int}(h:∀ n∈ns,Sm m n):Sm m (gL ns):=by
 have:∀ (ns:List Int) (f:Int),Sm m f->(∀ n∈ns,Sm m n)->Sm m (ns.foldl gF f):=by
  intro ns
  induction ns with
  | nil=>intro f hf _;exact hf
  | cons n ns ih=>intro f hf h;exact ih _ (abp hf (h n (by simp))) fun x hx=>h x (by simp [hx])
 exact this ns 0 Sm.zero h
def oW:List Int->Int
 | []=>0
 | n::ns=>if n=0 then oW ns else n
def jA (ns:List Int):Int:=oW ns.reverse
def Qm (ns:List Int):Prop:=gL ns=1/\0<jA ns
def NZ (ns:List Int):Prop:=∃ n∈ns,n≠0
theorem dj {k:Int}(hk:k≠0)(x:Int):x*k=0↔x=0:=by
 rw [O5];exact ⟨fun h=>h.elim id fun h=>absurd h hk,.inl⟩
theorem Ay {k:Int}(hk:k≠0):∀ ns:List Int,oW (ns.map (· * k))=oW ns*k
 | []=>(Tz k).symm
 | n::ns=>by
  rw [Nh,oW,oW]
  by_cases h:n=0
  ·rw [if_pos h,if_pos ((dj hk n).mpr h),Ay hk ns]
  ·rw [if_neg h,if_neg (fun e=>h ((dj hk n).mp e))]
theorem vK {k:Int}(hk:k≠0)(ns:List Int):jA (ns.map (· * k))=jA ns*k:=by
 unfold jA;rw [<-List.map_reverse,Ay hk]
theorem zbe {ns:List Int}(h:NZ ns):oW ns≠0:=by
 induction ns with
 | nil=>obtain ⟨n,hn,_⟩:=h;cases hn
 | cons a ns ih=>
  rw [oW]
  by_cases e:a=0
  ·rw [if_pos e]
   refine ih ?_
   obtain ⟨n,hn,n0⟩:=h
   rcases K9.mp hn with rfl | hn
   ·exact absurd e n0
   ·exact ⟨n,hn,n0⟩
  ·rw [if_neg e];exact e
theorem Hq {ns:List Int}(h:NZ ns):jA ns≠0:=by
 obtain ⟨n,hn,n0⟩:=h
 exact zbe ⟨n,List.mem_reverse.mpr hn,n0⟩
theorem Rg (f n:Int):gF f n ∣ f/\gF f n ∣ n:=⟨Int.gcd_dvd_right ..,Int.gcd_dvd_left ..⟩
theorem Sv {ns:List Int}:∀ n∈ns,gL ns ∣ n:=by
 have:∀ (ns:List Int) (f:Int),ns.foldl gF f ∣ f/\∀ n∈ns,ns.foldl gF f ∣ n:=by
  intro ns
  induction ns with
  | nil=>intro f;exact ⟨Int.dvd_refl _,fun n hn=>absurd hn (by simp)⟩
  | cons a ns ih=>
   intro f
   obtain ⟨h1,h2⟩:=ih (gF f a)
   refine ⟨Int.dvd_trans h1 (Rg f a).1,fun n hn=>?_⟩
   rcases K9.mp hn with rfl | hn
   ·exact Int.dvd_trans h1 (Rg f n).2
   ·exact h2 n hn
 exact (this ns 0).2
theorem Vr {ns:List Int}(h:NZ ns):0<gL ns:=by
 have h0:=Xd ns
 obtain ⟨n,hn,n0⟩:=h
 have hd:=Sv n hn
 by_cases e:gL ns=0
 ·rw [e] at hd;exact absurd (Int.zero_dvd.mp hd) n0
 ·lia
theorem Qm.nz {ns:List Int}(h:Qm ns):NZ ns:=by
 have:∀ l:List Int,0<oW l->NZ l:=by
  intro l
  induction l with
  | nil=>intro h;exact absurd h (by decide)
  | cons a l ih=>
   intro h
   rw [oW] at h
   by_cases e:a=0
   ·rw [if_pos e] at h
    obtain ⟨n,hn,n0⟩:=ih h
    exact ⟨n,Oq _ hn,n0⟩
   ·exact ⟨a,by simp,e⟩
 obtain ⟨n,hn,n0⟩:=this _ h.2
 exact ⟨n,List.mem_reverse.mp hn,n0⟩
theorem Le {ns:List Int}{by':Int}(h:NZ ns)(hb:by'=if jA ns<0 then 0 - gL ns else gL ns) :
  by'≠0/\Qm (ns.map (·.fdiv by'))/\ns=(ns.map (·.fdiv by')).map (· * by'):=by
 have g0:=Vr h
 have hn:by'≠0:=by rw [hb];split <;> lia
 have hd:∀ t,gL ns ∣ t->by' ∣ t:=fun t ht=>by
  rw [hb]
  split
  ·rw [Int.zero_sub];exact Int.neg_dvd.mpr ht
  ·exact ht
 have e:ns=(ns.map (·.fdiv by')).map (· * by'):=by
  rw [List.map_map]
  conv=>lhs;rw [<-List.map_id ns]
  refine List.map_congr_left fun n hn'=>?_
  obtain ⟨m,hm⟩:=hd n (Sv n hn')
  show n=n.fdiv by'*by'
  conv=>lhs;rw [hm]
  conv=>rhs;rw [hm]
  rw [Int.mul_fdiv_cancel_left _ hn,Qa]
 refine ⟨hn,?_,e⟩
 generalize hms:ns.map (·.fdiv by')=ms at e
 have e1:gL ns=gL ms*(by'.natAbs:Int):=by rw [e];exact Ln by' ms
 have e2:(by'.natAbs:Int)=gL ns:=by rw [hb];split <;> lia
 have e3:jA ns=jA ms*by':=by rw [e];exact vK hn ms
 have l0:=Hq h
 refine ⟨?_,?_⟩
 ·rw [e2] at e1
  have e1':gL ms*gL ns=1*gL ns:=by rw [<-e1,Int.one_mul]
  exact Int.eq_of_mul_eq_mul_right (by lia) e1'
 ·by_cases hs:jA ns<0
  ·rw [if_pos hs] at hb
   have:by'<0:=by lia
   rw [e3] at hs
   by_cases q:0<jA ms
   ·exact q
   ·have:=Int.mul_nonneg_of_nonpos_of_nonpos (show jA ms<=0 by lia) (Int.le_of_lt this)
    lia
  ·rw [if_neg hs] at hb
   have:0<by':=by lia
   have hp:0<jA ns:=by lia
   rw [e3] at hp
   by_cases q:0<jA ms
   ·exact q
   ·have:=Int.mul_nonpos_of_nonpos_of_nonneg (show jA ms<=0 by lia) (Int.le_of_lt this)
    lia
theorem wu {k:Int}(hk:k≠0):∀ {ns ms:List Int},ns.map (· * k)=ms.map (· * k)->ns=ms
 | [],[],_=>rfl
 | [],_::_,h=>by simp at h
 | _::_,[],h=>by simp at h
 | a::ns,b::ms,h=>by
  rw [Nh,Nh] at h
  obtain ⟨h1,h2⟩:=List.cons.inj h
  rw [Int.eq_of_mul_eq_mul_right hk h1,wu hk h2]
theorem X7 {ns ms:List Int}(hn:Qm ns)(hm:Qm ms){s t:Int}(hs:s≠0)(ht:t≠0)(h:ns.map (· * s)=ms.map (· * t)):ns=ms:=by
 have e1:gL ns*(s.natAbs:Int)=gL ms*(t.natAbs:Int):=by rw [<-Ln,<-Ln,h]
 rw [hn.1,hm.1] at e1
 have e2:jA ns*s=jA ms*t:=by rw [<-vK hs,<-vK ht,h]
 have a:=hn.2
 have b:=hm.2
 have st:s=t:=by
  rcases Int.lt_or_gt_of_ne hs with s0 | s0 <;> rcases Int.lt_or_gt_of_ne ht with t0 | t0
  ·lia
  ·have x:=Int.mul_neg_of_pos_of_neg a s0
   have y:=Int.mul_pos b t0
   lia
  ·have x:=Int.mul_pos a s0
   have y:=Int.mul_neg_of_pos_of_neg b t0
   lia
  ·lia
 subst st
 exact wu hs h
def xH (c0:Mk):Prop:=∀ {h:Gh} {w:W} {ns:List Int} {m:Nat} {Q:WK} {E:Bq},Ints w ns->NZ ns->(∀ n∈ns,Sm m n)->m<=8000->ns.length<=1000 ->
 (∀ (ms:List Int) (k:Int),k≠0->ns=ms.map (· * k)->Qm ms->(∀ n∈ms,Sm m n)->Q (.tup (ms.map .int)) h)->c0 [w] h Q E
theorem d8 (a b:Int):Ce (.int a) (.int b)=(a==b):=by rw [Ce]
theorem ahn {m:Nat}{a a' k:Int}(h:Sm m a)(e:a=a'*k)(hk:k≠0):Sm m a':=by
 refine h.le ?_
 rw [e,Int.natAbs_mul]
 exact Nat.le_mul_of_pos_right _ (by lia)
theorem HF {m:Nat}{ns ms:List Int}{k:Int}(h:∀ n∈ns,Sm m n)(hk:k≠0)(e:ns=ms.map (· * k)):∀ n∈ms,Sm m n:=fun n hn=>
 ahn (h (n*k) (by rw [e];exact Pj.mpr ⟨n,hn,rfl⟩)) rfl hk
theorem acI {ix:List Nat}{i:Nat}{σ : Sw}{h:Gh}{Q:WK}{w:W}{ns:List Int}(hv:σ[i]?=Dn (Dn w))(hs:wW h w=Dn ⟨ns.map .int,FN⟩)(hz:ns.length<=Ig)(k:Q (.lst ((ns.filter (·≠0)).map .int)) h) :
  Ih JG ix (Iw (aB i)) (bJ (kI KC (aB 0) (mC (.int 0)))) (aB 0) σ h Q:=by
 unfold Ih Iw aB
 rw [hv]
 dsimp only
 rw [hs]
 refine mH.mk (by rw [Iu];exact hz) ?_
 refine vU (fun i acc h'=>h'=h/\acc=((ns.take i).filter (·≠0)).map W.int) ?_ ?_ ⟨rfl,rfl⟩
 ·rintro i w acc h' N hN e ⟨rfl,rfl⟩
  obtain ⟨n,en,rfl⟩:=ints_get e
  refine ⟨[.int n],rfl,?_⟩
  show JZ (!Ce (.int n) (.int 0)) (N (_++[W.int n]) h') _
  rw [d8]
  by_cases h0:n=0
  ·refine ZL (by simp [h0]) (hN _ _ ⟨rfl,?_⟩)
   rw [Mw,en]
   simp [h0]
  ·refine N6 (by simp [h0]) (hN _ _ ⟨rfl,?_⟩)
   rw [Mw,en]
   simp [h0]
 ·rintro acc h' ⟨rfl,rfl⟩
  rw [Iu,Ov]
  exact k
theorem ahK {ns:List Int}(h:NZ ns):Ks ((ns.filter (·≠0)).map W.int) (-1)=Dn (.int (jA ns)):=by
 have key:∀ l:List Int,oW l≠0->∃ r,l.filter (·≠0)=oW l::r:=by
  intro l
  induction l with
  | nil=>intro h;exact absurd rfl h
  | cons a l ih=>
   intro h
   rw [oW] at h |-
   by_cases e:a=0
   ·rw [if_pos e] at h |-
    obtain ⟨r,hr⟩:=ih h
    exact ⟨r,by rw [List.filter_cons,if_neg (by simp [e])];exact hr⟩
   ·rw [if_neg e]
    exact ⟨_,by rw [List.filter_cons,if_pos (by simp [e])]⟩
 obtain ⟨r,hr⟩:=key ns.reverse (Hq h)
 have hf:ns.filter (·≠0)=r.reverse++[jA ns]:=by
  rw [List.filter_reverse] at hr
  have:=congrArg List.reverse hr
  rw [List.reverse_reverse,List.reverse_cons] at this
  exact this
 rw [hf,Tg]
 exact afn _ _
theorem RV {ix:List Nat}{σ : Sw}{h:Gh}{Q:WK}{w:W}{ns:List Int}{by':Int}{m:Nat}(hs:wW h w=Dn ⟨ns.map .int,FN⟩)(hb:by'≠0)(hm:m<=8000)(hs':Sm m by')(hz:ns.length<=Ig)(hv:σ[0]?=Dn (Dn w))(hx:vq ix σ = [Dn (.int by')])(k:Q (.lst ((ns.map (·.fdiv by')).map .int)) h) :
  Ih JG ix (Iw (aB 0)) j6 (kI Dl (aB 0) (aB 1)) σ h Q:=by
 unfold Ih Iw aB
 rw [hv]
 dsimp only
 rw [hs]
 refine mH.mk (by rw [Iu];exact hz) ?_
 refine vU (fun i acc h'=>h'=h/\acc=((ns.take i).map (·.fdiv by')).map W.int) ?_ ?_ ⟨rfl,rfl⟩
 ·rintro i w acc h' N hN e ⟨rfl,rfl⟩
  obtain ⟨n,en,rfl⟩:=ints_get e
  refine ⟨[.int n],rfl,?_⟩
  rw [hx]
  refine ⟨⟨hb,m,hm,hs'⟩,?_⟩
  refine hN _ _ ⟨rfl,?_⟩
  rw [Mw,en]
  simp
 ·rintro acc h' ⟨rfl,rfl⟩
  rw [Iu,Ov]
  exact k
theorem afv {ld:Mk}(hld:qQ ld):xH (Df ld):=by
 intro h w ns m Q E hw h0 hs hm hl q
 have hg0:=Vr h0
 have hgs:Sm m (gL ns):=YH hs
 have hz:ns.length<=Ig:=Jp hl (by decide)
 have src:wW h w=Dn ⟨ns.map .int,FN⟩:=by rcases hw with rfl | rfl <;> rfl
 have fin:∀ by',(by'=if jA ns<0 then 0 - gL ns else gL ns)->wg ld E { nx:=fun _ h'=>Q .non h',rt:=fun w h'=>Q w h' } [Dn w,Dn (.int by')] h:=by
  intro by' e
  obtain ⟨hn,pl,eq⟩:=Le h0 e
  have hbs:Sm m by':=by refine hgs.le ?_;rw [e];split <;> lia
  show Ih JG [1] (Iw (aB 0)) j6 (kI Dl (aB 0) (aB 1)) [Dn w,Dn (.int by')] h _
  refine RV (w:=w) (ns:=ns) src hn hm hbs hz rfl rfl ?_
  exact q _ by' hn eq pl (HF hs hn eq)
 refine hld hw ?_
 show Ih JG [] (Iw (aB 0)) (bJ (kI KC (aB 0) (mC (.int 0)))) (aB 0) [Dn w,Dn (.int (gL ns))] h _
 refine acI (ns:=ns) (w:=w) (i:=0) rfl src hz ?_
 have el:=ahK h0
 generalize (ns.filter (·≠0)).map W.int=F at el
 show (match Ks F (-1) with
   | some w=>_
   | none=>False)
 rw [el]
 refine vp (fun hl=>?_) (fun hl=>?_)
 ·exact fin _ (by rw [if_pos hl])
 ·exact fin _ (by rw [if_neg hl])
def X5 (c0:Mk):Prop:=∀ {h:Gh} {w:W} {ns:List Int} {Q:WK} {E:Bq},Ints w ns->Q (.bl (decide (jA ns<0))) h->c0 [w] h Q E
theorem Wy:X5 sY:=by
 intro h w ns Q E hw q
 have key:∀ (l:List Int) (s:Src) (o:Option W),s.cell=FN->Q (.bl (decide (oW l<0))) h->gJ s (JI 1) (jF (bJ (kI KC (aB 1) (mC (.int 0)))) (bV (kI kLt (aB 1) (mC (.int 0)))) cH)
   { nx:=oA E { nx:=fun _ h'=>Q .non h',rt:=fun w h'=>Q w h' },rt:=fun w h'=>Q w h' } (l.map .int) [Dn w,o] h:=by
  intro l
  induction l with
  | nil=>
   intro s o hs q
   obtain ⟨ws,ix⟩:=s
   cases hs
   exact q
  | cons n l ih=>
   intro s o hs q
   obtain ⟨ws,ix⟩:=s
   cases hs
   rw [oW] at q
   refine ⟨fun e=>?_,fun e=>?_⟩
   ·rw [d8] at e
    rw [if_neg (by simpa using e)] at q
    exact q
   ·rw [d8] at e
    rw [if_pos (by simpa using e)] at q
    exact ih _ _ rfl q
 have k2:=key ns.reverse ⟨(ns.map .int).reverse,FN⟩ FN rfl q
 rw [List.map_reverse] at k2
 rcases hw with rfl | rfl <;> exact k2
theorem afI {dv en:Mk}(hdv:qQ dv)(hen:X5 en):xH (JN dv en):=by
 intro h w ns m Q E hw h0 hs hm hl q
 have hg0:=Vr h0
 have hgs:Sm m (gL ns):=YH hs
 have hz:ns.length<=Ig:=Jp hl (by decide)
 have src:wW h w=Dn ⟨ns.map .int,FN⟩:=by rcases hw with rfl | rfl <;> rfl
 have fin:∀ by',(by'=if jA ns<0 then 0 - gL ns else gL ns)->Cv dv en E { nx:=fun _ h'=>Q .non h',rt:=fun w h'=>Q w h' } [Dn w,Dn (.int by')] h:=by
  intro by' e
  obtain ⟨hn,pl,eq⟩:=Le h0 e
  have hbs:Sm m by':=by refine hgs.le ?_;rw [e];split <;> lia
  show Ih JG [1] (Iw (aB 0)) j6 (kI Dl (aB 0) (aB 1)) [Dn w,Dn (.int by')] h _
  refine RV (w:=w) (ns:=ns) src hn hm hbs hz rfl rfl ?_
  exact q _ by' hn eq pl (HF hs hn eq)
 refine hdv hw ?_
 refine wN (by rw [d8];simp;lia) ?_
 refine hen hw ?_
 refine vp (fun hl=>?_) (fun hl=>?_)
 ·exact fin _ (by rw [if_pos hl,Int.zero_sub])
 ·exact fin _ (by rw [if_neg hl])
abbrev Tr:=Int×Int×Int
def tl (t:Tr):List Int:=[t.1,t.2.1,t.2.2]
def tw (t:Tr):W:=.tup [.int t.1,.int t.2.1,.int t.2.2]
def Pl (t:Tr):Prop:=Qm (tl t)
def CP (m:Nat)(t:Tr):Prop:=Sm m t.1/\Sm m t.2.1/\Sm m t.2.2
def sc (k:Int)(t:Tr):Tr:=(t.1*k,t.2.1*k,t.2.2*k)
def Ii (u t:Tr):Prop:=∃ k,k≠0/\u=sc k t
def crs (p q:Tr):Tr:=(p.2.1*q.2.2 - p.2.2*q.2.1,p.2.2*q.1 - p.1*q.2.2,p.1*q.2.1 - p.2.1*q.1)
def dt3 (p q:Tr):Int:=p.1*q.1+p.2.1*q.2.1+p.2.2*q.2.2
theorem CP.mono {m n:Nat}{t:Tr}(h:CP m t)(e:m<=n):CP n t:=⟨h.1.mono e,h.2.1.mono e,h.2.2.mono e⟩
theorem CP.all {m:Nat}{t:Tr}(h:CP m t):∀ n∈tl t,Sm m n:=by
 intro n hn
 simp only [tl,K9,NT,or_false] at hn
 rcases hn with rfl | rfl | rfl
 ·exact h.1
 ·exact h.2.1
 ·exact h.2.2
theorem Ef {t:Tr}:t=(0,0,0)↔t.1=0/\t.2.1=0/\t.2.2=0:=by
 obtain ⟨a,b,c⟩:=t
 simp
theorem Ui {t:Tr}(h:t≠(0,0,0)):NZ (tl t):=by
 by_cases a:t.1=0
 ·by_cases b:t.2.1=0
  ·by_cases c:t.2.2=0
   ·exact absurd (Ef.mpr ⟨a,b,c⟩) h
   ·exact ⟨_,by simp [tl],c⟩
  ·exact ⟨_,by simp [tl],b⟩
 ·exact ⟨_,by simp [tl],a⟩
theorem SJ {t:Tr}{k:Int}{ms:List Int}(e:tl t=ms.map (· * k)):∃ u:Tr,ms=tl u/\t=sc k u:=by
 match ms,congrArg List.length e,e with
 | [a,b,c],_,e=>
  simp only [tl,Nh,List.map_nil,List.cons.injEq,and_true] at e
  exact ⟨(a,b,c),rfl,by obtain ⟨x,y,z⟩:=t;simp only [sc];simp only at e;rw [e.1,e.2.1,e.2.2]⟩
theorem xH.tr {c0:Mk}(hc:xH c0){h:Gh}{w:W}{u:Tr}{m:Nat}{Q:WK}{E:Bq}(hw:w=tw u\/w=.lst [.int u.1,.int u.2.1,.int u.2.2])(h0:u≠(0,0,0))(hs:CP m u)(hm:m<=8000)
  (q:∀ t:Tr,Pl t->Ii u t->CP m t->Q (tw t) h):c0 [w] h Q E:=by
 refine hc (ns:=tl u) (m:=m) ?_ (Ui h0) hs.all hm (show 3<=1000 by decide) fun ms k hk e pl sm=>?_
 ·rcases hw with rfl | rfl
  ·exact .inr rfl
  ·exact .inl rfl
 ·obtain ⟨t,rfl,e'⟩:=SJ e
  exact q t pl ⟨k,hk,e'⟩ ⟨sm _ (by simp [tl]),sm _ (by simp [tl]),sm _ (by simp [tl])⟩
theorem oR {k:Int}{t:Tr}(hk:k≠0):sc k t=(0,0,0)↔t=(0,0,0):=by
 rw [Ef,Ef]
 show (t.1*k=0/\t.2.1*k=0/\t.2.2*k=0)↔_
 rw [dj hk,dj hk,dj hk]
theorem Pl.ne {t:Tr}(h:Pl t):t≠(0,0,0):=by
 rintro rfl
 obtain ⟨n,hn,n0⟩:=h.nz
 simp [tl] at hn
 exact n0 hn
theorem Bh {u p q:Tr}(hp:Pl p)(hq:Pl q)(h1:Ii u p)(h2:Ii u q):p=q:=by
 obtain ⟨s,hs,e⟩:=h1
 obtain ⟨t,ht,e'⟩:=h2
 have h:sc s p=sc t q:=by rw [<-e,<-e']
 have:=X7 hp hq hs ht (by
  have:=congrArg tl h
  simpa [tl,sc] using this)
 obtain ⟨a,b,c⟩:=p
 obtain ⟨x,y,z⟩:=q
 simp only [tl,List.cons.injEq,and_true] at this
 rw [this.1,this.2.1,this.2.2]
theorem Ii.refl (t:Tr):Ii t t:=⟨1,by decide,by simp [sc]⟩
theorem nY (a b:Int)(t:Tr):sc a (sc b t)=sc (b*a) t:=by simp only [sc,Int.mul_assoc]
theorem ray {p q:Tr}(hp:p≠(0,0,0))(h:crs p q=(0,0,0)):∃ s t:Int,s≠0/\sc s q=sc t p:=by
 obtain ⟨a,b,c⟩:=p
 obtain ⟨x,y,z⟩:=q
 have h1:b*z - c*y=0:=congrArg (·.1) h
 have h2:c*x - a*z=0:=congrArg (·.2.1) h
 have h3:a*y - b*x=0:=congrArg (·.2.2) h
 by_cases ha:a=0
 ·by_cases hb:b=0
  ·by_cases hc:c=0
   ·exact absurd (by rw [ha,hb,hc]) hp
   ·refine ⟨c,z,hc,?_⟩
    simp only [sc]
    refine JT ?_ (JT ?_ ?_) <;> simp only <;> grind
  ·refine ⟨b,y,hb,?_⟩
   simp only [sc]
   refine JT ?_ (JT ?_ ?_) <;> simp only <;> grind
 ·refine ⟨a,x,ha,?_⟩
  simp only [sc]
  refine JT ?_ (JT ?_ ?_) <;> simp only <;> grind
theorem pQ {p q:Tr}(hp:Pl p)(hq:Pl q)(h:crs p q=(0,0,0)):p=q:=by
 obtain ⟨s,t,hs,e⟩:=ray hp.ne h
 have ht:t≠0:=by
  rintro rfl
  have:sc s q=(0,0,0):=by rw [e];simp [sc]
  exact hq.ne ((oR hs).mp this)
 exact Bh (u:=sc t p) hp hq ⟨t,ht,rfl⟩ ⟨s,hs,e.symm⟩
theorem qH {p q:Tr}(hp:Pl p)(hq:Pl q)(h:p≠q):crs p q≠(0,0,0):=fun e=>h (pQ hp hq e)
theorem flat {n p q r:Tr}(hn:n≠(0,0,0))(hp:dt3 n p=0)(hq:dt3 n q=0)(hr:dt3 n r=0):dt3 (crs p q) r=0:=by
 obtain ⟨n1,n2,n3⟩:=n
 obtain ⟨p1,p2,p3⟩:=p
 obtain ⟨q1,q2,q3⟩:=q
 obtain ⟨r1,r2,r3⟩:=r
 simp only [dt3,crs] at *
 generalize hd:(p2*q3 - p3*q2)*r1+(p3*q1 - p1*q3)*r2+(p1*q2 - p2*q1)*r3=d
 have e1:n1*d=0:=by grind
 have e2:n2*d=0:=by grind
 have e3:n3*d=0:=by grind
 by_cases h:d=0
 ·exact h
 ·have f:∀ x:Int,x*d=0->x=0:=fun x e=>by
   rcases O5.mp e with e | e
   ·exact e
   ·exact absurd e h
  exact absurd (by rw [f _ e1,f _ e2,f _ e3]) hn
theorem cQ (p q:Tr):dt3 p q=dt3 q p:=by simp only [dt3,Qa]
theorem rB (k:Int)(p q:Tr):dt3 (sc k p) q=dt3 p q*k:=by simp only [dt3,sc];grind
theorem kY (k:Int)(p q:Tr):dt3 p (sc k q)=dt3 p q*k:=by simp only [dt3,sc];grind
theorem pA {u t n:Tr}(h:Ii u t):dt3 n u=0↔dt3 n t=0:=by
 obtain ⟨k,hk,rfl⟩:=h
 rw [kY,dj hk]
theorem zU {u t n:Tr}(h:Ii u t):dt3 u n=0↔dt3 t n=0:=by rw [cQ,pA h,cQ]
theorem mZ (k l:Int)(p q:Tr):crs (sc k p) (sc l q)=sc (k*l) (crs p q):=by
 simp only [crs,sc]
 refine JT ?_ (JT ?_ ?_) <;> simp only <;> grind
theorem Gb (p q:Tr):dt3 (crs p q) p=0:=by simp only [dt3,crs];grind
theorem zO (p q:Tr):dt3 (crs p q) q=0:=by simp only [dt3,crs];grind
theorem jl {m:Nat}{p q:Tr}(hp:CP m p)(hq:CP m q):CP (m+m+1) (crs p q):=
 ⟨(hp.2.1.mul hq.2.2).sub (hp.2.2.mul hq.2.1) |>.mono (by lia),(hp.2.2.mul hq.1).sub (hp.1.mul hq.2.2) |>.mono (by lia),(hp.1.mul hq.2.1).sub (hp.2.1.mul hq.1) |>.mono (by lia)⟩
theorem Dm (p q:Tr):Ce (tw p) (tw q)=decide (p=q):=by
 obtain ⟨a,b,c⟩:=p
 obtain ⟨x,y,z⟩:=q
 unfold tw
 rw [Ce,tQ,tQ,tQ,tQ,d8,d8,d8]
 by_cases ha:a=x <;> by_cases hb:b=y <;> by_cases hc:c=z <;> simp [ha,hb,hc]
theorem ZV (a b c:Int):Ce (.lst [.int a,.int b,.int c]) (.lst [.int 0,.int 0,.int 0])=decide (a=0/\b=0/\c=0):=by
 rw [Ce,tQ,tQ,tQ,tQ,d8,d8,d8]
 by_cases ha:a=0 <;> by_cases hb:b=0 <;> by_cases hc:c=0 <;> simp [ha,hb,hc]
def Om (c0:Mk):Prop:=∀ {h:Gh} {p q:Tr} {m:Nat} {Q:WK} {E:Bq},m<=10000->CP m p->CP m q->Q (tw (crs p q)) h->c0 [tw p,tw q] h Q E
def JD (c0:Mk):Prop:=∀ {h:Gh} {p q:Tr} {m:Nat} {Q:WK} {E:Bq},m<=10000->CP m p->CP m q->Q (.int (dt3 p q)) h->c0 [tw p,tw q] h Q E
theorem afR {h:Gh}{n:Nat}{ws:List W}(e:h.c n=Dn (.lst ws)):fG h (.loc n)=Dn ws:=by simp only [fG,e]
theorem Fd:Om Ej:=by
 intro h p q m Q E hm hp hq k
 obtain ⟨a,b,c⟩:=p
 obtain ⟨x,y,z⟩:=q
 obtain ⟨ha,hb,hc⟩:=hp
 obtain ⟨hx,hy,hz⟩:=hq
 simp only at ha hb hc hx hy hz
 ((conv=>whnf);repeat (refine And.intro (by exact iT.of (by trivial) (by trivial) (by lia) (by lia)) ?_;conv=>whnf))
 exact k
theorem Yj:JD Vk:=by
 intro h p q m Q E hm hp hq k
 obtain ⟨a,b,c⟩:=p
 obtain ⟨x,y,z⟩:=q
 obtain ⟨ha,hb,hc⟩:=hp
 obtain ⟨hx,hy,hz⟩:=hq
 simp only at ha hb hc hx hy hz
 ((conv=>whnf);repeat (refine And.intro (by exact iT.of (by trivial) (by trivial) (by lia) (by lia)) ?_;conv=>whnf))
 exact k
theorem aaq:JD Np:=by
 intro h p q m Q E hm hp hq k
 obtain ⟨a,b,c⟩:=p
 obtain ⟨x,y,z⟩:=q
 obtain ⟨ha,hb,hc⟩:=hp
 obtain ⟨hx,hy,hz⟩:=hq
 simp only at ha hb hc hx hy hz
 ((conv=>whnf);repeat (refine And.intro (by exact iT.of (by trivial) (by trivial) (by lia) (by lia)) ?_;conv=>whnf))
 show Q (.int (a*x+(b*y+(c*z+0)))) h
 have e:a*x+(b*y+(c*z+0))=dt3 (a,b,c) (x,y,z):=by simp only [dt3];lia
 rw [e]
 exact k
theorem Gj {fm:Nat}{far x:Int}(h:Sm fm far)(h0:-far<x)(h1:x<far):Sm fm x:=h.le (by lia)
def GR (c0:Mk):Prop:=∀ {h:Gh} {n:Nat} {far:Int} {fm:Nat} {Q:WK} {E:Bq},Rs h n->20<far->Sm fm far->fm<=7000->(∀ t h',Pl t->CP fm t->Rs h' n->MP n h h'->Q (tw t) h')->c0 [.loc n,.int far] h Q E
theorem Xv {nb pl:Mk}(hnb:uz nb)(hpl:xH pl):GR (yU nb pl):=by
 intro h n far fm Q E hr hf hb hm q
 have f1:Sm 7000 far:=hb.mono hm
 unfold yU
 conv=>whnf
 refine hnb (n:=n) hr hf f1 fun a h1 a0 a1 r1 o1=>?_
 conv=>whnf
 refine hnb (n:=n) r1 hf f1 fun b h2 b0 b1 r2 o2=>?_
 conv=>whnf
 refine hnb (n:=n) r2 hf f1 fun c h3 c0 c1 r3 o3=>?_
 have ha:=Gj hb a0 a1
 have hb':=Gj hb b0 b1
 have hc:=Gj hb c0 c1
 have o:=o1.trans (o2.trans o3)
 show br (Ce (.lst [.int a,.int b,.int c]) (.lst [.int 0,.int 0,.int 0])) _ _
 rw [ZV]
 refine vp (fun hz=>?_) (fun hz=>?_)
 ·exact hpl.tr (u:=(0,0,1)) (m:=fm) (.inr rfl) (by decide) ⟨Sm.zero,Sm.zero,hb.le (by show (1:Int).natAbs<=_;lia)⟩ (by lia) fun t p _ s=>q t h3 p s r3 o
 ·exact hpl.tr (u:=(a,b,c)) (m:=fm) (.inr rfl) (fun e=>hz (by simpa using e)) ⟨ha,hb',hc⟩ (by lia) fun t p _ s=>q t h3 p s r3 o
def JoinOk (c0:Mk):Prop:=∀ {h:Gh} {p q:Tr} {m:Nat} {Q:WK} {E:Bq},m<=3900->CP m p->CP m q->Pl p->Pl q->p≠q->(∀ t:Tr,Pl t->Ii (crs p q) t->CP (m+m+1) t->Q (tw t) h)->c0 [tw p,tw q] h Q E
theorem agu {pl cr:Mk}(hpl:xH pl)(hcr:Om cr):JoinOk (pP pl cr):=by
 intro h p q m Q E hm sp sq pp pq hne k
 show br (Ce (tw p) (tw q)) _ _
 rw [Dm]
 refine wN (decide_eq_false hne) ?_
 show cr [tw p,tw q] h _ _
 refine hcr (m:=m) (by lia) sp sq ?_
 show pl [tw (crs p q)] h _ _
 exact hpl.tr (u:=crs p q) (m:=m+m+1) (.inl rfl) (qH pp pq hne) (jl sp sq) (by lia) k
theorem aaG {pc:Mk}(hpc:JoinOk pc):JoinOk (RP pc):=by
 intro h p q m Q E hm sp sq pp pq hne k
 show pc [tw p,tw q] h _ _
 exact hpc hm sp sq pp pq hne k
def Sq (c0:Mk):Prop:=∀ {h:Gh} {p q:Tr} {m:Nat} {Q:WK} {E:Bq},m<=10000->CP m p->CP m q->Q (.bl (decide (dt3 p q=0))) h->c0 [tw p,tw q] h Q E
theorem Yw {dt:Mk}(hdt:JD dt):Sq (Dq dt):=by
 intro h p q m Q E hm hp hq k
 show dt [tw p,tw q] h _ _
 refine hdt hm hp hq ?_
 show Q (.bl (Ce (.int (dt3 p q)) (.int 0))) h
 rw [d8]
 by_cases e:dt3 p q=0
 ·rw [decide_eq_true e] at k;rw [e];exact k
 ·rw [decide_eq_false e] at k
  rw [show (dt3 p q==0)=false by simpa using e]
  exact k
def AllP (ts:List Tr):Prop:=∀ p∈ts,∀ q∈ts,∀ r∈ts,dt3 (crs q r) p=0
def Z3 (ts:List Tr)(a b c:Nat):Prop:=∀ p q r,ts[a]?=Dn p->ts[b]?=Dn q->ts[c]?=Dn r->dt3 (crs q r) p=0
open Classical in
noncomputable def mD (ts:List Tr):Bool:=decide (AllP ts)
open Classical in
theorem uU {ts:List Tr}(h:AllP ts):mD ts=true:=by unfold mD;exact decide_eq_true h
open Classical in
theorem Eb {ts:List Tr}(h:¬ AllP ts):mD ts=false:=by unfold mD;exact decide_eq_false h
theorem wH (p q r:Tr):dt3 (crs q r) p=dt3 (crs r p) q:=by simp only [dt3,crs];grind
theorem afq (p q r:Tr):dt3 (crs q r) p = - dt3 (crs r q) p:=by simp only [dt3,crs];grind
theorem ql (p q:Tr):dt3 (crs q q) p=0:=by simp only [dt3,crs];grind
theorem tH {ts:List Tr}(H:∀ k j i,k<j->j<i->Z3 ts k j i):AllP ts:=by
 intro p hp q hq r hr
 obtain ⟨a,ea⟩:=List.getElem?_of_mem hp
 obtain ⟨b,eb⟩:=List.getElem?_of_mem hq
 obtain ⟨c,ec⟩:=List.getElem?_of_mem hr
 have rot:∀ {p q r:Tr},dt3 (crs q r) p=0->dt3 (crs r p) q=0:=fun {p q r} h=>by rw [<-wH];exact h
 have sw:∀ {p q r:Tr},dt3 (crs q r) p=0->dt3 (crs r q) p=0:=fun {p q r} h=>by rw [afq,h];rfl
 have ab:a=b->p=q:=fun e=>by subst e;rw [ea] at eb;exact Ja eb
 have bc:b=c->q=r:=fun e=>by subst e;rw [eb] at ec;exact Ja ec
 have ac:a=c->p=r:=fun e=>by subst e;rw [ea] at ec;exact Ja ec
 by_cases h1:a=b
 ·rw [ab h1];exact rot (ql r q)
 by_cases h2:b=c
 ·rw [bc h2];exact ql p r
 by_cases h3:a=c
 ·rw [ac h3];exact rot (rot (ql q r))
 by_cases l1:a<b
 ·by_cases l2:b<c
  ·exact H a b c l1 l2 _ _ _ ea eb ec
  ·by_cases l3:a<c
   ·exact sw (H a c b l3 (by lia) _ _ _ ea ec eb)
   ·exact rot (H c a b (by lia) l1 _ _ _ ec ea eb)
 ·by_cases l2:b<c
  ·by_cases l3:a<c
   ·exact sw (rot (H b a c (by lia) l3 _ _ _ eb ea ec))
   ·exact rot (rot (H b c a l2 (by lia) _ _ _ eb ec ea))
  ·exact sw (rot (rot (H c b a (by lia) (by lia) _ _ _ ec eb ea)))
theorem ahm (ts:List Tr)(h:ts.length<=2):AllP ts:=by
 refine tH fun k j i h1 h2 p q r _ _ e=>?_
 have:=(Ox.mp e).1
 lia
theorem afD {ts:List Tr}{t0 u:Tr}(h0:t0∈ts)(hu:u∈ts)(hne:u≠t0)(hp:∀ t∈ts,Pl t):(∀ t∈ts,t≠t0->dt3 (crs t0 u) t=0)↔AllP ts:=by
 refine ⟨fun H=>?_,fun H t ht _=>H t ht t0 h0 u hu⟩
 have hn:=qH (hp _ h0) (hp _ hu) (N8 hne)
 have H':∀ t∈ts,dt3 (crs t0 u) t=0:=fun t ht=>by
  by_cases e:t=t0
  ·subst e
   rw [wH,wH];exact ql _ _
  ·exact H t ht e
 intro p hp q hq r hr
 exact flat hn (H' q hq) (H' r hr) (H' p hp)
theorem agR {ts:List Tr}{t0:Tr}(H:∀ t∈ts,t=t0):AllP ts:=by
 intro p hp q hq r hr
 rw [H q hq,H r hr]
 exact ql _ _
theorem Cm {ts:List Tr}{i:Nat}{w:W}(e:(ts.map tw)[i]?=Dn w):∃ t,ts[i]?=Dn t/\w=tw t:=by
 rw [ML] at e
 cases q:ts[i]? with
 | none=>rw [q] at e;cases e
 | some n=>rw [q] at e;exact ⟨n,rfl,(Ja e).symm⟩
theorem Rz:∀ ts:List Tr,tQ (ts.map tw) (ts.map tw)=true
 | []=>rfl
 | t::ts=>by rw [Nh,tQ,Rz ts,Dm,Bool.and_true,decide_eq_true rfl]
theorem DX (n:Nat)(t:Tr):Ed (n+1) (tw t)=true:=by cases n <;> rfl
theorem J3 (n:Nat)(ts:List Tr):Ed (n+2) (.lst (ts.map tw))=true:=by
 show (ts.map tw).all (Ed (n+1))=true
 rw [O8]
 intro w hw
 obtain ⟨t,_,rfl⟩:=Pj.mp hw
 exact DX n t
theorem Ma:∀ bs:List Bool,Jt (bs.map W.bl)=Dn bs
 | []=>rfl
 | b::bs=>by rw [Nh,Jt,Ma bs];rfl
theorem M4 {s:Src}{ws:List W}{own:W->Option (List W)}{ix:List Nat}{tt:MT}{te:ME}{σ : Sw}{Q:WK}(I:Nat->List W->Gh->Prop)
  (go:∀ i acc h,I i acc h->∀ P:Prop,P->s.go h P)
  (step:∀ (i:Nat) (w:W) (acc:List W) (h:Gh) (N:List W->Gh->Prop),(∀ acc' h',I (i+1) acc' h'->N acc' h')->ws[i]?=Dn w->I i acc h ->
   ∃ vs,own w=Dn vs/\tt (vs.map Dn++vq ix σ) h fun c h1=>JZ c (te (vs.map Dn++vq ix σ) h1 fun v h2=>N (acc++[v]) h2) (N acc h1))
  (fin:∀ acc h,I ws.length acc h->Q (.lst acc) h):∀ {acc:List W} {h:Gh},I 0 acc h->rO s own ix tt te σ Q ws acc h:=by
 induction ws generalizing I with
 | nil=>intro acc h h0;exact go 0 acc h h0 _ (fin acc h h0)
 | cons w ws ih=>
  intro acc h h0
  obtain ⟨vs,ev,q⟩:=step 0 w acc h _ (fun acc' h' q=>ih (fun i=>I (i+1)) (fun i=>go (i+1)) (fun i w acc h N hN e hi=>step (i+1) w acc h N hN (by simpa using e) hi) (fun acc h q=>fin acc h q) q) rfl h0
  refine go 0 acc h h0 _ ?_
  show (match own w with
   | some vs=>_
   | none=>False)
  rw [ev]
  exact q
theorem ab2 {own:W->Option (List W)}{i:Nat}{ix:List Nat}{te:ME}{σ : Sw}{h:Gh}{Q:WK}{w:W}{ws:List W}(hv:σ[i]?=Dn (Dn w))(hs:wW h w=Dn ⟨ws,FN⟩)(hz:ws.length<=Ig)(k:rO ⟨ws,FN⟩ own ix j6 te σ Q ws [] h):Ih own ix (Iw (aB i)) j6 te σ h Q:=by
 unfold Ih Iw aB
 rw [hv]
 dsimp only
 rw [hs]
 exact mH.mk hz k
def gQ (h:Gh)(w:W)(ts:List Tr):Prop:=w=.lst (ts.map tw)\/∃ n,w=.loc n/\h.c n=Dn (.lst (ts.map tw))
theorem gQ.src {h:Gh}{w:W}{ts:List Tr}(e:gQ h w ts):view h w=Dn (ts.map tw)/\∃ s:Src,wW h w=Dn s/\s.ws=ts.map tw/\∀ P:Prop,P->s.go h P:=by
 rcases e with rfl | ⟨n,rfl,e⟩
 ·exact ⟨rfl,_,rfl,rfl,fun _ p=>p⟩
 ·refine ⟨fL e,⟨ts.map tw,Dn (n,ts.map tw)⟩,by simp only [wW,e],rfl,fun P p=>⟨e,p⟩⟩
theorem Ep (t0:Tr)(r:List Tr):Ks ((t0::r).map tw) 0=Dn (tw t0):=v7 (j:=0) rfl
theorem CW {h:Gh}{w:W}{t0:Tr}{r:List Tr}{o1 o2:Option W}{Q:WK}(e:gQ h w (t0::r))(hl:(t0::r).length<=1000)(q:Q (.lst (((t0::r).filter (·≠t0)).map tw)) h) :
  Ih JG [0] (Iw (aB 0)) (bJ (kI KC (aB 0) (kI CG (aB 1) (mC (.int 0))))) (aB 0) [Dn w,o1,o2] h Q:=by
 obtain ⟨ev,s,es,ew,go⟩:=e.src
 generalize hts:t0::r=ts at *
 have a0:Ks (ts.map tw) 0=Dn (tw t0):=by rw [<-hts];exact Ep _ _
 show (match wW h w with
  | some s=>_
  | none=>False)
 rw [es]
 show mH s.ws.length (rO s _ _ _ _ _ _ s.ws [] h)
 rw [ew]
 refine mH.mk (by rw [Iu];exact Jp hl (by decide)) ?_
 refine M4 (fun i acc h'=>h'=h/\acc=((ts.take i).filter (·≠t0)).map tw) ?_ ?_ ?_ ⟨rfl,rfl⟩
 ·rintro i acc h' ⟨rfl,_⟩
  exact go
 ·rintro i w2 acc h' N hN e2 ⟨rfl,rfl⟩
  obtain ⟨t,et,rfl⟩:=Cm e2
  refine ⟨[tw t],rfl,?_⟩
  show (match view h' w with
   | some ws=>(match Ks ws 0 with
    | some w=>_
    | none=>False)
   | none=>False)
  rw [ev]
  dsimp only
  rw [a0]
  show JZ (Ed 30 (tw t)&&Ed 30 (tw t0)) (JZ (!Ce (tw t) (tw t0)) (N (_++[tw t]) h') _) False
  rw [DX 29,DX 29,Dm]
  show JZ (!decide (t=t0)) _ _
  by_cases h0:t=t0
  ·refine ZL (by simp [h0]) (hN _ _ ⟨rfl,?_⟩)
   rw [Mw,et]
   simp [h0]
  ·refine N6 (by simp [h0]) (hN _ _ ⟨rfl,?_⟩)
   rw [Mw,et]
   simp [h0]
 ·rintro acc h' ⟨rfl,rfl⟩
  rw [Iu,Ov]
  exact q
def lA (c0:Mk):Prop:=∀ {h:Gh} {w:W} {ts:List Tr} {M:Nat} {Q:WK} {E:Bq},gQ h w ts->ts.length<=1000->M<=4000->(∀ t∈ts,Pl t/\CP M t)->Q (.bl (mD ts)) h->c0 [w] h Q E
theorem ahp {dot cr:Mk}(hdot:JD dot)(hcr:Om cr):lA (wJ dot cr):=by
 intro h w ts M Q E e hl hM hs q
 show Ih JG [0] (Iw (aB 0)) (bJ (kI KC (aB 0) (kI CG (aB 1) (mC (.int 0))))) (aB 0) [Dn w,FN,FN] h _
 match ts,e,hl,hs,q with
 | [],e,hl,hs,q=>
  obtain ⟨ev,s,es,ew,go⟩:=e.src
  rw [uU (ahm [] (by decide))] at q
  show (match wW h w with
   | some s=>_
   | none=>False)
  rw [es]
  show mH s.ws.length (rO s _ _ _ _ _ _ s.ws [] h)
  rw [ew]
  show s.go h _
  refine go _ ?_
  exact QV rfl q
 | t0::r,e,hl,hs,q=>
  refine CW e hl ?_
  generalize hts:t0::r=ts at *
  have m0:t0∈ts:=by rw [<-hts];simp
  have hus:∀ t,t∈ts.filter (·≠t0)↔t∈ts/\t≠t0:=fun t=>by rw [QF];simp
  have hlu:(ts.filter (·≠t0)).length<=ts.length:=List.length_filter_le ..
  generalize ts.filter (·≠t0)=us at hus hlu
  match us,hus,hlu with
  | [],hus,_=>
   rw [uU (agR (t0:=t0) fun t ht=>by
    by_cases e:t=t0
    ·exact e
    ·exact absurd ((hus t).mpr ⟨ht,e⟩) (by simp))] at q
   exact QV rfl q
  | u::us,hus,hlu=>
   have hu:=(hus u).mp (by simp)
   refine wN rfl ?_
   obtain ⟨ev,s,es,ew,go⟩:=e.src
   show (match view h w with
    | some ws=>(match Ks ws 0 with
     | some w=>_
     | none=>False)
    | none=>False)
   rw [ev]
   dsimp only
   rw [show Ks (ts.map tw) 0=Dn (tw t0) by rw [<-hts];exact Ep _ _]
   show (match Ks ((u::us).map tw) 0 with
    | some w=>_
    | none=>False)
   rw [Ep]
   show cr [tw t0,tw u] h _ _
   refine hcr (m:=M) (by lia) (hs _ m0).2 (hs _ hu.1).2 ?_
   have sc:=jl (hs _ m0).2 (hs _ hu.1).2
   have it:=afD (u:=u) m0 hu.1 hu.2 fun t ht=>(hs t ht).1
   generalize crs t0 u=n at sc it
   generalize hvs:u::us=vs at *
   show Ih JG [2] (Iw (aB 1)) j6 (kI Ke (aL dot E (aq (aB 1) (aq (aB 0) aM))) (mC (.int 0))) [Dn w,Dn (.lst (vs.map tw)),Dn (tw n)] h _
   refine ab2 (w:=.lst (vs.map tw)) (ws:=vs.map tw) rfl rfl (by rw [Iu];exact Jp (Jp hlu hl) (by decide)) ?_
   refine vU (fun i acc h'=>h'=h/\acc=((vs.take i).map fun t=>dt3 n t==0).map W.bl) ?_ ?_ ⟨rfl,rfl⟩
   ·rintro i w2 acc h' N hN e2 ⟨rfl,rfl⟩
    obtain ⟨t,et,rfl⟩:=Cm e2
    have mt:=(hus t).mp (Pk et)
    refine ⟨[tw t],rfl,?_⟩
    show dot [tw n,tw t] h' _ _
    refine hdot (m:=M+M+1) (by lia) sc ((hs t mt.1).2.mono (by lia)) ?_
    show N (_++[W.bl (Ce (.int (dt3 n t)) (.int 0))]) h'
    rw [d8]
    refine hN _ _ ⟨rfl,?_⟩
    rw [Mw,et]
    simp
   ·rintro acc h' ⟨rfl,rfl⟩
    rw [Iu,Ov]
    show (match Jt ((vs.map fun t=>dt3 n t==0).map W.bl) with
     | some bs=>Q (.bl (bs.all id)) h'
     | none=>False)
    rw [Ma]
    have ef:(vs.map fun t=>dt3 n t==0).all id=mD ts:=by
     by_cases H:AllP ts
     ·rw [uU H,O8]
      intro b hb
      obtain ⟨t,ht,rfl⟩:=Pj.mp hb
      have:=it.mpr H t ((hus t).mp ht).1 ((hus t).mp ht).2
      simp [this]
     ·rw [Eb H]
      refine Bool.eq_false_iff.mpr fun hb=>H (it.mp fun t ht hne=>?_)
      rw [O8] at hb
      have:=hb _ (Pj.mpr ⟨t,(hus t).mpr ⟨ht,hne⟩,rfl⟩)
      simpa using this
    dsimp only
    rw [ef]
    exact q
theorem zaN {sh:Mk}(hsh:lA sh):lA (Ax sh):=by
 intro h w ts M Q E e hl hM hs q
 show sh [w] h _ _
 exact hsh e hl hM hs q
theorem FP {s:Src}{ws:List W}{g:MG}{b:MS}{D:cj}(I:Nat->Sw->Gh->Prop)(go:∀ i σ h,I i σ h->∀ P:Prop,P->s.go h P)
  (step:∀ (i:Nat) (w:W) (σ : Sw) (h:Gh) (N:Sw->Gh->Prop),(∀ σ' h',I (i+1) σ' h'->N σ' h')->ws[i]?=Dn w->I i σ h->g w σ h fun σ1 h1=>b { D with nx:=N,ct:=N,bk:=D.nx } σ1 h1)
  (fin:∀ σ h,I ws.length σ h->D.nx σ h):∀ {σ : Sw} {h:Gh},I 0 σ h->gJ s g b D ws σ h:=by
 induction ws generalizing I with
 | nil=>intro σ h h0;exact go 0 σ h h0 _ (fin σ h h0)
 | cons w ws ih=>
  intro σ h h0
  refine go 0 σ h h0 _ ?_
  refine step 0 w σ h _ (fun σ' h' q=>?_) rfl h0
  exact ih (fun i=>I (i+1)) (fun i=>go (i+1)) (fun i w σ h N hN e hi=>step (i+1) w σ h N hN (by simpa using e) hi) (fun σ h q=>fin σ h q) q
theorem zaZ {i:Nat}{g:MG}{b:MS}{D:cj}{σ : Sw}{h:Gh}{w:W}{ts:List Tr}(hv:σ[i]?=Dn (Dn w))(e:gQ h w ts)(I:Nat->Sw->Gh->Prop)
  (go:∀ i σ h',I i σ h'->gQ h' w ts)
  (step:∀ (i:Nat) (t:Tr) (σ : Sw) (h:Gh) (N:Sw->Gh->Prop),(∀ σ' h',I (i+1) σ' h'->N σ' h')->ts[i]?=Dn t->I i σ h->g (tw t) σ h fun σ1 h1=>b { D with nx:=N,ct:=N,bk:=D.nx } σ1 h1)
  (fin:∀ σ h,I ts.length σ h->D.nx σ h) (h0:I 0 σ h):uD (Iw (aB i)) g b D σ h:=by
 unfold uD Iw aB
 rw [hv]
 dsimp only
 have gen:∀ s:Src,wW h w=Dn s->s.ws=ts.map tw->(∀ h',gQ h' w ts->∀ P:Prop,P->s.go h' P)->(match wW h w with
   | some s=>gJ s g b D s.ws σ h
   | none=>False):=by
  intro s es ew hg
  rw [es]
  show gJ s g b D s.ws σ h
  rw [ew]
  refine FP I (fun i σ h' hi=>hg h' (go i σ h' hi)) (fun i w σ h N hN e hi=>?_) (fun σ h q=>fin σ h (by rwa [Iu] at q)) h0
  obtain ⟨t,et,rfl⟩:=Cm e
  exact step i t σ h N hN et hi
 rcases e with rfl | ⟨n,rfl,e⟩
 ·exact gen ⟨ts.map tw,FN⟩ rfl rfl fun _ _ _ p=>p
 ·refine gen ⟨ts.map tw,Dn (n,ts.map tw)⟩ (by simp only [wW,e]) rfl fun h' e' P p=>⟨?_,p⟩
  rcases e' with e' | ⟨n',e',q⟩
  ·cases e'
  ·cases e';exact q
theorem Rb {h:Gh}{n:Nat}{us:List W}{w:W}{Q:WK}(e:h.c n=Dn (.lst us))(hz:us.length<Ig)(k:Q .non (h.set n (.lst (us++[w])))):jB (.loc n) [w] h Q:=by
 show (match h.c n with
  | some (Cell.lst us)=>_
  | _=>False)
 rw [e]
 exact ⟨hz,k⟩
theorem Hz {h:Gh}{n:Nat}{us zs:List W}{Q:WK}(e:h.c n=Dn (.lst us))(hz:us.length+zs.length<=Ig)(k:Q .non (h.set n (.lst (us++zs)))):j5 (.loc n) [.lst zs] h Q:=by
 dsimp only [j5]
 rw [e]
 exact mH.mk hz k
theorem K4 {ma:MA}{j:Int}{own:W->Option (List W)}{ix:List Nat}{tt:MT}{te:ME}{σ : Sw}{h:Gh}{Q:WK}(hm:∀ R,ma σ h R=R [.int j] h)(h1:-(2^62)<=j)(h2:j<2^62)(hz:j.toNat<=Ig)(I:Nat->List W->Gh->Prop)
  (step:∀ (i:Nat) (acc:List W) (h:Gh) (N:List W->Gh->Prop),(∀ acc' h',I (i+1) acc' h'->N acc' h')->i<j.toNat->I i acc h ->
   ∃ vs,own (.int (i:Int))=Dn vs/\tt (vs.map Dn++vq ix σ) h fun c h1=>JZ c (te (vs.map Dn++vq ix σ) h1 fun v h2=>N (acc++[v]) h2) (N acc h1))
  (fin:∀ acc h,I j.toNat acc h->Q (.lst acc) h) (h0:I 0 [] h):Ih own ix (jg ma) tt te σ h Q:=by
 unfold Ih jg
 rw [hm]
 refine CT.mk h1 h2 (mH.mk (by rw [zZ];exact hz) ?_)
 refine vU I (fun i w acc h N hN e hi=>?_) (fun acc h q=>fin acc h (by rw [zZ] at q;exact q)) h0
 obtain ⟨hlt,rfl⟩:=Gu e
 rw [Int.zero_add]
 exact step i acc h N hN hlt hi
abbrev Mt:=Tr×Tr×Tr
def vm (M:Mt)(v:Tr):Tr:=(dt3 M.1 v,dt3 M.2.1 v,dt3 M.2.2 v)
def tr (M:Mt):Mt:=((M.1.1,M.2.1.1,M.2.2.1),(M.1.2.1,M.2.1.2.1,M.2.2.2.1),(M.1.2.2,M.2.1.2.2,M.2.2.2.2))
def mm (M N:Mt):Mt:=(vm (tr N) M.1,vm (tr N) M.2.1,vm (tr N) M.2.2)
def LI (M:Mt):Mt:=(crs M.2.1 M.2.2,crs M.2.2 M.1,crs M.1 M.2.1)
def adj (M:Mt):Mt:=tr (LI M)
def det (M:Mt):Int:=dt3 (crs M.1 M.2.1) M.2.2
def sM (k:Int)(M:Mt):Mt:=(sc k M.1,sc k M.2.1,sc k M.2.2)
def QS:Mt:=((1,0,0),(0,1,0),(0,0,1))
theorem Nu {p q:Tr}(h1:p.1=q.1)(h2:p.2.1=q.2.1)(h3:p.2.2=q.2.2):p=q:=JT h1 (JT h2 h3)
theorem mt3 {M N:Mt}(h1:M.1=N.1)(h2:M.2.1=N.2.1)(h3:M.2.2=N.2.2):M=N:=JT h1 (JT h2 h3)
theorem G7 (x:Tr)(N:Mt)(v:Tr):dt3 (vm (tr N) x) v=dt3 x (vm N v):=by
 simp only [dt3,vm,tr]
 grind
theorem wU (M N:Mt)(v:Tr):vm (mm M N) v=vm M (vm N v):=by
 simp only [mm]
 exact Nu (G7 _ _ _) (G7 _ _ _) (G7 _ _ _)
theorem abo (M N:Mt):tr (mm M N)=mm (tr N) (tr M):=by
 simp only [mm,tr,vm]
 refine mt3 (Nu ?_ ?_ ?_) (Nu ?_ ?_ ?_) (Nu ?_ ?_ ?_) <;> exact cQ _ _
theorem bQ (M:Mt)(k:Int)(v:Tr):vm M (sc k v)=sc k (vm M v):=Nu (kY _ _ _) (kY _ _ _) (kY _ _ _)
theorem uc (M:Mt)(k:Int)(v:Tr):vm (sM k M) v=sc k (vm M v):=Nu (rB _ _ _) (rB _ _ _) (rB _ _ _)
theorem acq (M:Mt)(k:Int):tr (sM k M)=sM k (tr M):=rfl
theorem Fp (v:Tr):vm QS v=v:=by
 obtain ⟨a,b,c⟩:=v
 simp [vm,QS,dt3]
theorem YQ (M:Mt):mm M (adj M)=sM (det M) QS:=by
 obtain ⟨⟨a,b,c⟩,⟨d,e,f⟩,⟨g,h,i⟩⟩:=M
 simp only [mm,vm,adj,tr,LI,det,sM,QS,sc,dt3,crs]
 refine mt3 (Nu ?_ ?_ ?_) (Nu ?_ ?_ ?_) (Nu ?_ ?_ ?_) <;> simp only <;> grind
theorem xV (M:Mt):mm (adj M) M=sM (det M) QS:=by
 obtain ⟨⟨a,b,c⟩,⟨d,e,f⟩,⟨g,h,i⟩⟩:=M
 simp only [mm,vm,adj,tr,LI,det,sM,QS,sc,dt3,crs]
 refine mt3 (Nu ?_ ?_ ?_) (Nu ?_ ?_ ?_) (Nu ?_ ?_ ?_) <;> simp only <;> grind
theorem yH (M:Mt)(p q:Tr):crs (vm M p) (vm M q)=vm (LI M) (crs p q):=by
 obtain ⟨⟨a,b,c⟩,⟨d,e,f⟩,⟨g,h,i⟩⟩:=M
 obtain ⟨p1,p2,p3⟩:=p
 obtain ⟨q1,q2,q3⟩:=q
 simp only [vm,LI,dt3,crs]
 refine Nu ?_ ?_ ?_ <;> simp only <;> grind
theorem agQ (M:Mt)(x v:Tr):dt3 (vm (LI M) x) (vm M v)=det M*dt3 x v:=by
 show dt3 (vm (tr (adj M)) x) (vm M v)=_
 rw [G7,<-wU,xV,uc,Fp,kY,Qa]
theorem Hi (M:Mt)(p q r:Tr):dt3 (crs (vm M p) (vm M q)) (vm M r)=det M*dt3 (crs p q) r:=by rw [yH,agQ]
theorem Mv (M:Mt):det (tr M)=det M:=by
 obtain ⟨⟨a,b,c⟩,⟨d,e,f⟩,⟨g,h,i⟩⟩:=M
 simp only [det,tr,dt3,crs]
 grind
theorem wO (M N:Mt):det (mm M N)=det M*det N:=by
 show dt3 (crs (vm (tr N) M.1) (vm (tr N) M.2.1)) (vm (tr N) M.2.2)=_
 rw [Hi,Mv,Qa]
 rfl
theorem Sy (k:Int)(M:Mt):det (sM k M)=det M*(k*k*k):=by
 simp only [det,sM]
 rw [mZ,rB,kY]
 grind
theorem zaQ {k:Int}{M:Mt}(hk:k≠0):det (sM k M)≠0↔det M≠0:=by
 rw [Sy]
 have:k*k*k≠0:=fun h=>(O5.mp h).elim (fun h=>(O5.mp h).elim hk hk) hk
 rw [ne_eq,dj this]
theorem Sh:det QS=1:=by decide
theorem rT {M:Mt}(h:det M≠0):det (adj M)≠0:=by
 have e:=wO M (adj M)
 rw [YQ,Sy,Sh] at e
 intro z
 rw [z,TK,Int.one_mul] at e
 exact (O5.mp e).elim (fun e=>(O5.mp e).elim h h) h
theorem Dz {M:Mt}{v:Tr}(h:det M≠0)(hv:v≠(0,0,0)):vm M v≠(0,0,0):=by
 intro e
 have e2:vm (adj M) (vm M v)=(0,0,0):=by rw [e];simp [vm,dt3]
 rw [<-wU,xV,uc,Fp] at e2
 exact hv ((oR h).mp e2)
def ml (M:Mt):List Int:=tl M.1++(tl M.2.1++tl M.2.2)
def mw (M:Mt):W:=.tup [.int M.1.1,.int M.1.2.1,.int M.1.2.2,.int M.2.1.1,.int M.2.1.2.1,.int M.2.1.2.2,.int M.2.2.1,.int M.2.2.2.1,.int M.2.2.2.2]
def O2 (M:Mt):W:=.lst [.int M.1.1,.int M.1.2.1,.int M.1.2.2,.int M.2.1.1,.int M.2.1.2.1,.int M.2.1.2.2,.int M.2.2.1,.int M.2.2.2.1,.int M.2.2.2.2]
def PlM (M:Mt):Prop:=Qm (ml M)
def JC (m:Nat)(M:Mt):Prop:=CP m M.1/\CP m M.2.1/\CP m M.2.2
def IK (U M:Mt):Prop:=∃ k,k≠0/\U=sM k M
theorem JC.mono {m n:Nat}{M:Mt}(h:JC m M)(e:m<=n):JC n M:=⟨h.1.mono e,h.2.1.mono e,h.2.2.mono e⟩
theorem JC.all {m:Nat}{M:Mt}(h:JC m M):∀ n∈ml M,Sm m n:=by
 intro n hn
 unfold ml at hn
 rcases Qi.mp hn with hn | hn
 ·exact h.1.all n hn
 ·rcases Qi.mp hn with hn | hn
  ·exact h.2.1.all n hn
  ·exact h.2.2.all n hn
theorem aa6 {M:Mt}(h:det M≠0):NZ (ml M):=by
 by_cases h1:M.1=(0,0,0)
 ·exact absurd (by unfold det;rw [h1];simp [crs,dt3]) h
 ·obtain ⟨n,hn,n0⟩:=Ui h1
  exact ⟨n,List.mem_append_left _ hn,n0⟩
theorem Yc {M:Mt}{k:Int}{ms:List Int}(e:ml M=ms.map (· * k)):∃ N:Mt,ms=ml N/\M=sM k N:=by
 match ms,congrArg List.length e,e with
 | [a,b,c,d,e',f,g,h,i],_,e=>
  simp only [ml,tl,List.cons_append,List.nil_append,Nh,List.map_nil,List.cons.injEq,and_true] at e
  refine ⟨((a,b,c),(d,e',f),(g,h,i)),rfl,?_⟩
  obtain ⟨e1,e2,e3,e4,e5,e6,e7,e8,e9⟩:=e
  exact mt3 (Nu e1 e2 e3) (Nu e4 e5 e6) (Nu e7 e8 e9)
theorem IK.det {U M:Mt}(h:IK U M):My.det U≠0↔My.det M≠0:=by
 obtain ⟨k,hk,rfl⟩:=h
 exact zaQ hk
theorem xH.mt {c0:Mk}(hc:xH c0){h:Gh}{w:W}{U:Mt}{m:Nat}{Q:WK}{E:Bq}(hw:w=mw U\/w=O2 U)(h0:My.det U≠0)(hs:JC m U)(hm:m<=8000)
  (q:∀ M:Mt,PlM M->IK U M->JC m M->Q (mw M) h):c0 [w] h Q E:=by
 refine hc (ns:=ml U) (m:=m) ?_ (aa6 h0) hs.all hm (show 9<=1000 by decide) fun ms k hk e pl sm=>?_
 ·rcases hw with rfl | rfl
  ·exact .inr rfl
  ·exact .inl rfl
 ·obtain ⟨M,rfl,e'⟩:=Yc e
  refine q M pl ⟨k,hk,e'⟩ ⟨⟨sm _ ?_,sm _ ?_,sm _ ?_⟩,⟨sm _ ?_,sm _ ?_,sm _ ?_⟩,⟨sm _ ?_,sm _ ?_,sm _ ?_⟩⟩ <;> simp [ml,tl]
theorem LK {m n:Nat}{p q:Tr}(hp:CP m p)(hq:CP n q):Sm (m+n+2) (dt3 p q):=
 ((hp.1.mul hq.1).add (hp.2.1.mul hq.2.1)).add (hp.2.2.mul hq.2.2) |>.mono (by lia)
theorem Kf {m:Nat}{M:Mt}(h:JC m M):JC m (tr M):=⟨⟨h.1.1,h.2.1.1,h.2.2.1⟩,⟨h.1.2.1,h.2.1.2.1,h.2.2.2.1⟩,⟨h.1.2.2,h.2.1.2.2,h.2.2.2.2⟩⟩
theorem DY {m n:Nat}{M:Mt}{v:Tr}(h:JC m M)(hv:CP n v):CP (m+n+2) (vm M v):=⟨LK h.1 hv,LK h.2.1 hv,LK h.2.2 hv⟩
theorem Z4 {m n:Nat}{M N:Mt}(h:JC m M)(h':JC n N):JC (n+m+2) (mm M N):=⟨DY (Kf h') h.1,DY (Kf h') h.2.1,DY (Kf h') h.2.2⟩
theorem Lh {m:Nat}{M:Mt}(h:JC m M):JC (m+m+1) (LI M):=⟨jl h.2.1 h.2.2,jl h.2.2 h.1,jl h.1 h.2.1⟩
theorem Yi {m:Nat}{M:Mt}(h:JC m M):JC (m+m+1) (adj M):=Kf (Lh h)
def ac8:W->Bool
 | .int _=>true
 | _=>false
instance (ns:List Int):Decidable (Qm ns):=inferInstanceAs (Decidable (_/\_))
def lw (t:Tr):W:=.lst [.int t.1,.int t.2.1,.int t.2.2]
def JF (b:Bool)(t:Tr):W:=if b then tw t else lw t
def M7 (b:Bool)(M:Mt):W:=if b then mw M else O2 M
def acf (c0:Mk):Prop:=∀ {h:Gh} {p q:Tr} {m:Nat} {Q:WK} {E:Bq} (b b':Bool),m<=10000->CP m p->CP m q->Q (tw (crs p q)) h->c0 [JF b p,JF b' q] h Q E
def aaM (c0:Mk):Prop:=∀ {h:Gh} {p q:Tr} {m:Nat} {Q:WK} {E:Bq} (b b':Bool),m<=10000->CP m p->CP m q->Q (.int (dt3 p q)) h->c0 [JF b p,JF b' q] h Q E
theorem GZ:acf Ej:=by
 intro h p q m Q E b b' hm hp hq k
 obtain ⟨x,y,z⟩:=q
 obtain ⟨a,b2,c⟩:=p
 obtain ⟨ha,hb,hc⟩:=hp
 obtain ⟨hx,hy,hz⟩:=hq
 simp only at ha hb hc hx hy hz
 cases b <;> cases b'
 ·((conv=>whnf);repeat (refine And.intro (by exact iT.of (by trivial) (by trivial) (by lia) (by lia)) ?_;conv=>whnf))
  exact k
 ·((conv=>whnf);repeat (refine And.intro (by exact iT.of (by trivial) (by trivial) (by lia) (by lia)) ?_;conv=>whnf))
  exact k
 ·((conv=>whnf);repeat (refine And.intro (by exact iT.of (by trivial) (by trivial) (by lia) (by lia)) ?_;conv=>whnf))
  exact k
 ·((conv=>whnf);repeat (refine And.intro (by exact iT.of (by trivial) (by trivial) (by lia) (by lia)) ?_;conv=>whnf))
  exact k
theorem Mq:aaM Vk:=by
 intro h p q m Q E b b' hm hp hq k
 obtain ⟨x,y,z⟩:=q
 obtain ⟨a,b2,c⟩:=p
 obtain ⟨ha,hb,hc⟩:=hp
 obtain ⟨hx,hy,hz⟩:=hq
 simp only at ha hb hc hx hy hz
 cases b <;> cases b'
 ·((conv=>whnf);repeat (refine And.intro (by exact iT.of (by trivial) (by trivial) (by lia) (by lia)) ?_;conv=>whnf))
  exact k
 ·((conv=>whnf);repeat (refine And.intro (by exact iT.of (by trivial) (by trivial) (by lia) (by lia)) ?_;conv=>whnf))
  exact k
 ·((conv=>whnf);repeat (refine And.intro (by exact iT.of (by trivial) (by trivial) (by lia) (by lia)) ?_;conv=>whnf))
  exact k
 ·((conv=>whnf);repeat (refine And.intro (by exact iT.of (by trivial) (by trivial) (by lia) (by lia)) ?_;conv=>whnf))
  exact k
def Dj (c0:Mk):Prop:=∀ {h:Gh} {M:Mt} {Q:WK} {E:Bq} (b:Bool),Q (.lst [JF b M.1,JF b M.2.1,JF b M.2.2]) h->c0 [M7 b M] h Q E
theorem Xx:Dj Cz:=by
  intro h M Q E b k
  cases b
  . exact k
  . first
    | exact k
    | (refine And.intro (by decide:¬ ((0:Nat)=0/\(3:Nat)=9)) (And.intro (by decide:¬ ((3:Nat)=0/\(6:Nat)=9)) (And.intro (by decide:¬ ((6:Nat)=0/\(9:Nat)=9)) ?_))
       exact k)
def uy (c0:Mk):Prop:=∀ {h:Gh} {M:Mt} {m:Nat} {Q:WK} {E:Bq} (b:Bool),m<=10000->JC m M->Q (mw (LI M)) h->c0 [M7 b M] h Q E
theorem afC {cr ro:Mk}(hcr:acf cr)(hro:Dj ro):uy (HD cr ro):=by
 intro h M m Q E b hm hs k
 show ro [M7 b M] h _ _
 refine hro b ?_
 show cr [JF b M.2.1,JF b M.2.2] h _ _
 refine hcr b b hm hs.2.1 hs.2.2 ?_
 show cr [JF b M.2.2,JF b M.1] h _ _
 refine hcr b b hm hs.2.2 hs.1 ?_
 show cr [JF b M.1,JF b M.2.1] h _ _
 refine hcr b b hm hs.1 hs.2.1 ?_
 exact k
def Zk (c0:Mk):Prop:=∀ {h:Gh} {p q r:Tr} {m:Nat} {Q:WK} {E:Bq} (b:Bool),m<=4000->CP m p->CP m q->CP m r->Q (.int (dt3 (crs p q) r)) h->c0 [JF b p,JF b q,JF b r] h Q E
theorem Ww {dt cr:Mk}(hdt:aaM dt)(hcr:acf cr):Zk (Q0 dt cr):=by
 intro h p q r m Q E b hm hp hq hr k
 show cr [JF b p,JF b q] h _ _
 refine hcr (m:=m) b b (by lia) hp hq ?_
 show dt [JF true (crs p q),JF b r] h _ _
 exact hdt (m:=m+m+1) true b (by lia) (jl hp hq) (hr.mono (by lia)) k
def Nx (c0:Mk):Prop:=∀ {h:Gh} {M:Mt} {Q:WK} {E:Bq} (b:Bool),Q (O2 (tr M)) h->c0 [M7 b M] h Q E
theorem ahg {b:Bool}{M:Mt}{h:Gh}{Q:WK}:∀ (i:Nat) (w:W),[W.int M.1.1,.int M.2.1.1,.int M.2.2.1,.int M.1.2.1,.int M.2.1.2.1,.int M.2.2.2.1,.int M.1.2.2,.int M.2.1.2.2,.int M.2.2.2.2][i]?=Dn w->Q w h ->
  kI CG (aB 1) (kI cJ (kI eZ (mC (.int 3)) (kI uF (aB 0) (mC (.int 3)))) (kI Dl (aB 0) (mC (.int 3)))) [Dn (.int (i:Int)),Dn (M7 b M)] h Q:=by
 have c:∀ a b:Int,QB (a.natAbs+1) (2^64)=true->QB (b.natAbs+1) (2^64)=true->iT a b:=fun a b h1 h2=>.of (Sm.lit h1) (Sm.lit h2) (by decide) (by decide)
 have d:Gq 0 3:=⟨by decide,64,by decide,.lit rfl⟩
 intro i w e q
 match i,e with
 | 0,e | 1,e | 2,e | 3,e | 4,e | 5,e | 6,e | 7,e | 8,e=>
  have e':=Ja e
  subst e'
  refine And.intro (by decide) (And.intro (c _ _ rfl rfl) (And.intro d ?_))
  cases b
  ·exact q
  ·exact q
theorem R8:Nx BX:=by
 intro h M Q E b k
 show Ih JG [0] (jg (aq (mC (.int 9)) aM)) j6 (kI CG (aB 1) (kI cJ (kI eZ (mC (.int 3)) (kI uF (aB 0) (mC (.int 3)))) (kI Dl (aB 0) (mC (.int 3))))) [Dn (M7 b M)] h _
 refine K4 (j:=9) (fun _=>rfl) (by decide) (by decide) (by decide) (fun i acc h'=>h'=h/\acc=[W.int M.1.1,.int M.2.1.1,.int M.2.2.1,.int M.1.2.1,.int M.2.1.2.1,.int M.2.2.2.1,.int M.1.2.2,.int M.2.1.2.2,.int M.2.2.2.2].take i) ?_ ?_ ⟨rfl,rfl⟩
 ·rintro i acc h' N hN hlt ⟨rfl,rfl⟩
  refine ⟨[.int (i:Int)],rfl,?_⟩
  have hi:i < [W.int M.1.1,.int M.2.1.1,.int M.2.2.1,.int M.1.2.1,.int M.2.1.2.1,.int M.2.2.2.1,.int M.1.2.2,.int M.2.1.2.2,.int M.2.2.2.2].length:=hlt
  refine ahg (b:=b) (M:=M) i _ (KY hi) ?_
  refine hN _ _ ⟨rfl,?_⟩
  rw [Mw,KY hi]
  rfl
 ·rintro acc h' ⟨rfl,rfl⟩
  exact k
def Qv (c0:Mk):Prop:=∀ {h:Gh} {M N:Mt} {m:Nat} {Q:WK} {E:Bq} (b b':Bool),m<=8000->JC m M->JC m N->Q (O2 (mm M N)) h->c0 [M7 b M,M7 b' N] h Q E
theorem aci {dt ro fl:Mk}(hdt:aaM dt)(hro:Dj ro)(hfl:Nx fl):Qv (iV dt ro fl):=by
 intro h M N m Q E b b' hm hM hN k
 have hT:=Kf hN
 show fl [M7 b' N] h _ _
 refine hfl b' ?_
 show ro [M7 false (tr N)] h _ _
 refine hro false ?_
 show ro [M7 b M] (h.new (.lst [])) _ _
 refine hro b ?_
 have dots:∀ (g:Gh) (r:Tr) (s0 s1 s3:Option W) (Q':WK),CP m r->Q' (.lst [.int (dt3 r (tr N).1),.int (dt3 r (tr N).2.1),.int (dt3 r (tr N).2.2)]) g ->
   Ih JG [4] (Iw (aB 2)) j6 (aL dt E (aq (aB 1) (aq (aB 0) aM))) [s0,s1,Dn (.lst [lw (tr N).1,lw (tr N).2.1,lw (tr N).2.2]),s3,Dn (JF b r)] g Q':=by
  intro g r s0 s1 s3 Q' hr q
  show dt [JF b r,JF false (tr N).1] g _ _
  refine hdt b false (by lia) hr hT.1 ?_
  show dt [JF b r,JF false (tr N).2.1] g _ _
  refine hdt b false (by lia) hr hT.2.1 ?_
  show dt [JF b r,JF false (tr N).2.2] g _ _
  refine hdt b false (by lia) hr hT.2.2 ?_
  exact q
 show (match (h.new (.lst [])).c h.nx with
  | some (Cell.lst us)=>_
  | _=>False)
 rw [DW]
 refine dots _ _ _ _ _ _ hM.1 ?_
 dsimp only [aM]
 refine Hz (DW _ _) (by simp;decide) ?_
 show (match ((h.new (.lst [])).set h.nx _).c h.nx with
  | some (Cell.lst us)=>_
  | _=>False)
 rw [tY]
 refine dots _ _ _ _ _ _ hM.2.1 ?_
 dsimp only [aM]
 refine Hz (tY _ _ _) (by simp;decide) ?_
 show (match (((h.new (.lst [])).set h.nx _).set h.nx _).c h.nx with
  | some (Cell.lst us)=>_
  | _=>False)
 rw [tY]
 refine dots _ _ _ _ _ _ hM.2.2 ?_
 dsimp only [aM]
 refine Hz (tY _ _ _) (by simp;decide) ?_
 refine ⟨fun n c hn e=>?_,.inr ⟨h.nx,_,rfl,Ij _,tY _ _ _,?_,?_⟩⟩
 ·rw [vO (by lia),vO (by lia),vO (by lia),xQ (by lia)]
  exact e
 ·simp [Lo,Kr]
 ·have e:O2 (mm M N)=.lst [.int (dt3 M.1 (tr N).1),.int (dt3 M.1 (tr N).2.1),.int (dt3 M.1 (tr N).2.2),.int (dt3 M.2.1 (tr N).1),.int (dt3 M.2.1 (tr N).2.1),.int (dt3 M.2.1 (tr N).2.2),.int (dt3 M.2.2 (tr N).1),.int (dt3 M.2.2 (tr N).2.1),.int (dt3 M.2.2 (tr N).2.2)]:=by
   simp only [O2,mm,vm,cQ]
  rw [e] at k
  exact k
def Hh (c0:Mk):Prop:=∀ {h:Gh} {M:Mt} {m:Nat} {Q:WK} {E:Bq},m<=3000->JC m M->det M≠0->(∀ N,PlM N->IK (adj M) N->JC (m+m+1) N->Q (mw N) h)->c0 [mw M] h Q E
theorem X6 {pl fl tu:Mk}(hpl:xH pl)(hfl:Nx fl)(htu:uy tu):Hh (RB pl fl tu):=by
 intro h M m Q E hm sM dM k
 show tu [M7 true M] h _ _
 refine htu true (by lia) sM ?_
 show fl [M7 true (LI M)] h _ _
 refine hfl true ?_
 show pl [O2 (adj M)] h _ _
 exact hpl.mt (m:=m+m+1) (.inr rfl) (rT dM) (Yi sM) (by lia) k
def Mi (c0:Mk):Prop:=∀ {h:Gh} {M:Mt} {m:Nat} {Q:WK} {E:Bq},m<=4000->JC m M->Q (.int (det M)) h->c0 [O2 M] h Q E
theorem zaK {Q:WK}{h:Gh}{w:W}{m:Nat}{a b c d e f g i j:Int}(hm:m<=4000)(s1:Sm m a)(s2:Sm m b)(s3:Sm m c)(s4:Sm m d)(s5:Sm m e)(s6:Sm m f)(s7:Sm m g)(s8:Sm m i)(s9:Sm m j)(q:Q (.int (a*(e*j - f*i) - b*(d*j - f*g)+c*(d*i - e*g))) h) :
  (bG (bW (kI eZ (aB 1) (kI wI (kI eZ (aB 5) (aB 9)) (kI eZ (aB 6) (aB 8)))) (JI 10))
  (bG (bW (kI wI (aB 10) (kI eZ (aB 2) (kI wI (kI eZ (aB 4) (aB 9)) (kI eZ (aB 6) (aB 7))))) (JI 10))
  (bV (kI cJ (aB 10) (kI eZ (aB 3) (kI wI (kI eZ (aB 4) (aB 8)) (kI eZ (aB 5) (aB 7)))))))) { nx:=fun _ h'=>Q .non h',rt:=fun w h'=>Q w h' }
   [Dn w,Dn (.int a),Dn (.int b),Dn (.int c),Dn (.int d),Dn (.int e),Dn (.int f),Dn (.int g),Dn (.int i),Dn (.int j),FN] h:=by
 ((conv=>whnf);repeat (refine And.intro (by exact iT.of (by trivial) (by trivial) (by lia) (by lia)) ?_;conv=>whnf))
 exact q
theorem agH:Mi Hg:=by
 intro h M m Q E hm hs q
 obtain ⟨⟨a,b,c⟩,⟨d,e,f⟩,⟨g,i,j⟩⟩:=M
 obtain ⟨⟨s1,s2,s3⟩,⟨s4,s5,s6⟩,⟨s7,s8,s9⟩⟩:=hs
 have ed:det ((a,b,c),(d,e,f),(g,i,j))=a*(e*j - f*i) - b*(d*j - f*g)+c*(d*i - e*g):=by
  simp only [det,dt3,crs]
  grind
 rw [ed] at q
 exact zaK (w:=O2 ((a,b,c),(d,e,f),(g,i,j))) hm s1 s2 s3 s4 s5 s6 s7 s8 s9 q
def Ro (c0:Mk):Prop:=∀ {h:Gh} {n:Nat} {far:Int} {fm:Nat} {Q:WK} {E:Bq},Rs h n->20<far->Sm fm far->fm<=4000->(∀ M h',PlM M->det M≠0->JC fm M->Rs h' n->MP n h h'->Q (mw M) h')->c0 [.loc n,.int far] h Q E
theorem aaj {nb pl sz:Mk}(hnb:uz nb)(hpl:xH pl)(hsz:Mi sz):Ro (Ku nb pl sz):=by
 intro h n far fm Q E hr hf hb hm q
 have f1:Sm 7000 far:=hb.mono (by lia)
 show Ih JG [0,1] (jg (aq (mC (.int 9)) aM)) j6 (aL nb E (aq (aB 1) (aq (aB 2) aM))) [Dn (.loc n),Dn (.int far),FN] h _
 refine K4 (j:=9) (fun _=>rfl) (by decide) (by decide) (by decide) (fun i acc h'=>∃ ns:List Int,ns.length=i/\acc=ns.map W.int/\(∀ x∈ns,Sm fm x)/\Rs h' n/\MP n h h') ?_ ?_ ⟨[],rfl,rfl,fun x hx=>absurd hx (by simp),hr,.refl _ _⟩
 ·rintro i acc h' N hN hlt ⟨ns,hl,rfl,hs,r1,o1⟩
  refine ⟨[.int (i:Int)],rfl,?_⟩
  show nb [.loc n,.int far] h' _ _
  refine hnb (n:=n) r1 hf f1 fun x h2 x0 x1 r2 o2=>?_
  refine hN _ _ ⟨ns++[x],by simp [hl],by simp,fun y hy=>?_,r2,o1.trans o2⟩
  rcases Qi.mp hy with hy | hy
  ·exact hs y hy
  ·rw [Oa.mp hy];exact Gj hb x0 x1
 ·rintro acc h' ⟨ns,hl,rfl,hs,r1,o1⟩
  have hl:ns.length=9:=hl
  obtain ⟨M,rfl⟩:∃ M:Mt,ns=ml M:=by
   match ns,hl with
   | [a,b,c,d,e,f,g,i,j],_=>exact ⟨((a,b,c),(d,e,f),(g,i,j)),rfl⟩
  have sM:JC fm M:=by
   refine ⟨⟨hs _ ?_,hs _ ?_,hs _ ?_⟩,⟨hs _ ?_,hs _ ?_,hs _ ?_⟩,⟨hs _ ?_,hs _ ?_,hs _ ?_⟩⟩ <;> simp [ml,tl]
  show sz [O2 M] h' _ _
  refine hsz hm sM ?_
  show br (Ce (.int (det M)) (.int 0)) _ _
  rw [show Ce (.int (det M)) (.int 0)=decide (det M=0) by rw [d8];rfl]
  have s1:Sm fm 1:=hb.le (by show (1:Int).natAbs<=_;lia)
  refine vp (fun hz=>?_) (fun hz=>?_)
  ·show pl [O2 ((1,0,M.1.2.2),(0,1,M.2.1.2.2),(0,0,1))] h' _ _
   refine hpl.mt (m:=fm) (.inr rfl) ?_ ⟨⟨s1,Sm.zero,sM.1.2.2⟩,⟨Sm.zero,s1,sM.2.1.2.2⟩,⟨Sm.zero,Sm.zero,s1⟩⟩ (by lia) fun N pN par sN=>q N h' pN ?_ sN r1 o1
   ·simp [det,dt3,crs]
   ·exact par.det.mp (by simp [det,dt3,crs])
  ·show pl [O2 M] h' _ _
   exact hpl.mt (m:=fm) (.inr rfl) hz sM (by lia) fun N pN par sN=>q N h' pN (par.det.mp hz) sN r1 o1
def Ys (c0:Mk):Prop:=∀ {h:Gh} {M:Mt} {v:Tr} {m:Nat} {Q:WK} {E:Bq},m<=3000->JC m M->CP m v->det M≠0->v≠(0,0,0)->(∀ t,Pl t->Ii (vm M v) t->CP (m+m+2) t->Q (tw t) h)->c0 [mw M,tw v] h Q E
def Kz (c0:Mk):Prop:=∀ {h:Gh} {M:Mt} {v:Tr} {m:Nat} {Q:WK} {E:Bq} (b:Bool),m<=8000->JC m M->CP m v->Q (lw (vm M v)) h->c0 [M7 b M,tw v] h Q E
theorem ab7 {dt ro:Mk}(hdt:aaM dt)(hro:Dj ro):Kz (jH dt ro):=by
 intro h M v m Q E b hm sM sv k
 show ro [M7 b M] h _ _
 refine hro b ?_
 show dt [JF b M.1,JF true v] h _ _
 refine hdt b true (by lia) sM.1 sv ?_
 show dt [JF b M.2.1,JF true v] h _ _
 refine hdt b true (by lia) sM.2.1 sv ?_
 show dt [JF b M.2.2,JF true v] h _ _
 refine hdt b true (by lia) sM.2.2 sv ?_
 exact k
theorem acE {pl tt:Mk}(hpl:xH pl)(htt:Kz tt):Ys (S7 pl tt):=by
 intro h M v m Q E hm sM sv dM hv k
 show tt [M7 true M,tw v] h _ _
 refine htt true (by lia) sM sv ?_
 show pl [lw (vm M v)] h _ _
 exact hpl.tr (u:=vm M v) (m:=m+m+2) (.inr rfl) (Dz dM hv) (DY sM sv) (by lia) k
theorem Wh {M:Mt}(h:det M≠0):det (LI M)≠0:=by rw [<-Mv];exact rT h
def ou (p q r s:Tr):Mt:=tr (sc (vm (LI (p,q,r)) s).1 p,sc (vm (LI (p,q,r)) s).2.1 q,sc (vm (LI (p,q,r)) s).2.2 r)
structure adW (A:Mt) (p q r s:Tr):Prop where
 a:Ii (vm A (1,0,0)) p
 b:Ii (vm A (0,1,0)) q
 c:Ii (vm A (0,0,1)) r
 d:Ii (vm A (1,1,1)) s
theorem W0 (a b c:Tr):vm (tr (a,b,c)) (1,0,0)=a:=by simp [vm,tr,dt3]
theorem aan (a b c:Tr):vm (tr (a,b,c)) (0,1,0)=b:=by simp [vm,tr,dt3]
theorem ZG (a b c:Tr):vm (tr (a,b,c)) (0,0,1)=c:=by simp [vm,tr,dt3]
theorem adO (X:Mt):vm X (1,1,1)=((vm X (1,0,0)).1+(vm X (0,1,0)).1+(vm X (0,0,1)).1,(vm X (1,0,0)).2.1+(vm X (0,1,0)).2.1+(vm X (0,0,1)).2.1,(vm X (1,0,0)).2.2+(vm X (0,1,0)).2.2+(vm X (0,0,1)).2.2):=by
 obtain ⟨⟨a,b,c⟩,⟨d,e,f⟩,⟨g,h,i⟩⟩:=X
 simp [vm,dt3]
theorem afJ (p q r s:Tr):vm (ou p q r s) (1,1,1)=sc (det (p,q,r)) s:=by
 have e:vm (ou p q r s) (1,1,1)=vm (tr (p,q,r)) (vm (LI (p,q,r)) s):=by
  rw [adO]
  unfold ou
  rw [W0,aan,ZG]
  generalize vm (LI (p,q,r)) s=f
  obtain ⟨f0,f1,f2⟩:=f
  simp only [vm,tr,dt3,sc]
 have k:LI (p,q,r)=tr (adj (p,q,r)):=rfl
 rw [e,<-wU,k,<-abo,xV,acq,show tr QS=QS from rfl,uc,Fp]
theorem Wv (a b c:Int)(p q r:Tr):det (tr (sc a p,sc b q,sc c r))=det (p,q,r)*(a*b*c):=by
 rw [Mv]
 simp only [det]
 rw [mZ,rB,kY]
 grind
theorem nz2 {a b:Int}(h1:a≠0)(h2:b≠0):a*b≠0:=fun z=>(O5.mp z).elim h1 h2
theorem vQ {p q r s:Tr}(h1:dt3 (crs p q) r≠0)(h2:dt3 (crs p q) s≠0)(h3:dt3 (crs p r) s≠0)(h4:dt3 (crs q r) s≠0):det (ou p q r s)≠0:=by
 unfold ou
 rw [Wv]
 refine nz2 h1 (nz2 (nz2 h4 ?_) h2)
 show dt3 (crs r p) s≠0
 intro e
 refine h3 ?_
 have:dt3 (crs p r) s = - dt3 (crs r p) s:=by simp only [dt3,crs];grind
 rw [this,e];rfl
def Rq (c0:Mk):Prop:=∀ {h:Gh} {p q r s:Tr} {m:Nat} {Q:WK} {E:Bq},m<=1000->CP m p->CP m q->CP m r->CP m s->dt3 (crs p q) r≠0->dt3 (crs p q) s≠0->dt3 (crs p r) s≠0->dt3 (crs q r) s≠0 ->
 (∀ G,PlM G->IK (ou p q r s) G->JC (4*m+4) G->Q (mw G) h)->c0 [.lst [tw p,tw q,tw r,tw s]] h Q E
theorem agz {p q r s f:Tr}{m:Nat}{h:Gh}{Q:WK}(hm:m<=1000)(sp:CP m p)(sq:CP m q)(sr:CP m r)(sf:CP (3*m+3) f):∀ (i:Nat) (w:W),
  [W.int (f.1*p.1),.int (f.2.1*q.1),.int (f.2.2*r.1),.int (f.1*p.2.1),.int (f.2.1*q.2.1),.int (f.2.2*r.2.1),.int (f.1*p.2.2),.int (f.2.1*q.2.2),.int (f.2.2*r.2.2)][i]?=Dn w->Q w h ->
  kI eZ (kI CG (aB 2) (kI uF (aB 0) (mC (.int 3)))) (kI CG (kI CG (aB 1) (kI uF (aB 0) (mC (.int 3)))) (kI Dl (aB 0) (mC (.int 3)))) [Dn (.int (i:Int)),Dn (.lst [tw p,tw q,tw r,tw s]),Dn (lw f)] h Q:=by
 have c:∀ {a b:Int},Sm (3*m+3) a->Sm m b->iT a b:=fun h1 h2=>.of h1 h2 (by lia) (by lia)
 have d:Gq 0 3:=⟨by decide,64,by decide,.lit rfl⟩
 intro i w e k
 match i,e with
 | 0,e=>cases e;exact And.intro (by decide) (And.intro (by decide) (And.intro d (And.intro (c sf.1 sp.1) k)))
 | 1,e=>cases e;exact And.intro (by decide) (And.intro (by decide) (And.intro d (And.intro (c sf.2.1 sq.1) k)))
 | 2,e=>cases e;exact And.intro (by decide) (And.intro (by decide) (And.intro d (And.intro (c sf.2.2 sr.1) k)))
 | 3,e=>cases e;exact And.intro (by decide) (And.intro (by decide) (And.intro d (And.intro (c sf.1 sp.2.1) k)))
 | 4,e=>cases e;exact And.intro (by decide) (And.intro (by decide) (And.intro d (And.intro (c sf.2.1 sq.2.1) k)))
 | 5,e=>cases e;exact And.intro (by decide) (And.intro (by decide) (And.intro d (And.intro (c sf.2.2 sr.2.1) k)))
 | 6,e=>cases e;exact And.intro (by decide) (And.intro (by decide) (And.intro d (And.intro (c sf.1 sp.2.2) k)))
 | 7,e=>cases e;exact And.intro (by decide) (And.intro (by decide) (And.intro d (And.intro (c sf.2.1 sq.2.2) k)))
 | 8,e=>cases e;exact And.intro (by decide) (And.intro (by decide) (And.intro d (And.intro (c sf.2.2 sr.2.2) k)))
theorem W3 {pl tt tu:Mk}(hpl:xH pl)(htt:Kz tt)(htu:uy tu):Rq (sU pl tt tu):=by
 intro h p q r s m Q E hm sp sq sr ss f1 f2 f3 f4 k
 have sP:JC m (p,q,r):=⟨sp,sq,sr⟩
 have sf:CP (3*m+3) (vm (LI (p,q,r)) s):=(DY (Lh sP) ss).mono (by lia)
 show tu [M7 true (p,q,r)] h _ _
 refine htu true (by lia) sP ?_
 show tt [M7 true (LI (p,q,r)),tw s] h _ _
 refine htt (m:=m+m+1) true (by lia) (Lh sP) (ss.mono (by lia)) ?_
 have hd:=vQ f1 f2 f3 f4
 have eT:ou p q r s=tr (sc (vm (LI (p,q,r)) s).1 p,sc (vm (LI (p,q,r)) s).2.1 q,sc (vm (LI (p,q,r)) s).2.2 r):=rfl
 generalize vm (LI (p,q,r)) s=f at sf eT
 show Ih JG [0,1] (jg (aq (mC (.int 9)) aM)) j6 (kI eZ (kI CG (aB 2) (kI uF (aB 0) (mC (.int 3)))) (kI CG (kI CG (aB 1) (kI uF (aB 0) (mC (.int 3)))) (kI Dl (aB 0) (mC (.int 3))))) [Dn (.lst [tw p,tw q,tw r,tw s]),Dn (lw f)] h _
 refine K4 (j:=9) (fun _=>rfl) (by decide) (by decide) (by decide) (fun i acc h'=>h'=h/\acc=[W.int (f.1*p.1),.int (f.2.1*q.1),.int (f.2.2*r.1),.int (f.1*p.2.1),.int (f.2.1*q.2.1),.int (f.2.2*r.2.1),.int (f.1*p.2.2),.int (f.2.1*q.2.2),.int (f.2.2*r.2.2)].take i) ?_ ?_ ⟨rfl,rfl⟩
 ·rintro i acc h' N hN hlt ⟨rfl,rfl⟩
  refine ⟨[.int (i:Int)],rfl,?_⟩
  have hi:i < [W.int (f.1*p.1),.int (f.2.1*q.1),.int (f.2.2*r.1),.int (f.1*p.2.1),.int (f.2.1*q.2.1),.int (f.2.2*r.2.1),.int (f.1*p.2.2),.int (f.2.1*q.2.2),.int (f.2.2*r.2.2)].length:=hlt
  refine agz hm sp sq sr sf i _ (KY hi) ?_
  refine hN _ _ ⟨rfl,?_⟩
  rw [Mw,KY hi]
  rfl
 ·rintro acc h' ⟨rfl,rfl⟩
  have e:O2 (ou p q r s)=.lst [W.int (f.1*p.1),.int (f.2.1*q.1),.int (f.2.2*r.1),.int (f.1*p.2.1),.int (f.2.1*q.2.1),.int (f.2.2*r.2.1),.int (f.1*p.2.2),.int (f.2.1*q.2.2),.int (f.2.2*r.2.2)]:=by
   rw [eT]
   simp only [O2,tr,sc,Qa]
  show pl [.lst [W.int (f.1*p.1),.int (f.2.1*q.1),.int (f.2.2*r.1),.int (f.1*p.2.1),.int (f.2.1*q.2.1),.int (f.2.2*r.2.1),.int (f.1*p.2.2),.int (f.2.1*q.2.2),.int (f.2.2*r.2.2)]] h' _ _
  rw [<-e]
  refine hpl.mt (m:=4*m+4) (.inr rfl) hd ?_ (by lia) k
  rw [eT]
  have g:∀ {a b:Int},Sm m a->Sm (3*m+3) b->Sm (4*m+4) (a*b):=fun h1 h2=>(h1.mul h2).mono (by lia)
  exact ⟨⟨g sp.1 sf.1,g sq.1 sf.2.1,g sr.1 sf.2.2⟩,⟨g sp.2.1 sf.1,g sq.2.1 sf.2.1,g sr.2.1 sf.2.2⟩,⟨g sp.2.2 sf.1,g sq.2.2 sf.2.1,g sr.2.2 sf.2.2⟩⟩
structure Four (m:Nat) (p q r s:Tr):Prop where
 a:CP m p
 b:CP m q
 c:CP m r
 d:CP m s
def tK (Q:Bool->Gh->Prop):WK:=fun w h=>match w with
 | .bl c=>Q c h
 | _=>False
def uK (Q:Bool->Gh->Prop):WK:=fun w h=>match aaJ h w with
 | some b=>Q b h
 | none=>False
def aK (b:ME)(σ : Sw)(Q:WK):WK:=fun x h=>match x with
 | .bl true=>b σ h Q
 | .bl false=>Q (.bl false) h
 | _=>False
def oK (b:ME)(σ : Sw)(Q:WK):WK:=fun x h=>match x with
 | .bl false=>b σ h Q
 | .bl true=>Q (.bl true) h
 | _=>False
def nK (Q:WK):WK:=fun x h=>match x with
 | .bl c=>Q (.bl (!c)) h
 | _=>False
def iK (R:Src->Gh->Prop):WK:=fun w h=>match wW h w with
 | some s=>R s h
 | none=>False
def xK (f:Str->Bool)(Q:WK):WK:=fun w h=>match w with
 | .exc n=>Q (.bl (f n)) h
 | .exa n _=>Q (.bl (f n)) h
 | _=>False
def pK (Q:Option Int->Gh->Prop):WK:=fun w h=>match w with
 | .int i=>Q (Dn i) h
 | _=>False
def ac3 (g:MG)(b:MS)(D:cj)(σ : Sw):Src->Gh->Prop:=fun s h=>gJ s g b D s.ws σ h
def lcK (own:W->Option (List W))(ix:List Nat)(tt:MT)(te:ME)(σ : Sw)(Q:WK):Src->Gh->Prop:=fun s h=>mH s.ws.length (rO s own ix tt te σ Q s.ws [] h)
def rgK (R:Src->Gh->Prop):List W->Gh->Prop:=fun ws h=>match ws with
 | [.int j]=>CT j (R ⟨Du 0 j.toNat,FN⟩ h)
 | _=>False
def zpK (R:Src->Gh->Prop):List W->Gh->Prop:=fun ws h=>match ws with
 | [x,y]=>(match R6 h x y with
  | some s=>R s h
  | none=>False)
 | _=>False
theorem cC {m u:MS}{D:cj}{σ : Sw}{h:Gh}(x:m { D with nx:=u D } σ h):bG m u D σ h:=x
theorem pJ {N b c:Sw->Gh->Prop}{r:WK}{σ : Sw}{h:Gh}(x:N σ h):cj.nx ⟨N,r,b,c⟩ σ h:=x
theorem aen {N b c:Sw->Gh->Prop}{r:WK}{σ : Sw}{h:Gh}(x:b σ h):cj.bk ⟨N,r,b,c⟩ σ h:=x
theorem aem {N b c:Sw->Gh->Prop}{r:WK}{σ : Sw}{h:Gh}(x:c σ h):cj.ct ⟨N,r,b,c⟩ σ h:=x
theorem Nz {N b c:Sw->Gh->Prop}{r:WK}{w:W}{h:Gh}(x:r w h):cj.rt ⟨N,r,b,c⟩ w h:=x
theorem Vq {D:cj}{w:W}{h:Gh}(x:D.rt w h):cj.rt (cj.lost D) w h:=x
theorem ahI {D:cj}{σ : Sw}{h:Gh}(x:D.nx (σ.map fun _=>FN) h):cj.nx (cj.lost D) σ h:=x
theorem zL {D:cj}{σ : Sw}{h:Gh}(x:D.nx σ h):cH D σ h:=x
theorem gH {m:ME}{g:MG}{D:cj}{σ : Sw}{h:Gh}(x:m σ h fun w h1=>g w σ h1 D.nx):bW m g D σ h:=x
theorem vI {m:ME}{D:cj}{σ : Sw}{h:Gh}(x:m σ h fun _ h1=>D.nx σ h1):rJ m D σ h:=x
theorem mW {m:ME}{D:cj}{σ : Sw}{h:Gh}(x:m σ h D.rt):bV m D σ h:=x
theorem agg {c:Str}{E:Bq}{D:cj}{σ : Sw}{h:Gh}(x:E ⟨c,[]⟩ h):wk c E D σ h:=x
theorem vL {t:MT}{a b:MS}{D:cj}{σ : Sw}{h:Gh}(x:t σ h fun c h1=>br c (a D σ h1) (b D σ h1)):jF t a b D σ h:=x
theorem Xp {t:MT}{a b:ME}{Q:WK}{σ : Sw}{h:Gh}(x:t σ h fun c h1=>br c (a σ h1 Q) (b σ h1 Q)):mIf t a b σ h Q:=x
theorem Z7 {i:Nat}{d:Str}{mb:Bq->MS}{mh:MS}{D:cj}{σ : Sw}{h:Gh}(x:mb (fun x h'=>JZ (QM x.cls d) (mh D.lost (σ.set i (Dn (aaU x))) h') False) D σ h):aec i d mb mh D σ h:=x
theorem Nt {n:Nat}{g:PJ}{w:W}{ws:List W}{σ : Sw}{h:Gh}{N:Sw->Gh->Prop}(e:w=.tup ws)(b:Mj ws.length n=true)(x:g ws σ h N):u5 n g w σ h N:=by
 subst e
 unfold u5
 dsimp only
 rw [b]
 exact x
theorem Wu {n:Nat}{g:PJ}{w:W}{ws:List W}{σ : Sw}{h:Gh}{N:Sw->Gh->Prop}(e:w=.lst ws)(b:Mj ws.length n=true)(x:g ws σ h N):u5 n g w σ h N:=by
 subst e
 unfold u5
 dsimp only
 rw [b]
 exact x
theorem Zn {n:Nat}{g:PJ}{w:W}{ws:List W}{σ : Sw}{h:Gh}{N:Sw->Gh->Prop}(e:w=.tup ws)(b:Mj ws.length n=true)(x:g ws σ h N):adi n g w σ h N:=by
 subst e
 unfold adi
 dsimp only
 rw [b]
 exact x
theorem Es {g:MG}{r:PJ}{w:W}{ws:List W}{σ : Sw}{h:Gh}{N:Sw->Gh->Prop}(x:g w σ h fun σ1 h1=>r ws σ1 h1 N):mG g r (w::ws) σ h N:=x
theorem R0 {σ : Sw}{h:Gh}{N:Sw->Gh->Prop}(x:N σ h):RQ [] σ h N:=x
theorem aP {i:Nat}{w:W}{σ : Sw}{h:Gh}{Q:WK}(e:σ[i]?=Dn (Dn w))(x:Q w h):aB i σ h Q:=by
 unfold aB
 rw [e]
 exact x
theorem uf {w:W}{σ : Sw}{h:Gh}{Q:WK}(x:Q w h):mC w σ h Q:=x
theorem gB {r:M2}{ma mb:ME}{σ : Sw}{h:Gh}{Q:WK}(x:ma σ h fun a h1=>mb σ h1 fun b h2=>r a b h2 Q):kI r ma mb σ h Q:=x
theorem aaZ {r:W->Gh->WK->Prop}{ma:ME}{σ : Sw}{h:Gh}{Q:WK}(x:ma σ h fun a h1=>r a h1 Q):mUn r ma σ h Q:=x
theorem Y8 {i:Int}{h:Gh}{Q:WK}(x:Q (.int (-i)) h):aaR (.int i) h Q:=x
theorem aH {a:ME}{r:MA}{σ : Sw}{h:Gh}{Q:List W->Gh->Prop}(x:a σ h fun w h1=>r σ h1 fun ws h2=>Q (w::ws) h2):aq a r σ h Q:=x
theorem aX {σ : Sw}{h:Gh}{Q:List W->Gh->Prop}(x:Q [] h):aM σ h Q:=x
theorem gA {n:Nat}{P:Prop}(e:QB n 1000=true)(x:P):mH n P:=by
 unfold mH
 rw [e]
 exact x
theorem qU {t:MA}{σ : Sw}{h:Gh}{Q:WK}(x:t σ h fun ws h1=>mH ws.length (Q (.tup ws) h1)):wZ t σ h Q:=x
theorem CJ {t:MA}{σ : Sw}{h:Gh}{Q:WK}(x:t σ h fun ws h1=>mH ws.length (Q (.lst ws) h1)):Ds t σ h Q:=x
theorem bF {c:Mk}{E:Bq}{ma:MA}{σ : Sw}{h:Gh}{Q:WK}(x:ma σ h fun ws h1=>c ws h1 Q E):aL c E ma σ h Q:=x
theorem xr {r:MC}{ma:MA}{σ : Sw}{h:Gh}{Q:WK}(x:ma σ h fun ws h1=>r ws h1 Q):JK r ma σ h Q:=x
theorem lE {m:ME}{σ : Sw}{h:Gh}{Q:Bool->Gh->Prop}(x:m σ h (tK Q)):bJ m σ h Q:=x
theorem OJ {c:Bool}{h:Gh}{Q:Bool->Gh->Prop}(x:Q c h):tK Q (.bl c) h:=x
theorem xY {m:ME}{σ : Sw}{h:Gh}{Q:Bool->Gh->Prop}(x:m σ h (uK Q)):Bg m σ h Q:=x
theorem Xg {w:W}{b:Bool}{h:Gh}{Q:Bool->Gh->Prop}(e:aaJ h w=Dn b)(x:Q b h):uK Q w h:=by
 unfold uK
 rw [e]
 exact x
theorem Fy {t:MT}{σ : Sw}{h:Gh}{Q:Bool->Gh->Prop}(x:t σ h fun c h1=>Q (!c) h1):K8 t σ h Q:=x
theorem XM {t u:MT}{σ : Sw}{h:Gh}{Q:Bool->Gh->Prop}(x:t σ h fun c h1=>br c (u σ h1 Q) (Q false h1)):RN t u σ h Q:=x
theorem K5 {t u:MT}{σ : Sw}{h:Gh}{Q:Bool->Gh->Prop}(x:t σ h fun c h1=>br c (Q true h1) (u σ h1 Q)):Pz t u σ h Q:=x
theorem Gs {σ : Sw}{h:Gh}{Q:Bool->Gh->Prop}(x:Q true h):j6 σ h Q:=x
theorem aha {a b:ME}{σ : Sw}{h:Gh}{Q:WK}(x:a σ h (aK b σ Q)):ab9 a b σ h Q:=x
theorem Yo {a b:ME}{σ : Sw}{h:Gh}{Q:WK}(x:a σ h (oK b σ Q)):adD a b σ h Q:=x
theorem Wo {a:ME}{σ : Sw}{h:Gh}{Q:WK}(x:a σ h (nK Q)):acG a σ h Q:=x
theorem ad0 {b:ME}{σ : Sw}{h:Gh}{Q:WK}{c:Bool}(x:br c (b σ h Q) (Q (.bl false) h)):aK b σ Q (.bl c) h:=by
 cases c with
 | true=>exact x.1 rfl
 | false=>exact x.2 rfl
theorem aek {b:ME}{σ : Sw}{h:Gh}{Q:WK}{c:Bool}(x:br c (Q (.bl true) h) (b σ h Q)):oK b σ Q (.bl c) h:=by
 cases c with
 | true=>exact x.1 rfl
 | false=>exact x.2 rfl
theorem adB {h:Gh}{Q:WK}{c:Bool}(x:Q (.bl (!c)) h):nK Q (.bl c) h:=x
theorem aaD {f:Str->Bool}{m:ME}{σ : Sw}{h:Gh}{Q:WK}(x:m σ h (xK f Q)):aeh f m σ h Q:=x
theorem adQ {f:Str->Bool}{n:Str}{h:Gh}{Q:WK}(x:Q (.bl (f n)) h):xK f Q (.exc n) h:=x
theorem Vw {a b:Prop}(x:a):br true a b:=QV rfl x
theorem Xu {a b:Prop}(x:b):br false a b:=wN rfl x
theorem aak {a b:Prop}(x:b):br (!true) a b:=Xu x
theorem YF {a b:Prop}(x:a):br (!false) a b:=Vw x
theorem Gx {a b:Prop}(x:a):JZ true a b:=x
theorem Rn {a b:Prop}(x:b):JZ false a b:=x
theorem QW {i j:Int}{h:Gh}{Q:WK}(x:Q (.int (i - j)) h):wI (.int i) (.int j) h Q:=x
theorem Nr {i j:Int}{h:Gh}{Q:WK}(x:Q (.int (i+j)) h):cJ (.int i) (.int j) h Q:=x
theorem Yd {i j:Int}{h:Gh}{Q:WK}(c:iT i j)(x:Q (.int (i*j)) h):eZ (.int i) (.int j) h Q:=⟨c,x⟩
theorem yu {i j:Int}{h:Gh}{Q:WK}(c:j≠0)(x:Q (.int (i.fmod j)) h):uF (.int i) (.int j) h Q:=⟨c,x⟩
theorem acs {i j:Int}{h:Gh}{Q:WK}(x:Q (.bl (decide (i<j))) h):kLt (.int i) (.int j) h Q:=x
theorem Xh {i j:Int}{h:Gh}{Q:WK}(x:Q (.bl (decide (i>j))) h):Pa (.int i) (.int j) h Q:=x
theorem aa5 {i j:Int}{h:Gh}{Q:WK}(x:Q (.bl (decide (i=j))) h):Ke (.int i) (.int j) h Q:=by
 have e:Ce (.int i) (.int j)=decide (i=j):=d8 i j
 show Q (.bl (Ce (.int i) (.int j))) h
 rw [e]
 exact x
theorem XF {i j:Int}{h:Gh}{Q:WK}(x:Q (.bl (decide (i≠j))) h):KC (.int i) (.int j) h Q:=by
 have e:(!Ce (.int i) (.int j))=decide (i≠j):=by rw [d8];by_cases z:i=j <;> simp [z]
 show Q (.bl (!Ce (.int i) (.int j))) h
 rw [e]
 exact x
theorem ab6 {i j:Bool}{h:Gh}{Q:WK}(x:Q (.bl (decide (i=j))) h):Ke (.bl i) (.bl j) h Q:=by
 have e:Ce (.bl i) (.bl j)=decide (i=j):=by rw [Ce];cases i <;> cases j <;> rfl
 show Q (.bl (Ce (.bl i) (.bl j))) h
 rw [e]
 exact x
theorem abN {i j:Bool}{h:Gh}{Q:WK}(x:Q (.bl (decide (i≠j))) h):KC (.bl i) (.bl j) h Q:=by
 have e:(!Ce (.bl i) (.bl j))=decide (i≠j):=by rw [Ce];cases i <;> cases j <;> rfl
 show Q (.bl (!Ce (.bl i) (.bl j))) h
 rw [e]
 exact x
theorem aaw {p q:Tr}{h:Gh}{Q:WK}(x:Q (.bl (decide (p=q))) h):Ke (tw p) (tw q) h Q:=by
 show Q (.bl (Ce (tw p) (tw q))) h
 rw [Dm]
 exact x
theorem VG {p q:Tr}{h:Gh}{Q:WK}(x:Q (.bl (decide (p≠q))) h):KC (tw p) (tw q) h Q:=by
 have e:(!Ce (tw p) (tw q))=decide (p≠q):=by rw [Dm];by_cases z:p=q <;> simp [z]
 show Q (.bl (!Ce (tw p) (tw q))) h
 rw [e]
 exact x
theorem abD {p:Tr}{a b c:Int}{h:Gh}{Q:WK}(x:Q (.bl (decide (p=(a,b,c)))) h):Ke (tw p) (.tup [.int a,.int b,.int c]) h Q:=aaw (q:=(a,b,c)) x
theorem aa3 {p:Tr}{a b c:Int}{h:Gh}{Q:WK}(x:Q (.bl (decide (p≠(a,b,c)))) h):KC (tw p) (.tup [.int a,.int b,.int c]) h Q:=VG (q:=(a,b,c)) x
theorem JX {x w:W}{i:Int}{ws:List W}{h:Gh}{Q:WK}(e:view h x=Dn ws)(a:Ks ws i=Dn w)(k:Q w h):CG x (.int i) h Q:=by
 unfold CG
 dsimp only
 rw [e]
 dsimp only
 rw [a]
 exact k
theorem Sx {w:W}{T:String}{b:Bool}{h:Gh}{Q:WK}(e:aaH h w T=Dn b)(x:Q (.bl b) h):Yr [w,.ty T] h Q:=by
 unfold Yr
 dsimp only
 rw [e]
 exact x
theorem qb {w:W}{xs:List W}{h:Gh}{Q:WK}(e:view h w=Dn xs)(x:Q (.int (xs.length:Int)) h):JM [w] h Q:=by
 unfold JM
 dsimp only
 rw [e]
 exact x
theorem ahB {us:List W}{h:Gh}{Q:WK}(x:Q (.tup us) h):Ca [.lst us] h Q:=x
theorem YL {w:W}{us:List W}{bs:List Bool}{h:Gh}{Q:WK}(e:fG h w=Dn us)(b:Jt us=Dn bs)(x:Q (.bl (bs.any id)) h):adv [w] h Q:=by
 unfold adv
 dsimp only
 rw [e]
 dsimp only
 rw [b]
 exact x
theorem ZW {w:W}{us:List W}{bs:List Bool}{h:Gh}{Q:WK}(e:fG h w=Dn us)(b:Jt us=Dn bs)(x:Q (.bl (bs.all id)) h):Xk [w] h Q:=by
 unfold Xk
 dsimp only
 rw [e]
 dsimp only
 rw [b]
 exact x
theorem Zt {w:W}{us:List W}{ns:List Int}{h:Gh}{Q:WK}(e:fG h w=Dn us)(b:Jc us=Dn ns)(x:Q (.int ns.sum) h):WD [w] h Q:=by
 unfold WD
 dsimp only
 rw [e]
 dsimp only
 rw [b]
 exact x
theorem YB {i:Int}{h:Gh}{Q:WK}(x:Q (.int (if i<0 then -i else i)) h):QL [.int i] h Q:=x
theorem aaE {b:Bool}{h:Gh}{Q:WK}(x:Q (.int (if b then 1 else 0)) h):adT [.bl b] h Q:=x
theorem rz {mi:MI}{g:MG}{b:MS}{D:cj}{σ : Sw}{h:Gh}(x:mi σ h (ac3 g b D σ)):uD mi g b D σ h:=x
theorem oh {ws:List W}{o:Option (Nat×List W)}{g:MG}{b:MS}{D:cj}{σ : Sw}{h:Gh}(x:gJ ⟨ws,o⟩ g b D ws σ h):ac3 g b D σ ⟨ws,o⟩ h:=x
theorem Mz {ws:List W}{g:MG}{b:MS}{D:cj}{σ : Sw}{h:Gh}(x:D.nx σ h):gJ ⟨ws,FN⟩ g b D [] σ h:=x
theorem oO {ws r:List W}{w:W}{g:MG}{b:MS}{D:cj}{σ : Sw}{h:Gh}(x:g w σ h fun σ1 h1=>b { D with nx:=gJ ⟨ws,FN⟩ g b D r,ct:=gJ ⟨ws,FN⟩ g b D r,bk:=D.nx } σ1 h1):gJ ⟨ws,FN⟩ g b D (w::r) σ h:=x
theorem qD {m:ME}{R:Src->Gh->Prop}{σ : Sw}{h:Gh}(x:m σ h (iK R)):Iw m σ h R:=x
theorem MN {w:W}{ws:List W}{o:Option (Nat×List W)}{h:Gh}{R:Src->Gh->Prop}(e:wW h w=Dn ⟨ws,o⟩)(x:R ⟨ws,o⟩ h):iK R w h:=by
 unfold iK
 rw [e]
 exact x
theorem zE {ma:MA}{R:Src->Gh->Prop}{σ : Sw}{h:Gh}(x:ma σ h (rgK R)):jg ma σ h R:=x
theorem abk {R:Src->Gh->Prop}{h:Gh}(x:R ⟨[.int 0,.int 1,.int 2],FN⟩ h):rgK R [.int 3] h:=x
theorem abq {R:Src->Gh->Prop}{h:Gh}(x:R ⟨[.int 0,.int 1],FN⟩ h):rgK R [.int 2] h:=x
theorem Xn {ma:MA}{R:Src->Gh->Prop}{σ : Sw}{h:Gh}(x:ma σ h (zpK R)):aaO ma σ h R:=x
theorem abg {a b:W}{as bs:List W}{zs:List W}{R:Src->Gh->Prop}{h:Gh}(e:vX a=Dn as)(e':vX b=Dn bs)(z:vg as bs=zs)(x:R ⟨zs,FN⟩ h):zpK R [a,b] h:=by
 subst z
 have es:R6 h a b=Dn ⟨vg as bs,FN⟩:=by unfold R6;rw [e,e']
 unfold zpK
 dsimp only
 rw [es]
 exact x
theorem ab8 {n:Nat}{b:W}{as bs:List W}{zs:List W}{R:Src->Gh->Prop}{h:Gh}(e:h.c n=Dn (.lst as))(e':vX b=Dn bs)(z:vg as bs=zs)(x:R ⟨zs,Dn (n,as)⟩ h):zpK R [.loc n,b] h:=by
 subst z
 have es:R6 h (.loc n) b=Dn ⟨vg as bs,Dn (n,as)⟩:=by unfold R6;rw [e'];dsimp only [vX];rw [e]
 unfold zpK
 dsimp only
 rw [es]
 exact x
theorem ado {bs:List W}:vg [] bs=[]:=by cases bs <;> rfl
theorem acN {a:W}{as:List W}:vg (a::as) []=[]:=rfl
theorem aa4 {a b:W}{as bs l:List W}(e:vg as bs=l):vg (a::as) (b::bs)=.tup [a,b]::l:=by rw [vg,e]
theorem w6 {own:W->Option (List W)}{ix:List Nat}{mi:MI}{tt:MT}{te:ME}{σ : Sw}{h:Gh}{Q:WK}(x:mi σ h (lcK own ix tt te σ Q)):Ih own ix mi tt te σ h Q:=x
theorem abC {ws:List W}{o:Option (Nat×List W)}{own:W->Option (List W)}{ix:List Nat}{tt:MT}{te:ME}{σ : Sw}{h:Gh}{Q:WK}(e:QB ws.length 1000=true)(x:rO ⟨ws,o⟩ own ix tt te σ Q ws [] h):lcK own ix tt te σ Q ⟨ws,o⟩ h:=gA e x
theorem aal {ws acc:List W}{own:W->Option (List W)}{ix:List Nat}{tt:MT}{te:ME}{σ : Sw}{h:Gh}{Q:WK}(x:Q (.lst acc) h):rO ⟨ws,FN⟩ own ix tt te σ Q [] acc h:=x
theorem Yu {ws r acc vs:List W}{w:W}{own:W->Option (List W)}{ix:List Nat}{tt:MT}{te:ME}{σ : Sw}{h:Gh}{Q:WK}(e:own w=Dn vs)(x:tt (vs.map Dn++vq ix σ) h fun c h1=>JZ c (te (vs.map Dn++vq ix σ) h1 fun v h2=>rO ⟨ws,FN⟩ own ix tt te σ Q r (acc++[v]) h2) (rO ⟨ws,FN⟩ own ix tt te σ Q r acc h1)):rO ⟨ws,FN⟩ own ix tt te σ Q (w::r) acc h:=by
 unfold rO
 show match own w with
  | some vs=>tt (vs.map Dn++vq ix σ) h fun c h1=>JZ c (te (vs.map Dn++vq ix σ) h1 fun v h2=>rO ⟨ws,FN⟩ own ix tt te σ Q r (acc++[v]) h2) (rO ⟨ws,FN⟩ own ix tt te σ Q r acc h1)
  | none=>False
 rw [e]
 exact x
theorem acD {n N:Nat}{body:Bq->MS}{ws:List W}{h:Gh}{Q:WK}{E:Bq}(hl:Mj ws.length n=true)(x:body E { nx:=fun _ h'=>Q .non h',rt:=Q } (ws.map Dn++Qg (N - ws.length) FN) h):Ey n N false body ws h Q E:=by
 unfold Ey
 rw [hl]
 exact x
theorem aae {r:W->Option Int->Option Int->Gh->WK->Prop}{m:ME}{l u:MO}{σ : Sw}{h:Gh}{Q:WK}(x:m σ h fun a h1=>l σ h1 fun lo h2=>u σ h2 fun hi h3=>r a lo hi h3 Q):PX r m l u σ h Q:=x
theorem ahG {m:ME}{σ : Sw}{h:Gh}{Q:Option Int->Gh->Prop}(x:m σ h (pK Q)):jD m σ h Q:=x
theorem adZ {i:Int}{h:Gh}{Q:Option Int->Gh->Prop}(x:Q (Dn i) h):pK Q (.int i) h:=x
def p3K (i j k:Nat)(D:cj)(σ : Sw):List W->Gh->Prop:=fun ws h=>match ws with
 | [x,y,z]=>D.nx (((σ.set i (Dn x)).set j (Dn y)).set k (Dn z)) h
 | _=>False
theorem zbq {i j k:Nat}{ta:MA}{D:cj}{σ : Sw}{h:Gh}(x:ta σ h (p3K i j k D σ)):acu i j k ta D σ h:=x
theorem Y0 {xs:List W}{n:Int}{a b:Prop}(e:decide ((xs.length:Int)≠n)=false)(x:b):br (decide ((xs.length:Int)≠n)) a b:=wN e x
theorem agM {bs:List Bool}{a b:Prop}(e:bs.all id=true)(x:b):br (!(bs.all id)) a b:=wN (by rw [e];rfl) x
theorem acC {n d:Str}{a b:Prop}(e:QM n d=true)(x:a):JZ (QM n d) a b:=N6 e x
theorem acB {n d:Str}{a b:Prop}(e:QM n d=true)(x:a):br (QM n d) a b:=QV e x
theorem abQ {n d:Str}{a b:Prop}(e:QM n d=false)(x:b):br (QM n d) a b:=wN e x
theorem WR {α : Type}{a x:α}{l:List α}:(a::l).set 0 x=x::l:=rfl
theorem WX {α : Type}{a x:α}{l l':List α}{n:Nat}(e:l.set n x=l'):(a::l).set (n+1) x=a::l':=by rw [List.set_cons_succ,e]
theorem cT {i:Nat}{w:W}{σ σ':Sw}{h:Gh}{N:Sw->Gh->Prop}(e:σ.set i (Dn w) = σ')(x:N σ' h):JI i w σ h N:=by
 subst e
 exact x
theorem nV {i:Nat}{w:W}{σ σ':Sw}{h:Gh}{N:Sw->Gh->Prop}(x:N σ' h)(e:σ.set i (Dn w) = σ':=by repeat (first | with_reducible exact WR | with_reducible apply WX)):JI i w σ h N:=cT e x
theorem abF {i j k:Nat}{D:cj}{σ σ1 σ2 σ3:Sw}{h:Gh}{x y z:W}(e1:σ.set i (Dn x) = σ1)(e2:σ1.set j (Dn y) = σ2)(e3:σ2.set k (Dn z) = σ3)(q:D.nx σ3 h):p3K i j k D σ [x,y,z] h:=by
 subst e1 e2 e3
 exact q
def ini (ws:List W)(n:Nat):Sw:=ws.map Dn++Qg (n - ws.length) FN
theorem adx:ini [] 0=[]:=rfl
theorem ac0 {n:Nat}{l:Sw}(e:ini [] n=l):ini [] (n+1)=FN::l:=by
 subst e
 rfl
theorem acO {n:Nat}{w:W}{ws:List W}{l:Sw}(e:ini ws n=l):ini (w::ws) (n+1)=Dn w::l:=by
 subst e
 unfold ini
 rw [S6,Nat.add_sub_add_right]
 rfl
theorem jJ {n N:Nat}{body:Bq->MS}{ws:List W}{σ : Sw}{h:Gh}{Q:WK}{E:Bq}(hl:Mj ws.length n=true)(e:ini ws N = σ)(x:body E { nx:=fun _ h'=>Q .non h',rt:=Q } σ h):Ey n N false body ws h Q E:=by
 subst e
 exact acD hl x
theorem acg {i:Nat}{n d:Str}{fs:List (Str×W)}{mh:MS}{D:cj}{σ σ':Sw}{h:Gh}(e:QM n d=true)(s:σ.set i (Dn (aaU ⟨n,fs⟩)) = σ')(x:mh D σ' h):JZ (QM (Xw.mk n fs).cls d) (mh D (σ.set i (Dn (aaU (Xw.mk n fs)))) h) False:=by
 subst s
 exact N6 e x
theorem Y6 {own:W->Option (List W)}{ix:List Nat}{mi:MI}{tt:MT}{te:ME}{σ : Sw}{h:Gh}{Q:WK}(x:Ih own ix mi tt te σ h (acK Q)):aeb own ix mi tt te σ h Q:=x
theorem Yx {mo mi:ME}{ms:aaB}{w:W}{σ : Sw}{h:Gh}{N:Sw->Gh->Prop}(x:mo σ h fun o h1=>mi σ h1 fun i h2=>ms o i w h2 fun h3=>N σ h3):aaA mo mi ms w σ h N:=x
theorem afu {ws r us:List W}{n:Nat}{w:W}{g:MG}{b:MS}{D:cj}{σ : Sw}{h:Gh}(e:h.c n=Dn (.lst us))(x:g w σ h fun σ1 h1=>b { D with nx:=gJ ⟨ws,Dn (n,us)⟩ g b D r,ct:=gJ ⟨ws,Dn (n,us)⟩ g b D r,bk:=D.nx } σ1 h1):gJ ⟨ws,Dn (n,us)⟩ g b D (w::r) σ h:=⟨e,x⟩
theorem zbm {ws us:List W}{n:Nat}{g:MG}{b:MS}{D:cj}{σ : Sw}{h:Gh}(e:h.c n=Dn (.lst us))(x:D.nx σ h):gJ ⟨ws,Dn (n,us)⟩ g b D [] σ h:=⟨e,x⟩
theorem Wt {ws us acc:List W}{n:Nat}{own:W->Option (List W)}{ix:List Nat}{tt:MT}{te:ME}{σ : Sw}{h:Gh}{Q:WK}(e:h.c n=Dn (.lst us))(x:Q (.lst acc) h):rO ⟨ws,Dn (n,us)⟩ own ix tt te σ Q [] acc h:=⟨e,x⟩
theorem agb {ws us r acc vs:List W}{n:Nat}{w:W}{own:W->Option (List W)}{ix:List Nat}{tt:MT}{te:ME}{σ : Sw}{h:Gh}{Q:WK}(ec:h.c n=Dn (.lst us))(e:own w=Dn vs)(x:tt (vs.map Dn++vq ix σ) h fun c h1=>JZ c (te (vs.map Dn++vq ix σ) h1 fun v h2=>rO ⟨ws,Dn (n,us)⟩ own ix tt te σ Q r (acc++[v]) h2) (rO ⟨ws,Dn (n,us)⟩ own ix tt te σ Q r acc h1)):rO ⟨ws,Dn (n,us)⟩ own ix tt te σ Q (w::r) acc h:=by
 unfold rO
 refine ⟨ec,?_⟩
 show match own w with
  | some vs=>tt (vs.map Dn++vq ix σ) h fun c h1=>JZ c (te (vs.map Dn++vq ix σ) h1 fun v h2=>rO ⟨ws,Dn (n,us)⟩ own ix tt te σ Q r (acc++[v]) h2) (rO ⟨ws,Dn (n,us)⟩ own ix tt te σ Q r acc h1)
  | none=>False
 rw [e]
 exact x
theorem ad6 {n:Nat}{ws:List W}{h:Gh}{R:Src->Gh->Prop}(e:h.c n=Dn (.lst ws))(x:R ⟨ws,Dn (n,ws)⟩ h):iK R (.loc n) h:=MN (by simp only [wW,e]) x
theorem abI {n:Nat}{w:W}{i:Int}{ws:List W}{h:Gh}{Q:WK}(e:h.c n=Dn (.lst ws))(a:Ks ws i=Dn w)(k:Q w h):CG (.loc n) (.int i) h Q:=JX (fL e) a k
theorem KR {n N:Nat}{body:Bq->MS}{ws:List W}{σ : Sw}{h:Gh}{Q:WK}{E:Bq}(hl:Mj ws.length n=true)(e:ini ws N = σ)(x:body E { nx:=fun _ h'=>Dh true h .non h' Q,rt:=fun w h'=>Dh true h w h' Q } σ h):Ey n N true body ws h Q E:=by
 subst e
 unfold Ey
 rw [hl]
 exact x
theorem ahD {a b:List W}{h:Gh}{Q:WK}(e:QB (a.length+b.length) 1000=true)(x:Q (.lst (a++b)) h):cJ (.lst a) (.lst b) h Q:=gA e x
theorem abz {a b:Bool}{h:Gh}{Q:WK}(x:Q (.bl (a==b)) h):kIs (.bl a) (.bl b) h Q:=x
theorem agw {a b:Bool}{h:Gh}{Q:WK}(x:Q (.bl (!(a==b))) h):rR (.bl a) (.bl b) h Q:=x
theorem abO {a b:Str}{h:Gh}{Q:WK}(x:Q (.bl (decide (a=b))) h):Ke (.str a) (.str b) h Q:=by
 have e:Ce (.str a) (.str b)=decide (a=b):=by rw [Ce];by_cases z:a=b <;> simp [z]
 show Q (.bl (Ce (.str a) (.str b))) h
 rw [e]
 exact x
theorem abe {a b:Str}{h:Gh}{Q:WK}(x:Q (.bl (decide (a≠b))) h):KC (.str a) (.str b) h Q:=by
 have e:(!Ce (.str a) (.str b))=decide (a≠b):=by rw [Ce];by_cases z:a=b <;> simp [z]
 show Q (.bl (!Ce (.str a) (.str b))) h
 rw [e]
 exact x
theorem XR {bs:List Bool}{a b:Prop}(e:bs.any id=false)(x:b):br (bs.any id) a b:=wN e x
local macro_rules | `(tactic| rfl') => `(tactic| repeat (first
 | with_reducible (first | refine cC ?_ | refine gH ?_ | refine bF ?_ | refine aH ?_ | refine aX ?_)
 | ((with_reducible apply aP);exact rfl) | with_reducible refine uf ?_ | with_reducible refine gB ?_ | with_reducible refine cT (by repeat (first | with_reducible exact WR | with_reducible apply WX)) ?_ | with_reducible (first | refine Vq ?_ | refine ahI ?_ | refine pJ ?_ | refine Nz ?_ | refine aen ?_ | refine aem ?_)
 | with_reducible (first | refine vL ?_ | refine Xp ?_ | refine mW ?_ | refine vI ?_ | refine zL ?_ | refine Z7 ?_ | refine agg ?_)
 | with_reducible (first | refine lE ?_ | refine OJ ?_ | refine xY ?_) | ((with_reducible apply Xg);exact rfl) | with_reducible (first | refine Fy ?_ | refine XM ?_ | refine K5 ?_ | refine Gs ?_)
 | with_reducible (first | refine aha ?_ | refine Yo ?_ | refine Wo ?_ | refine ad0 ?_ | refine aek ?_ | refine adB ?_ | refine aaD ?_ | refine adQ ?_)
 | with_reducible (first | refine Vw ?_ | refine Xu ?_ | refine aak ?_ | refine YF ?_ | refine Gx ?_ | refine Rn ?_)
 | with_reducible refine qU ?_ | with_reducible refine CJ ?_ | ((with_reducible apply gA);exact rfl) | with_reducible (first | refine xr ?_ | refine aaZ ?_ | refine Y8 ?_)
 | ((with_reducible apply Nt);exact rfl;exact rfl) | ((with_reducible apply Wu);exact rfl;exact rfl) | ((with_reducible apply Zn);exact rfl;exact rfl) | with_reducible refine Es ?_ | with_reducible refine R0 ?_
 | with_reducible refine QW ?_ | with_reducible refine Nr ?_ | ((with_reducible apply Yd);exact iT.of (by trivial) (by trivial) (by lia) (by lia)) | with_reducible refine acs ?_ | with_reducible refine Xh ?_
 | with_reducible (first | refine aa5 ?_ | refine XF ?_ | refine ab6 ?_ | refine abN ?_ | refine aaw ?_ | refine VG ?_ | refine abD ?_ | refine aa3 ?_)
 | ((with_reducible apply JX);exact rfl;exact rfl) | ((with_reducible apply Sx);exact rfl) | ((with_reducible apply qb);exact rfl) | with_reducible refine ahB ?_ | ((with_reducible apply YL);exact rfl;exact rfl) | ((with_reducible apply ZW);exact rfl;exact rfl) | ((with_reducible apply Zt);exact rfl;exact rfl) | with_reducible refine aaE ?_ | with_reducible refine YB ?_
 | with_reducible (first | refine rz ?_ | refine oh ?_ | refine Mz ?_ | refine oO ?_ | refine qD ?_) | ((with_reducible apply MN);exact rfl) | with_reducible (first | refine zE ?_ | refine abk ?_ | refine abq ?_ | refine Xn ?_) | ((with_reducible apply abg);exact rfl;exact rfl;(repeat (first | with_reducible exact ado | with_reducible exact acN | with_reducible apply aa4)))
 | with_reducible refine w6 ?_ | ((with_reducible apply abC);exact rfl) | with_reducible refine aal ?_ | ((with_reducible apply Yu);exact rfl) | ((with_reducible apply jJ);exact rfl;repeat (first | with_reducible exact adx | with_reducible apply acO | with_reducible apply ac0)) | with_reducible (first | refine aae ?_ | refine ahG ?_ | refine adZ ?_ | refine zbq ?_) | with_reducible refine abF (by repeat (first | with_reducible exact WR | with_reducible apply WX)) (by repeat (first | with_reducible exact WR | with_reducible apply WX)) (by repeat (first | with_reducible exact WR | with_reducible apply WX)) ?_ | ((with_reducible apply Y0);exact rfl) | ((with_reducible apply agM);exact rfl) | ((with_reducible apply acg);decide +kernel;(repeat (first | with_reducible exact WR | with_reducible apply WX))) | ((with_reducible apply acC);decide +kernel) | ((with_reducible apply acB);decide +kernel) | ((with_reducible apply abQ);decide +kernel) | with_reducible refine Y6 ?_ | with_reducible refine Yx ?_ | ((with_reducible apply ad6);(with_reducible assumption)) | ((with_reducible apply afu);(with_reducible assumption)) | ((with_reducible apply zbm);(with_reducible assumption)) | ((with_reducible apply Wt);(with_reducible assumption)) | ((with_reducible apply agb);(with_reducible assumption);exact rfl) | ((with_reducible apply abI);(with_reducible assumption);exact rfl) | ((with_reducible apply ab8);(with_reducible assumption);exact rfl;(repeat (first | with_reducible exact ado | with_reducible exact acN | with_reducible apply aa4))) | ((with_reducible apply KR);exact rfl;(repeat (first | with_reducible exact adx | with_reducible apply acO | with_reducible apply ac0))) | ((with_reducible apply ahD);exact rfl) | with_reducible (first | refine abz ?_ | refine agw ?_ | refine abO ?_ | refine abe ?_) | ((with_reducible apply XR);decide +kernel)))
def q4 (p q r s:Tr):W:=.lst [tw p,tw q,tw r,tw s]
def rQ (p q r s:Tr):Bool:=decide (dt3 (crs p q) r≠0)&&(decide (dt3 (crs p q) s≠0)&&(decide (dt3 (crs p r) s≠0)&&decide (dt3 (crs q r) s≠0)))
def Free (p q r s:Tr):Prop:=dt3 (crs p q) r≠0/\dt3 (crs p q) s≠0/\dt3 (crs p r) s≠0/\dt3 (crs q r) s≠0
theorem vG {p q r s:Tr}(h:Free p q r s):rQ p q r s=true:=by
 unfold rQ
 rw [decide_eq_true h.1,decide_eq_true h.2.1,decide_eq_true h.2.2.1,decide_eq_true h.2.2.2]
 rfl
theorem Jw {p q r s:Tr}(h:rQ p q r s=true):Free p q r s:=by
 unfold rQ at h
 simp only [O7,decide_eq_true_eq] at h
 exact h
theorem LC {p q r s:Tr}(h:¬ Free p q r s):rQ p q r s=false:=Bool.eq_false_iff.mpr fun e=>h (Jw e)
def Pu (c0:Mk):Prop:=∀ {h:Gh} {p q r s:Tr} {m:Nat} {Q:WK} {E:Bq},m<=4000->CP m p->CP m q->CP m r->CP m s->Q (.bl (rQ p q r s)) h->c0 [q4 p q r s] h Q E
theorem agy {tu:Mk}(htu:Zk tu):Pu (xT tu):=by
 intro h p q r s m Q E hm sp sq sr ss k
 show tu [JF true p,JF true q,JF true r] h _ _
 refine htu true hm sp sq sr ?_
 show tu [JF true p,JF true q,JF true s] h _ _
 refine htu true hm sp sq ss ?_
 show tu [JF true p,JF true r,JF true s] h _ _
 refine htu true hm sp sr ss ?_
 show tu [JF true q,JF true r,JF true s] h _ _
 refine htu true hm sq sr ss ?_
 show Q (.bl (!(([W.int (dt3 (crs p q) r),.int (dt3 (crs p q) s),.int (dt3 (crs p r) s),.int (dt3 (crs q r) s)]).any fun w=>Ce w (.int 0)))) h
 have e:(!(([W.int (dt3 (crs p q) r),.int (dt3 (crs p q) s),.int (dt3 (crs p r) s),.int (dt3 (crs q r) s)]).any fun w=>Ce w (.int 0)))=rQ p q r s:=by
  simp only [U4,List.any_nil,d8,rQ]
  by_cases f1:dt3 (crs p q) r=0 <;> by_cases f2:dt3 (crs p q) s=0 <;> by_cases f3:dt3 (crs p r) s=0 <;> by_cases f4:dt3 (crs q r) s=0 <;> simp [f1,f2,f3,f4]
 rw [e]
 exact k
def To (M:Mt)(p o:Tr):Prop:=∃ a b:Int,a≠0/\b≠0/\sc a (vm M p)=sc b o
theorem To.eq {M:Mt}{p o t:Tr}(h:To M p o)(ho:Pl o)(ht:Pl t)(hp:Ii (vm M p) t):t=o:=by
 obtain ⟨a,b,a0,b0,e⟩:=h
 obtain ⟨j,j0,ej⟩:=hp
 rw [ej,nY] at e
 exact Bh (u:=sc b o) ht ho ⟨j*a,J5 j0 a0,e.symm⟩ ⟨b,b0,rfl⟩
theorem Py {G Go N M:Mt}{e p o:Tr}(dG:det G≠0)(h1:To G e p)(h2:To Go e o)(hN:IK (adj G) N)(hM:IK (mm Go N) M):To M p o:=by
 obtain ⟨a,b,a0,b0,ea⟩:=h1
 obtain ⟨a',b',a0',b0',eb⟩:=h2
 obtain ⟨k,k0,ek⟩:=hN
 obtain ⟨c,c0,ec⟩:=hM
 have e1:sc (k*b) (vm N p)=sc (det G*a) e:=by
  have:vm (adj G) (sc a (vm G e))=sc a (sc (det G) e):=by rw [bQ,<-wU,xV,uc,Fp]
  rw [ea,ek,bQ,uc,nY,nY] at this
  exact this
 have e2:sc c (vm M p)=vm Go (vm N p):=by rw [<-wU,ec,uc]
 refine ⟨c*(k*b)*a',b'*(det G*a),J5 (J5 c0 (J5 k0 b0)) a0',J5 b0' (J5 dG a0),?_⟩
 rw [<-nY,<-nY,e2,<-bQ,e1,bQ,<-nY (det G*a) b' o,<-eb,nY,nY,Qa]
theorem wz {p q r s:Tr}(f:Free p q r s){G:Mt}(h:IK (ou p q r s) G):To G (1,0,0) p/\To G (0,1,0) q/\To G (0,0,1) r/\To G (1,1,1) s:=by
 obtain ⟨f1,f2,f3,f4⟩:=f
 obtain ⟨k,k0,e⟩:=h
 have g:∀ {v t:Tr} {c:Int},c≠0->vm (ou p q r s) v=sc c t->To G v t:=fun c0 e'=>⟨k,_,k0,c0,by rw [<-uc,<-e,e']⟩
 refine ⟨g ?_ (W0 _ _ _),g ?_ (aan _ _ _),g ?_ (ZG _ _ _),g ?_ (afJ p q r s)⟩
 ·exact f4
 ·intro z
  refine f3 ?_
  have:dt3 (crs p r) s = - dt3 (crs r p) s:=by simp only [dt3,crs];grind
  rw [this,show dt3 (crs r p) s=0 from z]
  rfl
 ·exact f2
 ·exact f1
def Za (c0:Mk):Prop:=∀ {h:Gh} {A B:Mt} {m n:Nat} {Q:WK} {E:Bq},m<=4000->n<=3000->JC m A->JC n B->det A≠0->det B≠0->(∀ M,PlM M->IK (mm B A) M->JC (m+n+2) M->Q (mw M) h)->c0 [mw A,mw B] h Q E
theorem zbr {pl tt:Mk}(hpl:xH pl)(htt:Qv tt):Za (Ni pl tt):=by
 intro h A B m n Q E hm hn sA sB dA dB k
 show tt [M7 true B,M7 true A] h _ _
 refine htt (m:=max m n) true true (by lia) (sB.mono (by lia)) (sA.mono (by lia)) ?_
 show pl [O2 (mm B A)] h _ _
 refine hpl.mt (m:=m+n+2) (.inr rfl) ?_ (Z4 sB sA) (by lia) k
 rw [wO]
 exact fun h=>(O5.mp h).elim dB dA
theorem Bk {r:MM}{mo:ME}{ma:MA}{σ : Sw}{h:Gh}{Q:WK}(x:mo σ h fun x h1=>En h1 x (ma σ h1 fun xs h2=>r x xs h2 Q)):K3 r mo ma σ h Q:=x
theorem wB {n:Nat}{us:List W}{h:Gh}{P:Prop}(e:h.c n=Dn (.lst us))(p:P):En h (.loc n) P:=by
 simp only [En,e]
 exact p
theorem JB {ma:MA}{ws:List W}{σ : Sw}{h:Gh}{Q:WK}(hm:∀ R,ma σ h R=R ws h)(hz:QB ws.length 1000=true)(x:∀ g:Gh,g.c h.nx=Dn (.lst ws)->(∀ n,n≠h.nx->g.c n=h.c n)->g.nx=h.nx+1->Q (.loc h.nx) g):wX ma σ h Q:=by
 unfold wX
 rw [hm]
 exact gA hz (x _ (DW _ _) (fun _ e=>xQ e) rfl)
theorem abA {h:Gh}{n:Nat}{us zs:List W}{Q:WK}(e:h.c n=Dn (.lst us))(hz:us.length+zs.length<=1000)(k:∀ g:Gh,g.c n=Dn (.lst (us++zs))->(∀ m,m≠n->g.c m=h.c m)->g.nx=h.nx->Q .non g):j5 (.loc n) [.lst zs] h Q:=
 Hz e (Jp hz (by decide)) (k _ (tY _ _ _) (fun _ e=>vO e) rfl)
theorem YT {h:Gh}{n:Nat}{us:List W}{w:W}{Q:WK}(e:h.c n=Dn (.lst us))(hz:us.length<=1000)(k:∀ g:Gh,g.c n=Dn (.lst (us++[w]))->(∀ m,m≠n->g.c m=h.c m)->g.nx=h.nx->Q .non g):jB (.loc n) [w] h Q:=
 Rb e (Tj hz (by decide)) (k _ (tY _ _ _) (fun _ e=>vO e) rfl)
theorem YD {α β : Type}{v:α->W}{ws0:List W}{g:MG}{b:MS}{D:cj}(f:α->Option β)(R:β->Prop)(I:Sw->Gh->Prop):∀ (xs:List α),
  (∀ x,x∈xs->∀ σ h N,I σ h->(f x=FN->∀ σ' h',I σ' h'->N σ' h')->(∀ y,f x=Dn y->R y)->g (v x) σ h fun σ1 h1=>b { D with nx:=N,ct:=N,bk:=D.nx } σ1 h1) ->
  (xs.findSome? f=FN->∀ σ h,I σ h->D.nx σ h)->(∀ y,xs.findSome? f=Dn y->R y)->∀ (σ : Sw) (h:Gh),I σ h->gJ ⟨ws0,FN⟩ g b D (xs.map v) σ h
 | [],_,fin,_,σ,h,h0=>fin rfl σ h h0
 | x::xs,step,fin,ret,σ,h,h0=>by
  refine oO (step x Oo σ h _ h0 (fun e σ' h' h1=>?_) fun y e=>ret y ?_)
  ·refine YD f R I xs (fun z hz=>step z (Oq _ hz)) (fun e2=>fin ?_) (fun y e2=>ret y ?_) σ' h' h1
   ·rw [U9,e];exact e2
   ·rw [U9,e];exact e2
  ·rw [U9,e]
theorem Xa {α β : Type}{v:α->W}{ws0:List W}{g:MG}{b:MS}{D:cj}(f:α->Option β)(R:β->Prop)(I:Sw->Gh->Prop)(xs:List α)
  (step:∀ x,x∈xs->∀ σ h N,I σ h->(f x=FN->∀ σ' h',I σ' h'->N σ' h')->(∀ y,f x=Dn y->R y)->g (v x) σ h fun σ1 h1=>b { D with nx:=N,ct:=N,bk:=D.nx } σ1 h1)
  (fin:xs.findSome? f=FN->∀ σ h,I σ h->D.nx σ h) (ret:∀ y,xs.findSome? f=Dn y->R y) {σ : Sw} {h:Gh} (h0:I σ h):gJ ⟨ws0,FN⟩ g b D (xs.map v) σ h:=YD f R I xs step fin ret σ h h0
def rng (a m:Nat):List Nat:=List.range' a (m - a)
theorem mY {a m x:Nat}:x∈rng a m↔a<=x/\x<m:=by
 unfold rng
 rw [List.mem_range'_1]
 lia
theorem Hy (a m:Nat):Du (a:Int) ((m:Int) - (a:Int)).toNat=(rng a m).map fun x:Nat=>W.int (x:Int):=by
 unfold Du rng
 rw [List.range'_eq_map_range,List.map_map,show ((m:Int) - (a:Int)).toNat=m - a by lia]
 refine List.map_congr_left fun x _=>?_
 simp
theorem afF (m:Nat):Du 0 ((m:Nat):Int).toNat=(rng 0 m).map fun x:Nat=>W.int (x:Int):=by
 have:=Hy 0 m
 rw [show ((m:Int) - ((0:Nat):Int)).toNat=((m:Nat):Int).toNat by lia] at this
 exact this
def ac1 (R:Src->Gh->Prop):List W->Gh->Prop:=fun ws h=>match ws with
 | [.int i,.int j]=>CT i (CT j (R ⟨Du i (j - i).toNat,FN⟩ h))
 | _=>False
theorem afs {ma:MA}{R:Src->Gh->Prop}{σ : Sw}{h:Gh}(x:ma σ h (ac1 R)):Jv ma σ h R:=x
theorem Zv {R:Src->Gh->Prop}{h:Gh}{a:Int}{m n:Nat}(ha:a=(n:Int))(h1:n<=1000)(h2:m<=1000)(x:R ⟨(rng n m).map fun x:Nat=>W.int (x:Int),FN⟩ h):ac1 R [.int a,.int (m:Int)] h:=by
 subst ha
 rw [<-Hy] at x
 exact CT.mk (by lia) (by lia) (CT.mk (by lia) (by lia) x)
theorem Wj {R:Src->Gh->Prop}{h:Gh}{m:Nat}(h2:m<=1000)(x:R ⟨(rng 0 m).map fun x:Nat=>W.int (x:Int),FN⟩ h):rgK R [.int (m:Int)] h:=by
 rw [<-afF] at x
 exact CT.mk (by lia) (by lia) x
def nxt (l:List Nat):Nat:=match l.getLast? with
 | none=>0
 | some x=>x+1
def grow (m:Nat)(l:List Nat):List (List Nat):=(rng (nxt l) m).map fun p=>l++[p]
def CR (m:Nat):Nat->List (List Nat)
 | 0=>[[]]
 | k+1=>(CR m k).flatMap (grow m)
def jG (l:List Nat):W:=.tup (l.map fun x:Nat=>.int (x:Int))
theorem cO {m:Nat}:∀ {k:Nat} {l:List Nat},l∈CR m k->l.length=k
 | 0,l,h=>by
  rw [CR,Oa] at h
  rw [h]
  rfl
 | k+1,l,h=>by
  rw [CR,V0] at h
  obtain ⟨u,hu,hl⟩:=h
  obtain ⟨p,_,rfl⟩:=Pj.mp hl
  rw [Oj,cO hu]
  rfl
theorem aaC {m:Nat}:∀ {k:Nat} {l:List Nat},l∈CR m k->nxt l<=m
 | 0,l,h=>by
  rw [CR,Oa] at h
  rw [h]
  exact TF _
 | k+1,l,h=>by
  rw [CR,V0] at h
  obtain ⟨u,hu,hl⟩:=h
  obtain ⟨p,hp,rfl⟩:=Pj.mp hl
  have:=(mY.mp hp).2
  unfold nxt
  rw [List.getLast?_append]
  simp
  lia
theorem aeK:∀ m,m<=12->∀ k,k<=4->(CR m k).length<=1000:=by
 have:(O9 13).all (fun m=>(O9 5).all fun k=>decide ((CR m k).length<=1000))=true:=by decide +kernel
 intro m hm k hk
 rw [O8] at this
 have h1:=this m (QD.mpr (by lia))
 rw [O8] at h1
 exact of_decide_eq_true (h1 k (QD.mpr (by lia)))
def aaN (h:Gh)(w:W)(ws:List W):Prop:=w=.lst ws\/∃ n,w=.loc n/\h.c n=Dn (.lst ws)
theorem zbj {i:Nat}{g:MG}{b:MS}{D:cj}{σ : Sw}{h:Gh}{w:W}{α : Type}{v:α->W}{xs:List α}(hv:σ[i]?=Dn (Dn w))(e:aaN h w (xs.map v))(I:Nat->Sw->Gh->Prop)
  (go:∀ i σ h',I i σ h'->aaN h' w (xs.map v))
  (step:∀ (i:Nat) (x:α) (σ : Sw) (h:Gh) (N:Sw->Gh->Prop),(∀ σ' h',I (i+1) σ' h'->N σ' h')->xs[i]?=Dn x->I i σ h->g (v x) σ h fun σ1 h1=>b { D with nx:=N,ct:=N,bk:=D.nx } σ1 h1)
  (fin:∀ σ h,I xs.length σ h->D.nx σ h) (h0:I 0 σ h):uD (Iw (aB i)) g b D σ h:=by
 unfold uD Iw aB
 rw [hv]
 dsimp only
 have gen:∀ s:Src,wW h w=Dn s->s.ws=xs.map v->(∀ h',aaN h' w (xs.map v)->∀ P:Prop,P->s.go h' P)->(match wW h w with
   | some s=>gJ s g b D s.ws σ h
   | none=>False):=by
  intro s es ew hg
  rw [es]
  show gJ s g b D s.ws σ h
  rw [ew]
  refine FP I (fun i σ h' hi=>hg h' (go i σ h' hi)) (fun i w σ h N hN e hi=>?_) (fun σ h q=>fin σ h (by rwa [Iu] at q)) h0
  rw [ML] at e
  cases q:xs[i]? with
  | none=>rw [q] at e;cases e
  | some x=>
   rw [q] at e
   cases e
   exact step i x σ h N hN q hi
 rcases e with rfl | ⟨n,rfl,e⟩
 ·exact gen ⟨xs.map v,FN⟩ rfl rfl fun _ _ _ p=>p
 ·refine gen ⟨xs.map v,Dn (n,xs.map v)⟩ (by simp only [wW,e]) rfl fun h' e' P p=>⟨?_,p⟩
  rcases e' with e' | ⟨n',e',q⟩
  ·cases e'
  ·cases e';exact q
theorem Fx {a b:List W}{h:Gh}{Q:WK}(hz:a.length+b.length<=1000)(x:Q (.tup (a++b)) h):cJ (.tup a) (.tup b) h Q:=by
 cases a with
 | nil=>exact x
 | cons a0 a=>exact mH.mk (Jp (by simpa using hz) (by decide:1000<=Ig)) x
theorem ahc {m:Nat}{l:List Nat}{σ : Sw}{h:Gh}{Q:WK}(hm:m<=12)(hl:l.length<=4)(hn:nxt l<=m)(h5:σ[5]?=Dn (Dn (jG l)))(h6:σ[6]?=Dn (Dn (.int (nxt l:Int))))(h0:σ[0]?=Dn (Dn (.int (m:Int))))(x:Q (.lst ((grow m l).map jG)) h) :
  Ih JG [5] (Jv (aq (aB 6) (aq (aB 0) aM))) j6 (kI cJ (aB 1) (wZ (aq (aB 0) aM))) σ h Q:=by
 refine w6 (afs (aH (aP h6 (aH (aP h0 (aX ?_))))))
 refine Zv rfl (by lia) (by lia) ?_
 have hb:vq [5] σ = [Dn (jG l)]:=by
  show [(σ[5]?).getD FN]=_
  rw [h5]
  rfl
 have hz:((rng (nxt l) m).map fun x:Nat=>W.int (x:Int)).length<=Ig:=by
  rw [Iu]
  unfold rng
  rw [Uh]
  exact Jp (by lia) (by decide:12<=Ig)
 refine mH.mk hz ?_
 refine vU (fun i acc h'=>h'=h/\acc=(((rng (nxt l) m).take i).map fun p=>l++[p]).map jG) ?_ ?_ ⟨rfl,rfl⟩
 ·rintro i w acc h' N hN e ⟨rfl,rfl⟩
  rw [ML] at e
  cases q:(rng (nxt l) m)[i]? with
  | none=>rw [q] at e;cases e
  | some p=>
   rw [q] at e
   cases e
   refine ⟨[W.int (p:Int)],rfl,?_⟩
   rw [hb]
   refine Gs (Gx (gB (aP rfl (qU (aH (aP rfl (aX (gA rfl ?_))))))))
   refine Fx (a:=l.map fun x:Nat=>.int (x:Int)) (by rw [Iu];simp;lia) ?_
   refine hN _ _ ⟨rfl,?_⟩
   rw [Mw,q]
   simp [jG]
 ·rintro acc h' ⟨rfl,rfl⟩
  rw [Iu,Ov]
  exact x
def pB (c0:Mk):Prop:=∀ {h:Gh} {m k:Nat} {Q:WK} {E:Bq},m<=12->k<=4->Q (.lst ((CR m k).map jG)) h->c0 [.int (m:Int),.int (k:Int)] h Q E
theorem agN {l:List Nat}{i:Nat}(h:l.length=i+1):∃ x,l.getLast?=Dn x/\Ks (l.map fun x:Nat=>W.int (x:Int)) (i:Int)=Dn (.int (x:Int)):=by
 have hi:i<l.length:=by lia
 refine ⟨l[i],?_,?_⟩
 ·rw [List.getLast?_eq_getElem?,h,Nat.add_sub_cancel,KY hi]
 ·exact v7 (by rw [ML,KY hi];rfl)
theorem adz (n:Nat):∀ l:List Nat,Kr n (l.map fun x:Nat=>W.int (x:Int))
 | []=>by simp [Kr]
 | x::l=>by
  have:=adz n l
  rw [Nh,Kr]
  exact ⟨by simp [Lo],this⟩
theorem zbu (n:Nat)(l:List Nat):Lo n (jG l):=by
 unfold jG
 rw [Lo]
 exact adz n l
theorem yW (n:Nat):∀ ls:List (List Nat),Kr n (ls.map jG)
 | []=>by simp [Kr]
 | l::ls=>by
  have:=yW n ls
  rw [Nh,Kr]
  exact ⟨zbu n l,this⟩
theorem agZ {a m i x:Nat}(e:(rng a m)[i]?=Dn x):x=a+i/\x<m:=by
 have hx:=mY.mp (Pk e)
 unfold rng at e
 have hl:=(Ox.mp e).1
 rw [Uh] at hl
 rw [KY (by rw [Uh];exact hl),List.getElem_range'] at e
 have:=Ja e
 lia
theorem afQ:pB yV:=by
 intro h m k Q E hm hk q
 unfold yV
 refine KR rfl (σ:=[Dn (.int (m:Int)),Dn (.int (k:Int)),FN,FN,FN,FN,FN]) rfl ?_
 refine cC (gH (CJ (aH (qU (aX (gA rfl (aX (gA rfl ?_))))))))
 refine nV (pJ ?_)
 refine cC (rz (zE (aH (aP rfl (aX (Wj (by lia) (oh ?_)))))))
 refine rD (fun i σ h'=>∃ w s3 s4 s5 s6,σ = [Dn (.int (m:Int)),Dn (.int (k:Int)),Dn w,s3,s4,s5,s6]/\(w=.lst ((CR m i).map jG)\/∃ n,w=.loc n/\h.nx<=n/\n<h'.nx/\h'.c n=Dn (.lst ((CR m i).map jG)))/\h.nx<=h'.nx/\∀ n,n<h.nx->h'.c n=h.c n) ?_ ?_ ⟨_,_,_,_,_,rfl,.inl rfl,Ij _,fun _ _=>rfl⟩
 ·rintro i w0 σ h' N hN e ⟨w,s3,s4,s5,s6,rfl,hw,hx,ho⟩
  rw [ML] at e
  cases qe:(rng 0 k)[i]? with
  | none=>rw [qe] at e;cases e
  | some i'=>
   rw [qe] at e
   cases e
   obtain ⟨ei,hik⟩:=agZ qe
   rw [Nat.zero_add] at ei
   subst ei
   refine nV ?_
   refine cC (gH (JB (ws:=[]) (fun R=>rfl) rfl fun g eg og xg=>?_))
   refine nV (pJ ?_)
   refine cC ?_
   have sw:∀ g':Gh,(∀ n,n≠h'.nx->g'.c n=h'.c n)->aaN g' w ((CR m i').map jG):=by
    intro g' hg
    rcases hw with rfl | ⟨n,rfl,h1,h2,h3⟩
    ·exact .inl rfl
    ·exact .inr ⟨n,rfl,by rw [hg n (by lia)];exact h3⟩
   refine zbj (i:=2) (w:=w) (v:=jG) (xs:=CR m i') rfl (sw g og) (fun j σ g'=>∃ s5 s6,σ = [Dn (.int (m:Int)),Dn (.int (k:Int)),Dn w,Dn (.int (i':Int)),Dn (.loc h'.nx),s5,s6]/\g'.c h'.nx=Dn (.lst ((((CR m i').take j).flatMap (grow m)).map jG))/\g'.nx=h'.nx+1/\∀ n,n≠h'.nx->g'.c n=h'.c n) ?_ ?_ ?_ ⟨_,_,rfl,eg,xg,og⟩
   ·rintro j σ g' ⟨s5,s6,rfl,h1,h2,h3⟩
    exact sw g' h3
   ·rintro j l σ g' N2 hN2 el ⟨s5,s6,rfl,h1,h2,h3⟩
    have ml:=Pk el
    have ll:=cO ml
    have ln:=aaC ml
    refine nV ?_
    have fin:∀ σ,σ = [Dn (.int (m:Int)),Dn (.int (k:Int)),Dn w,Dn (.int (i':Int)),Dn (.loc h'.nx),Dn (jG l),Dn (.int (nxt l:Int))]->rJ (K3 j5 (aB 4) (aq (Ih JG [5] (Jv (aq (aB 6) (aq (aB 0) aM))) j6 (kI cJ (aB 1) (wZ (aq (aB 0) aM)))) aM)) { nx:=N2,rt:=fun w h'=>Dh true h w h' Q,bk:=fun _ _=>False,ct:=N2 } σ g':=by
     rintro σ rfl
     refine vI (Bk (aP rfl (wB h1 (aH (ahc hm (by lia) ln rfl rfl rfl (aX (abA h1 ?_ fun g2 e2 o2 x2=>?_)))))))
     ·rw [Iu,Iu,<-Oj,show grow m l=[l].flatMap (grow m) by simp,<-List.flatMap_append]
      have hp:(CR m i').take (j+1)=(CR m i').take j++[l]:=by rw [Mw,el];rfl
      rw [<-hp]
      have hr:=aeK m hm (i'+1) (by lia)
      rw [CR,<-List.take_append_drop (j+1) (CR m i'),List.flatMap_append,Oj] at hr
      lia
     ·refine hN2 _ _ ⟨_,_,rfl,?_,by rw [x2];exact h2,fun n hn=>by rw [o2 n hn];exact h3 n hn⟩
      rw [e2,Mw,el,List.flatMap_append,Tg]
      simp
    refine cC (gH (Xp (lE (gB (aP rfl (uf (Xh (OJ ?_))))))))
    refine vp (fun hp=>?_) fun hp=>?_
    ·obtain ⟨x,ex,ax⟩:=agN (l:=l) (i:=i' - 1) (by lia)
     have en:nxt l=x+1:=by unfold nxt;rw [ex]
     refine gB (gB (aP rfl (gB (aP rfl (uf (QW (JX (x:=jG l) (i:=(i':Int) - 1) (w:=.int (x:Int)) rfl ?_ (uf (Nr ?_)))))))))
     ·rw [show (i':Int) - 1=((i' - 1:Nat):Int) by lia]
      exact ax
     ·refine cT (σ':=[Dn (.int (m:Int)),Dn (.int (k:Int)),Dn w,Dn (.int (i':Int)),Dn (.loc h'.nx),Dn (jG l),Dn (.int (nxt l:Int))]) (by rw [en];rfl) (pJ (fin _ rfl))
    ·have l0:l=[]:=List.eq_nil_of_length_eq_zero (by lia)
     have en:nxt l=0:=by rw [l0];rfl
     refine uf ?_
     refine cT (σ':=[Dn (.int (m:Int)),Dn (.int (k:Int)),Dn w,Dn (.int (i':Int)),Dn (.loc h'.nx),Dn (jG l),Dn (.int (nxt l:Int))]) (by rw [en];rfl) (pJ (fin _ rfl))
   ·rintro σ g' ⟨s5,s6,rfl,h1,h2,h3⟩
    rw [Ov] at h1
    refine pJ ?_
    refine gH ?_
    refine aP rfl ?_
    refine nV (pJ ?_)
    exact hN _ _ ⟨_,_,_,_,_,rfl,.inr ⟨_,rfl,hx,by lia,h1⟩,by lia,fun n hn=>by rw [h3 n (by lia)];exact ho n hn⟩
 ·rintro σ h' ⟨w,s3,s4,s5,s6,rfl,hw,hx,ho⟩
  have hl:((rng 0 k).map fun x:Nat=>W.int (x:Int)).length=k:=by
   rw [Iu]
   unfold rng
   rw [Uh]
   lia
  rw [hl] at hw
  unfold xU
  refine pJ ?_
  refine mW ?_
  refine aP rfl ?_
  refine Nz ?_
  refine ⟨fun n c hn e=>by rw [ho n hn];exact e,?_⟩
  rcases hw with rfl | ⟨n,rfl,h1,h2,h3⟩
  ·exact .inl ⟨by rw [Lo];exact yW _ _,q⟩
  ·exact .inr ⟨n,_,rfl,h1,h3,yW _ _,q⟩
def gt (ts:List Tr)(i:Nat):Tr:=ts.getD i (0,0,0)
def NP (h:Gh)(w:W)(ts:List Tr):Prop:=w=.lst (ts.map tw)\/∃ n,w=.loc n/\n<h.nx/\h.c n=Dn (.lst (ts.map tw))
theorem NP.t {h:Gh}{w:W}{ts:List Tr}(e:NP h w ts):gQ h w ts:=by
 rcases e with e | ⟨n,e,_,q⟩
 ·exact .inl e
 ·exact .inr ⟨n,e,q⟩
def Ib (m:Nat)(ts:List Tr):Prop:=∀ t∈ts,Pl t/\CP m t
theorem bY {ts:List Tr}{i:Nat}(hi:i<ts.length):gt ts i∈ts:=by
 unfold gt
 rw [Oc,KY hi]
 exact Uy hi
theorem fQ {ts:List Tr}{i:Nat}(hi:i<ts.length):ts[i]?=Dn (gt ts i):=by
 unfold gt
 rw [Oc,KY hi]
 rfl
theorem gQ.at {h:Gh}{w:W}{ts:List Tr}(e:gQ h w ts){i:Nat}(hi:i<ts.length){Q:WK}(k:Q (tw (gt ts i)) h):CG w (.int (i:Int)) h Q:=
 JX e.src.1 (v7 (by rw [ML,fQ hi];rfl)) k
theorem sI {h:Gh}{w:W}{ts:List Tr}(e:gQ h w ts){Q:WK}(k:Q (.int (ts.length:Int)) h):JM [w] h Q:=by
 refine qb e.src.1 ?_
 rw [Iu]
 exact k
def zP (c0:Mk):Prop:=∀ {h:Gh} {w:W} {ts:List Tr} {l:List Nat} {Q:WK} {E:Bq},gQ h w ts->(∀ i∈l,i<ts.length)->l.length<=1000->Q (.lst ((l.map (gt ts)).map tw)) h->c0 [w,jG l] h Q E
theorem ahy:zP zc:=by
 intro h w ts l Q E e hl hz q
 unfold zc
 refine jJ rfl (σ:=[Dn w,Dn (jG l)]) rfl (mW (w6 (qD (aP rfl (MN (ws:=l.map fun x:Nat=>.int (x:Int)) (o:=FN) rfl ?_)))))
 refine mH.mk (by rw [Iu];exact Jp hz (by decide)) ?_
 refine vU (fun i acc h'=>h'=h/\acc=((l.take i).map (gt ts)).map tw) ?_ ?_ ⟨rfl,rfl⟩
 ·rintro i w2 acc h' N hN e2 ⟨rfl,rfl⟩
  rw [ML] at e2
  cases qe:l[i]? with
  | none=>rw [qe] at e2;cases e2
  | some p=>
   rw [qe] at e2
   cases e2
   refine ⟨[W.int (p:Int)],rfl,?_⟩
   refine Gs (gB (aP rfl (aP rfl (e.at (hl p (Pk qe)) ?_))))
   refine hN _ _ ⟨rfl,?_⟩
   rw [Mw,qe]
   simp
 ·rintro acc h' ⟨rfl,rfl⟩
  rw [Iu,Ov]
  exact Nz q
theorem VB {α β γ : Type}(f:α->List β)(g:β->Option γ):∀ xs:List α,(xs.flatMap f).findSome? g=xs.findSome? fun x=>(f x).findSome? g
 | []=>rfl
 | x::xs=>by
  rw [List.flatMap_cons,List.findSome?_append,VB f g xs,U9]
  cases (f x).findSome? g <;> rfl
def pass (P:List Nat->Bool)(l:List Nat):Option (List Nat):=if P l then Dn l else FN
theorem yp {P:List Nat->Bool}{l:List Nat}(h:P l=true):pass P l=Dn l:=by
 unfold pass
 rw [h]
 rfl
theorem yK {P:List Nat->Bool}{l:List Nat}(h:P l=false):pass P l=FN:=by
 unfold pass
 rw [h]
 rfl
theorem Rh {α β : Type}(f:α->Option β)(x:α):[x].findSome? f=f x:=by
 rw [U9]
 cases f x <;> rfl
def aap (m:Nat)(P:List Nat->Bool):Option (List Nat):=(rng 0 m).findSome? fun i=>(rng (i+1) m).findSome? fun j=>(rng (j+1) m).findSome? fun k=>(rng (k+1) m).findSome? fun x=>pass P [i,j,k,x]
def Uw (m:Nat)(P:List Nat->Bool):Option (List Nat):=(rng 0 m).findSome? fun i=>(rng (i+1) m).findSome? fun j=>(rng (j+1) m).findSome? fun k=>pass P [i,j,k]
theorem J4 {γ : Type}(m:Nat)(l:List Nat)(g:List Nat->Option γ):(grow m l).findSome? g=(rng (nxt l) m).findSome? fun p=>g (l++[p]):=by
 unfold grow
 rw [List.findSome?_map]
 rfl
theorem Lq (m:Nat)(P:List Nat->Bool):(CR m 4).findSome? (pass P)=aap m P:=by
 simp only [CR,VB,J4,Rh]
 rfl
theorem Jd (m:Nat)(P:List Nat->Bool):(CR m 3).findSome? (pass P)=Uw m P:=by
 simp only [CR,VB,J4,Rh]
 rfl
theorem dz {m:Nat}:∀ {k:Nat} {l:List Nat},l∈CR m k->∀ i∈l,i<m
 | 0,l,h=>by
  rw [CR,Oa] at h
  subst h
  intro i hi
  cases hi
 | k+1,l,h=>by
  rw [CR,V0] at h
  obtain ⟨u,hu,hl⟩:=h
  obtain ⟨p,hp,rfl⟩:=Pj.mp hl
  intro i hi
  rcases Qi.mp hi with hi | hi
  ·exact dz hu i hi
  ·rw [Oa.mp hi]
   exact (mY.mp hp).2
theorem oY {m k a b:Nat}{l r:List Nat}:l++[a,b]++r∈CR m k->a<b:=by
 intro h
 induction k generalizing r with
 | zero=>
  rw [CR,Oa] at h
  simp at h
 | succ k ih=>
  rw [CR,V0] at h
  obtain ⟨u,hu,hl⟩:=h
  obtain ⟨p,hp,e⟩:=Pj.mp hl
  rcases List.eq_nil_or_concat r with rfl | ⟨r',z,rfl⟩
  ·rw [Uv,show l++[a,b]=l++[a]++[b] by simp] at e
   obtain ⟨e1,e2⟩:=List.append_inj' e rfl
   cases e2
   subst e1
   have:=(mY.mp hp).1
   unfold nxt at this
   rw [List.getLast?_append] at this
   simp at this
   lia
  ·rw [List.concat_eq_append,<-List.append_assoc] at e
   obtain ⟨e1,e2⟩:=List.append_inj' e rfl
   subst e1
   exact ih hu
def Gz (ts:List Tr):List Nat->Bool
 | [a,b,c,d]=>rQ (gt ts a) (gt ts b) (gt ts c) (gt ts d)
 | _=>false
def FF (ts:List Tr):Option (List Nat):=aap ts.length (Gz ts)
def BJ (c0:Mk):Prop:=∀ {h:Gh} {w:W} {ts:List Tr} {m:Nat} {Q:WK} {E:Bq},m<=4000->gQ h w ts->ts.length<=12->Ib m ts->(FF ts=FN->Q .non h)->(∀ l,FF ts=Dn l->Q (jG l) h)->c0 [w] h Q E
theorem ahi {ri pi fr:Mk}(hri:pB ri)(hpi:zP pi)(hfr:Pu fr):BJ (nA ri pi fr):=by
 intro h w ts m Q E hm e hl hs k0 k1
 unfold nA
 refine jJ rfl (σ:=[Dn w,FN]) rfl (cC (rz (qD (bF (aH (xr (aH (aP rfl (aX (sI e ?_))))))))))
 refine aH (uf (aX (hri (m:=ts.length) (k:=4) hl (by decide) (MN rfl (oh ?_)))))
 have hff:=Lq ts.length (Gz ts)
 refine Xa (v:=jG) (pass (Gz ts)) (fun l=>Q (jG l) h) (fun σ h'=>∃ s1,σ = [Dn w,s1]/\h'=h) (CR ts.length 4) ?_ ?_ ?_ ⟨FN,rfl,rfl⟩
 ·rintro l ml σ h' N ⟨s1,rfl,rfl⟩ hN hR
  have ll:=cO ml
  have li:=dz ml
  match l,ll with
  | [a,b,c,d],_=>
   have ga:∀ i∈[a,b,c,d],CP m (gt ts i):=fun i hi=>(hs _ (bY (li i hi))).2
   refine cT (σ':=[Dn w,Dn (jG [a,b,c,d])]) rfl ?_
   rfl'
   refine hpi e li (by simp) ?_
   rfl'
   refine hfr (p:=gt ts a) (q:=gt ts b) (r:=gt ts c) (s:=gt ts d) (m:=m) hm (ga a (by simp)) (ga b (by simp)) (ga c (by simp)) (ga d (by simp)) ?_
   cases hb:rQ (gt ts a) (gt ts b) (gt ts c) (gt ts d) with
   | true=>
    rfl'
    exact hR [a,b,c,d] (yp hb)
   | false=>
    rfl'
    exact hN (yK hb) _ _ ⟨_,rfl,rfl⟩
 ·rintro hn σ h' ⟨s1,rfl,rfl⟩
  unfold oF
  rfl'
  exact k0 (hff.symm.trans hn)
 ·intro l hy
  exact k1 l (hff.symm.trans hy)
def Ie (ts:List Tr):List Tr:=ts.foldl (fun acc t=>if t∈acc then acc else acc++[t]) []
theorem zp (ts:List Tr)(t:Tr):Ie (ts++[t])=if t∈Ie ts then Ie ts else Ie ts++[t]:=by
 unfold Ie
 rw [List.foldl_append]
 rfl
theorem j8 (ts:List Tr):(Ie ts).Nodup/\(∀ t,t∈Ie ts↔t∈ts)/\(Ie ts).length<=ts.length:=by
 have:∀ n,(Ie (ts.take n)).Nodup/\(∀ t,t∈Ie (ts.take n)↔t∈ts.take n)/\(Ie (ts.take n)).length<=(ts.take n).length:=by
  intro n
  induction n with
  | zero=>exact ⟨List.nodup_nil,fun t=>Iff.rfl,Ij _⟩
  | succ n ih=>
   obtain ⟨h1,h2,h3⟩:=ih
   rw [Mw]
   cases e:ts[n]? with
   | none=>
    rw [Option.toList_none,Uv]
    exact ⟨h1,h2,h3⟩
   | some t=>
    rw [Option.toList_some,zp]
    by_cases hm:t∈Ie (ts.take n)
    ·rw [if_pos hm]
     refine ⟨h1,fun u=>?_,by rw [Oj];lia⟩
     rw [h2,Qi,Oa]
     refine ⟨.inl,fun h=>h.elim id fun e=>?_⟩
     rw [e,<-h2]
     exact hm
    ·rw [if_neg hm]
     refine ⟨?_,fun u=>?_,by rw [Oj,Oj];simp only [List.length_singleton];lia⟩
     ·rw [List.nodup_append]
      refine ⟨h1,by simp,fun a ha b hb=>?_⟩
      rw [Oa] at hb
      subst hb
      intro e
      subst e
      exact hm ha
     ·rw [Qi,Qi,h2]
 have:=this ts.length
 rwa [Ov] at this
theorem abH {y:W}{us:List Tr}{t:Tr}{h:Gh}{Q:WK}(e:fG h y=Dn (us.map tw))(k:Q (.bl (!decide (t∈us))) h):Qo (tw t) y h Q:=by
 have ea:(us.map tw).all (Ed 20)=true:=by
  rw [O8]
  intro w hw
  obtain ⟨u,_,rfl⟩:=Pj.mp hw
  exact DX 19 u
 have ec:(us.map tw).any (fun u=>Ce u (tw t))=decide (t∈us):=by
  rw [List.any_map]
  by_cases hm:t∈us
  ·rw [decide_eq_true hm,List.any_eq_true]
   exact ⟨t,hm,by show Ce (tw t) (tw t)=true;rw [Dm];exact decide_eq_true rfl⟩
  ·rw [decide_eq_false hm,List.any_eq_false]
   intro u hu
   show ¬ Ce (tw u) (tw t)=true
   rw [Dm,decide_eq_true_eq]
   intro e
   subst e
   exact hm hu
 show (match fG h y with
  | some us=>JZ (Ed 20 (tw t)&&us.all (Ed 20)) (Q (.bl (!(us.any fun u=>Ce u (tw t)))) h) False
  | none=>False)
 rw [e]
 dsimp only
 rw [DX 19,ea,ec]
 exact k
theorem RW (n:Nat):∀ ts:List Tr,Kr n (ts.map tw)
 | []=>by simp [Kr]
 | t::ts=>by
  have:=RW n ts
  rw [Nh,Kr]
  exact ⟨by unfold tw;simp [Lo,Kr],this⟩
def UnX (c0:Mk):Prop:=∀ {h:Gh} {w:W} {ts:List Tr} {Q:WK} {E:Bq},NP h w ts->ts.length<=100->Q (.lst ((Ie ts).map tw)) h->c0 [w] h Q E
theorem GP:UnX jy:=by
 intro h w ts Q E e hl q
 unfold jy
 refine KR rfl (σ:=[Dn w,FN,FN]) rfl ?_
 refine cC (gH (JB (ws:=[]) (fun R=>rfl) rfl fun g eg og xg=>?_))
 refine cT (σ':=[Dn w,Dn (.loc h.nx),FN]) rfl (pJ (cC ?_))
 have sw:∀ g':Gh,(∀ n,n≠h.nx->g'.c n=h.c n)->gQ g' w ts:=by
  intro g' hg
  rcases e with e | ⟨n,e,hn,ec⟩
  ·exact .inl e
  ·exact .inr ⟨n,e,by rw [hg n (by lia)];exact ec⟩
 refine zaZ (i:=0) (w:=w) (ts:=ts) rfl (sw g og) (fun i σ h'=>∃ s2,σ = [Dn w,Dn (.loc h.nx),s2]/\h'.c h.nx=Dn (.lst ((Ie (ts.take i)).map tw))/\h'.nx=h.nx+1/\∀ n,n≠h.nx->h'.c n=h.c n) ?_ ?_ ?_ ⟨FN,rfl,eg,xg,og⟩
 ·rintro i σ h' ⟨s2,rfl,h1,h2,h3⟩
  exact sw h' h3
 ·rintro i t σ h' N hN et ⟨s2,rfl,h1,h2,h3⟩
  have hu:Ie (ts.take (i+1))=if t∈Ie (ts.take i) then Ie (ts.take i) else Ie (ts.take i)++[t]:=by
   rw [Mw,et,Option.toList_some,zp]
  have hz:=(j8 (ts.take i)).2.2
  have hz2:(ts.take i).length<=ts.length:=by rw [Uz];lia
  refine cT (σ':=[Dn w,Dn (.loc h.nx),Dn (tw t)]) rfl ?_
  rfl'
  refine abH (afR h1) ?_
  by_cases hm:t∈Ie (ts.take i)
  ·rw [decide_eq_true hm]
   rw [if_pos hm] at hu
   rfl'
   exact hN _ _ ⟨_,rfl,by rw [hu];exact h1,h2,h3⟩
  ·rw [decide_eq_false hm]
   rw [if_neg hm] at hu
   rfl'
   refine Bk (aP rfl (wB h1 (aH (aP rfl (aX (YT h1 (by rw [Iu];lia) fun g2 e2 o2 x2=>?_))))))
   rfl'
   exact hN _ _ ⟨_,rfl,by rw [hu,e2,Tg];rfl,by rw [x2];exact h2,fun n hn=>by rw [o2 n hn];exact h3 n hn⟩
 ·rintro σ h' ⟨s2,rfl,h1,h2,h3⟩
  rw [Ov] at h1
  unfold lX
  refine pJ ?_
  refine mW ?_
  refine aP rfl ?_
  refine Nz ?_
  exact ⟨fun n c hn ec=>by rw [h3 n (by lia)];exact ec,.inr ⟨h.nx,_,rfl,Ij _,h1,RW _ _,q⟩⟩
noncomputable def Bw (ts:List Tr):List Nat->Bool
 | [a,b,c]=>mD [gt ts a,gt ts b,gt ts c]
 | _=>false
noncomputable def LL (ts:List Tr):Option (List Nat):=Uw ts.length (Bw ts)
theorem EY (p q r:Tr):mD [p,q,r]=decide (dt3 (crs p q) r=0):=by
 by_cases h:dt3 (crs p q) r=0
 ·rw [decide_eq_true h]
  refine uU (tH fun k j i kj ji a b c ea eb ec=>?_)
  have hi:=(Ox.mp ec).1
  simp only [S6,List.length_nil] at hi
  have hc:k=0/\j=1/\i=2:=by lia
  obtain ⟨rfl,rfl,rfl⟩:=hc
  simp at ea eb ec
  subst ea eb ec
  rw [wH,wH]
  exact h
 ·rw [decide_eq_false h]
  exact Eb fun a=>h (a r (by simp) p (by simp) q (by simp))
def L3X (c0:Mk):Prop:=∀ {h:Gh} {w:W} {us:List Tr} {m:Nat} {Q:WK} {E:Bq},m<=3900->gQ h w us->us.length<=12->Ib m us->us.Nodup->(LL us=FN->Q .non h)->(∀ l t,LL us=Dn l->Q (tw t) h)->c0 [w] h Q E
theorem afz {ol jo ri pi:Mk}(hol:lA ol)(hjo:JoinOk jo)(hri:pB ri)(hpi:zP pi):L3X (dF ol jo ri pi):=by
 intro h w us m Q E hm e hl hs nd k0 k1
 unfold dF
 refine jJ rfl (σ:=[Dn w,FN,FN]) rfl (cC (rz (qD (bF (aH (xr (aH (aP rfl (aX (sI e ?_))))))))))
 refine aH (uf (aX (hri (m:=us.length) (k:=3) hl (by decide) (MN rfl (oh ?_)))))
 have hff:=Jd us.length (Bw us)
 refine Xa (v:=jG) (pass (Bw us)) (fun l=>∀ t,Q (tw t) h) (fun σ h'=>∃ s1 s2,σ = [Dn w,s1,s2]/\h'=h) (CR us.length 3) ?_ ?_ ?_ ⟨FN,FN,rfl,rfl⟩
 ·rintro l ml σ h' N ⟨s1,s2,rfl,rfl⟩ hN hR
  have ll:=cO ml
  have li:=dz ml
  match l,ll with
  | [a,b,c],_=>
   have ga:∀ i∈[a,b,c],Pl (gt us i)/\CP m (gt us i):=fun i hi=>hs _ (bY (li i hi))
   have hab:a<b:=oY (l:=[]) (r:=[c]) ml
   have la:=li a (by simp)
   have lb:=li b (by simp)
   have hne:gt us a≠gt us b:=by
    intro e
    have e1:=fQ la
    have e2:=fQ lb
    rw [e,<-e2] at e1
    exact absurd ((List.getElem?_inj la nd).mp e1) (by lia)
   refine cT (σ':=[Dn w,Dn (jG [a,b,c]),s2]) rfl ?_
   rfl'
   refine hpi e li (by simp) ?_
   rfl'
   refine hol (ts:=[gt us a,gt us b,gt us c]) (M:=m) (.inl rfl) (by simp) (by lia) ?_ ?_
   ·intro t ht
    simp only [K9,NT,or_false] at ht
    rcases ht with rfl | rfl | rfl
    ·exact ga a (by simp)
    ·exact ga b (by simp)
    ·exact ga c (by simp)
   cases hb:mD [gt us a,gt us b,gt us c] with
   | true=>
    rfl'
    refine hjo (p:=gt us a) (q:=gt us b) hm (ga a (by simp)).2 (ga b (by simp)).2 (ga a (by simp)).1 (ga b (by simp)).1 hne fun t _ _ _=>?_
    rfl'
    exact hR [a,b,c] (yp hb) t
   | false=>
    rfl'
    exact hN (yK hb) _ _ ⟨_,_,rfl,rfl⟩
 ·rintro hn σ h' ⟨s1,s2,rfl,rfl⟩
  unfold fV
  rfl'
  exact k0 (hff.symm.trans hn)
 ·intro l hy t
  exact k1 l t (hff.symm.trans hy)
theorem HS {i j:Int}{h:Gh}{Q:WK}(c:ach i j)(x:Q (.int (i^j.toNat)) h):QC (.int i) (.int j) h Q:=⟨c,x⟩
noncomputable def kd (ts:List Tr):Str:=if (FF ts).isSome then "four" else if (LL (Ie ts)).isSome then "line" else "few"
def Fz (c0:Mk):Prop:=∀ {h:Gh} {w:W} {ts:List Tr} {Q:WK} {E:Bq},gQ h w ts->(1<=ts.length->ts.length<=12->Q .non h)->(¬ (1<=ts.length/\ts.length<=12)->E ⟨"NoPicture",[]⟩ h)->c0 [w] h Q E
theorem Eh:Fz jc:=by
 intro h w ts Q E e k k1
 unfold jc
 refine jJ rfl (σ:=[Dn w]) rfl ?_
 rfl'
 refine sI e ?_
 rfl'
 refine vp (fun h1=>?_) fun h1=>?_
 ·rfl'
  exact k1 (by lia)
 ·rfl'
  refine sI e ?_
  rfl'
  refine vp (fun h2=>?_) fun h2=>?_
  ·rfl'
   exact k1 (by lia)
  ·rfl'
   exact k (by lia) (by lia)
theorem gZ {h:Gh}{Q:WK}(k:Q (.bl false) h):rR .non .non h Q:=k
theorem jZ {h:Gh}{ws:List W}{Q:WK}(k:Q (.bl true) h):rR (.tup ws) .non h Q:=k
def Yn (c0:Mk):Prop:=∀ {h:Gh} {w:W} {ts:List Tr} {m:Nat} {Q:WK} {E:Bq},m<=3900->NP h w ts->Ib m ts->(1<=ts.length->ts.length<=12->Q (.str (kd ts)) h)->(¬ (1<=ts.length/\ts.length<=12)->E ⟨"NoPicture",[]⟩ h)->c0 [w] h Q E
theorem aeL {ch ff un l3:Mk}(hch:Fz ch)(hff:BJ ff)(hun:UnX un)(hl3:L3X l3):Yn (wF ch ff un l3):=by
 intro h w ts m Q E hm e hs k k1
 obtain ⟨u1,u2,u3⟩:=j8 ts
 unfold wF
 refine jJ rfl (σ:=[Dn w]) rfl ?_
 rfl'
 refine hch e.t (fun a b=>?_) k1
 rfl'
 have k:=k a b
 refine hff (m:=m) (by lia) e.t b hs (fun e0=>?_) fun l e0=>?_
 ·rfl'
  refine gZ ?_
  rfl'
  unfold vN
  rfl'
  refine hun e (by lia) ?_
  rfl'
  refine hl3 (m:=m) hm (.inl rfl) (by lia) (fun t ht=>hs t ((u2 t).mp ht)) u1 (fun e1=>?_) fun l t e1=>?_
  ·rfl'
   refine gZ ?_
   rfl'
   unfold uV
   rfl'
   unfold kd at k
   rw [e0,e1] at k
   exact k
  ·rfl'
   refine jZ ?_
   rfl'
   unfold kd at k
   rw [e0,e1] at k
   exact k
 ·rfl'
  refine jZ ?_
  rfl'
  unfold kd at k
  rw [e0] at k
  exact k
def lmK (Q:WK):List W->Gh->Prop:=fun ws h1=>mH ws.length (Q (.loc h1.nx) (h1.new (.lst ws)))
theorem agd {ma:MA}{σ : Sw}{h:Gh}{Q:WK}(x:ma σ h (lmK Q)):wX ma σ h Q:=x
theorem abE {ws:List W}{h:Gh}{Q:WK}(hz:QB ws.length 1000=true)(x:∀ g:Gh,g.c h.nx=Dn (.lst ws)->(∀ n,n≠h.nx->g.c n=h.c n)->g.nx=h.nx+1->Q (.loc h.nx) g):lmK Q ws h:=gA hz (x _ (DW _ _) (fun _ e=>xQ e) rfl)
theorem adw:(20:Int)<10^(9:Int).toNat/\Sm 31 ((10:Int)^(9:Int).toNat):=by
 rw [show (10:Int)^(9:Int).toNat=1000000000 by decide]
 exact ⟨by decide,by unfold Sm;decide +kernel⟩
theorem adh {n:Int}(h0:0<=n)(h1:n<=30):Sm 8000 n:=Sm.le (i:=30) (.mono (m:=64) (.lit rfl) (by decide)) (by lia)
theorem adq {d:Int}(h0:0<=d)(h1:d<41):Sm 6 (d - 20):=Sm.le (i:=20) (by unfold Sm;decide +kernel) (by lia)
theorem ahb {a b c:Int}{h:Gh}{Q:WK}(k:Q (.bl (decide ((a,b,c)=((0,0,0):Tr)))) h):Ke (.lst [.int a,.int b,.int c]) (.lst [.int 0,.int 0,.int 0]) h Q:=by
 show Q (.bl (Ce (.lst [.int a,.int b,.int c]) (.lst [.int 0,.int 0,.int 0]))) h
 rw [ZV]
 have e:decide (a=0/\b=0/\c=0)=decide ((a,b,c)=((0,0,0):Tr)):=decide_eq_decide.mpr (by simp)
 rw [e]
 exact k
def abG (c0:Mk):Prop:=∀ {h:Gh} {n m:Nat} {p q:Tr} {Q:WK} {E:Bq},m<=1000->Rs h n->Pl p->CP m p->CP m q->(∀ (t:Tr) (h':Gh),Pl t->CP (m+7) t->Rs h' n->MP n h h'->Q (tw t) h')->c0 [tw p,tw q,.loc n] h Q E
theorem afZ {dg pl:Mk}(hdg:rE dg)(hpl:xH pl):abG (uZ dg pl):=by
 intro h n m p q Q E hm hr pp sp sq k
 unfold uZ
 rfl'
 refine hdg (n:=n) (many:=41) hr (by decide) (by unfold Sm;decide +kernel) fun d1 h1 d10 d11 r1 o1=>?_
 rfl'
 refine hdg (n:=n) (many:=41) r1 (by decide) (by unfold Sm;decide +kernel) fun d2 h2 d20 d21 r2 o2=>?_
 have s1:=adq d10 d11
 have s2:=adq d20 d21
 have kp:=k p h2 pp (sp.mono (by lia)) r2 (o1.trans o2)
 obtain ⟨x1,x2,x3⟩:=p
 obtain ⟨y1,y2,y3⟩:=q
 obtain ⟨a1,a2,a3⟩:=sp
 obtain ⟨b1,b2,b3⟩:=sq
 simp only at a1 a2 a3 b1 b2 b3
 have sv:CP (m+7) ((d1 - 20)*x1+(d2 - 20)*y1,(d1 - 20)*x2+(d2 - 20)*y2,(d1 - 20)*x3+(d2 - 20)*y3):=⟨((s1.mul a1).add (s2.mul b1)).mono (by lia),((s1.mul a2).add (s2.mul b2)).mono (by lia),((s1.mul a3).add (s2.mul b3)).mono (by lia)⟩
 rfl'
 refine ahb ?_
 rfl'
 refine vp (fun _=>?_) fun nz=>?_
 ·rfl'
  exact kp
 ·rfl'
  unfold wK
  rfl'
  exact hpl.tr (u:=((d1 - 20)*x1+(d2 - 20)*y1,(d1 - 20)*x2+(d2 - 20)*y2,(d1 - 20)*x3+(d2 - 20)*y3)) (m:=m+7) (.inr rfl) nz sv (by lia) fun t pt _ st=>k t h2 pt st r2 (o1.trans o2)
theorem gQ.ati {h:Gh}{w:W}{ts:List Tr}(e:gQ h w ts){d:Int}(h0:0<=d)(h1:d<(ts.length:Int)){Q:WK}(k:∀ t,t∈ts->Q (tw t) h):CG w (.int d) h Q:=by
 have hi:d.toNat<ts.length:=by lia
 have:=e.at hi (k _ (bY hi))
 rwa [show ((d.toNat:Nat):Int)=d by lia] at this
def Z2 (c0:Mk):Prop:=∀ {h:Gh} {n r m:Nat} {ts:List Tr} {st:Int} {Q:WK} {E:Bq},31<=m->m<=900->h.c n=Dn (.lst (ts.map tw))->n≠r->Rs h r->Ib m ts->1<=ts.length->ts.length<=12->(∀ (t:Tr) (h':Gh),Pl t->CP (m+7) t->Rs h' r->MP r h h'->Q (tw t) h')->c0 [.loc n,.int st,.loc r] h Q E
theorem w_next {dg sp mx:Mk}(hdg:rE dg)(hsp:GR sp)(hmx:abG mx):Z2 (Ag dg sp mx):=by
 intro h n r m ts st Q E hm0 hm ec hne hr hs l1 l2 k
 obtain ⟨f0,f1⟩:=adw
 unfold Ag
 rfl'
 refine hdg (n:=r) (many:=6) hr (by decide) (by unfold Sm;decide +kernel) fun way h1 w0 w1 r1 o1=>?_
 have ec1:gQ h1 (.loc n) ts:=.inr ⟨n,rfl,by rw [o1.2 _ hne];exact ec⟩
 rfl'
 refine sI ec1 ?_
 rfl'
 refine hdg (n:=r) (many:=(ts.length:Int)) r1 (by lia) (adh (by lia) (by lia)) fun d1 h2 d10 d11 r2 o2=>?_
 have o2:=o1.trans o2
 have ec2:gQ h2 (.loc n) ts:=.inr ⟨n,rfl,by rw [o2.2 _ hne];exact ec⟩
 refine ec2.ati d10 d11 fun one m1=>?_
 rfl'
 refine sI ec2 ?_
 rfl'
 refine hdg (n:=r) (many:=(ts.length:Int)) r2 (by lia) (adh (by lia) (by lia)) fun d2 h3 d20 d21 r3 o3=>?_
 have o3:=o2.trans o3
 have ec3:gQ h3 (.loc n) ts:=.inr ⟨n,rfl,by rw [o3.2 _ hne];exact ec⟩
 refine ec3.ati d20 d21 fun oth m2=>?_
 have k3:∀ (t:Tr) (h':Gh),Pl t->CP (m+7) t->Rs h' r->MP r h3 h'->Q (tw t) h':=fun t h' a b c d=>k t h' a b c (o3.trans d)
 have mix:∀ {p q:Tr} {E':Bq},p∈ts->q∈ts->mx [tw p,tw q,.loc r] h3 Q E':=fun hp hq=>hmx (m:=m) (by lia) r3 (hs _ hp).1 (hs _ hp).2 (hs _ hq).2 k3
 have t4:rY dg sp mx E { nx:=fun _ h'=>Q .non h',rt:=Q } [Dn (.loc n),Dn (.int st),Dn (.loc r),Dn (.int way),Dn (tw one),Dn (tw oth)] h3:=by
  have t5:rK dg sp mx E { nx:=fun _ h'=>Q .non h',rt:=Q } [Dn (.loc n),Dn (.int st),Dn (.loc r),Dn (.int way),Dn (tw one),Dn (tw oth)] h3:=by
   unfold rK
   rfl'
   refine vp (fun _=>?_) fun _=>?_
   ·rfl'
    exact mix m1 m2
   ·rfl'
    unfold xR
    rfl'
    refine HS ⟨by decide,by decide,by decide⟩ ?_
    rfl'
    exact hsp (n:=r) r3 f0 f1 (by decide) fun t h4 pt st r4 o4=>k3 t h4 pt (st.mono (by lia)) r4 o4
  have ko:=k3 one h3 (hs _ m1).1 ((hs _ m1).2.mono (by lia)) r3 (.refl _ _)
  unfold rY
  rfl'
  refine vp (fun _=>?_) fun _=>?_
  ·rfl'
   refine sI ec3 ?_
   rfl'
   refine vp (fun _=>?_) fun _=>?_
   ·rfl'
    exact ko
   ·rfl'
    refine vp (fun _=>?_) fun _=>?_
    ·rfl'
     exact ko
    ·rfl'
     exact t5
  ·rfl'
   refine vp (fun _=>?_) fun _=>?_
   ·rfl'
    exact ko
   ·rfl'
    exact t5
 rfl'
 refine vp (fun _=>?_) fun _=>?_
 ·rfl'
  refine sI ec3 ?_
  rfl'
  refine vp (fun hl=>?_) fun _=>?_
  ·rfl'
   refine vp (fun _=>?_) fun _=>?_
   ·rfl'
    refine ec3.at (i:=0) (by lia) ?_
    rfl'
    refine ec3.at (i:=1) (by lia) ?_
    rfl'
    exact mix (bY (by lia)) (bY (by lia))
   ·rfl'
    exact t4
  ·rfl'
   exact t4
 ·rfl'
  exact t4
def VL (c0:Mk):Prop:=∀ {h:Gh} {r:Nat} {Q:WK} {E:Bq},Rs h r->r<h.nx->(∀ (n:Nat) (ts:List Tr) (h':Gh),h'.c n=Dn (.lst (ts.map tw))->n<h'.nx->1<=ts.length->ts.length<=12->Ib 120 ts->Q (.loc n) h')->c0 [.loc r,.int 12] h Q E
theorem afd {dg sp ne:Mk}(hdg:rE dg)(hsp:GR sp)(hne:Z2 ne):VL (oU dg sp ne):=by
 intro h r Q E hr hrn k
 obtain ⟨f0,f1⟩:=adw
 unfold oU
 rfl'
 refine hdg (n:=r) (many:=12) hr (by decide) (by unfold Sm;decide +kernel) fun many h1 d0 d1 r1 o1=>?_
 obtain ⟨M,rfl⟩:=Int.eq_ofNat_of_zero_le d0
 rfl'
 refine hdg (n:=r) (many:=4) r1 (by decide) (by unfold Sm;decide +kernel) fun st h2 _ _ r2 o2=>?_
 have o2:=o1.trans o2
 refine cT (σ':=[Dn (.loc r),Dn (.int 12),Dn (.int (M:Int)),Dn (.int st),FN,FN]) rfl (pJ (cC (gH (agd ?_))))
 rfl'
 refine HS ⟨by decide,by decide,by decide⟩ ?_
 rfl'
 refine hsp (n:=r) r2 f0 f1 (by decide) fun t h3 pt sth r3 o3=>?_
 have o3:=o2.trans o3
 have x3:h3.nx=h.nx:=o3.1
 rfl'
 refine abE rfl fun g eg og xg=>?_
 refine cT (σ':=[Dn (.loc r),Dn (.int 12),Dn (.int (M:Int)),Dn (.int st),Dn (.loc h3.nx),FN]) rfl (pJ (cC (rz (zE (aH (aP rfl (aX (Wj (by lia) (oh ?_)))))))))
 have rne:h3.nx≠r:=by lia
 refine rD (fun i σ h'=>∃ (ts:List Tr) (s5:Option W),σ = [Dn (.loc r),Dn (.int 12),Dn (.int (M:Int)),Dn (.int st),Dn (.loc h3.nx),s5]/\h'.c h3.nx=Dn (.lst (ts.map tw))/\ts.length=i+1/\Ib (31+7*i) ts/\Rs h' r/\h'.nx=g.nx) ?_ ?_ ⟨[t],FN,rfl,eg,rfl,fun u hu=>?_,?_,rfl⟩
 ·rintro i w σ h' N hN e ⟨ts,s5,rfl,e1,e2,e3,e4,e5⟩
  have hi:i<M:=by
   have:=(Ox.mp e).1
   rw [Iu] at this
   unfold rng at this
   rw [Uh] at this
   lia
  refine cT (σ':=[Dn (.loc r),Dn (.int 12),Dn (.int (M:Int)),Dn (.int st),Dn (.loc h3.nx),Dn w]) rfl ?_
  refine vI (Bk (aP rfl (wB e1 ?_)))
  rfl'
  refine hne (m:=31+7*i) (by lia) (by lia) e1 rne e4 e3 (by lia) (by lia) fun u h4 pu su r4 o4=>?_
  have e1':h4.c h3.nx=Dn (.lst (ts.map tw)):=by rw [o4.2 _ rne];exact e1
  rfl'
  refine YT e1' (by rw [Iu];lia) fun g2 e6 o6 x6=>?_
  refine pJ (hN _ _ ⟨ts++[u],_,rfl,by rw [e6,Tg];rfl,by rw [Oj,e2];rfl,?_,?_,by rw [x6,o4.1];exact e5⟩)
  ·intro v hv
   rcases Qi.mp hv with hv | hv
   ·exact ⟨(e3 v hv).1,(e3 v hv).2.mono (by lia)⟩
   ·rw [Oa.mp hv]
    exact ⟨pu,su.mono (by lia)⟩
  ·unfold Rs
   rw [o6 _ (N8 rne)]
   exact r4
 ·rintro σ h' ⟨ts,s5,rfl,e1,e2,e3,e4,e5⟩
  have hl:((rng 0 M).map fun x:Nat=>W.int (x:Int)).length=M:=by
   rw [Iu]
   unfold rng
   rw [Uh]
   lia
  rw [hl] at e2 e3
  unfold qF
  refine pJ ?_
  refine mW ?_
  refine aP rfl ?_
  refine Nz ?_
  exact k _ ts h' e1 (by rw [e5,xg];lia) (by lia) (by lia) fun v hv=>⟨(e3 v hv).1,(e3 v hv).2.mono (by lia)⟩
 ·rw [Oa.mp hu]
  exact ⟨pt,sth⟩
 ·unfold Rs
  rw [og _ (N8 rne)]
  exact r3
theorem FJ {r:MM}{mo:ME}{ma:MA}{σ : Sw}{h:Gh}{Q:WK}(x:mo σ h fun x h1=>xX h1 x (ma σ h1 fun xs h2=>r x xs h2 Q)):abb r mo ma σ h Q:=x
theorem aaP {w:W}{us:List W}{h:Gh}{P:Prop}(e:fG h w=Dn us)(x:P):xX h w P:=by
 unfold xX
 rw [e]
 exact x
def co (i:Int)(t:Tr):Int:=if i=0 then t.1 else if i=1 then t.2.1 else t.2.2
def cn (l:List Tr)(t:Tr):Nat:=l.countP fun u=>decide (u=t)
def pW (p q r s:Tr):Prop:=(p=q/\q=r)\/(p=q/\q=s)\/(p=r/\r=s)\/(q=r/\r=s)
instance (p q r s:Tr):Decidable (pW p q r s):=inferInstanceAs (Decidable (_\/_))
theorem Qh {x:W}{ts:List Tr}{t:Tr}{h:Gh}{Q:WK}(e:fG h x=Dn (ts.map tw))(k:Q (.int (cn ts t:Int)) h):BP x [tw t] h Q:=by
 have ea:(ts.map tw).all (Ed 20)=true:=by
  rw [O8]
  intro w hw
  obtain ⟨u,_,rfl⟩:=Pj.mp hw
  exact DX 19 u
 have ec:(ts.map tw).countP (fun u=>Ce u (tw t))=cn ts t:=by
  unfold cn
  rw [List.countP_map]
  congr 1
  funext u
  exact Dm u t
 show (match fG h x with
  | some us=>JZ (Ed 20 (tw t)&&us.all (Ed 20)) (Q (.int (us.countP fun u=>Ce u (tw t))) h) False
  | none=>False)
 rw [e]
 dsimp only
 rw [DX 19,ea,ec]
 exact k
theorem cn4 (p q r s x:Tr):(cn [p,q,r,s] x:Int)=(if p=x then 1 else 0)+(if q=x then 1 else 0)+(if r=x then 1 else 0)+(if s=x then 1 else 0):=by
 simp only [cn,List.countP_cons,List.countP_nil,decide_eq_true_eq]
 by_cases a:p=x <;> by_cases b:q=x <;> by_cases c:r=x <;> by_cases d:s=x <;> simp [a,b,c,d]
theorem abB {p q r s:Tr}{M:Int}(hm:M∈[(cn [p,q,r,s] p:Int),(cn [p,q,r,s] q:Int),(cn [p,q,r,s] r:Int),(cn [p,q,r,s] s:Int)])(hle:∀ a,a∈[(cn [p,q,r,s] p:Int),(cn [p,q,r,s] q:Int),(cn [p,q,r,s] r:Int),(cn [p,q,r,s] s:Int)]->a<=M):decide (M>2)=decide (pW p q r s):=by
 refine decide_eq_decide.mpr ⟨fun g=>?_,fun g=>?_⟩
 ·have:∃ x,(cn [p,q,r,s] x:Int)=M:=by
   simp only [K9,NT,or_false] at hm
   rcases hm with h | h | h | h <;> exact ⟨_,h.symm⟩
  obtain ⟨x,hx⟩:=this
  rw [cn4] at hx
  by_cases a:p=x <;> by_cases b:q=x <;> by_cases c:r=x <;> by_cases d:s=x <;> first | exact .inl ⟨a.trans b.symm,b.trans c.symm⟩ | exact .inr (.inl ⟨a.trans b.symm,b.trans d.symm⟩) | exact .inr (.inr (.inl ⟨a.trans c.symm,c.trans d.symm⟩)) | exact .inr (.inr (.inr ⟨b.trans c.symm,c.trans d.symm⟩)) | (simp [a,b,c,d] at hx;lia)
 ·have h1:=hle (cn [p,q,r,s] p) (by simp)
  have h2:=hle (cn [p,q,r,s] q) (by simp)
  rw [cn4] at h1 h2
  rcases g with ⟨rfl,rfl⟩ | ⟨rfl,rfl⟩ | ⟨rfl,rfl⟩ | ⟨rfl,rfl⟩
  ·simp only [if_true] at h1;split at h1 <;> lia
  ·simp only [if_true] at h1;split at h1 <;> lia
  ·simp only [if_true] at h1;split at h1 <;> lia
  ·simp only [if_true] at h2;split at h2 <;> lia
def Sg (c0:Mk):Prop:=∀ {h:Gh} {p q r s:Tr} {Q:WK} {E:Bq},Q (.bl (decide (pW p q r s))) h->c0 [q4 p q r s] h Q E
theorem Wz:Sg fY:=by
 intro h p q r s Q E k
 unfold fY q4
 rfl'
 refine FJ ?_
 rfl'
 refine aaP (us:=[tw p,tw q,tw r,tw s]) rfl ?_
 rfl'
 refine Qh (ts:=[p,q,r,s]) rfl ?_
 rfl'
 refine FJ ?_
 rfl'
 refine aaP (us:=[tw p,tw q,tw r,tw s]) rfl ?_
 rfl'
 refine Qh (ts:=[p,q,r,s]) rfl ?_
 rfl'
 refine FJ ?_
 rfl'
 refine aaP (us:=[tw p,tw q,tw r,tw s]) rfl ?_
 rfl'
 refine Qh (ts:=[p,q,r,s]) rfl ?_
 rfl'
 refine FJ ?_
 rfl'
 refine aaP (us:=[tw p,tw q,tw r,tw s]) rfl ?_
 rfl'
 refine Qh (ts:=[p,q,r,s]) rfl ?_
 rfl'
 refine ⟨[(cn [p,q,r,s] p:Int),(cn [p,q,r,s] q:Int),(cn [p,q,r,s] r:Int),(cn [p,q,r,s] s:Int)],rfl,Nat.succ_pos _,fun M hM hle=>?_⟩
 rfl'
 rw [abB hM hle]
 exact k
def RT (c0:Mk):Prop:=∀ {h:Gh} {p q:Tr} {i:Int} {m:Nat} {Q:WK} {E:Bq},i=0\/i=1\/i=2->m<=4000->CP m p->CP m q->Q (.int (co i (crs p q))) h->c0 [tw p,tw q,.int i] h Q E
theorem afH:RT v8:=by
 intro h p q i m Q E hi hm sp sq k
 obtain ⟨p1,p2,p3⟩:=p
 obtain ⟨q1,q2,q3⟩:=q
 obtain ⟨a1,a2,a3⟩:=sp
 obtain ⟨b1,b2,b3⟩:=sq
 simp only at a1 a2 a3 b1 b2 b3
 unfold v8
 rcases hi with rfl | rfl | rfl
 ·rfl'
  refine yu (by decide) ?_
  rfl'
  refine yu (by decide) ?_
  rfl'
  exact k
 ·rfl'
  refine yu (by decide) ?_
  rfl'
  refine yu (by decide) ?_
  rfl'
  exact k
 ·rfl'
  refine yu (by decide) ?_
  rfl'
  refine yu (by decide) ?_
  rfl'
  exact k
theorem Dd {i:Int}{m:Nat}{t:Tr}(h:CP m t):Sm m (co i t):=by
 unfold co
 split
 ·exact h.1
 split
 ·exact h.2.1
 ·exact h.2.2
def T5 (t:Tr):Int:=if t.1≠0 then 0 else if t.2.1≠0 then 1 else 2
theorem Zj (t:Tr):T5 t=0\/T5 t=1\/T5 t=2:=by
 unfold T5
 split
 ·exact .inl rfl
 split
 ·exact .inr (.inl rfl)
 ·exact .inr (.inr rfl)
def fo (p q r s:Tr):Tr:=if q≠p then q else if r≠p then r else s
def ixp (p q r s:Tr):Int:=T5 (crs p (fo p q r s))
def tn (p q r s:Tr):Int×Int:=(co (ixp p q r s) (crs p r)*co (ixp p q r s) (crs q s),co (ixp p q r s) (crs p s)*co (ixp p q r s) (crs q r))
theorem Vc (p q r s:Tr):fo p q r s∈[p,q,r,s]:=by
 unfold fo
 split
 ·simp
 split
 ·simp
 ·simp
theorem Ti {p q r s:Tr}(h:¬ (q=p/\r=p/\s=p)):fo p q r s≠p:=by
 unfold fo
 split
 ·assumption
 split
 ·assumption
 ·rename_i a b
  rw [Pq] at a b
  exact fun c=>h ⟨a,b,c⟩
theorem Wr {p q r s:Tr}(h:¬ (q=p/\r=p/\s=p)):∃ us,[p,q,r,s].filter (·≠p)=fo p q r s::us:=by
 unfold fo
 by_cases a:q=p
 ·by_cases b:r=p
  ·have c:s≠p:=fun c=>h ⟨a,b,c⟩
   exact ⟨[],by simp [a,b,c]⟩
  ·exact ⟨_,by rw [if_neg (by simp [a]),if_pos b];simp [a,b];rfl⟩
 ·exact ⟨_,by rw [if_pos a];simp [a];rfl⟩
def RK (c0:Mk):Prop:=∀ {h:Gh} {p q r s:Tr} {m:Nat} {Q:WK} {E:Bq},m<=4000->(∀ t∈[p,q,r,s],Pl t/\CP m t)->¬ (q=p/\r=p/\s=p)->Q (.int (ixp p q r s)) h->c0 [q4 p q r s] h Q E
theorem afj {cr:Mk}(hcr:Om cr):RK (oJ cr):=by
 intro h p q r s m Q E hm hs hne k
 obtain ⟨us,eus⟩:=Wr hne
 have mu:=Vc p q r s
 have nu:=Ti hne
 unfold ixp at k
 unfold oJ
 refine jJ rfl (σ:=[Dn (q4 p q r s),FN,FN]) rfl (cC (gH ?_))
 refine CW (t0:=p) (r:=[q,r,s]) (.inl rfl) (by simp) ?_
 rw [eus]
 generalize fo p q r s=u at mu nu k eus
 have c0:=qH (hs p (by simp)).1 (hs u mu).1 (N8 nu)
 refine cT (σ':=[Dn (q4 p q r s),Dn (.lst (tw u::us.map tw)),FN]) rfl (pJ ?_)
 unfold q4
 rfl'
 refine JX (ws:=tw u::us.map tw) (w:=tw u) rfl (v7 (j:=0) rfl) ?_
 rfl'
 refine hcr (m:=m) (by lia) (hs p (by simp)).2 (hs u mu).2 ?_
 generalize crs p u=L at c0 k
 obtain ⟨x,y,z⟩:=L
 unfold T5 at k
 dsimp only at k
 rfl'
 refine Er (fun x0=>?_) fun x0=>?_
 ·rw [if_pos x0] at k
  rfl'
  refine Er (fun y0=>?_) fun y0=>?_
  ·rfl'
   refine Er (fun z0=>?_) fun z0=>?_
   ·rfl'
    exact k
   ·rfl'
    exact k
  ·rfl'
   refine Er (fun z0=>?_) fun z0=>?_
   ·rfl'
    exact k
   ·rfl'
    exact k
 ·rw [if_neg x0] at k
  rfl'
  refine Er (fun y0=>?_) fun y0=>?_
  ·rw [if_pos y0] at k
   rfl'
   refine Er (fun z0=>?_) fun z0=>?_
   ·rfl'
    exact k
   ·rfl'
    exact k
  ·rw [if_neg y0] at k
   rfl'
   refine Er (fun z0=>?_) fun z0=>?_
   ·rfl'
    exact k
   ·refine absurd ?_ c0
    rw [Pq] at x0 y0 z0
    exact JT x0 (JT y0 z0)
def adl (c0:Mk):Prop:=∀ {h:Gh} {p q r s:Tr} {m:Nat} {Q:WK} {E:Bq},m<=1000->(∀ t∈[p,q,r,s],Pl t/\CP m t)->¬ (q=p/\r=p/\s=p)->Q (.lst [.int (tn p q r s).1,.int (tn p q r s).2]) h->c0 [q4 p q r s] h Q E
theorem aaz {po ta:Mk}(hpo:RK po)(hta:RT ta):adl (jf po ta):=by
 intro h p q r s m Q E hm hs hne k
 have sp:=(hs p (by simp)).2
 have sq:=(hs q (by simp)).2
 have sr:=(hs r (by simp)).2
 have ss:=(hs s (by simp)).2
 unfold jf
 rfl'
 refine hpo (m:=m) (by lia) hs hne ?_
 have hi:=Zj (crs p (fo p q r s))
 unfold tn at k
 change ixp p q r s=0\/ixp p q r s=1\/ixp p q r s=2 at hi
 generalize ixp p q r s=i at k hi
 have s1:=Dd (i:=i) (jl sp sr)
 have s2:=Dd (i:=i) (jl sq ss)
 have s3:=Dd (i:=i) (jl sp ss)
 have s4:=Dd (i:=i) (jl sq sr)
 unfold q4
 rfl'
 refine hta hi (by lia) sp sr ?_
 rfl'
 refine hta hi (by lia) sq ss ?_
 rfl'
 refine hta hi (by lia) sp ss ?_
 rfl'
 refine hta hi (by lia) sq sr ?_
 rfl'
 exact k
def Pg (a b c d s:Tr):Tr:=(dt3 (crs s b) c*dt3 (crs a d) c*dt3 (crs a b) d,dt3 (crs a s) c*dt3 (crs d b) c*dt3 (crs a b) d,dt3 (crs a b) s*dt3 (crs d b) c*dt3 (crs a d) c)
theorem adF (a b c s:Tr):sc (dt3 (crs a b) c) s=(dt3 (crs s b) c*a.1+dt3 (crs a s) c*b.1+dt3 (crs a b) s*c.1,dt3 (crs s b) c*a.2.1+dt3 (crs a s) c*b.2.1+dt3 (crs a b) s*c.2.1,dt3 (crs s b) c*a.2.2+dt3 (crs a s) c*b.2.2+dt3 (crs a b) s*c.2.2):=by
 obtain ⟨a1,a2,a3⟩:=a
 obtain ⟨b1,b2,b3⟩:=b
 obtain ⟨c1,c2,c3⟩:=c
 obtain ⟨s1,s2,s3⟩:=s
 simp only [sc,dt3,crs]
 refine JT ?_ (JT ?_ ?_) <;> simp only <;> grind
theorem afP {a b c d:Tr}(f:Free a b c d):dt3 (crs a d) c≠0/\dt3 (crs d b) c≠0:=by
 have e1:dt3 (crs a d) c = - dt3 (crs a c) d:=by simp only [dt3,crs];grind
 have e2:dt3 (crs d b) c=dt3 (crs b c) d:=by simp only [dt3,crs];grind
 exact ⟨by rw [e1];exact fun z=>f.2.2.1 (by lia),by rw [e2];exact f.2.2.2⟩
def ZC (c0:Mk):Prop:=∀ {h:Gh} {a b c d:Tr} {Q:WK} {E:Bq},Q (.bl (decide (decide (a=b)≠decide (c=d)))) h->c0 [.lst [tw a,tw b],.lst [tw c,tw d]] h Q E
theorem Yv:ZC j7:=by
 intro h a b c d Q E k
 unfold j7
 rfl'
 exact k
def Nm (c0:Mk):Prop:=∀ {h:Gh} {p q r p' q' r':Tr} {m:Nat} {Q:WK} {E:Bq},m<=4000->Ib m [p,q,r]->Ib m [p',q',r']->Q (.bl (decide (decide (dt3 (crs p q) r=0)≠decide (dt3 (crs p' q') r'=0)))) h->c0 [.lst [tw p,tw q,tw r],.lst [tw p',tw q',tw r']] h Q E
theorem zbn {ol:Mk}(hol:lA ol):Nm (iR ol):=by
 intro h p q r p' q' r' m Q E hm o1 o2 k
 unfold iR
 rfl'
 refine hol (ts:=[p,q,r]) (M:=m) (.inl rfl) (by simp) hm o1 ?_
 rw [EY]
 rfl'
 refine hol (ts:=[p',q',r']) (M:=m) (.inl rfl) (by simp) hm o2 ?_
 rw [EY]
 rfl'
 exact k
noncomputable def thB (p q r s p' q' r' s':Tr):Bool:=mD [p,q,r,s]&&(!decide (pW p q r s)&&decide ((tn p q r s).1*(tn p' q' r' s').2≠(tn p q r s).2*(tn p' q' r' s').1))
theorem aag {p q r s:Tr}{m:Nat}(h:∀ t∈[p,q,r,s],Pl t/\CP m t):Sm (4*m+2) (tn p q r s).1/\Sm (4*m+2) (tn p q r s).2:=by
 have sp:=(h p (by simp)).2
 have sq:=(h q (by simp)).2
 have sr:=(h r (by simp)).2
 have ss:=(h s (by simp)).2
 exact ⟨((Dd (jl sp sr)).mul (Dd (jl sq ss))).mono (by lia),((Dd (jl sp ss)).mul (Dd (jl sq sr))).mono (by lia)⟩
theorem adJ {p q r s:Tr}(h:¬ pW p q r s):¬ (q=p/\r=p/\s=p):=fun ⟨a,b,_⟩=>h (.inl ⟨a.symm,a.trans b.symm⟩)
def Nf (c0:Mk):Prop:=∀ {h:Gh} {p q r s p' q' r' s':Tr} {m:Nat} {Q:WK} {E:Bq},m<=900->Ib m [p,q,r,s]->Ib m [p',q',r',s']->(¬ pW p q r s->¬ (q'=p'/\r'=p'/\s'=p'))->Q (.bl (thB p q r s p' q' r' s')) h->c0 [q4 p q r s,q4 p' q' r' s'] h Q E
theorem afo {ol th tn':Mk}(hol:lA ol)(hth:Sg th)(htn:adl tn'):Nf (jd ol th tn'):=by
 intro h p q r s p' q' r' s' m Q E hm o1 o2 hne k
 unfold thB at k
 obtain ⟨s1,s2⟩:=aag o1
 obtain ⟨s3,s4⟩:=aag o2
 unfold jd
 rfl'
 refine hol (ts:=[p,q,r,s]) (M:=m) (.inl rfl) (by simp) (by lia) o1 ?_
 cases hf:mD [p,q,r,s] with
 | false=>
  rw [hf] at k
  rfl'
  exact k
 | true=>
  rw [hf] at k
  rfl'
  refine hth ?_
  rfl'
  refine vp (fun ha=>?_) fun ha=>?_
  ·rw [decide_eq_true ha] at k
   rfl'
   exact k
  ·rw [decide_eq_false ha] at k
   rfl'
   unfold jP
   rfl'
   refine htn (m:=m) (by lia) o1 (adJ ha) ?_
   rfl'
   refine htn (m:=m) (by lia) o2 (hne ha) ?_
   generalize tn p q r s=u at k s1 s2
   generalize tn p' q' r' s'=v at k s3 s4
   rfl'
   exact k
def e0:Tr:=(1,0,0)
def e1:Tr:=(0,1,0)
def e2:Tr:=(0,0,1)
def e3:Tr:=(1,1,1)
theorem zaJ:Free e0 e1 e2 e3:=⟨by decide,by decide,by decide,by decide⟩
theorem Gv:CP 2 e0/\CP 2 e1/\CP 2 e2/\CP 2 e3:=by
 have o:Sm 2 1:=by unfold Sm;decide +kernel
 have z:Sm 2 0:=by unfold Sm;decide +kernel
 exact ⟨⟨o,z,z⟩,⟨z,o,z⟩,⟨z,z,o⟩,⟨o,o,o⟩⟩
def Br (p q r s:Tr)(M:Mt):Prop:=det M≠0/\To M p e0/\To M q e1/\To M r e2/\To M s e3
def MbG (c0:Mk):Prop:=∀ {h:Gh} {p q r s:Tr} {m:Nat} {Q:WK} {E:Bq},m<=210->CP m p->CP m q->CP m r->CP m s->Free p q r s->(∀ M,Br p q r s M->JC (8*m+23) M->Q (mw M) h)->c0 [q4 p q r s,q4 e0 e1 e2 e3] h Q E
theorem aa9 {th ba fr fm:Mk}(hth:Za th)(hba:Hh ba)(hfr:Pu fr)(hfm:Rq fm):MbG (lD th ba fr fm):=by
 intro h p q r s m Q E hm sp sq sr ss f k
 obtain ⟨sa,sb,sc',sd⟩:=Gv
 have g:=zaJ
 unfold lD
 rfl'
 refine hfr (m:=m) (by lia) sp sq sr ss ?_
 rw [vG f]
 rfl'
 refine hfr (m:=2) (by decide) sa sb sc' sd ?_
 rw [vG g]
 rfl'
 unfold nj
 rfl'
 refine hfm (m:=m) (by lia) sp sq sr ss f.1 f.2.1 f.2.2.1 f.2.2.2 fun G pG parG sG=>?_
 have dG:det G≠0:=parG.det.mp (vQ f.1 f.2.1 f.2.2.1 f.2.2.2)
 rfl'
 refine hba (m:=4*m+4) (by lia) sG dG fun N pN parN sN=>?_
 have dN:det N≠0:=parN.det.mp (rT dG)
 rfl'
 refine hfm (m:=2) (by decide) sa sb sc' sd g.1 g.2.1 g.2.2.1 g.2.2.2 fun Go pGo parGo sGo=>?_
 have dGo:det Go≠0:=parGo.det.mp (vQ g.1 g.2.1 g.2.2.1 g.2.2.2)
 have sGo:JC 12 Go:=sGo
 rfl'
 refine hth (m:=4*m+4+(4*m+4)+1) (n:=12) (by lia) (by decide) sN sGo dN dGo fun M pM parM sM'=>?_
 have dM:det M≠0:=parM.det.mp (by rw [wO];exact J5 dGo dN)
 obtain ⟨l1,l2,l3,l4⟩:=wz f parG
 obtain ⟨m1,m2,m3,m4⟩:=wz g parGo
 rfl'
 exact k M ⟨dM,Py dG l1 m1 parN parM,Py dG l2 m2 parN parM,Py dG l3 m3 parN parM,Py dG l4 m4 parN parM⟩ (sM'.mono (by lia))
def YS (p q r s:Tr)(M:Mt):Prop:=det M≠0/\JC 1623 M/\To M p e0/\To M q e1/\To M r e2/\To M s e3
def MbV (c0:Mk):Prop:=∀ {h:Gh} {p q r s:Tr} {Q:WK} {E:Bq},CP 200 p->CP 200 q->CP 200 r->CP 200 s->Free p q r s->(∀ M,YS p q r s M->Q (mw M) h)->c0 [q4 p q r s,q4 e0 e1 e2 e3] h Q E
theorem Zq {mb:Mk}(h:MbG mb):MbV mb:=fun sp sq sr ss f k=>h (by decide) sp sq sr ss f fun M l b=>k M ⟨l.1,b,l.2⟩
def WL (c0:Mk):Prop:=∀ {h:Gh} {Q:WK} {E:Bq},Q (q4 e0 e1 e2 e3) h->c0 [] h Q E
theorem Am:WL Fj:=by
 intro h Q E k
 unfold Fj
 rfl'
 exact k
theorem Zh (M:Mt)(a b c:Tr)(x y z:Int):vm M (x*a.1+y*b.1+z*c.1,x*a.2.1+y*b.2.1+z*c.2.1,x*a.2.2+y*b.2.2+z*c.2.2)=(x*(vm M a).1+y*(vm M b).1+z*(vm M c).1,x*(vm M a).2.1+y*(vm M b).2.1+z*(vm M c).2.1,x*(vm M a).2.2+y*(vm M b).2.2+z*(vm M c).2.2):=by
 obtain ⟨⟨m1,m2,m3⟩,⟨m4,m5,m6⟩,m7,m8,m9⟩:=M
 obtain ⟨a1,a2,a3⟩:=a
 obtain ⟨b1,b2,b3⟩:=b
 obtain ⟨c1,c2,c3⟩:=c
 simp only [vm,dt3]
 refine JT ?_ (JT ?_ ?_) <;> simp only <;> grind
def Ray (t w:Tr):Prop:=∃ u v:Int,u≠0/\v≠0/\sc u t=sc v w
theorem Ray.par {t w u:Tr}(h:Ray t w)(p:Ii t u):Ray u w:=by
 obtain ⟨a,b,a0,b0,e⟩:=h
 obtain ⟨k,k0,ek⟩:=p
 exact ⟨k*a,b,J5 k0 a0,b0,by rw [<-nY,<-ek];exact e⟩
theorem Ly {t t' w w':Tr}(ht:Pl t)(ht':Pl t')(h:Ray t w)(h':Ray t' w'):t≠t'↔crs w w'≠(0,0,0):=by
 obtain ⟨a,b,a0,b0,e⟩:=h
 obtain ⟨a',b',a0',b0',e'⟩:=h'
 have key:sc (a*a') (crs t t')=sc (b*b') (crs w w'):=by rw [<-mZ,<-mZ,e,e']
 refine not_congr ⟨fun q=>?_,fun q=>?_⟩
 ·subst q
  have z:crs t t=(0,0,0):=by
   obtain ⟨x,y,z⟩:=t
   simp only [crs,T8]
   exact ⟨by grind,by grind,by grind⟩
  rw [z] at key
  refine (oR (J5 b0 b0')).mp (key.symm.trans ?_)
  simp [sc]
 ·rw [q] at key
  refine pQ ht ht' ((oR (J5 a0 a0')).mp (key.trans ?_))
  simp [sc]
theorem Dk {M:Mt}{p:Tr}{x y z:Int}(h:To M p (x,y,z)):∃ k:Int,k≠0/\∃ a:Int,a≠0/\a*(vm M p).1=k*x/\a*(vm M p).2.1=k*y/\a*(vm M p).2.2=k*z:=by
 obtain ⟨a,b,a0,b0,e⟩:=h
 simp only [sc,T8] at e
 exact ⟨b,b0,a,a0,by grind,by grind,by grind⟩
theorem yS {a b c d s:Tr}{M:Mt}(f:Free a b c d)(h:Br a b c d M):Ray (vm M s) (Pg a b c d s):=by
 obtain ⟨_,h1,h2,h3,h4⟩:=h
 obtain ⟨ka,ka0,xa,xa0,a1,a2,a3⟩:=Dk h1
 obtain ⟨kb,kb0,xb,xb0,b1,b2,b3⟩:=Dk h2
 obtain ⟨kc,kc0,xc,xc0,c1,c2,c3⟩:=Dk h3
 obtain ⟨kd,kd0,xd,xd0,d1,d2,d3⟩:=Dk h4
 have z:∀ {x y k:Int},x≠0->x*y=k*0->y=0:=fun hx e=>(O5.mp (e.trans (TK _))).resolve_left hx
 have za2:=z xa0 a2
 have za3:=z xa0 a3
 have zb1:=z xb0 b1
 have zb3:=z xb0 b3
 have zc1:=z xc0 c1
 have zc2:=z xc0 c2
 have ed2:(vm M d).2.1=(vm M d).1:=V4 xd0 (d2.trans d1.symm)
 have ed3:(vm M d).2.2=(vm M d).1:=V4 xd0 (d3.trans d1.symm)
 have d0:(vm M d).1≠0:=fun e=>by
  rw [e,TK,Int.mul_one] at d1
  exact kd0 d1.symm
 have ls:∀ t,sc (dt3 (crs a b) c) (vm M t)=(dt3 (crs t b) c*(vm M a).1,dt3 (crs a t) c*(vm M b).2.1,dt3 (crs a b) t*(vm M c).2.2):=fun t=>by
  rw [<-bQ,adF a b c t,Zh,za2,za3,zb1,zb3,zc1,zc2]
  simp
 have l1:=ls s
 have l2:=ls d
 obtain ⟨g1,g2⟩:=afP f
 refine ⟨dt3 (crs a b) c*(dt3 (crs d b) c*dt3 (crs a d) c*dt3 (crs a b) d),dt3 (crs a b) c*(vm M d).1,J5 f.1 (J5 (J5 g2 g1) f.2.1),J5 f.1 d0,?_⟩
 simp only [sc,T8] at l1 l2
 rw [ed2,ed3] at l2
 obtain ⟨p1,p2,p3⟩:=l1
 obtain ⟨q1,q2,q3⟩:=l2
 unfold Pg
 generalize dt3 (crs a b) c=D at *
 generalize dt3 (crs d b) c=E1 at *
 generalize dt3 (crs a d) c=E2 at *
 generalize dt3 (crs a b) d=E3 at *
 generalize dt3 (crs s b) c=S1 at *
 generalize dt3 (crs a s) c=S2 at *
 generalize dt3 (crs a b) s=S3 at *
 generalize (vm M d).1=V at *
 generalize (vm M a).1=A at *
 generalize (vm M b).2.1=B at *
 generalize (vm M c).2.2=C at *
 simp only [sc]
 refine JT ?_ (JT ?_ ?_) <;> simp only
 ·rw [show (vm M s).1*(D*(E1*E2*E3))=(vm M s).1*D*(E1*E2*E3) by grind,p1,show S1*A*(E1*E2*E3)=(E1*A)*(S1*E2*E3) by grind,<-q1]
  grind
 ·rw [show (vm M s).2.1*(D*(E1*E2*E3))=(vm M s).2.1*D*(E1*E2*E3) by grind,p2,show S2*B*(E1*E2*E3)=(E2*B)*(S2*E1*E3) by grind,<-q2]
  grind
 ·rw [show (vm M s).2.2*(D*(E1*E2*E3))=(vm M s).2.2*D*(E1*E2*E3) by grind,p3,show S3*C*(E1*E2*E3)=(E3*C)*(S3*E1*E2) by grind,<-q3]
  grind
theorem Ng {a b c d s:Tr}{M:Mt}(f:Free a b c d)(h:YS a b c d M):Ray (vm M s) (Pg a b c d s):=yS f ⟨h.1,h.2.2⟩
def d2 (x y:List Tr):List Nat->Bool
 | [i,j]=>decide (decide (gt x i=gt x j)≠decide (gt y i=gt y j))
 | _=>false
def d3 (x y:List Tr):List Nat->Bool
 | [i,j,k]=>decide (decide (dt3 (crs (gt x i) (gt x j)) (gt x k)=0)≠decide (dt3 (crs (gt y i) (gt y j)) (gt y k)=0))
 | _=>false
noncomputable def d4 (x y:List Tr):List Nat->Bool
 | [a,b,c,d]=>thB (gt x a) (gt x b) (gt x c) (gt x d) (gt y a) (gt y b) (gt y c) (gt y d)
 | _=>false
def d5 (x y:List Tr)(l:List Nat)(k:Nat):Option (List Nat):=match l with
 | [a,b,c,d]=>if crs (Pg (gt x a) (gt x b) (gt x c) (gt x d) (gt x k)) (Pg (gt y a) (gt y b) (gt y c) (gt y d) (gt y k))≠(0,0,0) then Dn (l++[k]) else FN
 | _=>FN
def s2 (x y:List Tr):Option (List Nat):=(CR x.length 2).findSome? (pass (d2 x y))
def s3 (x y:List Tr):Option (List Nat):=(CR x.length 3).findSome? (pass (d3 x y))
noncomputable def s4 (x y:List Tr):Option (List Nat):=(CR x.length 4).findSome? (pass (d4 x y))
def s5 (x y:List Tr):Option (List Nat):=match FF x with
 | none=>FN
 | some l=>(rng 0 x.length).findSome? (d5 x y l)
noncomputable def Ah (x y:List Tr):Option (Str×List Nat):=if x.length≠y.length then Dn ("many",[]) else match s2 x y with
 | some l=>Dn ("two",l)
 | none=>match s3 x y with
  | some l=>Dn ("three",l)
  | none=>match s4 x y with
   | some l=>Dn ("throw",l)
   | none=>match s5 x y with
    | some l=>Dn ("five",l)
    | none=>FN
def dW:Option (Str×List Nat)->W
 | none=>.non
 | some x=>.tup [.str x.1,jG x.2]
theorem qd {P:List Nat->Bool}{ls:List (List Nat)}(h:ls.findSome? (pass P)=FN):∀ l∈ls,P l=false:=fun l hl=>by
 have:=Vg.mp h l hl
 cases hb:P l with
 | false=>rfl
 | true=>rw [yp hb] at this;cases this
theorem qP {m k p:Nat}{l:List Nat}(hl:l∈CR m k)(h1:nxt l<=p)(h2:p<m):l++[p]∈CR m (k+1):=by
 rw [CR,V0]
 exact ⟨l,hl,Pj.mpr ⟨p,mY.mpr ⟨h1,h2⟩,rfl⟩⟩
theorem SN {m i j:Nat}(h1:i<j)(h2:j<m):[i,j]∈CR m 2:=
 qP (l:=[i]) (qP (l:=[]) (by rw [CR];simp) (TF _) (by lia)) (show i+1<=j by lia) h2
theorem FW {m i j k:Nat}(h1:i<j)(h2:j<k)(h3:k<m):[i,j,k]∈CR m 3:=qP (l:=[i,j]) (SN h1 (by lia)) (show j+1<=k by lia) h3
theorem Ir {x y:List Tr}(h:s2 x y=FN){i j:Nat}(hi:i<x.length)(hj:j<x.length):gt x i=gt x j↔gt y i=gt y j:=by
 have g:∀ {i j:Nat},i<j->j<x.length->(gt x i=gt x j↔gt y i=gt y j):=fun {i j} h1 h2=>by
  have:=qd h _ (SN h1 h2)
  exact decide_eq_decide.mp (Pq.mp (of_decide_eq_false this))
 rcases Nat.lt_trichotomy i j with c | c | c
 ·exact g c hj
 ·subst c;exact ⟨fun _=>rfl,fun _=>rfl⟩
 ·have:=g c hi
  exact ⟨fun e=>(this.mp e.symm).symm,fun e=>(this.mpr e.symm).symm⟩
theorem Ky {x y:List Tr}(h:s3 x y=FN){i j k:Nat}(h1:i<j)(h2:j<k)(h3:k<x.length):dt3 (crs (gt x i) (gt x j)) (gt x k)=0↔dt3 (crs (gt y i) (gt y j)) (gt y k)=0:=by
 have:=qd h _ (FW h1 h2 h3)
 exact decide_eq_decide.mp (Pq.mp (of_decide_eq_false this))
theorem up4 {m a b c d:Nat}(h:[a,b,c,d]∈CR m 4):a<b/\b<c/\c<d/\d<m:=⟨oY (l:=[]) (r:=[c,d]) h,oY (l:=[a]) (r:=[d]) h,oY (l:=[a,b]) (r:=[]) h,dz h d (by simp)⟩
theorem wL {x y:List Tr}(h:s3 x y=FN){a b c d:Nat}(hr:[a,b,c,d]∈CR x.length 4):Free (gt x a) (gt x b) (gt x c) (gt x d)↔Free (gt y a) (gt y b) (gt y c) (gt y d):=by
 obtain ⟨u1,u2,u3,u4⟩:=up4 hr
 unfold Free
 rw [Ne,Ne,Ne,Ne,Ky h u1 u2 (by lia),Ky h u1 (by lia:b<d) u4,Ky h (by lia:a<c) u3 u4,Ky h u2 u3 u4]
theorem Ob {x:List Tr}{l:List Nat}(h:FF x=Dn l):∃ a b c d,l=[a,b,c,d]/\[a,b,c,d]∈CR x.length 4/\Free (gt x a) (gt x b) (gt x c) (gt x d):=by
 unfold FF at h
 rw [<-Lq] at h
 obtain ⟨l',ml,e⟩:=List.exists_of_findSome?_eq_some h
 cases hb:Gz x l' with
 | false=>rw [yK hb] at e;cases e
 | true=>
  rw [yp hb] at e
  cases e
  match l,cO ml with
  | [a,b,c,d],_=>exact ⟨a,b,c,d,rfl,ml,Jw hb⟩
theorem zba {fs:List (Addr×Mk)}{i j:Nat}{ma:MA}{f:Addr}{ms:Mk}{σ : Sw}{h:Gh}{Q:WK}(e:σ[i]?=Dn (Dn (.fnv f j)))(e2:fs[j]?=Dn (f,ms))(k:ma σ h fun ws h1=>ms ws h1 Q EF):Bx fs i ma σ h Q:=by
 unfold Bx
 rw [e]
 dsimp only
 rw [e2]
 exact ⟨rfl,k⟩
theorem Fi {ri pi c0 c1 c2:Mk}{F0 F1 F2 F:Addr}{ms:Mk}{j z:Nat}(hri:pB ri)(hpi:zP pi)(ej:[(F0,c0),(F1,c1),(F2,c2)][j]?=Dn (F,ms)){h:Gh}{wx wy:W}{xs ys:List Tr}{P:List Nat->Bool}{Q:WK}{E:Bq}
  (ex:gQ h wx xs) (ey:gQ h wy ys) (hl:xs.length=ys.length) (hn:xs.length<=12) (hz:z<=4)
  (hP:∀ l∈CR xs.length z,∀ (R:WK) (E':Bq),R (.bl (P l)) h->ms [.lst ((l.map (gt xs)).map tw),.lst ((l.map (gt ys)).map tw)] h R E')
  (k0:(CR xs.length z).findSome? (pass P)=FN->Q .non h) (k1:∀ l,(CR xs.length z).findSome? (pass P)=Dn l->Q (jG l) h) :
  fZ F0 F1 F2 ri pi c0 c1 c2 [wx,wy,.int (z:Int),.fnv F j] h Q E:=by
 unfold fZ
 refine jJ rfl (σ:=[Dn wx,Dn wy,Dn (.int (z:Int)),Dn (.fnv F j),FN]) rfl (cC (rz (qD (bF (aH (xr (aH (aP rfl (aX (sI ex ?_))))))))))
 refine aH (aP rfl (aX (hri (m:=xs.length) (k:=z) hn hz (MN rfl (oh ?_)))))
 refine Xa (v:=jG) (pass P) (fun l=>Q (jG l) h) (fun σ h'=>∃ s1,σ = [Dn wx,Dn wy,Dn (.int (z:Int)),Dn (.fnv F j),s1]/\h'=h) (CR xs.length z) ?_ ?_ ?_ ⟨FN,rfl,rfl⟩
 ·rintro l ml σ h' N ⟨s1,rfl,rfl⟩ hN hR
  have ll:=cO ml
  have li:=dz ml
  refine cT (σ':=[Dn wx,Dn wy,Dn (.int (z:Int)),Dn (.fnv F j),Dn (jG l)]) rfl ?_
  refine vL (xY (zba rfl ej (aH (bF (aH (aP rfl (aH (aP rfl (aX (hpi ex li (by lia) ?_))))))))))
  refine aH (bF (aH (aP rfl (aH (aP rfl (aX (hpi ey (by rw [<-hl];exact li) (by lia) (aX (hP l ml _ _ ?_)))))))))
  cases hb:P l with
  | true=>
   rfl'
   exact hR l (yp hb)
  | false=>
   rfl'
   exact hN (yK hb) _ _ ⟨_,rfl,rfl⟩
 ·rintro hn σ h' ⟨s1,rfl,rfl⟩
  unfold lQ
  rfl'
  exact k0 hn
 ·intro l hy
  exact k1 l hy
theorem zq {m:Nat}{x:List Tr}(h:Ib m x){l:List Nat}(hl:∀ i∈l,i<x.length):Ib m (l.map (gt x)):=fun t ht=>by
 obtain ⟨i,hi,rfl⟩:=Pj.mp ht
 exact h _ (bY (hl i hi))
theorem aeI {x y:List Tr}(h:s2 x y=FN){a b c d:Nat}(hr:[a,b,c,d]∈CR x.length 4):¬ pW (gt x a) (gt x b) (gt x c) (gt x d)->¬ (gt y b=gt y a/\gt y c=gt y a/\gt y d=gt y a):=by
 have li:=dz hr
 have la:=li a (by simp)
 have lb:=li b (by simp)
 have lc:=li c (by simp)
 intro n ⟨e1,e2,_⟩
 have q1:=(Ir h lb la).mpr e1
 have q2:=(Ir h lc la).mpr e2
 exact n (.inl ⟨q1.symm,q1.trans q2.symm⟩)
structure FpX (F0 F1 F2:Addr) (c0:Mk):Prop where
 two:∀ {h:Gh} {wx wy:W} {x y:List Tr} {Q:WK} {E:Bq},gQ h wx x->gQ h wy y->x.length=y.length->x.length<=12->Ib 200 x->Ib 200 y->(s2 x y=FN->Q .non h)->(∀ l,s2 x y=Dn l->Q (jG l) h)->c0 [wx,wy,.int 2,.fnv F0 0] h Q E
 three:∀ {h:Gh} {wx wy:W} {x y:List Tr} {Q:WK} {E:Bq},gQ h wx x->gQ h wy y->x.length=y.length->x.length<=12->Ib 200 x->Ib 200 y->(s3 x y=FN->Q .non h)->(∀ l,s3 x y=Dn l->Q (jG l) h)->c0 [wx,wy,.int 3,.fnv F1 1] h Q E
 four:∀ {h:Gh} {wx wy:W} {x y:List Tr} {Q:WK} {E:Bq},gQ h wx x->gQ h wy y->x.length=y.length->x.length<=12->Ib 200 x->Ib 200 y->s2 x y=FN->(s4 x y=FN->Q .non h)->(∀ l,s4 x y=Dn l->Q (jG l) h)->c0 [wx,wy,.int 4,.fnv F2 2] h Q E
theorem ad4 {ri pi c0 c1 c2:Mk}{F0 F1 F2:Addr}(hri:pB ri)(hpi:zP pi)(h0:ZC c0)(h1:Nm c1)(h2:Nf c2):FpX F0 F1 F2 (fZ F0 F1 F2 ri pi c0 c1 c2) where
 two:=fun {h wx wy x y Q E} ex ey hl hn ox oy k0 k1=>Fi (j:=0) (z:=2) (P:=d2 x y) hri hpi rfl ex ey hl hn (by decide) (fun l ml R E' k=>by
  match l,cO ml with
  | [i,j],_=>exact h0 k) k0 k1
 three:=fun {h wx wy x y Q E} ex ey hl hn ox oy k0 k1=>Fi (j:=1) (z:=3) (P:=d3 x y) hri hpi rfl ex ey hl hn (by decide) (fun l ml R E' k=>by
  have li:=dz ml
  match l,cO ml with
  | [i,j,z],_=>exact h1 (m:=200) (by decide) (zq ox li) (zq (l:=[i,j,z]) oy (by rw [<-hl];exact li)) k) k0 k1
 four:=fun {h wx wy x y Q E} ex ey hl hn ox oy hs k0 k1=>Fi (j:=2) (z:=4) (P:=d4 x y) hri hpi rfl ex ey hl hn (by decide) (fun l ml R E' k=>by
  have li:=dz ml
  match l,cO ml with
  | [a,b,c,d],_=>exact h2 (m:=200) (by decide) (zq ox li) (zq (l:=[a,b,c,d]) oy (by rw [<-hl];exact li)) (aeI hs ml) k) k0 k1
def W7 (c0:Mk):Prop:=∀ {h:Gh} {wx wy:W} {x y:List Tr} {Q:WK} {E:Bq},gQ h wx x->gQ h wy y->x.length=y.length->x.length<=12->Ib 200 x->Ib 200 y->s3 x y=FN->(s5 x y=FN->Q .non h)->(∀ l,s5 x y=Dn l->Q (jG l) h)->c0 [wx,wy] h Q E
theorem Q9 {h:Gh}{Q:WK}(k:Q (.bl true) h):kIs .non .non h Q:=k
theorem is_tup {h:Gh}{ws:List W}{Q:WK}(k:Q (.bl false) h):kIs (.tup ws) .non h Q:=k
theorem Zx {t:Tr}(h:Pl t):t≠(0,0,0):=by
 rintro rfl
 exact absurd h (by unfold Pl Qm tl;decide)
theorem Xe {pi le ti mb ff:Mk}(hpi:zP pi)(hle:Ys le)(hti:WL ti)(hmb:MbV mb)(hff:BJ ff):W7 (lJ pi le ti mb ff):=by
 intro h wx wy x y Q E ex ey hl hn ox oy h3 k0 k1
 unfold lJ
 refine jJ rfl (σ:=[Dn wx,Dn wy,FN,FN,FN,FN]) rfl ?_
 rfl'
 refine hff (m:=200) (by decide) ex hn ox (fun e=>?_) fun l e=>?_
 ·rfl'
  refine Q9 ?_
  rfl'
  exact k0 (by unfold s5;rw [e])
 obtain ⟨a,b,c,d,rfl,mr,fx⟩:=Ob e
 have fy:=(wL h3 mr).mp fx
 have li:=dz mr
 have hs5:s5 x y=(rng 0 x.length).findSome? (d5 x y [a,b,c,d]):=by unfold s5;rw [e]
 rw [hs5] at k0 k1
 have px:∀ i∈[a,b,c,d],CP 200 (gt x i):=fun i hi=>(ox _ (bY (li i hi))).2
 have py:∀ i∈[a,b,c,d],CP 200 (gt y i):=fun i hi=>(oy _ (bY (by rw [<-hl];exact li i hi))).2
 rfl'
 refine is_tup ?_
 rfl'
 unfold nF
 rfl'
 refine hpi ex li (by simp) ?_
 rfl'
 refine hti ?_
 rfl'
 refine hmb (p:=gt x a) (q:=gt x b) (r:=gt x c) (s:=gt x d) (px a (by simp)) (px b (by simp)) (px c (by simp)) (px d (by simp)) fx fun M hM=>?_
 rfl'
 refine hpi ey (by rw [<-hl];exact li) (by simp) ?_
 rfl'
 refine hti ?_
 rfl'
 refine hmb (p:=gt y a) (q:=gt y b) (r:=gt y c) (s:=gt y d) (py a (by simp)) (py b (by simp)) (py c (by simp)) (py d (by simp)) fy fun N hN'=>?_
 refine cT (σ':=[Dn wx,Dn wy,Dn (jG [a,b,c,d]),Dn (mw M),Dn (mw N),FN]) rfl (pJ (cC (rz (zE (aH (xr (aH (aP rfl (aX (sI ex (aX (Wj (by lia) (oh ?_)))))))))))))
 refine Xa (v:=fun i:Nat=>W.int (i:Int)) (d5 x y [a,b,c,d]) (fun l=>Q (jG l) h) (fun σ h'=>∃ s1,σ = [Dn wx,Dn wy,Dn (jG [a,b,c,d]),Dn (mw M),Dn (mw N),s1]/\h'=h) (rng 0 x.length) ?_ ?_ ?_ ⟨FN,rfl,rfl⟩
 ·rintro i mi σ h' N' ⟨s1,rfl,rfl⟩ hN hR
  have hi:=(mY.mp mi).2
  have hi':i<y.length:=by lia
  obtain ⟨pxi,sxi⟩:=ox _ (bY hi)
  obtain ⟨pyi,syi⟩:=oy _ (bY hi')
  refine cT (σ':=[Dn wx,Dn wy,Dn (jG [a,b,c,d]),Dn (mw M),Dn (mw N),Dn (.int (i:Int))]) rfl ?_
  refine vL (lE (gB (bF (aH (aP rfl (aH (gB (aP rfl (aP rfl (ex.at hi (aX ?_)))))))))))
  refine hle (m:=1623) (by decide) hM.2.1 (sxi.mono (by decide)) hM.1 (Zx pxi) fun t pt part _=>?_
  refine bF (aH (aP rfl (aH (gB (aP rfl (aP rfl (ey.at hi' (aX ?_))))))))
  refine hle (m:=1623) (by decide) hN'.2.1 (syi.mono (by decide)) hN'.1 (Zx pyi) fun t' pt' part' _=>?_
  have key:=Ly pt pt' ((Ng fx hM).par part) ((Ng fy hN').par part')
  refine VG (OJ (vp (fun ne=>?_) fun ne=>?_))
  ·refine mW (gB (aP rfl (qU (aH (aP rfl (aX (gA rfl ?_)))))))
   refine Fx (by simp) ?_
   exact hR ([a,b,c,d]++[i]) (if_pos (key.mp ne))
  ·exact hN (if_neg fun z=>ne (key.mpr z)) _ _ ⟨_,rfl,rfl⟩
 ·rintro hn σ h' ⟨s1,rfl,rfl⟩
  unfold mV
  rfl'
  exact k0 hn
 ·intro l hy
  exact k1 l hy
def HJ (c0:Mk):Prop:=∀ {h:Gh} {wx wy:W} {x y:List Tr} {Q:WK} {E:Bq},gQ h wx x->gQ h wy y->1<=x.length->x.length<=12->1<=y.length->y.length<=12->Ib 200 x->Ib 200 y->Q (dW (Ah x y)) h->c0 [wx,wy] h Q E
def AmX (c0:Mk):Prop:=∀ {h:Gh} {wx wy:W} {x y:List Tr} {Q:WK} {E:Bq},gQ h wx x->gQ h wy y->x.length=y.length->x.length<=12->Ib 200 x->Ib 200 y->Q (dW (Ah x y)) h->c0 [wx,wy] h Q E
theorem adE {fp fi:Mk}{F0 F1 F2:Addr}(hfp:FpX F0 F1 F2 fp)(hfi:W7 fi):AmX (fP F0 F1 F2 fp fi):=by
 intro h wx wy x y Q E ex ey hl hn ox oy k
 unfold Ah at k
 rw [if_neg (by rw [Pq];exact hl)] at k
 unfold fP
 refine jJ rfl (σ:=[Dn wx,Dn wy,FN,FN,FN,FN]) rfl ?_
 rfl'
 refine hfp.two ex ey hl hn ox oy (fun e2=>?_) fun l e2=>?_
 ·rw [e2] at k
  rfl'
  refine gZ ?_
  rfl'
  refine hfp.three ex ey hl hn ox oy (fun e3=>?_) fun l e3=>?_
  ·rw [e3] at k
   rfl'
   refine gZ ?_
   rfl'
   refine hfp.four ex ey hl hn ox oy e2 (fun e4=>?_) fun l e4=>?_
   ·rw [e4] at k
    rfl'
    refine gZ ?_
    rfl'
    unfold gW
    rfl'
    refine hfi ex ey hl hn ox oy e3 (fun e5=>?_) fun l e5=>?_
    ·rw [e5] at k
     rfl'
     refine Q9 ?_
     rfl'
     exact k
    ·rw [e5] at k
     rfl'
     refine is_tup ?_
     rfl'
     exact k
   ·rw [e4] at k
    rfl'
    refine jZ ?_
    rfl'
    exact k
  ·rw [e3] at k
   rfl'
   refine jZ ?_
   rfl'
   exact k
 ·rw [e2] at k
  rfl'
  refine jZ ?_
  rfl'
  exact k
theorem agx {ch am:Mk}(hch:Fz ch)(ham:AmX am):HJ (Eu ch am):=by
 intro h wx wy x y Q E ex ey hx1 hx2 hy1 hy2 ox oy k
 unfold Eu
 refine jJ rfl (σ:=[Dn wx,Dn wy]) rfl ?_
 rfl'
 refine hch ex (fun _ _=>?_) fun n=>absurd ⟨hx1,hx2⟩ n
 rfl'
 refine hch ey (fun _ _=>?_) fun n=>absurd ⟨hy1,hy2⟩ n
 rfl'
 refine sI ex ?_
 rfl'
 refine sI ey ?_
 rfl'
 refine vp (fun ne=>?_) fun ne=>?_
 ·have e:Ah x y=Dn (("many" : Str),[]):=by unfold Ah;rw [if_pos (by lia)]
  rw [e] at k
  rfl'
  exact k
 ·rfl'
  unfold Cg
  rfl'
  exact ham ex ey (by lia) hx2 ox oy k
def PK (c0:Mk):Prop:=∀ {h:Gh} {M:Mt} {v:Tr} {m n:Nat} {Q:WK} {E:Bq},m+n+2<=8000->JC m M->CP n v->det M≠0->v≠(0,0,0)->(∀ t,Pl t->Ii (vm M v) t->CP (m+n+2) t->Q (tw t) h)->c0 [mw M,tw v] h Q E
def Im (M:Mt)(t u:Tr):Prop:=Pl u/\Ii (vm M t) u
def Pr (M:Mt)(ts us:List Tr):Prop:=us.length=ts.length/\∀ i,i<ts.length->Im M (gt ts i) (gt us i)
theorem ahh {us:List Tr}{u:Tr}{i:Nat}:gt (us++[u]) i=if i<us.length then gt us i else if i=us.length then u else gt (us++[u]) i:=by
 unfold gt
 by_cases h:i<us.length
 ·rw [if_pos h,Oc,Oc,Tt h]
 ·rw [if_neg h]
  by_cases e:i=us.length
  ·subst e
   rw [if_pos rfl,Oc,TX (Ij _)]
   simp
  ·rw [if_neg e]
theorem vM {le:Mk}(hle:PK le){m n0:Nat}{M:Mt}{ts:List Tr}{w:W}{ix:Nat}{σ : Sw}{h:Gh}{Q:WK}{E:Bq}(hx:(σ[ix]?).getD FN=Dn (mw M))(e:gQ h w ts)(hl:ts.length<=100)(hm:m+n0+2<=8000)(hs:Ib n0 ts)(dM:det M≠0)(sM':JC m M)(k:∀ us,Pr M ts us->Ib (m+n0+2) us->Q (.lst (us.map tw)) h) :
  iK (lcK JG [ix] j6 (aL le E (aq (aB 1) (aq (aB 0) aM))) σ Q) w h:=by
 obtain ⟨ev,s,es,ew,go⟩:=e.src
 show (match wW h w with
  | some s=>_
  | none=>False)
 rw [es]
 show mH s.ws.length (rO s _ _ _ _ _ _ s.ws [] h)
 rw [ew]
 refine mH.mk (by rw [Iu];exact Jp hl (by decide)) ?_
 refine M4 (fun i acc h'=>h'=h/\∃ us:List Tr,acc=us.map tw/\us.length=i/\∀ n,n<i->n<ts.length->Im M (gt ts n) (gt us n)/\CP (m+n0+2) (gt us n)) ?_ ?_ ?_ ⟨rfl,[],rfl,rfl,fun n hn=>by lia⟩
 ·rintro i acc h' ⟨rfl,_⟩
  exact go
 ·rintro i w2 acc h' N hN e2 ⟨rfl,us,rfl,ul,ui⟩
  obtain ⟨t,et,rfl⟩:=Cm e2
  have mt:=Pk et
  have hb:vq [ix] σ = [Dn (mw M)]:=by
   show [(σ[ix]?).getD FN]=_
   rw [hx]
  refine ⟨[tw t],rfl,?_⟩
  rw [hb]
  refine Gs (Gx (bF (aH (aP rfl (aH (aP rfl (aX ?_)))))))
  refine hle hm sM' (hs t mt).2 dM (hs t mt).1.ne fun u pu paru su=>?_
  refine hN _ _ ⟨rfl,us++[u],by rw [Tg];rfl,by rw [Oj,ul];rfl,fun n hn hn2=>?_⟩
  rw [ahh,ul]
  by_cases h1:n<i
  ·rw [if_pos h1]
   exact ui n h1 hn2
  ·have h2:n=i:=by lia
   rw [if_neg h1,if_pos h2]
   have:gt ts n=t:=by
    have:=fQ hn2
    rw [h2,et] at this
    rw [h2]
    exact (Ja this).symm
   rw [this]
   exact ⟨⟨pu,paru⟩,su⟩
 ·rintro acc h' ⟨rfl,us,rfl,ul,ui⟩
  rw [Iu] at ul ui
  refine k us ⟨ul,fun n hn=>(ui n hn hn).1⟩ fun t ht=>?_
  obtain ⟨i,hi,e⟩:=Uk.mp ht
  have:=fQ hi
  rw [KY hi,e] at this
  rw [Ja this]
  have:=ui i (by lia) (by lia)
  exact ⟨this.1.1,this.2⟩
def Y7 (c0:Mk):Prop:=∀ {h:Gh} {w:W} {M:Mt} {ts:List Tr} {m n:Nat} {Q:WK} {E:Bq},gQ h w ts->ts.length<=100->m+n+2<=8000->Ib n ts->det M≠0->JC m M->(∀ us:List Tr,Pr M ts us->Q (.lst (us.map tw)) h)->c0 [mw M,w] h Q E
theorem aaF {le:Mk}(hle:PK le):Y7 (jX le):=by
 intro h w M ts m n Q E src hl hm hs dM sM' k
 unfold jX
 refine jJ rfl (σ:=[Dn (mw M),Dn w]) rfl (mW (w6 (qD (aP rfl ?_))))
 exact vM hle (ix:=0) rfl src hl hm hs dM sM' fun us hu _=>Nz (k us hu)
def TlX (c0:Mk):Prop:=∀ {h:Gh} {Q:WK} {E:Bq},Q (.lst [tw e0,tw e1,tw e2]) h->c0 [] h Q E
theorem ahC {ti:Mk}(hti:WL ti):TlX (DP ti):=by
 intro h Q E k
 unfold DP
 refine jJ rfl (σ:=[]) rfl (mW (aae ?_))
 refine hti ?_
 exact Nz k
def jE (p q:Tr):Tr:=(p.1+q.1,p.2.1+q.2.1,p.2.2+q.2.2)
def adn (c0:Mk):Prop:=∀ {h:Gh} {p q:Tr} {m:Nat} {Q:WK} {E:Bq},m<=200->CP m p->CP m q->jE p q≠(0,0,0)->(∀ s,Pl s->Ii (jE p q) s->CP (m+1) s->Q (tw s) h)->c0 [.lst [tw p,tw q]] h Q E
theorem aa1 {pl:Mk}(hpl:xH pl):adn (eE pl):=by
 intro h p q m Q E hm sp sq h0 k
 have sv:CP (m+1) (jE p q):=⟨(sp.1.add sq.1).mono (by lia),(sp.2.1.add sq.2.1).mono (by lia),(sp.2.2.add sq.2.2).mono (by lia)⟩
 unfold eE
 rfl'
 exact hpl.tr (u:=jE p q) (m:=m+1) (.inr (by simp [jE])) h0 sv (by lia) fun t pt part st=>k t pt part st
theorem afp {m:Nat}{P:List Nat->Bool}{l:List Nat}(h:Uw m P=Dn l):l∈CR m 3/\P l=true:=by
 rw [<-Jd] at h
 obtain ⟨u,hu,e⟩:=List.exists_of_findSome?_eq_some h
 unfold pass at e
 split at e
 ·cases e
  rename_i hp
  exact ⟨hu,hp⟩
 ·cases e
def KD (us:List Tr)(L:Tr):Prop:=∃ a b c,LL us=Dn [a,b,c]/\a<b/\b<c/\c<us.length/\dt3 (crs (gt us a) (gt us b)) (gt us c)=0/\Pl L/\Ii (crs (gt us a) (gt us b)) L
def L3Y (c0:Mk):Prop:=∀ {h:Gh} {w:W} {us:List Tr} {m:Nat} {Q:WK} {E:Bq},m<=200->gQ h w us->us.length<=12->Ib m us->us.Nodup->(LL us=FN->Q .non h)->(∀ t,KD us t->CP (m+m+1) t->Q (tw t) h)->c0 [w] h Q E
theorem afX {ol jo ri pi:Mk}(hol:lA ol)(hjo:JoinOk jo)(hri:pB ri)(hpi:zP pi):L3Y (dF ol jo ri pi):=by
 intro h w us m Q E hm e hl hs nd k0 k1
 unfold dF
 refine jJ rfl (σ:=[Dn w,FN,FN]) rfl (cC (rz (qD (bF (aH (xr (aH (aP rfl (aX (sI e ?_))))))))))
 refine aH (uf (aX (hri (m:=us.length) (k:=3) hl (by decide) (MN rfl (oh ?_)))))
 have hff:=Jd us.length (Bw us)
 refine Xa (v:=jG) (pass (Bw us)) (fun l=>∀ a b c t,l=[a,b,c]->Pl t->Ii (crs (gt us a) (gt us b)) t->CP (m+m+1) t->Q (tw t) h) (fun σ h'=>∃ s1 s2,σ = [Dn w,s1,s2]/\h'=h) (CR us.length 3) ?_ ?_ ?_ ⟨FN,FN,rfl,rfl⟩
 ·rintro l ml σ h' N ⟨s1,s2,rfl,rfl⟩ hN hR
  have ll:=cO ml
  have li:=dz ml
  match l,ll with
  | [a,b,c],_=>
   have ga:∀ i∈[a,b,c],Pl (gt us i)/\CP m (gt us i):=fun i hi=>hs _ (bY (li i hi))
   have hab:a<b:=oY (l:=[]) (r:=[c]) ml
   have la:=li a (by simp)
   have lb:=li b (by simp)
   have hne:gt us a≠gt us b:=by
    intro e
    have e1:=fQ la
    have e2:=fQ lb
    rw [e,<-e2] at e1
    exact absurd ((List.getElem?_inj la nd).mp e1) (by lia)
   refine cT (σ':=[Dn w,Dn (jG [a,b,c]),s2]) rfl ?_
   rfl'
   refine hpi e li (by simp) ?_
   rfl'
   refine hol (ts:=[gt us a,gt us b,gt us c]) (M:=m) (.inl rfl) (by simp) (by lia) ?_ ?_
   ·intro t ht
    simp only [K9,NT,or_false] at ht
    rcases ht with rfl | rfl | rfl
    ·exact ga a (by simp)
    ·exact ga b (by simp)
    ·exact ga c (by simp)
   cases hb:mD [gt us a,gt us b,gt us c] with
   | true=>
    rfl'
    refine hjo (p:=gt us a) (q:=gt us b) (m:=m) (by lia) (ga a (by simp)).2 (ga b (by simp)).2 (ga a (by simp)).1 (ga b (by simp)).1 hne fun t pt part st=>?_
    rfl'
    exact hR [a,b,c] (yp hb) a b c t rfl pt part st
   | false=>
    rfl'
    exact hN (yK hb) _ _ ⟨_,_,rfl,rfl⟩
 ·rintro hn σ h' ⟨s1,s2,rfl,rfl⟩
  unfold fV
  rfl'
  exact k0 (hff.symm.trans hn)
 ·intro l hy a b c t el pt part st
  subst el
  have e1:LL us=Dn [a,b,c]:=hff.symm.trans hy
  obtain ⟨m1,m2⟩:=afp e1
  refine k1 t ⟨a,b,c,e1,oY (l:=[]) (r:=[c]) m1,oY (l:=[a]) (r:=[]) m1,dz m1 c (by simp),?_,pt,part⟩ st
  have:=EY (gt us a) (gt us b) (gt us c)
  rw [show mD [gt us a,gt us b,gt us c]=true from m2] at this
  exact of_decide_eq_true this.symm
theorem lcF {vs:List Tr}{ws0:List W}{ix:List Nat}{tt:MT}{σ : Sw}{h:Gh}{Q:WK}(f:Tr->Bool)(ht:∀ t∈vs,∀ (R:Bool->Gh->Prop),R (f t) h->tt ([tw t].map Dn++vq ix σ) h R)(q:Q (.lst ((vs.filter f).map tw)) h):rO ⟨ws0,FN⟩ JG ix tt (aB 0) σ Q (vs.map tw) [] h:=by
 refine vU (fun i acc h'=>h'=h/\acc=((vs.take i).filter f).map tw) ?_ ?_ ⟨rfl,rfl⟩
 ·rintro i w acc h' N hN e ⟨rfl,rfl⟩
  obtain ⟨t,et,rfl⟩:=Cm e
  refine ⟨[tw t],rfl,?_⟩
  refine ht t (Pk et) _ ?_
  have es:∀ b,f t=b->((vs.take (i+1)).filter f).map tw=((vs.take i).filter f).map tw++(if b then [tw t] else []):=fun b hb=>by
   rw [Mw,et,List.filter_append,Tg]
   cases b <;> simp [hb]
  cases hb:f t with
  | true=>exact Gx (aP rfl (hN _ _ ⟨rfl,by rw [es true hb];rfl⟩))
  | false=>exact Rn (hN _ _ ⟨rfl,by rw [es false hb];simp⟩)
 ·rintro acc h' ⟨rfl,rfl⟩
  rw [Iu,Ov]
  exact q
theorem Az {a b L:Tr}(ha:dt3 a L=0)(hb:dt3 b L=0)(hn:crs a b≠(0,0,0)):∃ s t:Int,s≠0/\sc s L=sc t (crs a b):=by
 refine ray hn ?_
 obtain ⟨a1,a2,a3⟩:=a
 obtain ⟨b1,b2,b3⟩:=b
 obtain ⟨l1,l2,l3⟩:=L
 simp only [dt3] at ha hb
 simp only [crs]
 refine JT ?_ (JT ?_ ?_) <;> simp only <;> grind
theorem off_ne {a b o L:Tr}(ha:dt3 a L=0)(hb:dt3 b L=0)(pa:Pl a)(pb:Pl b)(hab:a≠b)(ho:dt3 o L≠0):dt3 (crs a b) o≠0:=by
 intro h
 obtain ⟨s,t,s0,e⟩:=Az ha hb (qH pa pb hab)
 have:=congrArg (fun v=>dt3 v o) e
 simp only [rB,h,Tz] at this
 rw [cQ] at ho
 exact ho ((O5.mp this).resolve_right s0)
theorem vP (n p q:Tr):dt3 n (jE p q)=dt3 n p+dt3 n q:=by
 simp only [dt3,jE]
 grind
theorem zaO {a b c o s L:Tr}(pL:Pl L)(ha:dt3 a L=0)(hb:dt3 b L=0)(hc:dt3 c L=0)(ho:dt3 o L≠0)(pa:Pl a)(pb:Pl b)(pc:Pl c)(hab:a≠b)(hac:a≠c)(hbc:b≠c)(hs:Ii (jE o c) s):Free a b o s/\jE o c≠(0,0,0):=by
 have n1:=off_ne ha hb pa pb hab ho
 have n2:=off_ne ha hc pa pc hac ho
 have n3:=off_ne hb hc pb pc hbc ho
 have z:dt3 (crs a b) c=0:=flat pL.ne (by rw [cQ];exact ha) (by rw [cQ];exact hb) (by rw [cQ];exact hc)
 have sw:∀ p q r:Tr,dt3 (crs p q) r = - dt3 (crs p r) q:=fun p q r=>by
  simp only [dt3,crs]
  grind
 have m1:dt3 (crs a b) (jE o c)≠0:=by rw [vP,z];lia
 have m2:dt3 (crs a o) (jE o c)≠0:=by
  rw [vP,zO,sw a o c]
  lia
 have m3:dt3 (crs b o) (jE o c)≠0:=by
  rw [vP,zO,sw b o c]
  lia
 refine ⟨⟨n1,fun z=>m1 ((pA hs).mpr z),fun z=>m2 ((pA hs).mpr z),fun z=>m3 ((pA hs).mpr z)⟩,fun z=>m1 ?_⟩
 rw [z]
 simp [dt3]
def Px (L t:Tr):Bool:=decide (dt3 t L=0)
def offB (L t:Tr):Bool:=!decide (dt3 t L=0)
def ade (c0:Mk):Prop:=∀ {h:Gh} {us:List Tr} {L a b c o:Tr} {on' off':List Tr} {m:Nat} {Q:WK} {E:Bq},2<=m->m<=200->us.length<=12->Ib m us->Pl L->CP (m+m+1) L->us.filter (Px L)=a::b::c::on'->(us++[e0,e1,e2]).filter (offB L)=o::off'->a≠b->a≠c->b≠c->(∀ s M,Pl s->Ii (jE o c) s->Br a b o s M->JC (8*m+31) M->Q (mw M) h)->c0 [.lst (us.map tw),tw L] h Q E
theorem Wa {m:Nat}(hm:2<=m):∀ t∈[e0,e1,e2],Pl t/\CP m t:=by
 obtain ⟨s0,s1,s2,_⟩:=Gv
 intro t ht
 simp only [K9,NT,or_false] at ht
 rcases ht with rfl | rfl | rfl
 ·exact ⟨by unfold Pl;decide +kernel,s0.mono hm⟩
 ·exact ⟨by unfold Pl;decide +kernel,s1.mono hm⟩
 ·exact ⟨by unfold Pl;decide +kernel,s2.mono hm⟩
theorem ab3 {lo ti mb un bt:Mk}(hlo:Sq lo)(hti:WL ti)(hmb:MbG mb)(hun:TlX un)(hbt:adn bt):ade (fW lo ti mb un bt):=by
 intro h us L a b c o on' off' m Q E h2 hm hl hs pL sL eon eoff hab hac hbc k
 have hon:∀ t∈a::b::c::on',t∈us/\dt3 t L=0:=fun t ht=>by
  rw [<-eon,QF] at ht
  exact ⟨ht.1,of_decide_eq_true ht.2⟩
 have hs':Ib m (us++[e0,e1,e2]):=fun t ht=>by
  rcases Qi.mp ht with ht | ht
  ·exact hs t ht
  ·exact Wa h2 t ht
 have hoff:o∈us++[e0,e1,e2]/\dt3 o L≠0:=by
  have ht:o∈(us++[e0,e1,e2]).filter (offB L):=by rw [eoff];exact Oo
  rw [QF] at ht
  refine ⟨ht.1,?_⟩
  have:=ht.2
  unfold offB at this
  simpa using this
 have ha:=hon a (by simp)
 have hb:=hon b (by simp)
 have hc:=hon c (by simp)
 obtain ⟨pa,sa⟩:=hs a ha.1
 obtain ⟨pb,sb⟩:=hs b hb.1
 obtain ⟨pc,sc'⟩:=hs c hc.1
 obtain ⟨po,so⟩:=hs' o hoff.1
 unfold fW
 refine jJ rfl (σ:=[Dn (.lst (us.map tw)),Dn (tw L),FN,FN]) rfl (cC (gH (w6 (qD (aP rfl (MN (ws:=us.map tw) (o:=FN) rfl ?_))))))
 refine mH.mk (by rw [Iu];exact Jp hl (by decide)) ?_
 refine lcF (Px L) (fun t ht R q=>?_) ?_
 ·refine xY (bF (aH (aP rfl (aH (aP rfl (aX (hlo (m:=m+m+1) (by lia) ((hs t ht).2.mono (by lia)) sL ?_)))))))
  exact Xg rfl q
 rw [eon]
 refine cT (σ':=[Dn (.lst (us.map tw)),Dn (tw L),Dn (.lst ((a::b::c::on').map tw)),FN]) rfl (pJ ?_)
 refine cC (gH (w6 (qD (gB (aP rfl (bF (aX (hun ?_))))))))
 have kadd:∀ {Q':WK},Q' (.lst ((us++[e0,e1,e2]).map tw)) h->cJ (.lst (us.map tw)) (.lst [tw e0,tw e1,tw e2]) h Q':=fun {Q'} x=>by
  refine mH.mk (by rw [Iu];exact Jp (by simp;lia:_<=100) (by decide)) ?_
  rw [Tg] at x
  exact x
 refine kadd (MN (ws:=(us++[e0,e1,e2]).map tw) (o:=FN) rfl ?_)
 refine mH.mk (by rw [Iu,Oj];exact Jp (by simp;lia:_<=100) (by decide)) ?_
 refine lcF (offB L) (fun t ht R q=>?_) ?_
 ·refine Fy (xY (bF (aH (aP rfl (aH (aP rfl (aX (hlo (m:=m+m+1) (by lia) ((hs' t ht).2.mono (by lia)) sL ?_))))))))
  exact Xg rfl q
 rw [eoff]
 refine cT (σ':=[Dn (.lst (us.map tw)),Dn (tw L),Dn (.lst ((a::b::c::on').map tw)),Dn (.lst ((o::off').map tw))]) rfl (pJ ?_)
 have g1:gQ h (.lst ((a::b::c::on').map tw)) (a::b::c::on'):=.inl rfl
 have g2:gQ h (.lst ((o::off').map tw)) (o::off'):=.inl rfl
 have fr:=fun s hp=>zaO (s:=s) pL ha.2 hb.2 hc.2 hoff.2 pa pb pc hab hac hbc hp
 refine mW (bF (aH (CJ (aH (gB (aP rfl (uf ?_)))))))
 refine gQ.at (i:=0) g1 (by simp) ?_
 refine aH (gB (aP rfl (uf ?_)))
 refine gQ.at (i:=1) g1 (by simp) ?_
 refine aH (gB (aP rfl (uf ?_)))
 refine gQ.at (i:=0) g2 (by simp) ?_
 refine aH (bF (aH (CJ (aH (gB (aP rfl (uf ?_)))))))
 refine gQ.at (i:=0) g2 (by simp) ?_
 refine aH (gB (aP rfl (uf ?_)))
 refine gQ.at (i:=2) g1 (by simp) ?_
 refine aX (gA rfl (aX ?_))
 refine hbt (p:=o) (q:=c) hm so sc' (fr (jE o c) (Ii.refl _)).2 fun s pS parS sS=>?_
 refine aX (gA rfl ?_)
 refine aH (bF (aX (hti ?_)))
 refine aX (hmb (p:=a) (q:=b) (r:=o) (s:=s) (m:=m+1) (by lia) (sa.mono (by lia)) (sb.mono (by lia)) (so.mono (by lia)) sS (fr s parS).1 fun M hM bM=>?_)
 exact Nz (k s M pS parS hM (bM.mono (by lia)))
def LnM (ts:List Tr)(M:Mt):Prop:=∃ (L a b c o s:Tr) (on' off':List Tr),KD (Ie ts) L/\(Ie ts).filter (Px L)=a::b::c::on'/\(Ie ts++[e0,e1,e2]).filter (offB L)=o::off'/\Pl s/\Ii (jE o c) s/\Br a b o s M
theorem aeX {l:List Tr}{p q r:Tr}(hp:p∈l)(hq:q∈l)(hr:r∈l)(h1:p≠q)(h2:p≠r)(h3:q≠r):∃ a b c l',l=a::b::c::l':=by
 match l,hp,hq,hr with
 | [],hp,_,_=>exact absurd hp (by simp)
 | [x],hp,hq,_=>
  simp at hp hq
  exact absurd (hp.trans hq.symm) h1
 | [x,y],hp,hq,hr=>
  simp at hp hq hr
  rcases hp with rfl | rfl <;> rcases hq with rfl | rfl <;> rcases hr with rfl | rfl <;> first | exact absurd rfl h1 | exact absurd rfl h2 | exact absurd rfl h3
 | a::b::c::l',_,_,_=>exact ⟨a,b,c,l',rfl⟩
theorem aeT {us:List Tr}{L:Tr}(nd:us.Nodup)(hL:KD us L):∃ a b c on' o off',us.filter (Px L)=a::b::c::on'/\(us++[e0,e1,e2]).filter (offB L)=o::off'/\a≠b/\a≠c/\b≠c:=by
 obtain ⟨i,j,k,e,ij,jk,kl,hz,pL,parL⟩:=hL
 have gn:∀ {i j},i<j->j<us.length->gt us i≠gt us j:=fun {i j} hij hj e=>by
  have q1:=fQ (ts:=us) (i:=i) (by lia)
  have q2:=fQ hj
  rw [e,<-q2] at q1
  exact absurd ((List.getElem?_inj (by lia) nd).mp q1) (by lia)
 have on:∀ {t:Tr},t∈us->dt3 (crs (gt us i) (gt us j)) t=0->t∈us.filter (Px L):=fun {t} ht hd=>by
  rw [QF]
  refine ⟨ht,decide_eq_true ?_⟩
  rw [cQ]
  exact (zU parL).mp hd
 obtain ⟨a,b,c,on',eqn⟩:=aeX (on (bY (i:=i) (by lia)) (Gb _ _)) (on (bY (i:=j) (by lia)) (zO _ _)) (on (bY kl) hz) (gn ij (by lia)) (gn (by lia) kl) (gn jk kl)
 have nf:(us.filter (Px L)).Nodup:=nd.filter _
 rw [eqn] at nf
 simp only [Um,K9,not_or] at nf
 have off:(us++[e0,e1,e2]).filter (offB L)≠[]:=by
  intro z
  have all:∀ t∈[e0,e1,e2],dt3 t L=0:=fun t ht=>by
   by_cases h:dt3 t L=0
   ·exact h
   ·have:t∈(us++[e0,e1,e2]).filter (offB L):=by
     rw [QF]
     refine ⟨Qj _ ht,?_⟩
     unfold offB
     rw [decide_eq_false h]
     rfl
    rw [z] at this
    exact absurd this (by simp)
  refine pL.ne ?_
  have h0:=all e0 (by simp)
  have h1:=all e1 (by simp)
  have h2:=all e2 (by simp)
  obtain ⟨l1,l2,l3⟩:=L
  simp [dt3,e0,e1,e2] at h0 h1 h2
  rw [h0,h1,h2]
 cases q:(us++[e0,e1,e2]).filter (offB L) with
 | nil=>exact absurd q off
 | cons o off'=>exact ⟨a,b,c,on',o,off',eqn,rfl,nf.1.1,nf.1.2.1,nf.2.1.1⟩
def acQ (c0:Mk):Prop:=∀ {h:Gh} {p q r:Tr} {m:Nat} {Q:WK} {E:Bq},m<=200->CP m p->CP m q->CP m r->jE (jE p q) r≠(0,0,0)->(∀ s,Pl s->Ii (jE (jE p q) r) s->CP (m+2) s->Q (tw s) h)->c0 [.lst [tw p,tw q,tw r]] h Q E
theorem aat {pl:Mk}(hpl:xH pl):acQ (eE pl):=by
 intro h p q r m Q E hm sp sq sr h0 k
 have sv:CP (m+2) (jE (jE p q) r):=⟨((sp.1.add sq.1).add sr.1).mono (by lia),((sp.2.1.add sq.2.1).add sr.2.1).mono (by lia),((sp.2.2.add sq.2.2).add sr.2.2).mono (by lia)⟩
 unfold eE
 rfl'
 exact hpl.tr (u:=jE (jE p q) r) (m:=m+2) (.inr (by simp [jE,Int.add_assoc])) h0 sv (by lia) fun t pt part st=>k t pt part st
def gM (acc:List Tr)(u:Tr):List Tr:=match acc with
 | [a]=>if u≠a then [a,u] else [a]
 | [a,b]=>if dt3 (crs a b) u≠0 then [a,b,u] else [a,b]
 | acc=>acc
def fill (us:List Tr):List Tr:=[e0,e1,e2].foldl gM us
theorem Q6 {a b:Tr}(pa:Pl a)(pb:Pl b)(ne:a≠b):crs a b≠(0,0,0):=fun e=>ne (pQ pa pb e)
theorem abm (v:Tr):dt3 v e0=v.1:=by simp [dt3,e0]
theorem Zi (v:Tr):dt3 v e1=v.2.1:=by simp [dt3,e1]
theorem W6 (v:Tr):dt3 v e2=v.2.2:=by simp [dt3,e2]
theorem XH {a b:Tr}(pa:Pl a)(pb:Pl b)(ne:a≠b):∃ c,fill [a,b]=[a,b,c]/\dt3 (crs a b) c≠0/\(c=e0\/c=e1\/c=e2):=by
 have h:=Q6 pa pb ne
 show ∃ c,gM (gM (gM [a,b] e0) e1) e2=[a,b,c]/\_
 by_cases h0:dt3 (crs a b) e0=0
 ·by_cases h1:dt3 (crs a b) e1=0
  ·have h2:dt3 (crs a b) e2≠0:=fun h2=>h (by
    rw [abm] at h0
    rw [Zi] at h1
    rw [W6] at h2
    exact JT h0 (JT h1 h2))
   exact ⟨e2,by simp [gM,h0,h1,h2],h2,.inr (.inr rfl)⟩
  ·exact ⟨e1,by simp [gM,h0,h1],h1,.inr (.inl rfl)⟩
 ·exact ⟨e0,by simp [gM,h0],h0,.inl rfl⟩
theorem zaT {us:List Tr}{u:Tr}(h1:1<=us.length)(h3:us.length<=3):1<=(gM us u).length/\(gM us u).length<=3:=by
 match us,h1,h3 with
 | [a],_,_=>unfold gM;dsimp only;split <;> simp
 | [a,b],_,_=>unfold gM;dsimp only;split <;> simp
 | [a,b,c],_,_=>simp [gM]
theorem afb {us:List Tr}{u t:Tr}(h:t∈gM us u):t∈us\/t=u:=by
 unfold gM at h
 split at h
 ·split at h
  ·simp at h;rcases h with h | h
   ·exact .inl (by simp [h])
   ·exact .inr h
  ·exact .inl h
 ·split at h
  ·simp at h;rcases h with h | h | h
   ·exact .inl (by simp [h])
   ·exact .inl (by simp [h])
   ·exact .inr h
  ·exact .inl h
 ·exact .inl h
def ac7 (c0:Mk):Prop:=∀ {h:Gh} {us:List Tr} {m:Nat} {Q:WK} {E:Bq},2<=m->m<=200->1<=us.length->us.length<=3->Ib m us->Q (.lst ((fill us).map tw)) h->c0 [.lst (us.map tw)] h Q E
theorem afE {us:List W}{h:Gh}{Q:WK}(k:∀ g:Gh,g.c h.nx=Dn (.lst us)->(∀ m,m≠h.nx->g.c m=h.c m)->g.nx=h.nx+1->Q (.loc h.nx) g):G9 [.lst us] h Q:=k _ (DW _ _) (fun _ e=>xQ e) rfl
theorem XD {L:Nat}{t:Tr}:Lo L (tw t):=by
 show Lo L (.tup [.int t.1,.int t.2.1,.int t.2.2])
 simp only [Lo,Kr,and_self]
theorem Rv {L:Nat}:∀ ts:List Tr,Kr L (ts.map tw)
 | []=>by simp only [List.map_nil,Kr]
 | t::ts=>by
  rw [Nh,Kr]
  exact ⟨XD,Rv ts⟩
theorem X8 {h:Gh}{n:Nat}{us:List W}{w:W}{Q:WK}(e:h.c n=Dn (.lst us))(hz:us.length<=900)(k:∀ g:Gh,g.c n=Dn (.lst (us++[w]))->(∀ m,m≠n->g.c m=h.c m)->g.nx=h.nx->Q .non g):jB (.loc n) [w] h Q:=
 Rb e (Tj hz (by rw [sizeLine_eq];decide)) (k _ (tY _ _ _) (fun _ e=>vO e) rfl)
theorem acr {a us:List W}{n:Nat}{h:Gh}{Q:WK}(e:h.c n=Dn (.lst us))(hz:us.length+a.length<=1000)(k:Q (.lst (us++a)) h):cJ (.loc n) (.lst a) h Q:=by
 have t:V9 h (.loc n)=Dn us:=by simp only [V9,e]
 unfold cJ
 dsimp only
 rw [t]
 exact mH.mk (Jp hz (by decide:1000<=Ig)) k
theorem zbh {ol un:Mk}(hol:lA ol)(hun:TlX un):ac7 (o8 ol un):=by
 intro h us m Q E h2 hm l1 l3 hs q
 unfold o8
 rfl'
 refine afE fun g gc go gn=>?_
 rfl'
 refine hun ?_
 refine MN rfl (oh ?_)
 have oke:∀ t∈[e0,e1,e2],Pl t/\CP m t:=Wa h2
 refine rD (fun i σ h'=>∃ a2 acc,σ = [Dn (.lst (us.map tw)),Dn (.loc h.nx),a2]/\acc=([e0,e1,e2].take i).foldl gM us/\1<=acc.length/\acc.length<=3/\Ib m acc/\h'.c h.nx=Dn (.lst (acc.map tw))/\∀ m,m<h.nx->h'.c m=h.c m) ?_ ?_ ⟨FN,us,rfl,rfl,l1,l3,hs,gc,fun m hm=>go m (KQ hm)⟩
 ·rintro i w σ h1 N hN ew ⟨a2,acc,rfl,ea,n1,n3,ok,c1,o1⟩
  have ew':([e0,e1,e2].map tw)[i]?=Dn w:=ew
  rw [ML] at ew'
  obtain ⟨u,eu,rfl⟩:=Option.map_eq_some_iff.mp ew'
  have pu:=oke u (Pk eu)
  have nxt:∀ h2:Gh,h2.c h.nx=Dn (.lst ((gM acc u).map tw))->(∀ m,m<h.nx->h2.c m=h.c m)->N [Dn (.lst (us.map tw)),Dn (.loc h.nx),Dn (tw u)] h2:=fun h2 c2 o2=>by
   obtain ⟨m1,m3⟩:=zaT (u:=u) n1 n3
   refine hN _ _ ⟨_,gM acc u,rfl,?_,m1,m3,fun t ht=>?_,c2,o2⟩
   ·rw [Mw,eu,List.foldl_append,<-ea];rfl
   ·rcases afb ht with ht | rfl
    ·exact ok t ht
    ·exact pu
  match acc,n1,n3,c1,nxt,ok with
  | [a],_,_,c1,nxt,ok=>
   rfl'
   refine qb (fL c1) ?_
   rfl'
   refine QV (by simp) ?_
   rfl'
   refine vp (fun ne=>?_) (fun eq=>?_)
   ·rfl'
    refine vI (Bk ?_)
    rfl'
    refine wB c1 ?_
    rfl'
    refine X8 c1 (by simp) fun h2 c2 o2 _=>?_
    refine nxt h2 ?_ fun m hm=>(o2 m (KQ hm)).trans (o1 m hm)
    rw [c2]
    simp only [gM]
    rw [if_pos (by simpa using ne)]
    rfl
   ·rfl'
    refine qb (fL c1) ?_
    rfl'
    refine wN (by simp) ?_
    rfl'
    refine nxt h1 ?_ o1
    rw [c1]
    simp only [gM]
    rw [if_neg (by simpa using eq)]
  | [a,b],_,_,c1,nxt,ok=>
   rfl'
   refine qb (fL c1) ?_
   rfl'
   refine wN (by simp) ?_
   rfl'
   refine qb (fL c1) ?_
   rfl'
   refine QV (by simp) ?_
   rfl'
   refine acr c1 (by simp) ?_
   rfl'
   refine hol (ts:=[a,b,u]) (M:=m) (.inl rfl) (by simp) (by lia) (fun t ht=>?_) ?_
   ·simp only [K9,NT,or_false] at ht
    rcases ht with rfl | rfl | rfl
    ·exact ok _ (by simp)
    ·exact ok _ (by simp)
    ·exact pu
   rw [EY]
   rfl'
   by_cases z:dt3 (crs a b) u=0
   ·refine wN (by simp [z]) ?_
    rfl'
    refine nxt h1 ?_ o1
    rw [c1]
    simp only [gM]
    rw [if_neg (by simpa using z)]
   ·refine QV (by simp [z]) ?_
    rfl'
    refine vI (Bk ?_)
    rfl'
    refine wB c1 ?_
    rfl'
    refine X8 c1 (by simp) fun h2 c2 o2 _=>?_
    refine nxt h2 ?_ fun m hm=>(o2 m (KQ hm)).trans (o1 m hm)
    rw [c2]
    simp only [gM]
    rw [if_pos z]
    rfl
  | [a,b,c],_,_,c1,nxt,ok=>
   rfl'
   refine qb (fL c1) ?_
   rfl'
   refine wN (by simp) ?_
   rfl'
   refine qb (fL c1) ?_
   rfl'
   refine wN (by simp) ?_
   rfl'
   refine nxt h1 ?_ o1
   rw [c1]
   rfl
 ·rintro σ h1 ⟨a2,acc,rfl,ea,n1,n3,ok,c1,o1⟩
  rfl'
  unfold rm
  rfl'
  exact ⟨fun m c hm e=>(o1 m hm).trans e,.inr ⟨_,_,rfl,Ij _,c1,Rv _,by rw [ea];exact q⟩⟩
theorem Xq {a:Tr}(pa:Pl a):∃ b c,fill [a]=[a,b,c]/\dt3 (crs a b) c≠0/\(b=e0\/b=e1)/\(c=e1\/c=e2):=by
 have p0:Pl e0:=(Wa (Ij 2) e0 (by simp)).1
 show ∃ b c,gM (gM (gM [a] e0) e1) e2=[a,b,c]/\_
 by_cases h0:e0=a
 ·subst h0
  exact ⟨e1,e2,by decide,by decide,.inr rfl,.inr rfl⟩
 ·have h:=Q6 pa p0 (N8 h0)
  have z0:(crs a e0).1=0:=by simp [crs,e0]
  by_cases h1:dt3 (crs a e0) e1=0
  ·have h2:dt3 (crs a e0) e2≠0:=fun h2=>h (by
    rw [Zi] at h1
    rw [W6] at h2
    exact JT z0 (JT h1 h2))
   exact ⟨e0,e2,by simp [gM,h0,h1,h2],h2,.inl rfl,.inr rfl⟩
  ·exact ⟨e0,e1,by simp [gM,h0,h1],h1,.inl rfl,.inl rfl⟩
def Few (us:List Tr):Prop:=us.Nodup/\1<=us.length/\us.length<=3/\∀ a b c,us=[a,b,c]->dt3 (crs a b) c≠0
theorem K7 {us:List Tr}{m:Nat}(h2:2<=m)(hf:Few us)(hp:Ib m us):∃ a b c,fill us=[a,b,c]/\dt3 (crs a b) c≠0/\us=[a,b,c].take us.length/\Ib m [a,b,c]:=by
 have eo:∀ t,t=e0\/t=e1\/t=e2->Pl t/\CP m t:=fun t ht=>Wa h2 t (by rcases ht with rfl | rfl | rfl <;> simp)
 obtain ⟨nd,l1,l3,hd⟩:=hf
 match us,l1,l3,nd,hp,hd with
 | [a],_,_,_,hp,_=>
  obtain ⟨b,c,e,d,hb,hc⟩:=Xq (hp a (by simp)).1
  refine ⟨a,b,c,e,d,rfl,fun t ht=>?_⟩
  simp only [K9,NT,or_false] at ht
  rcases ht with rfl | rfl | rfl
  ·exact hp _ (by simp)
  ·exact eo _ (by rcases hb with rfl | rfl <;> simp)
  ·exact eo _ (by rcases hc with rfl | rfl <;> simp)
 | [a,b],_,_,nd,hp,_=>
  have ne:a≠b:=by simpa using nd
  obtain ⟨c,e,d,hc⟩:=XH (hp a (by simp)).1 (hp b (by simp)).1 ne
  refine ⟨a,b,c,e,d,rfl,fun t ht=>?_⟩
  simp only [K9,NT,or_false] at ht
  rcases ht with rfl | rfl | rfl
  ·exact hp _ (by simp)
  ·exact hp _ (by simp)
  ·exact eo _ hc
 | [a,b,c],_,_,_,hp,hd=>exact ⟨a,b,c,rfl,hd a b c rfl,rfl,hp⟩
theorem G4 {a b c s:Tr}(d:dt3 (crs a b) c≠0)(hs:Ii (jE (jE a b) c) s):Free a b c s/\jE (jE a b) c≠(0,0,0):=by
 have m1:dt3 (crs a b) (jE (jE a b) c)=dt3 (crs a b) c:=by simp only [dt3,crs,jE];grind
 have m2:dt3 (crs a c) (jE (jE a b) c) = - dt3 (crs a b) c:=by simp only [dt3,crs,jE];grind
 have m3:dt3 (crs b c) (jE (jE a b) c)=dt3 (crs a b) c:=by simp only [dt3,crs,jE];grind
 refine ⟨⟨d,fun z=>?_,fun z=>?_,fun z=>?_⟩,fun z=>?_⟩
 ·have:=(pA hs).mpr z;rw [m1] at this;exact d this
 ·have:=(pA hs).mpr z;rw [m2] at this;lia
 ·have:=(pA hs).mpr z;rw [m3] at this;exact d this
 ·rw [z] at m1
  refine d (m1.symm.trans ?_)
  simp [dt3]
def FwM (us:List Tr)(M:Mt):Prop:=∃ a b c s,fill us=[a,b,c]/\Pl s/\Ii (jE (jE a b) c) s/\Br a b c s M
def acJ (c0:Mk):Prop:=∀ {h:Gh} {us:List Tr} {m:Nat} {Q:WK} {E:Bq},2<=m->m<=200->Few us->Ib m us->(∀ M,FwM us M->JC (8*m+39) M->Q (mw M) h)->c0 [.lst (us.map tw)] h Q E
theorem aa7 {ti mb bt fi:Mk}(hti:WL ti)(hmb:MbG mb)(hbt:acQ bt)(hfi:ac7 fi):acJ (gR ti mb bt fi):=by
 intro h us m Q E h2 hm hf hs k
 obtain ⟨a,b,c,e,d,et,ok⟩:=K7 h2 hf hs
 obtain ⟨pa,sa⟩:=ok a (by simp)
 obtain ⟨pb,sb⟩:=ok b (by simp)
 obtain ⟨pc,sc'⟩:=ok c (by simp)
 unfold gR
 rfl'
 refine hfi h2 hm hf.2.1 hf.2.2.1 hs ?_
 rw [e]
 rfl'
 refine hbt hm sa sb sc' (G4 d (Ii.refl _)).2 fun s ps par ss=>?_
 rfl'
 refine hti ?_
 rfl'
 refine hmb (p:=a) (q:=b) (r:=c) (s:=s) (m:=m+2) (by lia) (sa.mono (by lia)) (sb.mono (by lia)) (sc'.mono (by lia)) ss (G4 d par).1 fun M hM bM=>?_
 exact k M ⟨a,b,c,s,e,ps,par,hM⟩ (bM.mono (by lia))
def fresh (ts:List Tr)(i:Nat):Bool:=(O9 i).all fun j=>decide (gt ts j≠gt ts i)
def fp (ts:List Tr):List Nat:=(O9 ts.length).filter (fresh ts)
theorem GJ {ts:List Tr}{t:Tr}(h:t∈ts):∃ i,i<ts.length/\gt ts i=t:=by
 obtain ⟨i,hi,e⟩:=Uk.mp h
 have:=fQ hi
 rw [KY hi,e] at this
 exact ⟨i,hi,(Ja this).symm⟩
theorem Wb {α : Type}{l:List α}{i:Nat}{x:α}(e:l[i]?=Dn x):l.take (i+1)=l.take i++[x]:=by rw [Mw,e];rfl
theorem Hj (ts:List Tr):∀ n,n<=ts.length->Ie (ts.take n)=((O9 n).filter (fresh ts)).map (gt ts)
 | 0,_=>rfl
 | n+1,h=>by
  have key:gt ts n∈Ie (ts.take n)↔fresh ts n=false:=by
   rw [(j8 _).2.1]
   unfold fresh
   rw [List.all_eq_false]
   constructor
   ·intro m
    obtain ⟨j,hj,e⟩:=Uk.mp m
    rw [Uz] at hj
    rw [List.getElem_take] at e
    refine ⟨j,QD.mpr (by lia),?_⟩
    have q:=fQ (ts:=ts) (i:=j) (by lia)
    rw [KY (by lia),e] at q
    simp [(Ja q).symm]
   ·rintro ⟨j,hj,e⟩
    have hj:=QD.mp hj
    have e:gt ts j=gt ts n:=by simpa using e
    rw [<-e]
    refine Pk (i:=j) ?_
    rw [List.getElem?_take_of_lt hj]
    exact fQ (by lia)
  rw [Wb (fQ (ts:=ts) (i:=n) (by lia)),zp,List.range_succ,List.filter_append,Tg,<-Hj ts n (by lia)]
  cases c:fresh ts n with
  | false=>rw [if_pos (key.mpr c)];simp [c]
  | true=>rw [if_neg fun m=>by rw [key.mp m] at c;cases c];simp [c]
theorem sZ (ts:List Tr):Ie ts=(fp ts).map (gt ts):=by
 have:=Hj ts ts.length (Ij _)
 rwa [Ov] at this
theorem abS {F:Nat->Nat->Nat->Nat->Prop}(s12:∀ {i j k l},F i j k l->F j i k l)(s23:∀ {i j k l},F i j k l->F i k j l)(s34:∀ {i j k l},F i j k l->F i j l k)(ne:∀ {i j k l},F i j k l->i≠j)(key:∀ {i j k l},i<j->j<k->k<l->¬ F i j k l):∀ {i j k l},¬ F i j k l:=by
 have ne23:∀ {i j k l},F i j k l->j≠k:=fun f=>ne (s23 (s12 f))
 have ne34:∀ {i j k l},F i j k l->k≠l:=fun f=>ne23 (s34 (s23 f))
 have h3:∀ {i j k l},i<j->j<k->¬ F i j k l:=fun {i j k l} a b f=>by
  rcases Ut (ne34 f) with c | c
  ·exact key a b c f
  have f:=s34 f
  rcases Ut (ne23 f) with d | d
  ·exact key a d c f
  have f:=s23 f
  rcases Ut (ne f) with e | e
  ·exact key e d b f
  ·exact key e a b (s12 f)
 have h2:∀ {i j k l},i<j->¬ F i j k l:=fun {i j k l} a f=>by
  rcases Ut (ne23 f) with c | c
  ·exact h3 a c f
  have f:=s23 f
  rcases Ut (ne f) with e | e
  ·exact h3 e c f
  ·exact h3 e a (s12 f)
 intro i j k l f
 rcases Ut (ne f) with c | c
 ·exact h2 c f
 ·exact h2 c (s12 f)
theorem d12 (p q r:Tr):dt3 (crs q p) r = - dt3 (crs p q) r:=by simp only [dt3,crs];grind
theorem d23 (p q r:Tr):dt3 (crs p r) q = - dt3 (crs p q) r:=by simp only [dt3,crs];grind
theorem n12 {p q r:Tr}(h:dt3 (crs p q) r≠0):dt3 (crs q p) r≠0:=by rw [d12];lia
theorem n23 {p q r:Tr}(h:dt3 (crs p q) r≠0):dt3 (crs p r) q≠0:=by rw [d23];lia
theorem KZ {x:List Tr}(h:FF x=FN){p q r s:Tr}(hp:p∈x)(hq:q∈x)(hr:r∈x)(hs:s∈x):¬ Free p q r s:=by
 obtain ⟨i,hi,rfl⟩:=GJ hp
 obtain ⟨j,hj,rfl⟩:=GJ hq
 obtain ⟨k,hk,rfl⟩:=GJ hr
 obtain ⟨l,hl,rfl⟩:=GJ hs
 refine fun f=>abS (F:=fun i j k l=>i<x.length/\j<x.length/\k<x.length/\l<x.length/\Free (gt x i) (gt x j) (gt x k) (gt x l)) ?_ ?_ ?_ ?_ ?_ ⟨hi,hj,hk,hl,f⟩
 ·rintro i j k l ⟨a,b,c,d,f1,f2,f3,f4⟩
  exact ⟨b,a,c,d,n12 f1,n12 f2,f4,f3⟩
 ·rintro i j k l ⟨a,b,c,d,f1,f2,f3,f4⟩
  exact ⟨a,c,b,d,n23 f1,f3,f2,n12 f4⟩
 ·rintro i j k l ⟨a,b,c,d,f1,f2,f3,f4⟩
  exact ⟨a,b,d,c,f2,f1,n23 f3,n23 f4⟩
 ·rintro i j k l ⟨a,b,c,d,f1,f2,f3,f4⟩ rfl
  refine f1 ?_
  simp only [dt3,crs]
  grind
 ·rintro i j k l a b c ⟨_,_,_,d,f⟩
  unfold FF at h
  rw [<-Lq] at h
  have:=qd h _ (qP (l:=[i,j,k]) (FW a b (by lia)) (show k+1<=l by lia) d)
  have:rQ (gt x i) (gt x j) (gt x k) (gt x l)=false:=this
  rw [vG f] at this
  cases this
theorem wQ {us:List Tr}(h:LL us=FN){i j k:Nat}(a:i<j)(b:j<k)(c:k<us.length):dt3 (crs (gt us i) (gt us j)) (gt us k)≠0:=fun z=>by
 unfold LL at h
 rw [<-Jd] at h
 have:=qd h _ (FW a b c)
 have:mD [gt us i,gt us j,gt us k]=false:=this
 rw [EY,decide_eq_true z] at this
 cases this
theorem KJ {ts:List Tr}(l1:1<=ts.length)(h:FF ts=FN)(h':LL (Ie ts)=FN):Few (Ie ts):=by
 obtain ⟨u1,u2,u3⟩:=j8 ts
 have g:∀ i,i<(Ie ts).length->gt (Ie ts) i∈ts:=fun i hi=>(u2 _).mp (bY hi)
 refine ⟨u1,?_,?_,fun a b c e=>?_⟩
 ·exact List.length_pos_of_mem ((u2 _).mpr (bY (i:=0) l1))
 ·refine Nat.le_of_not_lt fun c=>?_
  exact KZ h (g 0 (by lia)) (g 1 (by lia)) (g 2 (by lia)) (g 3 (by lia)) ⟨wQ h' (by decide) (by decide) (by lia),wQ h' (by decide) (by decide) (by lia),wQ h' (by decide) (by decide) (by lia),wQ h' (by decide) (by decide) (by lia)⟩
 ·have:=wQ h' (i:=0) (j:=1) (k:=2) (by decide) (by decide) (by rw [e];simp)
  rw [e] at this
  exact this
def Td (ts:List Tr)(M:Mt):Prop:=det M≠0/\((∃ a b c d,FF ts=Dn [a,b,c,d]/\Br (gt ts a) (gt ts b) (gt ts c) (gt ts d) M)\/(FF ts=FN/\LL (Ie ts)≠FN/\LnM ts M)\/(FF ts=FN/\LL (Ie ts)=FN/\FwM (Ie ts) M))
def PN (c0:Mk):Prop:=∀ {h:Gh} {w:W} {ts:List Tr} {m:Nat} {Q:WK} {E:Bq},2<=m->m<=200->NP h w ts->1<=ts.length->ts.length<=12->Ib m ts->(∀ M,Td ts M->JC (8*m+39) M->Q (mw M) h)->c0 [w] h Q E
theorem Vz {pi ti mb ch ff un l3 ll lf:Mk}(hpi:zP pi)(hti:WL ti)(hmb:MbG mb)(hch:Fz ch)(hff:BJ ff)(hun:UnX un)(hl3:L3Y l3)(hll:ade ll)(hlf:acJ lf):PN (uP pi ti mb ch ff un l3 ll lf):=by
 intro h w ts m Q E h2 hm sN l1 l2 hs k
 have src:=sN.t
 obtain ⟨u1,u2,u3⟩:=j8 ts
 have hs':Ib m (Ie ts):=fun t ht=>hs t ((u2 t).mp ht)
 unfold uP
 refine jJ rfl (σ:=[Dn w,FN,FN,FN]) rfl ?_
 rfl'
 refine hch src (fun _ _=>?_) fun z=>absurd ⟨l1,l2⟩ z
 rfl'
 refine hff (m:=m) (by lia) src l2 hs (fun e=>?_) fun l e=>?_
 ·rfl'
  refine gZ ?_
  rfl'
  unfold vR
  rfl'
  refine hun sN (by lia) ?_
  rfl'
  refine hl3 hm (.inl rfl) (by lia) hs' u1 (fun e'=>?_) fun L hL sL=>?_
  ·rfl'
   refine gZ ?_
   rfl'
   unfold wD
   rfl'
   exact hlf h2 hm (KJ l1 e e') hs' fun M hM bM=>k M ⟨by obtain ⟨_,_,_,_,_,_,_,l⟩:=hM;exact l.1,.inr (.inr ⟨e,e',hM⟩)⟩ bM
  ·obtain ⟨a,b,c,on',o,off',e1,e2',h1,h3,h4⟩:=aeT u1 hL
   have hne:LL (Ie ts)≠FN:=by obtain ⟨_,_,_,q,_⟩:=hL;rw [q];exact fun z=>nomatch z
   rfl'
   refine jZ ?_
   rfl'
   refine hll h2 hm (by lia) hs' (by obtain ⟨_,_,_,_,_,_,_,_,p,_⟩:=hL;exact p) sL e1 e2' h1 h3 h4 fun s M pS parS hM bM=>?_
   rfl'
   exact k M ⟨hM.1,.inr (.inl ⟨e,hne,L,a,b,c,o,s,on',off',hL,e1,e2',pS,parS,hM⟩)⟩ (bM.mono (by lia))
 ·obtain ⟨a,b,c,d,rfl,mr,fx⟩:=Ob e
  have hi:=dz mr
  have ga:∀ i∈[a,b,c,d],CP m (gt ts i):=fun i h=>(hs _ (bY (hi i h))).2
  refine cT (σ':=[Dn w,Dn (jG [a,b,c,d]),FN,FN]) rfl (pJ (cC (vL (lE (gB (aP rfl (uf (jZ (OJ (Vw ?_))))))))))
  rfl'
  refine hpi src hi (by simp) ?_
  rfl'
  refine hti ?_
  rfl'
  refine hmb (p:=gt ts a) (q:=gt ts b) (r:=gt ts c) (s:=gt ts d) (m:=m) (by lia) (ga a (by simp)) (ga b (by simp)) (ga c (by simp)) (ga d (by simp)) fx fun M hM bM=>?_
  rfl'
  exact k M ⟨hM.1,.inl ⟨a,b,c,d,e,hM⟩⟩ (bM.mono (by lia))
def FormA (c0:Mk):Prop:=∀ {h:Gh} {w:W} {ts:List Tr} {m:Nat} {Q:WK} {E:Bq},2<=m->m<=200->NP h w ts->1<=ts.length->ts.length<=12->Ib m ts->(∀ (M:Mt) (us:List Tr),Td ts M->Pr M ts us->Q (.tup [.str (kd ts),.lst (us.map tw)]) h)->c0 [w] h Q E
theorem Wx {ko le lp:Mk}(hko:Yn ko)(hle:PN le)(hlp:Y7 lp):FormA (Jo ko le lp):=by
 intro h w ts m Q E h2 hm sN l1 l2 hs k
 unfold Jo
 refine jJ rfl (σ:=[Dn w]) rfl ?_
 rfl'
 refine hko (m:=m) (by lia) sN hs (fun _ _=>?_) fun z=>absurd ⟨l1,l2⟩ z
 rfl'
 refine hle h2 hm sN l1 l2 hs fun M hM bM=>?_
 rfl'
 refine hlp (m:=8*m+39) (n:=m) sN.t (by lia) (by lia) hs hM.1 bM fun us hu=>?_
 rfl'
 exact k M us hM hu
def Thn (A B M:Mt):Prop:=∃ N,IK (adj B) N/\IK (mm N A) M
def Ol (c0:Mk):Prop:=∀ {h:Gh} {A B:Mt} {m n:Nat} {Q:WK} {E:Bq},m+n+2<=8000->JC m A->JC n B->det A≠0->det B≠0->(∀ M,PlM M->IK (mm B A) M->JC (m+n+2) M->Q (mw M) h)->c0 [mw A,mw B] h Q E
def acP (c0:Mk):Prop:=∀ {h:Gh} {wx wy:W} {x y:List Tr} {m n:Nat} {Q:WK} {E:Bq},2<=m->2<=n->m<=200->n<=200->NP h wx x->NP h wy y->1<=x.length->x.length<=12->1<=y.length->y.length<=12->Ib m x->Ib n y->Ah x y=FN ->
 (∀ A B M,Td x A->Td y B->Thn A B M->det M≠0->JC (8*m+16*n+120) M->Q (mw M) h)->c0 [wx,wy] h Q E
theorem aao {th ba le ap:Mk}(hth:Ol th)(hba:Hh ba)(hle:PN le)(hap:HJ ap):acP (zm th ba le ap):=by
 intro h wx wy x y m n Q E m2 n2 hm hn sx sy x1 x2 y1 y2 ox oy e k
 unfold zm
 refine jJ rfl (σ:=[Dn wx,Dn wy,FN]) rfl ?_
 rfl'
 refine hap sx.t sy.t x1 x2 y1 y2 (fun t ht=>⟨(ox t ht).1,(ox t ht).2.mono hm⟩) (fun t ht=>⟨(oy t ht).1,(oy t ht).2.mono hn⟩) ?_
 rw [e]
 show JI 2 .non _ _ _
 rfl'
 refine gZ ?_
 rfl'
 unfold yI
 rfl'
 refine hle m2 hm sx x1 x2 ox fun A hA bA=>?_
 rfl'
 refine hle n2 hn sy y1 y2 oy fun B hB bB=>?_
 rfl'
 refine hba (by lia) bB hB.1 fun N _ parN bN=>?_
 have dN:det N≠0:=parN.det.mp (rT hB.1)
 rfl'
 refine hth (by lia) bA bN hA.1 dN fun M _ parM bM=>?_
 have dM:det M≠0:=parM.det.mp (by rw [wO];exact J5 dN hA.1)
 rfl'
 exact k A B M hA hB ⟨N,parN,parM⟩ dM (bM.mono (by lia))
structure Eqv (x y:List Tr) (M:Mt):Prop where
 len:x.length=y.length
 d:det M≠0
 im:∀ i,i<x.length->Ii (vm M (gt x i)) (gt y i)
theorem all_none {P:List Nat->Bool}{ls:List (List Nat)}(h:∀ l∈ls,P l=false):ls.findSome? (pass P)=FN:=Vg.mpr fun l hl=>yK (h l hl)
theorem agf {M:Mt}{p q r p' q' r':Tr}(dM:det M≠0)(hp:Ii (vm M p) p')(hq:Ii (vm M q) q')(hr:Ii (vm M r) r'):dt3 (crs p q) r=0↔dt3 (crs p' q') r'=0:=by
 obtain ⟨a,a0,ea⟩:=hp
 obtain ⟨b,b0,eb⟩:=hq
 obtain ⟨c,c0,ec⟩:=hr
 have:=Hi M p q r
 rw [ea,eb,ec,mZ,rB,kY] at this
 constructor
 ·intro z
  rw [z,TK] at this
  exact (O5.mp ((O5.mp this).resolve_right (J5 a0 b0))).resolve_right c0
 ·intro z
  rw [z,Tz,Tz] at this
  exact (O5.mp this.symm).resolve_left dM
theorem Kv {M:Mt}{p q p' q':Tr}(dM:det M≠0)(pp:Pl p)(pq:Pl q)(pp':Pl p')(pq':Pl q')(hp:Ii (vm M p) p')(hq:Ii (vm M q) q'):p=q↔p'=q':=by
 constructor
 ·rintro rfl
  exact Bh pp' pq' hp hq
 ·rintro rfl
  obtain ⟨a,a0,ea⟩:=hp
  obtain ⟨b,b0,eb⟩:=hq
  have z:=yH M p q
  rw [ea,eb,mZ,show crs p' p'=(0,0,0) by simp only [crs,T8];exact ⟨by grind,by grind,by grind⟩] at z
  refine pQ pp pq (Vh fun c=>Dz (Wh dM) c ?_)
  rw [<-z]
  simp [sc]
theorem ZX {X Y:Tr}(h:crs X Y=(0,0,0))(i:Int):sc (co i X) Y=sc (co i Y) X:=by
 obtain ⟨x1,x2,x3⟩:=X
 obtain ⟨y1,y2,y3⟩:=Y
 simp only [crs,T8] at h
 obtain ⟨h1,h2,h3⟩:=h
 unfold co sc
 refine JT ?_ (JT ?_ ?_) <;> dsimp only <;> split <;> (try split) <;> grind
theorem ahd (u v a b:Tr):crs (crs u v) (crs a b)=(dt3 (crs u v) b*a.1 - dt3 (crs u v) a*b.1,dt3 (crs u v) b*a.2.1 - dt3 (crs u v) a*b.2.1,dt3 (crs u v) b*a.2.2 - dt3 (crs u v) a*b.2.2):=by
 simp only [crs,dt3,T8]
 exact ⟨by grind,by grind,by grind⟩
theorem K6 {u v a b:Tr}(h1:dt3 (crs u v) a=0)(h2:dt3 (crs u v) b=0)(i:Int):sc (co i (crs u v)) (crs a b)=sc (co i (crs a b)) (crs u v):=ZX (by rw [ahd,h1,h2];simp) i
theorem QK (i k:Int)(t:Tr):co i (sc k t)=co i t*k:=by
 unfold co sc
 split
 ·rfl
 split <;> rfl
theorem MF {t:Tr}(h:t≠(0,0,0)):co (T5 t) t≠0:=by
 unfold T5
 split
 ·rename_i a;simpa [co] using a
 rename_i a
 split
 ·rename_i b;simpa [co] using b
 rename_i b
 intro c
 rw [Pq] at a b
 have c:t.2.2=0:=by simpa [co] using c
 exact h (JT a (JT b c))
theorem Xb {M:Mt}{p q r s p' q' r' s':Tr}(dM:det M≠0)(fl:AllP [p,q,r,s])(pl:∀ t∈[p,q,r,s],Pl t)(pl':∀ t∈[p',q',r',s'],Pl t)(hp:Ii (vm M p) p')(hq:Ii (vm M q) q')(hr:Ii (vm M r) r')(hs:Ii (vm M s) s')(na:¬ (q=p/\r=p/\s=p)) :
  (tn p q r s).1*(tn p' q' r' s').2=(tn p q r s).2*(tn p' q' r' s').1:=by
 have tw:∀ {a b a' b'},a∈[p,q,r,s]->b∈[p,q,r,s]->a'∈[p',q',r',s']->b'∈[p',q',r',s']->Ii (vm M a) a'->Ii (vm M b) b'->(a=b↔a'=b'):=fun h1 h2 h3 h4 h5 h6=>Kv dM (pl _ h1) (pl _ h2) (pl' _ h3) (pl' _ h4) h5 h6
 have e1:=tw (a:=q) (b:=p) (a':=q') (b':=p') (by simp) (by simp) (by simp) (by simp) hq hp
 have e2:=tw (a:=r) (b:=p) (a':=r') (b':=p') (by simp) (by simp) (by simp) (by simp) hr hp
 have e3:=tw (a:=s) (b:=p) (a':=s') (b':=p') (by simp) (by simp) (by simp) (by simp) hs hp
 have na':¬ (q'=p'/\r'=p'/\s'=p'):=fun ⟨a,b,c⟩=>na ⟨e1.mpr a,e2.mpr b,e3.mpr c⟩
 have hf:Ii (vm M (fo p q r s)) (fo p' q' r' s'):=by
  by_cases c1:q=p
  ·have c1':=e1.mp c1
   by_cases c2:r=p
   ·have c2':=e2.mp c2
    rw [show fo p q r s=s by simp [fo,c1,c2],show fo p' q' r' s'=s' by simp [fo,c1',c2']]
    exact hs
   ·have c2':=mt e2.mpr c2
    rw [show fo p q r s=r by simp [fo,c1,c2],show fo p' q' r' s'=r' by simp [fo,c1',c2']]
    exact hr
  ·have c1':=mt e1.mpr c1
   rw [show fo p q r s=q by simp [fo,c1],show fo p' q' r' s'=q' by simp [fo,c1']]
   exact hq
 have fi:=Vc p q r s
 have fi':=Vc p' q' r' s'
 have l0:co (ixp p' q' r' s') (crs p' (fo p' q' r' s'))≠0:=MF (qH (pl' _ (by simp)) (pl' _ fi') fun z=>Ti na' z.symm)
 have l1:co (ixp p q r s) (crs p (fo p q r s))≠0:=MF (qH (pl _ (by simp)) (pl _ fi) fun z=>Ti na z.symm)
 unfold tn
 dsimp only
 generalize ixp p' q' r' s'=j at *
 generalize ixp p q r s=i at *
 generalize fo p q r s=f at *
 generalize fo p' q' r' s'=f' at *
 obtain ⟨kp,kp0,ep⟩:=hp
 obtain ⟨kq,kq0,eq⟩:=hq
 obtain ⟨kr,kr0,er⟩:=hr
 obtain ⟨ks,ks0,es⟩:=hs
 obtain ⟨kf,kf0,ef⟩:=hf
 have key:∀ {u v u' v':Tr} {a b:Int},u∈[p,q,r,s]->v∈[p,q,r,s]->vm M u=sc a u'->vm M v=sc b v'->co i (crs u v)*(co j (crs p' f')*(kp*kf))=co i (crs p f)*(co j (crs u' v')*(a*b)):=fun {u v u' v' a b} mu mv eu ev'=>by
  have h:=K6 (fl p (by simp) u mu v mv) (fl f fi u mu v mv) i
  have h:=congrArg (fun t=>co j (vm (LI M) t)) h
  rw [bQ,bQ,<-yH,<-yH,ep,ef,eu,ev',mZ,mZ,QK,QK,QK,QK] at h
  rw [Qa (co i (crs u v)),Qa (co i (crs p f))]
  exact h
 have k1:=key (u:=p) (v:=r) (by simp) (by simp) ep er
 have k2:=key (u:=q) (v:=s) (by simp) (by simp) eq es
 have k3:=key (u:=p) (v:=s) (by simp) (by simp) ep es
 have k4:=key (u:=q) (v:=r) (by simp) (by simp) eq er
 have w0:co j (crs p' f')*(kp*kf)≠0:=J5 l0 (J5 kp0 kf0)
 generalize co j (crs p' f')*(kp*kf)=w at *
 refine V4 (J5 w0 w0) ?_
 generalize co i (crs p f)=c at *
 grind
theorem agk {M:Mt}{a b c d s a' b' c' d' s':Tr}(dM:det M≠0)(ha:Ii (vm M a) a')(hb:Ii (vm M b) b')(hc:Ii (vm M c) c')(hd:Ii (vm M d) d')(hs:Ii (vm M s) s'):crs (Pg a b c d s) (Pg a' b' c' d' s')=(0,0,0):=by
 obtain ⟨ka,ka0,ea⟩:=ha
 obtain ⟨kb,kb0,eb⟩:=hb
 obtain ⟨kc,kc0,ec⟩:=hc
 obtain ⟨kd,kd0,ed⟩:=hd
 obtain ⟨ks,ks0,es⟩:=hs
 have key:∀ {u v w u' v' w':Tr} {x y z:Int},vm M u=sc x u'->vm M v=sc y v'->vm M w=sc z w'->det M*dt3 (crs u v) w=dt3 (crs u' v') w'*(x*y)*z:=fun eu ev' ew=>by
  rw [<-Hi,eu,ev',ew,mZ,rB,kY]
  grind
 have g:sc (det M*det M*det M) (Pg a b c d s)=sc (ka*ka*(kb*kb)*(kc*kc)*(kd*kd)*ks) (Pg a' b' c' d' s'):=by
  have k1:=key es eb ec
  have k2:=key ea ed ec
  have k3:=key ea eb ed
  have k4:=key ea es ec
  have k5:=key ed eb ec
  have k6:=key ea eb es
  unfold Pg sc
  refine JT ?_ (JT ?_ ?_) <;> dsimp only <;> grind
 have d3:det M*det M*det M≠0:=J5 (J5 dM dM) dM
 have k0:ka*ka*(kb*kb)*(kc*kc)*(kd*kd)*ks≠0:=J5 (J5 (J5 (J5 (J5 ka0 ka0) (J5 kb0 kb0)) (J5 kc0 kc0)) (J5 kd0 kd0)) ks0
 have e:=mZ (det M*det M*det M) (ka*ka*(kb*kb)*(kc*kc)*(kd*kd)*ks) (Pg a b c d s) (Pg a' b' c' d' s')
 rw [g,show ∀ t:Tr,crs t t=(0,0,0) from fun t=>by simp only [crs,T8];exact ⟨by grind,by grind,by grind⟩] at e
 exact (oR (J5 d3 k0)).mp e.symm
theorem qw {x y:List Tr}{M:Mt}{m n:Nat}(e:Eqv x y M)(ox:Ib m x)(oy:Ib n y):Ah x y=FN:=by
 have px:∀ i,i<x.length->Pl (gt x i):=fun i hi=>(ox _ (bY hi)).1
 have py:∀ i,i<x.length->Pl (gt y i):=fun i hi=>(oy _ (bY (by rw [<-e.len];exact hi))).1
 have h2:s2 x y=FN:=all_none fun l hl=>by
  have hi:=dz hl
  match l,cO hl with
  | [i,j],_=>
  refine decide_eq_false (Pq.mpr (decide_eq_decide.mpr ?_))
  exact Kv e.d (px i (hi i (by simp))) (px j (hi j (by simp))) (py i (hi i (by simp))) (py j (hi j (by simp))) (e.im i (hi i (by simp))) (e.im j (hi j (by simp)))
 have h3:s3 x y=FN:=all_none fun l hl=>by
  have hi:=dz hl
  match l,cO hl with
  | [i,j,k],_=>
  refine decide_eq_false (Pq.mpr (decide_eq_decide.mpr ?_))
  exact agf e.d (e.im i (hi i (by simp))) (e.im j (hi j (by simp))) (e.im k (hi k (by simp)))
 have h4:s4 x y=FN:=all_none fun l hl=>by
  have hi:=dz hl
  match l,cO hl with
  | [a,b,c,d],_=>
  show thB _ _ _ _ _ _ _ _=false
  unfold thB
  cases hf:mD [gt x a,gt x b,gt x c,gt x d] with
  | false=>rfl
  | true=>
  by_cases al:pW (gt x a) (gt x b) (gt x c) (gt x d)
  ·rw [decide_eq_true al];rfl
  ·rw [decide_eq_false al,decide_eq_false];· rfl
   refine Pq.mpr (Xb e.d (Classical.byContradiction fun n=>by rw [Eb n] at hf;cases hf) (fun t ht=>?_) (fun t ht=>?_) (e.im a (hi a (by simp))) (e.im b (hi b (by simp))) (e.im c (hi c (by simp))) (e.im d (hi d (by simp))) fun ⟨q1,q2,q3⟩=>al (.inl ⟨q1.symm,q1.trans q2.symm⟩))
   ·simp only [K9,NT,or_false] at ht
    rcases ht with rfl | rfl | rfl | rfl
    ·exact px a (hi a (by simp))
    ·exact px b (hi b (by simp))
    ·exact px c (hi c (by simp))
    ·exact px d (hi d (by simp))
   ·simp only [K9,NT,or_false] at ht
    rcases ht with rfl | rfl | rfl | rfl
    ·exact py a (hi a (by simp))
    ·exact py b (hi b (by simp))
    ·exact py c (hi c (by simp))
    ·exact py d (hi d (by simp))
 have h5:s5 x y=FN:=by
  unfold s5
  cases hf:FF x with
  | none=>rfl
  | some l=>
  obtain ⟨a,b,c,d,rfl,mr,fx⟩:=Ob hf
  have hi:=dz mr
  refine Vg.mpr fun k hk=>if_neg (Pq.mpr ?_)
  exact agk e.d (e.im a (hi a (by simp))) (e.im b (hi b (by simp))) (e.im c (hi c (by simp))) (e.im d (hi d (by simp))) (e.im k (mY.mp hk).2)
 unfold Ah
 rw [if_neg (Pq.mpr e.len),h2,h3,h4,h5]
theorem Bb {x y:List Tr}(h:Ah x y=FN):x.length=y.length/\s2 x y=FN/\s3 x y=FN/\s4 x y=FN/\s5 x y=FN:=by
 unfold Ah at h
 by_cases hl:x.length=y.length
 ·rw [if_neg (Pq.mpr hl)] at h
  cases h2:s2 x y with
  | some l=>rw [h2] at h;cases h
  | none=>
  cases h3:s3 x y with
  | some l=>rw [h2,h3] at h;cases h
  | none=>
  cases h4:s4 x y with
  | some l=>rw [h2,h3,h4] at h;cases h
  | none=>
  cases h5:s5 x y with
  | some l=>rw [h2,h3,h4,h5] at h;cases h
  | none=>exact ⟨hl,rfl,rfl,rfl,rfl⟩
 ·rw [if_pos hl] at h;cases h
theorem acy {G:Nat->Nat->Nat->Prop}(s12:∀ {i j k},G i j k->G j i k)(s23:∀ {i j k},G i j k->G i k j)(dg:∀ {i k},G i i k)(key:∀ {i j k},i<j->j<k->G i j k)(i j k:Nat):G i j k:=by
 have h2:∀ {i j k},i<j->G i j k:=fun {i j k} a=>by
  rcases Nat.lt_trichotomy j k with c | rfl | c
  ·exact key a c
  ·exact s12 (s23 dg)
  rcases Nat.lt_trichotomy i k with d | rfl | d
  ·exact s23 (key d c)
  ·exact s23 dg
  ·exact s23 (s12 (key d a))
 rcases Nat.lt_trichotomy i j with c | rfl | c
 ·exact h2 c
 ·exact dg
 ·exact s12 (h2 c)
theorem dpp (p r:Tr):dt3 (crs p p) r=0:=by simp only [dt3,crs];grind
theorem SQ {x y:List Tr}(h:s3 x y=FN){i j k:Nat}:i<x.length->j<x.length->k<x.length->(dt3 (crs (gt x i) (gt x j)) (gt x k)=0↔dt3 (crs (gt y i) (gt y j)) (gt y k)=0):=by
 refine acy (G:=fun i j k=>i<x.length->j<x.length->k<x.length->(dt3 (crs (gt x i) (gt x j)) (gt x k)=0↔dt3 (crs (gt y i) (gt y j)) (gt y k)=0)) ?_ ?_ ?_ ?_ i j k
 ·intro i j k g hj hi hk
  rw [d12 (gt x i),d12 (gt y i),Int.neg_eq_zero,Int.neg_eq_zero]
  exact g hi hj hk
 ·intro i j k g hi hk hj
  rw [d23 (gt x i) (gt x j),d23 (gt y i) (gt y j),Int.neg_eq_zero,Int.neg_eq_zero]
  exact g hi hj hk
 ·intro i k _ _ _
  rw [dpp,dpp]
 ·intro i j k a b _ _ c
  exact Ky h a b c
theorem zA {P P':List Nat->Bool}:∀ {ls:List (List Nat)},(∀ l∈ls,P l=P' l)->ls.findSome? (pass P)=ls.findSome? (pass P')
 | [],_=>rfl
 | l::ls,h=>by rw [U9,U9,show pass P l=pass P' l by unfold pass;rw [h l (by simp)],zA fun l hl=>h l (by simp [hl])]
theorem agX {x y:List Tr}(hl:x.length=y.length)(h:s3 x y=FN):FF x=FF y:=by
 unfold FF
 rw [<-Lq,<-Lq,<-hl]
 refine zA fun l ml=>?_
 match l,cO ml with
 | [a,b,c,d],_=>
 have:=wL h ml
 show rQ _ _ _ _=rQ _ _ _ _
 by_cases f:Free (gt x a) (gt x b) (gt x c) (gt x d)
 ·rw [vG f,vG (this.mp f)]
 ·rw [LC f,LC fun z=>f (this.mpr z)]
theorem lN {x:List Tr}{p:Nat}(h:p∈fp x):p<x.length:=QD.mp (QF.mp h).1
theorem abJ (x:List Tr):(fp x).Pairwise (· < ·):=List.Pairwise.filter _ List.pairwise_lt_range
theorem Dv {x y:List Tr}(hl:x.length=y.length)(h:s2 x y=FN):fp x=fp y:=by
 unfold fp
 rw [<-hl]
 refine List.filter_congr fun i hi=>?_
 have hi:=QD.mp hi
 unfold fresh
 rw [Bool.eq_iff_iff,O8,O8]
 refine forall_congr' fun j=>⟨fun g hj=>?_,fun g hj=>?_⟩
 ·have lj:=QD.mp hj
  exact decide_eq_true fun z=>of_decide_eq_true (g hj) ((Ir h (by lia) hi).mpr z)
 ·have lj:=QD.mp hj
  exact decide_eq_true fun z=>of_decide_eq_true (g hj) ((Ir h (by lia) hi).mp z)
theorem sJ {x:List Tr}{j p:Nat}(e:(fp x)[j]?=Dn p):gt (Ie x) j=gt x p:=by
 rw [sZ]
 show (List.map (gt x) (fp x)).getD j (0,0,0)=_
 rw [Oc,ML,e]
 rfl
theorem Mh {x y:List Tr}(hl:x.length=y.length)(h2:s2 x y=FN)(h3:s3 x y=FN):LL (Ie x)=LL (Ie y):=by
 have fe:=Dv hl h2
 have lx:(Ie x).length=(fp x).length:=by rw [sZ,Iu]
 have ly:(Ie y).length=(fp x).length:=by rw [sZ,Iu,fe]
 unfold LL
 rw [<-Jd,<-Jd,lx,ly]
 refine zA fun l ml=>?_
 have li:=dz ml
 match l,cO ml with
 | [i,j,k],_=>
 have g:∀ i,i<(fp x).length->∃ p,p<x.length/\gt (Ie x) i=gt x p/\gt (Ie y) i=gt y p:=fun i hi=>by
  have e:=KY hi
  exact ⟨_,lN (Pk e),sJ e,sJ (by rw [<-fe];exact e)⟩
 obtain ⟨p,hp,e1,e2⟩:=g i (li i (by simp))
 obtain ⟨q,hq,e3,e4⟩:=g j (li j (by simp))
 obtain ⟨r,hr,e5,e6⟩:=g k (li k (by simp))
 show mD _=mD _
 rw [EY,EY,e1,e2,e3,e4,e5,e6]
 exact decide_eq_decide.mpr (SQ h3 hp hq hr)
theorem acR {A:Mt}{a b c o s L p:Tr}(ld:Br a b o s A)(par:Ii (jE o c) s)(pL:Pl L)(ha:dt3 a L=0)(hb:dt3 b L=0)(hc:dt3 c L=0)(hp:dt3 p L=0)(pa:Pl a)(pb:Pl b)(pc:Pl c)(hab:a≠b) :
  (vm A c).1=(vm A c).2.1/\(vm A p).2.2=0/\(vm A c).2.2=0/\∃ K Z:Int,K≠0/\Z≠0/\K*(vm A p).1=Z*(tn a b c p).1/\K*(vm A p).2.1=Z*(tn a b c p).2:=by
 obtain ⟨dA,h1,h2,h3,h4⟩:=ld
 obtain ⟨ka,ka0,xa,xa0,a1,a2,a3⟩:=Dk h1
 obtain ⟨kb,kb0,xb,xb0,b1,b2,b3⟩:=Dk h2
 obtain ⟨kc,kc0,xc,xc0,c1,c2,c3⟩:=Dk h3
 obtain ⟨kd,kd0,xd,xd0,d1,d2,d3⟩:=Dk h4
 have z:∀ {x y k:Int},x≠0->x*y=k*0->y=0:=fun hx e=>(O5.mp (e.trans (TK _))).resolve_left hx
 have nz:∀ {x y k:Int},k≠0->x*y=k*1->y≠0:=fun hk e q=>by rw [q,TK,Int.mul_one] at e;exact hk e.symm
 have ea:vm A a=((vm A a).1,0,0):=JT rfl (JT (z xa0 a2) (z xa0 a3))
 have eb:vm A b=(0,(vm A b).2.1,0):=JT (z xb0 b1) (JT rfl (z xb0 b3))
 have a0:=nz ka0 a1
 have b0:=nz kb0 b2
 have zl:∀ {u v w:Tr},dt3 u L=0->dt3 v L=0->dt3 w L=0->dt3 (crs u v) w=0:=fun hu hv hw=>flat pL.ne (by rw [cQ];exact hu) (by rw [cQ];exact hv) (by rw [cQ];exact hw)
 have th:∀ {w:Tr},dt3 w L=0->(vm A w).2.2=0:=fun {w} hw=>by
  have e:=Hi A a b w
  rw [zl ha hb hw,TK,ea,eb] at e
  simp only [crs,dt3,TK,Tz,Int.sub_zero,Int.zero_add,Int.sub_self] at e
  exact (O5.mp e).resolve_left (J5 a0 b0)
 have hc12:(vm A c).1=(vm A c).2.1:=by
  obtain ⟨k,k0,ek⟩:=par
  have e:=congrArg (vm A) ek
  rw [bQ] at e
  have q1:=congrArg (·.1) e
  have q2:=congrArg (·.2.1) e
  dsimp only [sc] at q1 q2
  have r1:(vm A (jE o c)).1=(vm A o).1+(vm A c).1:=vP _ _ _
  have r2:(vm A (jE o c)).2.1=(vm A o).2.1+(vm A c).2.1:=vP _ _ _
  have s1:(vm A s).1=(vm A s).2.1:=V4 xd0 (d1.trans d2.symm)
  have t1:=z xc0 c1
  have t2:=z xc0 c2
  rw [r1,t1,s1] at q1
  rw [r2,t2] at q2
  lia
 refine ⟨hc12,th hp,th hc,?_⟩
 have t0:(vm A c).1≠0:=fun e=>Dz dA pc.ne (JT e (JT (hc12.symm.trans e) (th hc)))
 have fob:fo a b c p=b:=if_pos hab.symm
 have e0:co (ixp a b c p) (crs a b)≠0:=by
  unfold ixp
  rw [fob]
  exact MF (qH pa pb hab)
 unfold tn
 dsimp only
 generalize ixp a b c p=i at *
 have key:∀ {u v:Tr},dt3 u L=0->dt3 v L=0->co i (crs u v)*((vm A a).1*(vm A b).2.1)=co i (crs a b)*((vm A u).1*(vm A v).2.1 - (vm A u).2.1*(vm A v).1):=fun {u v} hu hv=>by
  have h:=K6 (zl hu hv ha) (zl hu hv hb) i
  have h:=congrArg (fun t=>(vm (LI A) t).2.2) h
  rw [bQ,bQ,<-yH,<-yH] at h
  rw [ea,eb] at h
  simp only [sc,crs,TK,Int.sub_zero] at h
  rw [Qa (co i (crs u v)),Qa (co i (crs a b))]
  exact h
 have k1:=key ha hc
 have k2:=key hb hp
 have k3:=key ha hp
 have k4:=key hb hc
 rw [ea] at k1 k3
 rw [eb] at k2 k4
 dsimp only at k1 k2 k3 k4
 rw [<-hc12] at k1 k4
 generalize (vm A a).1=A1 at *
 generalize (vm A b).2.1=B1 at *
 generalize (vm A c).1=t at *
 generalize (vm A p).1 = α at *
 generalize (vm A p).2.1 = β at *
 generalize co i (crs a b)=e at *
 have w0:=J5 a0 b0
 refine ⟨-(e*e*(A1*B1)*t),A1*B1*(A1*B1),?_,J5 w0 w0,?_,?_⟩
 ·have:=J5 (J5 (J5 e0 e0) w0) t0
  lia
 ·have:A1*B1*(A1*B1)*(co i (crs a c)*co i (crs b p))=(co i (crs a c)*(A1*B1))*(co i (crs b p)*(A1*B1)):=by grind
  rw [this,k1,k2]
  grind
 ·have:A1*B1*(A1*B1)*(co i (crs a p)*co i (crs b c))=(co i (crs a p)*(A1*B1))*(co i (crs b c)*(A1*B1)):=by grind
  rw [this,k3,k4]
  grind
theorem zbd {x:List Tr}{L a b c o o':Tr}(h:FF x=FN)(pl:∀ t∈x,Pl t)(ma:a∈x)(mb:b∈x)(mc:c∈x)(mo:o∈x)(mo':o'∈x)(hab:a≠b)(hac:a≠c)(hbc:b≠c)(ha:dt3 a L=0)(hb:dt3 b L=0)(hc:dt3 c L=0)(ho:dt3 o L≠0)(ho':dt3 o' L≠0):o=o':=Vh fun ne=>by
 have kn:=qH (pl _ mo) (pl _ mo') ne
 have not2:∀ {u v:Tr},u∈x->v∈x->u≠v->dt3 u L=0->dt3 v L=0->dt3 u (crs o o')=0->dt3 v (crs o o')≠0:=fun {u v} mu mv huv hu hv k1 k2=>by
  obtain ⟨s,t,s0,e⟩:=Az k1 k2 (qH (pl _ mu) (pl _ mv) huv)
  have n1:=off_ne hu hv (pl _ mu) (pl _ mv) huv ho
  have q:=congrArg (fun w=>dt3 w o) e
  simp only [rB,Gb,Tz] at q
  have t0:t=0:=(O5.mp q.symm).resolve_left n1
  rw [t0] at e
  refine kn ((oR s0).mp (e.trans ?_))
  simp [sc]
 have fr:∀ {u v:Tr},u∈x->v∈x->u≠v->dt3 u L=0->dt3 v L=0->dt3 u (crs o o')≠0->dt3 v (crs o o')≠0->False:=fun {u v} mu mv huv hu hv k1 k2=>by
  refine KZ h mu mv mo mo' ⟨off_ne hu hv (pl _ mu) (pl _ mv) huv ho,off_ne hu hv (pl _ mu) (pl _ mv) huv ho',fun z=>k1 ?_,fun z=>k2 ?_⟩
  ·rw [<-z];simp only [dt3,crs];grind
  ·rw [<-z];simp only [dt3,crs];grind
 by_cases k1:dt3 a (crs o o')=0
 ·exact fr mb mc hbc hb hc (not2 ma mb hab ha hb k1) (not2 ma mc hac ha hc k1)
 by_cases k2:dt3 b (crs o o')=0
 ·exact fr ma mc hac ha hc k1 (not2 mb mc hbc hb hc k2)
 ·exact fr ma mb hab ha hb k1 k2
theorem J8 {X Y u v:Tr}(hX:Ii X u)(hY:Ii Y v)(h:crs X Y=(0,0,0))(pu:Pl u)(pv:Pl v):u=v:=by
 obtain ⟨k,k0,rfl⟩:=hX
 obtain ⟨l,l0,rfl⟩:=hY
 rw [mZ] at h
 exact pQ pu pv ((oR (J5 k0 l0)).mp h)
theorem Wi:Pl e0:=(Wa (Ij 2) e0 (by simp)).1
theorem Wq:Pl e1:=(Wa (Ij 2) e1 (by simp)).1
theorem W2:Pl e2:=(Wa (Ij 2) e2 (by simp)).1
theorem Q8 {ts:List Tr}{M:Mt}{m j:Nat}{t:Tr}(h2:2<=m)(hf:Few (Ie ts))(ok:Ib m ts)(hM:FwM (Ie ts) M)(hj:j<(Ie ts).length)(pt:Pl t)(hp:Ii (vm M (gt (Ie ts) j)) t):t=gt [e0,e1,e2] j:=by
 obtain ⟨a,b,c,s,e,_,_,l⟩:=hM
 obtain ⟨a',b',c',e',_,eu,_⟩:=K7 h2 hf fun t ht=>ok t (((j8 ts).2.1 t).mp ht)
 rw [e] at e'
 cases e'
 have l3:=hf.2.2.1
 have gj:gt (Ie ts) j=gt [a,b,c] j:=by
  have:gt (Ie ts) j=gt ([a,b,c].take (Ie ts).length) j:=by rw [<-eu]
  rw [this]
  unfold gt
  rw [Oc,Oc,List.getElem?_take_of_lt hj]
 rw [gj] at hp
 have:j=0\/j=1\/j=2:=by lia
 rcases this with rfl | rfl | rfl
 ·exact l.2.1.eq Wi pt hp
 ·exact l.2.2.1.eq Wq pt hp
 ·exact l.2.2.2.1.eq W2 pt hp
section
variable {x y us vs:List Tr}{A B:Mt}{m n:Nat}(hl:x.length=y.length)(h2:s2 x y=FN)(h3:s3 x y=FN)(h4:s4 x y=FN)(ox:Ib m x)(oy:Ib n y)(iu:Pr A x us)(iv:Pr B y vs)
include hl h2 h3 h4 ox oy iu iv
theorem ahA (hf:FF x=FN)(hf':FF y=FN)(hA:LnM x A)(hB:LnM y B){p:Nat}(mp:p∈fp x):gt us p=gt vs p:=by
 obtain ⟨L,a,b,c,o,s,on',off',hL,eon,eoff,_,parS,ld⟩:=hA
 obtain ⟨L',a',b',c',o',s',on2,off2,hL',eon',eoff',_,parS',ld'⟩:=hB
 obtain ⟨i,j,k,el,ij,jk,kl,_,pL,parL⟩:=hL
 obtain ⟨i',j',k',el',_,_,_,_,pL',parL'⟩:=hL'
 rw [<-Mh hl h2 h3,el] at el'
 cases el'
 have fe:=Dv hl h2
 have lx:(Ie x).length=(fp x).length:=by rw [sZ,Iu]
 obtain ⟨pi,ei⟩:∃ q,(fp x)[i]?=Dn q:=⟨_,KY (by lia)⟩
 obtain ⟨pj,ej⟩:∃ q,(fp x)[j]?=Dn q:=⟨_,KY (by lia)⟩
 have hi:=lN (Pk ei)
 have hj:=lN (Pk ej)
 rw [sJ ei,sJ ej] at parL
 rw [sJ (by rw [<-fe];exact ei),sJ (by rw [<-fe];exact ej)] at parL'
 have on:∀ q,q<x.length->(dt3 (gt x q) L=0↔dt3 (gt y q) L'=0):=fun q hq=>by
  rw [cQ (gt x q),cQ (gt y q),<-zU parL,<-zU parL']
  exact SQ h3 hi hj hq
 have px:∀ q,q<x.length->Pl (gt x q):=fun q hq=>(ox _ (bY hq)).1
 have py:∀ q,q<x.length->Pl (gt y q):=fun q hq=>(oy _ (bY (by rw [<-hl];exact hq))).1
 rw [sZ,List.filter_map] at eon eon'
 have Fe:(fp y).filter (Px L' ∘ gt y)=(fp x).filter (Px L ∘ gt x):=by
  rw [<-fe]
  exact List.filter_congr fun q hq=>decide_eq_decide.mpr (on q (lN hq)).symm
 rw [Fe] at eon'
 have Fs:((fp x).filter (Px L ∘ gt x)).Pairwise (· < ·):=(abJ x).filter _
 have Fm:∀ q,q∈(fp x).filter (Px L ∘ gt x)↔q∈fp x/\dt3 (gt x q) L=0:=fun q=>by
  rw [QF]
  exact and_congr_right fun _=>decide_eq_true_iff
 generalize (fp x).filter (Px L ∘ gt x)=F at *
 obtain ⟨i0,F1,rfl,rfl,g1⟩:=List.map_eq_cons_iff.mp eon
 obtain ⟨i1,F2,rfl,rfl,g2⟩:=List.map_eq_cons_iff.mp g1
 obtain ⟨i2,F3,rfl,rfl,g3⟩:=List.map_eq_cons_iff.mp g2
 simp only [Nh,List.cons.injEq] at eon'
 obtain ⟨rfl,rfl,rfl,_⟩:=eon'
 obtain ⟨m0,o0⟩:=(Fm i0).mp (by simp)
 obtain ⟨m1,o1⟩:=(Fm i1).mp (by simp)
 obtain ⟨m2,o2⟩:=(Fm i2).mp (by simp)
 simp only [List.pairwise_cons,K9,forall_eq_or_imp] at Fs
 obtain ⟨⟨l01,l02,_⟩,⟨l12,_⟩,l23,_⟩:=Fs
 have n0:=lN m0
 have n1:=lN m1
 have n2:=lN m2
 have ne:∀ {q r:Nat},q<r->r∈fp x->gt x q≠gt x r:=fun {q r} hqr hr=>by
  have:=(QF.mp hr).2
  unfold fresh at this
  exact of_decide_eq_true (O8.mp this q (QD.mpr hqr))
 have ney:∀ {q r:Nat},q<r->r∈fp x->gt y q≠gt y r:=fun {q r} hqr hr z=>ne hqr hr ((Ir h2 (by have:=lN hr;lia) (lN hr)).mpr z)
 have o0':=(on i0 n0).mp o0
 have o1':=(on i1 n1).mp o1
 have o2':=(on i2 n2).mp o2
 have np:=lN mp
 obtain ⟨pu,qu⟩:=iu.2 p np
 obtain ⟨pv,qv⟩:=iv.2 p (by rw [<-hl];exact np)
 by_cases hp:dt3 (gt x p) L=0
 ·have hp':=(on p np).mp hp
  rcases K9.mp ((Fm p).mpr ⟨mp,hp⟩) with rfl | q
  ·exact (ld.2.1.eq Wi pu qu).trans (ld'.2.1.eq Wi pv qv).symm
  rcases K9.mp q with rfl | q
  ·exact (ld.2.2.1.eq Wq pu qu).trans (ld'.2.2.1.eq Wq pv qv).symm
  have r1:=acR ld parS pL o0 o1 o2 hp (px i0 n0) (px i1 n1) (px i2 n2) (ne l01 m1)
  have r2:=acR ld' parS' pL' o0' o1' o2' hp' (py i0 n0) (py i1 n1) (py i2 n2) (ney l01 m1)
  obtain ⟨c1,z1,zc1,K,Z,K0,Z0,u1,u2⟩:=r1
  obtain ⟨c2,z2,zc2,K',Z',K0',Z0',v1,v2⟩:=r2
  rcases K9.mp q with rfl | q
  ·refine J8 qu qv ?_ pu pv
   unfold crs
   rw [c1,c2,zc1,zc2]
   refine JT ?_ (JT ?_ ?_) <;> dsimp only <;> grind
  have lp:=l23 p q
  have r4:[i0,i1,i2,p]∈CR x.length 4:=qP (l:=[i0,i1,i2]) (FW l01 l12 n2) (show i2+1<=p by lia) np
  have tb:thB (gt x i0) (gt x i1) (gt x i2) (gt x p) (gt y i0) (gt y i1) (gt y i2) (gt y p)=false:=qd h4 _ r4
  unfold thB at tb
  have fl:mD [gt x i0,gt x i1,gt x i2,gt x p]=true:=uU fun u mu v mv w mw=>by
   have onl:∀ t∈[gt x i0,gt x i1,gt x i2,gt x p],dt3 L t=0:=fun t ht=>by
    simp only [K9,NT,or_false] at ht
    rw [cQ]
    rcases ht with rfl | rfl | rfl | rfl
    ·exact o0
    ·exact o1
    ·exact o2
    ·exact hp
   exact flat pL.ne (onl v mv) (onl w mw) (onl u mu)
  have al:¬ pW (gt x i0) (gt x i1) (gt x i2) (gt x p):=by
   rintro (⟨q1,_⟩ | ⟨q1,_⟩ | ⟨q1,_⟩ | ⟨q1,_⟩)
   ·exact ne l01 m1 q1
   ·exact ne l01 m1 q1
   ·exact ne l02 m2 q1
   ·exact ne l12 m2 q1
  rw [fl,decide_eq_false al,Bool.true_and,Bool.not_false,Bool.true_and] at tb
  have tb:=Pq.mp (of_decide_eq_false tb)
  refine J8 qu qv ?_ pu pv
  have key:(vm A (gt x p)).1*(vm B (gt y p)).2.1=(vm A (gt x p)).2.1*(vm B (gt y p)).1:=by
   refine V4 (J5 K0 K0') ?_
   grind
  unfold crs
  rw [z1,z2]
  refine JT ?_ (JT ?_ ?_) <;> dsimp only <;> grind
 ·have hp':=mt (on p np).mpr hp
  have offp:∀ {x us:List Tr} {A:Mt} {L a b c o s:Tr} {off':List Tr} {m:Nat},FF x=FN->Ib m x->(Ie x++[e0,e1,e2]).filter (offB L)=o::off'->Br a b o s A->∀ {i0 i1 i2 p:Nat},i0<x.length->i1<x.length->i2<x.length->p<x.length->gt x i0≠gt x i1->gt x i0≠gt x i2->gt x i1≠gt x i2->dt3 (gt x i0) L=0->dt3 (gt x i1) L=0->dt3 (gt x i2) L=0->dt3 (gt x p) L≠0->∀ {t:Tr},Pl t->Ii (vm A (gt x p)) t->t=e2:=fun {x us A L a b c o s off' m} hf ox eoff ld {i0 i1 i2 p} n0 n1 n2 np d01 d02 d12 o0 o1 o2 hp {t} pt qt=>by
   have mo:gt x p∈(Ie x).filter (offB L):=QF.mpr ⟨((j8 x).2.1 _).mpr (bY np),by unfold offB;rw [decide_eq_false hp];rfl⟩
   rw [List.filter_append] at eoff
   have ho:o∈(Ie x).filter (offB L):=by
    cases q:(Ie x).filter (offB L) with
    | nil=>rw [q] at mo;cases mo
    | cons w r=>rw [q] at eoff;cases eoff;exact Oo
   obtain ⟨ho1,ho2⟩:=QF.mp ho
   have ho2:dt3 o L≠0:=by unfold offB at ho2;simpa using ho2
   have:o=gt x p:=zbd hf (fun t ht=>(ox t ht).1) (bY n0) (bY n1) (bY n2) (((j8 x).2.1 _).mp ho1) (bY np) d01 d02 d12 o0 o1 o2 ho2 hp
   subst this
   exact ld.2.2.2.1.eq W2 pt qt
  rw [offp (us:=us) (c:=gt x i2) hf ox eoff ld n0 n1 n2 np (ne l01 m1) (ne l02 m2) (ne l12 m2) o0 o1 o2 hp pu qu]
  rw [hl] at n0 n1 n2 np
  exact (offp (us:=vs) (c:=gt y i2) hf' oy eoff' ld' n0 n1 n2 np (ney l01 m1) (ney l02 m2) (ney l12 m2) o0' o1' o2' hp' pv qv).symm
end
theorem uQ {x y us vs:List Tr}{A B:Mt}{m n:Nat}(m2:2<=m)(n2:2<=n)(l1:1<=x.length)(due:Ah x y=FN)(ox:Ib m x)(oy:Ib n y)(hA:Td x A)(hB:Td y B)(iu:Pr A x us)(iv:Pr B y vs):kd x=kd y/\us=vs:=by
 obtain ⟨hl,h2,h3,h4,h5⟩:=Bb due
 have ff:=agX hl h3
 have ll:=Mh hl h2 h3
 refine ⟨by unfold kd;rw [ff,ll],?_⟩
 have fe:=Dv hl h2
 have fin:(∀ p∈fp x,gt us p=gt vs p)->us=vs:=fun h=>by
  refine List.ext_getElem? fun i=>?_
  by_cases hi:i<x.length
  ·rw [fQ (by rw [iu.1];exact hi),fQ (by rw [iv.1,<-hl];exact hi)]
   have mi:gt x i∈Ie x:=((j8 x).2.1 _).mpr (bY hi)
   rw [sZ] at mi
   obtain ⟨p,mp,e⟩:=Pj.mp mi
   have np:=lN mp
   have e':=(Ir h2 np hi).mp e
   have q1:=iu.2 i hi
   have q2:=iu.2 p np
   have q3:=iv.2 i (by rw [<-hl];exact hi)
   have q4:=iv.2 p (by rw [<-hl];exact np)
   rw [e] at q2
   rw [e'] at q4
   rw [Bh q1.1 q2.1 q1.2 q2.2,Bh q3.1 q4.1 q3.2 q4.2,h p mp]
  ·rw [VJ (by rw [iu.1];lia),VJ (by rw [iv.1,<-hl];lia)]
 refine fin fun p mp=>?_
 have np:=lN mp
 obtain ⟨pu,qu⟩:=iu.2 p np
 obtain ⟨pv,qv⟩:=iv.2 p (by rw [<-hl];exact np)
 rcases hA.2 with ⟨a,b,c,d,f,la⟩ | ⟨f,g,la⟩ | ⟨f,g,la⟩
 ·rcases hB.2 with ⟨a',b',c',d',f',lb⟩ | ⟨f',_⟩ | ⟨f',_⟩
  ·rw [<-ff,f] at f'
   cases f'
   obtain ⟨_,_,_,_,e,mr,fx⟩:=Ob f
   cases e
   have fy:=(wL h3 mr).mp fx
   have:=Ly pu pv ((yS fx la).par qu) ((yS fy lb).par qv)
   refine Vh fun c=>this.mp c ?_
   unfold s5 at h5
   rw [f] at h5
   have:=Vg.mp h5 p (mY.mpr ⟨TF _,np⟩)
   unfold d5 at this
   dsimp only at this
   refine Vh fun c=>?_
   rw [if_pos c] at this
   cases this
  ·rw [<-ff,f] at f';cases f'
  ·rw [<-ff,f] at f';cases f'
 ·rcases hB.2 with ⟨a',b',c',d',f',lb⟩ | ⟨f',g',lb⟩ | ⟨f',g',lb⟩
  ·rw [<-ff,f] at f';cases f'
  ·exact ahA hl h2 h3 h4 ox oy iu iv f f' la lb mp
  ·rw [<-ll] at g';exact absurd g' g
 ·rcases hB.2 with ⟨a',b',c',d',f',lb⟩ | ⟨f',g',lb⟩ | ⟨f',g',lb⟩
  ·rw [<-ff,f] at f';cases f'
  ·rw [<-ll] at g';exact absurd g g'
  ·obtain ⟨j,hj,e⟩:=Uk.mp mp
   have e1:(fp x)[j]?=Dn p:=by rw [KY hj,e]
   have lx:j<(Ie x).length:=by rw [sZ,Iu];exact hj
   have ly:j<(Ie y).length:=by rw [sZ,Iu,<-fe];exact hj
   rw [<-sJ e1] at qu
   rw [<-sJ (x:=y) (by rw [<-fe];exact e1)] at qv
   rw [Q8 m2 (KJ l1 f g) ox la lx pu qu,Q8 n2 (KJ (by rw [<-hl];exact l1) f' g') oy lb ly pv qv]
theorem aam {x y us:List Tr}{A B M:Mt}(dB:det B≠0)(iu:Pr A x us)(iv:Pr B y us)(t:Thn A B M){i:Nat}(hi:i<x.length)(hi':i<y.length):To M (gt x i) (gt y i):=by
 obtain ⟨N,⟨c,c0,ec⟩,d,d0,ed⟩:=t
 obtain ⟨_,k,k0,ek⟩:=iu.2 i hi
 obtain ⟨_,l,l0,el⟩:=iv.2 i hi'
 have e1:=congrArg (fun X=>vm X (gt x i)) ed
 rw [wU,uc,ek,bQ] at e1
 have e2:=congrArg (fun X=>vm X (vm B (gt y i))) ec
 rw [<-wU,xV,uc,Fp,uc,el,bQ] at e2
 refine ⟨d*l*c,det B*k,J5 (J5 d0 l0) c0,J5 dB k0,?_⟩
 have s:∀ (a b:Int) (v:Tr),sc (a*b) v=sc b (sc a v):=fun a b v=>by rw [nY]
 rw [s,s,<-e1,s,e2]
 simp only [sc]
 refine JT ?_ (JT ?_ ?_) <;> dsimp only <;> grind
theorem Gf {u:Tr}(h0:u≠(0,0,0)):∃ t,Pl t/\Ii u t:=by
 obtain ⟨b0,pl,e⟩:=Le (Ui h0) rfl
 obtain ⟨t,et,e'⟩:=SJ e
 exact ⟨t,by unfold Pl;rw [<-et];exact pl,_,b0,e'⟩
open Classical in
theorem RG {A:Mt}{x:List Tr}{m:Nat}(dA:det A≠0)(ok:Ib m x):∃ us,Pr A x us:=by
 let f:Tr->Tr:=fun t=>if h:∃ u,Pl u/\Ii (vm A t) u then choose h else t
 refine ⟨x.map f,by rw [Iu],fun i hi=>?_⟩
 have e:gt (x.map f) i=f (gt x i):=by
  have:=fQ (ts:=x.map f) (i:=i) (by rw [Iu];exact hi)
  rw [ML,fQ hi] at this
  exact (Ja this).symm
 have h:=Gf (Dz dA (ok _ (bY hi)).1.ne)
 have ef:f (gt x i)=choose h:=dif_pos h
 rw [e,ef]
 exact choose_spec h
theorem Eqv.symm {M:Mt}{x y:List Tr}{m n:Nat}(h:Eqv x y M)(ox:Ib m x)(oy:Ib n y):Eqv y x (adj M):=by
 refine ⟨h.len.symm,rT h.d,fun i hi=>?_⟩
 have hx:i<x.length:=by rw [h.len];exact hi
 obtain ⟨t,pt,par⟩:=Gf (Dz (rT h.d) (oy _ (bY hi)).1.ne)
 obtain ⟨k,k0,ek⟩:=h.im i hx
 have e:=congrArg (vm (adj M)) ek
 rw [<-wU,xV,uc,Fp,bQ] at e
 have to:To (adj M) (gt y i) (gt x i):=⟨k,det M,k0,h.d,e.symm⟩
 rw [to.eq (ox _ (bY hx)).1 pt par] at par
 exact par
theorem Z8 {pl tt:Mk}(hpl:xH pl)(htt:Kz tt):PK (S7 pl tt):=by
 intro h M v m n Q E hm sM sv dM hv k
 show tt [M7 true M,tw v] h _ _
 refine htt (m:=max m n) true (by lia) (sM.mono (by lia)) (sv.mono (by lia)) ?_
 show pl [lw (vm M v)] h _ _
 exact hpl.tr (u:=vm M v) (m:=m+n+2) (.inr rfl) (Dz dM hv) (DY sM sv) (by lia) k
theorem agc {pl tt:Mk}(hpl:xH pl)(htt:Qv tt):Ol (Ni pl tt):=by
 intro h A B m n Q E hm sA sB dA dB k
 show tt [M7 true B,M7 true A] h _ _
 refine htt (m:=max m n) true true (by lia) (sB.mono (by lia)) (sA.mono (by lia)) ?_
 show pl [O2 (mm B A)] h _ _
 refine hpl.mt (m:=m+n+2) (.inr rfl) ?_ (Z4 sB sA) (by lia) k
 rw [wO]
 exact fun h=>(O5.mp h).elim dB dA
theorem Vx {pl dt:Mk}(hpl:xH pl)(hdt:JD dt):PK (JR pl dt):=by
 intro h M v m n Q E hm sM0 sv0 dM hv k
 have sM:=sM0.mono (show m<=max m n by lia)
 have sv:=sv0.mono (show n<=max m n by lia)
 have c:∀ b:Int,QB (b.natAbs+1) (2^64)=true->iT 3 b:=fun b h2=>.of (m:=64) (n:=64) (Sm.lit rfl) (Sm.lit h2) (by decide) (by decide)
 first | show Ih JG [0,1] (jg (aq (mC (.int 3)) aM)) j6 (aL dt E (aq (PX NK (aB 1) (jD (kI eZ (mC (.int 3)) (aB 0))) (jD (kI cJ (kI eZ (mC (.int 3)) (aB 0)) (mC (.int 3))))) (aq (aB 2) aM))) [Dn (mw M),Dn (tw v)] h _ | show Ih JG [0,1] (jg (aq (mC (.int 3)) aM)) j6 (aL dt E (aq (PX kSl (aB 1) (jD (kI eZ (mC (.int 3)) (aB 0))) (jD (kI cJ (kI eZ (mC (.int 3)) (aB 0)) (mC (.int 3))))) (aq (aB 2) aM))) [Dn (mw M),Dn (tw v)] h _
 first | refine And.intro (c _ rfl) (And.intro (c _ rfl) (And.intro (by decide:¬ ((0:Nat)=0/\(3:Nat)=9)) ?_)) | refine And.intro (c _ rfl) (And.intro (c _ rfl) ?_)
 show dt [tw M.1,tw v] h _ _
 refine hdt (by lia) sM.1 sv ?_
 first | refine And.intro (c _ rfl) (And.intro (c _ rfl) (And.intro (by decide:¬ ((3:Nat)=0/\(6:Nat)=9)) ?_)) | refine And.intro (c _ rfl) (And.intro (c _ rfl) ?_)
 show dt [tw M.2.1,tw v] h _ _
 refine hdt (by lia) sM.2.1 sv ?_
 first | refine And.intro (c _ rfl) (And.intro (c _ rfl) (And.intro (by decide:¬ ((6:Nat)=0/\(9:Nat)=9)) ?_)) | refine And.intro (c _ rfl) (And.intro (c _ rfl) ?_)
 show dt [tw M.2.2,tw v] h _ _
 refine hdt (by lia) sM.2.2 sv ?_
 show pl [lw (vm M v)] h _ _
 exact hpl.tr (u:=vm M v) (m:=m+n+2) (.inr rfl) (Dz dM hv) (DY sM0 sv0) (by lia) k
theorem Hu {h:Gh}{w:W}{ts:List Tr}(e:gQ h w ts):Ik h w=Dn (.lst (ts.map tw)):=by
 rcases e with rfl | ⟨n,rfl,e⟩
 ·rfl
 ·simp only [Ik,e]
theorem Jz (ts:List Tr):Ce (.lst (ts.map tw)) (.lst (ts.map tw))=true:=by rw [Ce,Rz]
theorem YX {h:Gh}{w:W}{ts:List Tr}{Q:WK}(e:gQ h w ts)(k:Q (.bl false) h):KC (.lst (ts.map tw)) w h Q:=by
 show (match Ik h (.lst (ts.map tw)),Ik h w with
  | some a,Dn b=>JZ (Ed 30 a&&Ed 30 b) (Q (.bl (!Ce a b)) h) False
  | _,_=>False)
 rw [Hu e]
 show JZ (Ed 30 (.lst (ts.map tw))&&Ed 30 (.lst (ts.map tw))) (Q (.bl (!Ce (.lst (ts.map tw)) (.lst (ts.map tw)))) h) False
 rw [J3 28,Jz]
 exact k
theorem Zm {h:Gh}{w:W}{ts:List Tr}{Q:WK}(e:gQ h w ts)(k:Q (.bl true) h):Ke (.lst (ts.map tw)) w h Q:=by
 show (match Ik h (.lst (ts.map tw)),Ik h w with
  | some a,Dn b=>JZ (Ed 30 a&&Ed 30 b) (Q (.bl (Ce a b)) h) False
  | _,_=>False)
 rw [Hu e]
 show JZ (Ed 30 (.lst (ts.map tw))&&Ed 30 (.lst (ts.map tw))) (Q (.bl (Ce (.lst (ts.map tw)) (.lst (ts.map tw)))) h) False
 rw [J3 28,Jz]
 exact k
theorem J2 {s:Str}{ts:List Tr}{h:Gh}{Q:WK}(k:Q (.bl false) h):KC (.tup [.str s,.lst (ts.map tw)]) (.tup [.str s,.lst (ts.map tw)]) h Q:=by
 have h1:Ed 30 (.tup [.str s,.lst (ts.map tw)])=true:=by
  show (Ed 29 (.str s)&&(Ed 29 (.lst (ts.map tw))&&true))=true
  rw [J3 27]
  rfl
 have h2:Ce (.tup [.str s,.lst (ts.map tw)]) (.tup [.str s,.lst (ts.map tw)])=true:=by
  rw [Ce,tQ,tQ,tQ,Jz]
  simp [Ce]
 show JZ (Ed 30 (.tup [.str s,.lst (ts.map tw)])&&Ed 30 (.tup [.str s,.lst (ts.map tw)])) (Q (.bl (!Ce (.tup [.str s,.lst (ts.map tw)]) (.tup [.str s,.lst (ts.map tw)]))) h) False
 rw [h1,h2]
 exact k
theorem Rj {h:Gh}{w:W}{ts:List Tr}(e:gQ h w ts){Q:WK}(k:Q (.lst (ts.map tw)) h):CN [w] h Q:=by
 show (match view h w with
  | some us=>Q (.lst us) h
  | none=>False)
 rw [e.src.1]
 exact k
def vZ (M:Mt)(x y:List Tr):Prop:=x.length=y.length/\(∀ i,i<x.length->To M (gt x i) (gt y i))/\det M≠0
theorem FZ {M:Mt}{x y us:List Tr}{n:Nat}(h:vZ M x y)(oy:Ib n y)(iu:Pr M x us):us=y:=by
 refine List.ext_getElem? fun i=>?_
 by_cases hi:i<x.length
 ·have hy:i<y.length:=by rw [<-h.1];exact hi
  rw [fQ (by rw [iu.1];exact hi),fQ hy]
  have:=iu.2 i hi
  rw [(h.2.1 i hi).eq (oy _ (bY hy)).1 this.1 this.2]
 ·rw [VJ (by rw [iu.1];lia),VJ (by rw [<-h.1];lia)]
def ac9 (c0:Mk):Prop:=∀ {h:Gh} {wx wy:W} {x y:List Tr} {M:Mt} {b m n:Nat} {Q:WK} {E:Bq},gQ h wx x->gQ h wy y->x.length<=12->Ib m x->Ib n y->JC b M->b+m+2<=8000->vZ M x y->Q (.bl true) h->c0 [mw M,wx,wy] h Q E
theorem ags {le ll:Mk}(hle:PK le)(hll:PK ll):ac9 (wM le ll):=by
 intro h wx wy x y M b m n Q E sx sy l12 ox oy bM hb hL q
 unfold wM
 refine jJ rfl (σ:=[Dn (mw M),Dn wx,Dn wy]) rfl (cC (vL (K5 (Fy (xY (xr (aH (aP rfl (aH (uf (aX ?_)))))))))))
 refine Sx (b:=true) rfl (Xg rfl (wN rfl ?_))
 refine K5 (lE (gB (xr (aH (aP rfl (aX (qb rfl (uf (XF (OJ (wN rfl ?_)))))))))))
 refine lE (gB (w6 (qD (aP rfl ?_))))
 refine vM hll (ix:=0) rfl sx (by lia) hb ox hL.2.2 bM fun us iu _=>aP rfl ?_
 rw [FZ hL oy iu]
 refine YX sy (OJ (wN rfl (zL (pJ ?_))))
 unfold wA
 refine mW (gB (w6 (qD (aP rfl ?_))))
 refine vM hle (ix:=0) rfl sx (by lia) hb ox hL.2.2 bM fun us iu _=>aP rfl ?_
 rw [FZ hL oy iu]
 exact Zm sy (Nz q)
theorem Eqv.of {M:Mt}{x y:List Tr}(d:det M≠0)(iu:Pr M x y):Eqv x y M:=⟨iu.1.symm,d,fun i hi=>(iu.2 i hi).2⟩
theorem Eqv.trans {M N:Mt}{x y z:List Tr}(h1:Eqv x y M)(h2:Eqv y z N):Eqv x z (mm N M):=by
 refine ⟨h1.len.trans h2.len,by rw [wO];exact J5 h2.d h1.d,fun i hi=>?_⟩
 obtain ⟨k,k0,ek⟩:=h1.im i hi
 obtain ⟨l,l0,el⟩:=h2.im i (by rw [<-h1.len];exact hi)
 exact ⟨l*k,J5 l0 k0,by rw [wU,ek,bQ,el,nY]⟩
theorem Eqv.refl (x:List Tr):Eqv x x QS:=⟨rfl,by rw [Sh];decide,fun i _=>by rw [Fp];exact Ii.refl _⟩
theorem JL {x y:List Tr}{A B M:Mt}{m n:Nat}(m2:2<=m)(n2:2<=n)(l1:1<=x.length)(due:Ah x y=FN)(ox:Ib m x)(oy:Ib n y)(hA:Td x A)(hB:Td y B)(t:Thn A B M)(dM:det M≠0):vZ M x y:=by
 have hl:=(Bb due).1
 obtain ⟨us,iu⟩:=RG hA.1 ox
 obtain ⟨vs,iv⟩:=RG hB.1 oy
 obtain ⟨_,rfl⟩:=uQ m2 n2 l1 due ox oy hA hB iu iv
 exact ⟨hl,fun i hi=>aam hB.1 iu iv t hi (by rw [<-hl];exact hi),dM⟩
theorem vZ.trans {A B M:Mt}{x y z:List Tr}(h1:vZ A x y)(h2:vZ B y z)(hM:IK (mm B A) M)(dM:det M≠0):vZ M x z:=by
 refine ⟨h1.1.trans h2.1,fun i hi=>?_,dM⟩
 obtain ⟨a,b,a0,b0,e1⟩:=h1.2.1 i hi
 obtain ⟨c,d,c0,d0,e2⟩:=h2.2.1 i (by rw [<-h1.1];exact hi)
 obtain ⟨k,k0,ek⟩:=hM
 have e3:=congrArg (fun X=>vm X (gt x i)) ek
 rw [wU,uc] at e3
 have e4:=congrArg (vm B) e1
 rw [bQ,bQ,e3] at e4
 refine ⟨k*a*c,d*b,J5 (J5 k0 a0) c0,J5 d0 b0,?_⟩
 rw [<-nY,<-nY,e4,nY,Qa b c,<-nY,e2,nY]
structure Pc (h:Gh) (w:W) (x:List Tr) (m:Nat):Prop where
 s:NP h w x
 l1:1<=x.length
 l12:x.length<=12
 m2:2<=m
 m200:m<=200
 ok:Ib m x
theorem Ib.mono {m n:Nat}{x:List Tr}(h:Ib m x)(e:m<=n):Ib n x:=fun t ht=>⟨(h t ht).1,(h t ht).2.mono e⟩
section
variable {th fm ap mt rs mp ll pi ls:Mk}(hth:Ol th)(hfo:FormA fm)(hap:HJ ap)(hmt:acP mt)(hrs:J7 rs)(hmp:Ro mp)(hll:PK ll)(hpi:VL pi)(hls:ac9 ls)
include hth hap hmt hls
theorem YG {ns:List Int}{h:Gh}{w1:W}{x y z:List Tr}{s2 s5 s6 s7 s8:Option W}(px:Pc h w1 x 120)(py:Pc h (.lst (y.map tw)) y 152)(pz:Pc h (.lst (z.map tw)) z 184)(xy:Ah x y=FN)(yz:Ah y z=FN)(xz:Ah x z=FN)(zx:Ah z x=FN)(xx:Ah x x=FN) :
  Fo th fm ap mt rs mp ll pi ls EF { nx:=fun _ h'=>(fun w _=>w=.bl true) W.non h',rt:=fun w _=>w=.bl true } [Dn (.kls (ns.map .int)),Dn w1,s2,Dn (.lst (y.map tw)),Dn (.lst (z.map tw)),s5,s6,s7,s8] h:=by
 have step:∀ {wa wb:W} {a b:List Tr} {m n:Nat} {s6 s7:Option W} {N:Sw->Gh->Prop} {D:cj},Pc h wa a m->Pc h wb b n->Ah a b=FN->8*m+16*n+120+m+2<=8000 ->
   (∀ s6 s7,N [Dn (.kls (ns.map .int)),Dn w1,s2,Dn (.lst (y.map tw)),Dn (.lst (z.map tw)),s5,s6,s7,s8] h) ->
   u5 2 (mG (JI 6) (mG (JI 7) RQ)) (.tup [wa,wb]) [Dn (.kls (ns.map .int)),Dn w1,s2,Dn (.lst (y.map tw)),Dn (.lst (z.map tw)),s5,s6,s7,s8] h fun σ1 h1=>
    (jF (Pz (bJ (kI rR (aL ap EF (aq (JK CN (aq (aB 6) aM)) (aq (JK CN (aq (aB 7) aM)) aM))) (mC .non))) (K8 (Bg (aL ls EF (aq (aL mt EF (aq (aB 6) (aq (aB 7) aM))) (aq (aB 6) (aq (aB 7) aM))))))) (bV (mC (.bl false))) cH) { D with nx:=N } σ1 h1:=
  fun {wa wb a b m n s6 s7 N D} pa pb due hb hN=>by
   refine Nt (ws:=[wa,wb]) rfl rfl (Es ?_)
   refine nV (Es ?_)
   refine nV (R0 ?_)
   refine vL (K5 (lE (gB (bF (aH (xr (aH (aP rfl (aX (Rj pa.s.t ?_))))))))))
   refine aH (xr (aH (aP rfl (aX (Rj pb.s.t (aX ?_))))))
   refine hap (.inl rfl) (.inl rfl) pa.l1 pa.l12 pb.l1 pb.l12 (pa.ok.mono pa.m200) (pb.ok.mono pb.m200) ?_
   rw [due]
   refine uf (gZ (OJ (wN rfl ?_)))
   refine Fy (xY (bF (aH (bF (aH (aP rfl (aH (aP rfl (aX ?_)))))))))
   refine hmt pa.m2 pb.m2 pa.m200 pb.m200 pa.s pb.s pa.l1 pa.l12 pb.l1 pb.l12 pa.ok pb.ok due fun A B M hA hB t dM bM=>?_
   refine aH (aP rfl (aH (aP rfl (aX ?_))))
   refine hls pa.s.t pb.s.t pa.l12 pa.ok pb.ok bM hb (JL pa.m2 pb.m2 pa.l1 due pa.ok pb.ok hA hB t dM) (Xg rfl (wN rfl (zL ?_)))
   exact hN _ _
 unfold Fo
 refine cC (rz (qD (CJ (aH (qU (aH (aP rfl (aH (aP rfl (aX (gA rfl ?_)))))))))))
 refine aH (qU (aH (aP rfl (aH (aP rfl (aX (gA rfl ?_)))))))
 refine aH (qU (aH (aP rfl (aH (aP rfl (aX (gA rfl ?_)))))))
 refine aH (qU (aH (aP rfl (aH (aP rfl (aX (gA rfl ?_)))))))
 refine aH (qU (aH (aP rfl (aH (aP rfl (aX (gA rfl (aX (gA rfl ?_)))))))))
 refine MN (ws:=[.tup [w1,.lst (y.map tw)],.tup [.lst (y.map tw),.lst (z.map tw)],.tup [w1,.lst (z.map tw)],.tup [.lst (z.map tw),w1],.tup [w1,w1]]) (o:=FN) rfl (oh ?_)
 refine oO (step px py xy (by decide) fun s6 s7=>?_)
 refine oO (step py pz yz (by decide) fun s6 s7=>?_)
 refine oO (step px pz xz (by decide) fun s6 s7=>?_)
 refine oO (step pz px zx (by decide) fun s6 s7=>?_)
 refine oO (step px px xx (by decide) fun s6 s7=>Mz (pJ ?_))
 unfold Ny
 refine cC (gH (bF (aH (bF (aH (aP rfl (aH (aP rfl (aX ?_)))))))))
 refine hmt px.m2 py.m2 px.m200 py.m200 px.s py.s px.l1 px.l12 py.l1 py.l12 px.ok py.ok xy fun A B M hA hB t dM bM=>?_
 refine aH (bF (aH (aP rfl (aH (aP rfl (aX ?_))))))
 refine hmt py.m2 pz.m2 py.m200 pz.m200 py.s pz.s py.l1 py.l12 pz.l1 pz.l12 py.ok pz.ok yz fun A' B' M' hA' hB' t' dM' bM'=>aX ?_
 refine hth (by decide) bM bM' dM dM' fun T _ parT bT=>?_
 have dT:det T≠0:=parT.det.mp (by rw [wO];exact J5 dM' dM)
 refine nV (pJ ?_)
 refine mW (bF (aH (aP rfl (aH (aP rfl (aH (aP rfl (aX ?_))))))))
 exact hls px.s.t pz.s.t px.l12 px.ok pz.ok bT (by decide) ((JL px.m2 py.m2 px.l1 xy px.ok py.ok hA hB t dM).trans (JL py.m2 pz.m2 py.l1 yz py.ok pz.ok hA' hB' t' dM') parT dT) (Nz rfl)
include hfo hrs hmp hll hpi
theorem acz (ns:List Int){h0:Gh}:Vy th fm ap mt rs mp ll pi ls [.kls (ns.map .int)] h0 (fun w _=>w=.bl true) EF:=by
 obtain ⟨f0,f1⟩:(20:Int)<10^(9:Int).toNat/\Sm 30 ((10:Int)^(9:Int).toNat):=⟨by decide,by unfold Sm;decide +kernel⟩
 unfold Vy
 refine jJ rfl (σ:=[Dn (.kls (ns.map .int)),FN,FN,FN,FN,FN,FN,FN,FN]) rfl ?_
 refine cC (gH (bF (aH (bF (aH (aP rfl (aH (uf (aX ?_)))))))))
 refine hrs (by decide) (by decide) fun h1 r1 x1 k1=>aH (uf (aX ?_))
 refine hpi r1 (by lia) fun n x h2 e2 l2 x1' x12 ox=>?_
 refine nV (pJ ?_)
 refine cC (gH (bF (aH (bF (aH (aP rfl (aH (uf (aX ?_)))))))))
 refine hrs (by decide) (by decide) fun h3 r3 x3 k3=>aH (gB (uf (uf (HS ⟨by decide,by decide,by decide⟩ (aX ?_)))))
 refine hmp r3 f0 f1 (by decide) fun M h4 _ dM bM r4 o4=>?_
 have e4:h4.c n=Dn (.lst (x.map tw)):=by rw [o4.2 _ (KQ l2),k3 _ (KQ l2)];exact e2
 have l4:n<h4.nx:=by rw [o4.1];lia
 refine nV (pJ ?_)
 refine cC (gH (w6 (qD (aP rfl ?_))))
 refine vM hll (ix:=2) rfl (.inr ⟨n,rfl,e4⟩) (by lia) (by decide) ox dM bM fun y iy oy=>?_
 refine nV (pJ ?_)
 refine cC (gH (bF (aH (bF (aH (aP rfl (aH (uf (aX ?_)))))))))
 refine hrs (by decide) (by decide) fun h5 r5 x5 k5=>aH (gB (uf (uf (HS ⟨by decide,by decide,by decide⟩ (aX ?_)))))
 refine hmp r5 f0 f1 (by decide) fun N h6 _ dN bN r6 o6=>?_
 have e6:h6.c n=Dn (.lst (x.map tw)):=by rw [o6.2 _ (KQ l4),k5 _ (KQ l4)];exact e4
 have l6:n<h6.nx:=by rw [o6.1];lia
 refine nV (pJ ?_)
 refine cC (gH (w6 (qD (aP rfl ?_))))
 refine vM hll (ix:=2) rfl (.inl rfl) (by rw [iy.1];lia) (by decide) oy dN bN fun z iz oz=>?_
 refine nV (pJ ?_)
 have ly:=iy.1
 have lz:=iz.1
 have px:Pc h6 (.loc n) x 120:=⟨.inr ⟨n,rfl,l6,e6⟩,x1',x12,by decide,by decide,ox⟩
 have py:Pc h6 (.lst (y.map tw)) y 152:=⟨.inl rfl,by lia,by lia,by decide,by decide,oy⟩
 have pz:Pc h6 (.lst (z.map tw)) z 184:=⟨.inl rfl,by lia,by lia,by decide,by decide,oz⟩
 have qy:=Eqv.of dM iy
 have qz:=Eqv.of dN iz
 have xy:=qw qy ox oy
 have yz:=qw qz oy oz
 have xz:=qw (qy.trans qz) ox oz
 have zx:=qw ((qy.trans qz).symm ox oz) oz ox
 have xx:=qw (Eqv.refl x) ox ox
 refine cC (gH (bF (aH (aP rfl (aX ?_)))))
 refine hfo px.m2 px.m200 px.s px.l1 px.l12 px.ok fun A us hA iu=>?_
 refine nV (pJ ?_)
 refine cC (vL (K5 (lE (gB (bF (aH (aP rfl (aX ?_))))))))
 refine hfo py.m2 py.m200 py.s py.l1 py.l12 py.ok fun B vs hB iv=>aP rfl ?_
 obtain ⟨k1',rfl⟩:=uQ px.m2 py.m2 px.l1 xy ox oy hA hB iu iv
 rw [<-k1']
 refine J2 (OJ (wN rfl ?_))
 refine lE (gB (bF (aH (aP rfl (aX ?_)))))
 refine hfo pz.m2 pz.m200 pz.s pz.l1 pz.l12 pz.ok fun C ws hC iw=>aP rfl ?_
 obtain ⟨k2',rfl⟩:=uQ px.m2 pz.m2 px.l1 xz ox oz hA hC iu iw
 rw [<-k2']
 refine J2 (OJ (wN rfl (zL (pJ ?_))))
 exact YG hth hap hmt hls px py pz xy yz xz zx xx
end
theorem Xz (F0 F1 F2:Addr)(ns:List Int)(_:ns.length<=63):Ow F0 F1 F2 [.kls (ns.map W.int)] g0 (fun w _=>w=.bl true) EF:=by
 have pl:xH dO:=afv aeN
 have dg:rE bK:=afK
 have nb:uz fX:=zbp dg
 have sp:GR jV:=Xv nb pl
 have rs:J7 lG:=Zy zaU
 have mx:abG jQ:=afZ dg pl
 have pc:VL iU:=afd dg sp (w_next dg sp mx)
 have pp:xH eX:=afI (zaC ab5) Wy
 have ro:Dj eF:=Xx
 have tr:Kz bL:=ab7 Mq ro
 have tt:Qv cg:=aci Mq ro R8
 have tu:uy lu:=afC GZ ro
 have fr:Pu eY:=agy (Ww Mq GZ)
 have ba:Hh vW:=X6 pp R8 tu
 have mb:MbG bC:=aa9 (zbr pp tt) ba fr (W3 pp tr tu)
 have ol:lA cU:=zaN (ahp Yj Fd)
 have ri:pB iC:=afQ
 have pk:zP cN:=ahy
 have ff:BJ cB:=ahi ri pk fr
 have fp:FpX F0 F1 F2 (cX F0 F1 F2):=ad4 ri pk Yv (zbn ol) (afo ol Wz (aaz (afj Fd) afH))
 have ap:HJ (mR F0 F1 F2):=agx Eh (adE fp (Xe pk (acE pp tr) Am (Zq mb) ff))
 have jo:JoinOk CZ:=aaG (agu pp Fd)
 have ut:TlX pD:=ahC Am
 have le:PN gD:=Vz pk Am mb Eh ff GP (afX ol jo ri pk) (ab3 (Yw Yj) Am mb ut (aa1 pp)) (aa7 Am mb (aat pp) (zbh ol ut))
 have ld:PK xG:=Z8 pp tr
 have lld:PK mQ:=Vx pl aaq
 have th:Ol q9:=agc pp tt
 exact acz th (Wx (aeL Eh ff GP (afz ol jo ri pk)) le (aaF ld)) ap (aao th ba le ap) rs (aaj nb pl agH) lld pc (ags ld lld) ns
end My
namespace PySem.W.Fast
def tw3607197954097422326:=()
def tw6585914935630802620:=()
def tw4769429919092201849:=()
def tw3905299623869122183:=()
def tw13214381320433362898:=()
def tw16734878240975371158:=()
def tw14788722703798122146:=()
def tw16835499329940638125:=()
def tw293272184831331563:=()
def tw14778763865060133221:=()
def tw2367556797513212187:=()
def tw1880060904764904769:=()
def tw11794368796605442520:=()
def tw11562712463042833254:=()
def tw4076823475994678245:=()
def tw10282120964535211923:=()
def tw10009885534462588578:=()
def tw1248735052507152699:=()
def tw12018147972096665488:=()
def tw11496252503395804000:=()
def tw959443056175821906:=()
def tw13347825635225178979:=()
def tw8292154636159672951:=()
def tw17206919444547323102:=()
def tw17876779405392178244:=()
def tw13532329339113751215:=()
def tw3262892498699261021:=()
def tw8636880118320725513:=()
def tw18091000684035425999:=()
def tw5735340733546210665:=()
def tw327157071264032844:=()
def tw6872989448111933283:=()
def tw1782953708185577096:=()
def tw10854554879471526371:=()
def tw16749802798862074539:=()
def tw1112648174301899528:=()
def tw1065863739258841663:=()
def tw6577485646853944840:=()
def tw4107775868508757254:=()
def tw4720282422474308279:=()
def tw13770723286998437520:=()
def tw18022151012414383707:=()
def tw13645552813732225940:=()
def tw1117601219748910117:=()
def tw12497286101423615181:=()
def tw5191320336269754411:=()
def tw2861175628125138781:=()
def tw15802618671149085850:=()
def tw3620003362856890932:=()
def tw6942713298027097929:=()
def tw8516780011174969145:=()
def tw8887174907525684870:=()
def tw16876516663187834858:=()
def tw16277032470103347181:=()
def tw15328093345022311:=()
def tw9430041737202563617:=()
def tw8877956807093486120:=()
def tw13718743383221224237:=()
def tw1768396150534724297:=()
def tw12244629268835131804:=()
def tw6748825312608791656:=()
def tw3110040731486934304:=()
def tw9533471817500730436:=()
def tw3255799672851033347:=()
def tw13749718737236193912:=()
def tw1779471836004583207:=()
def tw6296123548158419643:=()
def tw9338069505841384547:=()
def tw1501313377802595390:=()
def tw9755341031248024408:=()
def tw11389395032638493954:=()
def tw14846439471000811678:=()
def tw9122656228814719344:=()
def tw8346357588765059568:=()
def tw10687590107645042122:=()
def tw7945102648249391838:=()
def tw11872965302810533050:=()
def tw74874758123667695:=()
def tw4507577515449249497:=()
def tw14825282572789115307:=()
def tw5444974212357428938:=()
def tw1748480551270851617:=()
def tw10896955277105154907:=()
def tw16793838136406691393:=()
def tw8657728182780807494:=()
def tw16948385018435294737:=()
def tw5961574752240749314:=()
def tw7562273627990024604:=()
def tw7498474958052429444:=()
def tw2664264846144531786:=()
def tw2824789215512636848:=()
def tw2168790404289480307:=()
def tw5095439959464225013:=()
def tw3476883686701922905:=()
def tw375462715224580415:=()
def tw1562071283174320826:=()
def tw5035870265643178515:=()
def tw9092643529955082412:=()
def tw4982010296909092330:=()
def tw3922924110837041299:=()
def tw17573716161151660332:=()
def tw7861916574532257453:=()
def tw13314407944869178801:=()
def tw8908283025907498585:=()
def tw6372808763653285040:=()
def tw4425411314919601323:=()
def tw8923636536512080703:=()
def tw9852542055378642375:=()
def tw8449062831968339390:=()
def tw8899045752443927836:=()
def tw1529262590963644960:=()
def tw1575736558584640922:=()
def tw7333907318237191321:=()
def tw11264446388998718709:=()
def tw7130991654121350280:=()
def tw15701078555036819298:=()
def tw14493766002385212954:=()
def tw1542091588571599846:=()
def tw480116798531771290:=()
def tw17452961782390892726:=()
def tw7078682445718502119:=()
def tw11551157594604359070:=()
def tw3924172586494919151:=()
def tw14985560548165718219:=()
def tw7126257042409001987:=()
def tw9562745161724569554:=()
def tw9825895453414730353:=()
def tw6394340168448920214:=()
def tw1736199326710716254:=()
def tw16084914507791149139:=()
def tw17001227137032866954:=()
def tw13090193225059417490:=()
def tw16681680271406045667:=()
def tw15058358261066934451:=()
def tw6823825087266931813:=()
def tw14757144596080501741:=()
def tw10609236808716033319:=()
def tw10103738615026903608:=()
def tw17348093638524002884:=()
def tw10311607579270209111:=()
def tw1557291564362934229:=()
def tw1022939578132280722:=()
def tw11675145826666810438:=()
def tw11985946724258384490:=()
def tw17938733570457113274:=()
def tw10593983037500215655:=()
def tw10744332600158113799:=()
def tw2717556410388132200:=()
def tw4950132028353530596:=()
def tw6832956928056938374:=()
def tw1555780971887892060:=()
def tw15890137406624868264:=()
def tw18421606503557019823:=()
def tw9291872746507813790:=()
def tw16559763798931222103:=()
def tw10119446971214738956:=()
def tw4467684110782422457:=()
def tw5672006582097664485:=()
def tw3766329207426569681:=()
def tw1701656446188325356:=()
def tw5745431816882697826:=()
def tw1213924424135506147:=()
end PySem.W.Fast
open PySem PySem.W PyProof.Rows
theorem PySem.Challenge.cw_easelroom_k26_whole_of_one_floor_holds : PySem.Challenge.rw_easelroom_k26_whole_of_one_floor.Holds := by
 w_on;o_law;k_head;(case hw=>w_witness2)
 k_fill
 refine My.walk (l:=PySem.Challenge.rw_easelroom_k26_whole_of_one_floor) rfl rfl (fun w h Y=>PySem.W.kIn_of Y) ?F
 case F=>
  intro w mg fa h KX G hmg
  refine' My.all_mk My.Xz KX G hmg ?a0 ?l0 ?c0 ?k0 ?a1 ?l1 ?c1 ?k1 ?a2 ?l2 ?c2 ?k2 ?a3 ?l3 ?c3 ?k3 ?a4 ?l4 ?c4 ?k4 ?a5 ?l5 ?c5 ?k5 ?a6 ?l6 ?c6 ?k6 ?a7 ?l7 ?c7 ?k7 ?a8 ?l8 ?c8 ?k8 ?a9 ?l9 ?c9 ?k9 ?a10 ?l10 ?c10 ?k10 ?a11 ?l11 ?c11 ?k11 ?a12 ?l12 ?c12 ?k12 ?a13 ?l13 ?c13 ?k13 ?a14 ?l14 ?c14 ?k14 ?a15 ?l15 ?c15 ?k15 ?a16 ?l16 ?c16 ?k16 ?a17 ?l17 ?c17 ?k17 ?a18 ?l18 ?c18 ?k18 ?a19 ?l19 ?c19 ?k19 ?a20 ?l20 ?c20 ?k20 ?a21 ?l21 ?c21 ?k21 ?a22 ?l22 ?c22 ?k22 ?a23 ?l23 ?c23 ?k23 ?a24 ?l24 ?c24 ?k24 ?a25 ?l25 ?c25 ?k25 ?a26 ?l26 ?c26 ?k26 ?a27 ?l27 ?c27 ?k27 ?a28 ?l28 ?c28 ?k28 ?a29 ?l29 ?c29 ?k29 ?a30 ?l30 ?c30 ?k30 ?a31 ?l31 ?c31 ?k31 ?a32 ?l32 ?c32 ?k32 ?a33 ?l33 ?c33 ?k33 ?a34 ?l34 ?c34 ?k34 ?a35 ?l35 ?c35 ?k35 ?a36 ?l36 ?c36 ?k36 ?a37 ?l37 ?c37 ?k37 ?a38 ?l38 ?c38 ?k38 ?a39 ?l39 ?c39 ?k39 ?a40 ?l40 ?c40 ?k40 ?a41 ?l41 ?c41 ?k41 ?a42 ?l42 ?c42 ?k42 ?a43 ?l43 ?c43 ?k43 ?a44 ?l44 ?c44 ?k44 ?a45 ?l45 ?c45 ?k45 ?a46 ?l46 ?c46 ?k46 ?a47 ?l47 ?c47 ?k47 ?a48 ?l48 ?c48 ?k48 ?a49 ?l49 ?c49 ?k49 ?a50 ?l50 ?c50 ?k50 ?a51 ?l51 ?c51 ?k51 ?a52 ?l52 ?c52 ?k52 ?a53 ?l53 ?c53 ?k53 ?a54 ?l54 ?c54 ?k54 ?a55 ?l55 ?c55 ?k55 ?a56 ?l56 ?c56 ?k56 ?a57 ?l57 ?c57 ?k57 ?a58 ?l58 ?c58 ?k58 ?a59 ?l59 ?c59 ?k59 ?a60 ?l60 ?c60 ?k60 ?a61 ?l61 ?c61 ?k61 ?a62 ?l62 ?c62 ?k62 ?a63 ?l63 ?c63 ?k63 ?a64 ?l64 ?c64 ?k64 ?a65 ?l65 ?c65 ?k65 ?a66 ?l66 ?c66 ?k66 ?z_abs ?z_all ?z_isinstance ?z_len ?z_list ?z_max ?z_min ?z_range ?z_reversed ?z_sum ?z_tuple ?z_zip ?gk_TILES ?lk_TILES ?lk_TILES_0 ?lk_TILES_1 ?lk_TILES_2 ?lk_TILES_3
  (case a0 | l0 | c0 | k0 | a1 | l1 | c1 | k1 | a2 | l2 | c2 | k2 | a3 | l3 | c3 | k3 | a4 | l4 | c4 | k4 | a5 | l5 | c5 | k5 | a6 | l6 | c6 | k6 | a7 | l7 | c7 | k7 | a8 | l8 | c8 | k8 | a9 | l9 | c9 | k9=>k_is)
  (case a10 | l10 | c10 | k10 | a11 | l11 | c11 | k11 | a12 | l12 | c12 | k12 | a13 | l13 | c13 | k13 | a14 | l14 | c14 | k14 | a15 | l15 | c15 | k15 | a16 | l16 | c16 | k16 | a17 | l17 | c17 | k17 | a18 | l18 | c18 | k18 | a19 | l19 | c19 | k19=>k_is)
  (case a20 | l20 | c20 | k20 | a21 | l21 | c21 | k21 | a22 | l22 | c22 | k22 | a23 | l23 | c23 | k23 | a24 | l24 | c24 | k24 | a25 | l25 | c25 | k25 | a26 | l26 | c26 | k26 | a27 | l27 | c27 | k27 | a28 | l28 | c28 | k28 | a29 | l29 | c29 | k29=>k_is)
  (case a30 | l30 | c30 | k30 | a31 | l31 | c31 | k31 | a32 | l32 | c32 | k32 | a33 | l33 | c33 | k33 | a34 | l34 | c34 | k34 | a35 | l35 | c35 | k35 | a36 | l36 | c36 | k36 | a37 | l37 | c37 | k37 | a38 | l38 | c38 | k38 | a39 | l39 | c39 | k39=>k_is)
  (case a40 | l40 | c40 | k40 | a41 | l41 | c41 | k41 | a42 | l42 | c42 | k42 | a43 | l43 | c43 | k43 | a44 | l44 | c44 | k44 | a45 | l45 | c45 | k45 | a46 | l46 | c46 | k46 | a47 | l47 | c47 | k47 | a48 | l48 | c48 | k48 | a49 | l49 | c49 | k49=>k_is)
  (case a50 | l50 | c50 | k50 | a51 | l51 | c51 | k51 | a52 | l52 | c52 | k52 | a53 | l53 | c53 | k53 | a54 | l54 | c54 | k54 | a55 | l55 | c55 | k55 | a56 | l56 | c56 | k56 | a57 | l57 | c57 | k57 | a58 | l58 | c58 | k58 | a59 | l59 | c59 | k59=>k_is)
  (case a60 | l60 | c60 | k60 | a61 | l61 | c61 | k61 | a62 | l62 | c62 | k62 | a63 | l63 | c63 | k63 | a64 | l64 | c64 | k64 | a65 | l65 | c65 | k65 | a66 | l66 | c66 | k66 | z_abs | z_all | z_isinstance | z_len | z_list | z_max | z_min | z_range | z_reversed | z_sum | z_tuple | z_zip=>k_is)
  (case gk_TILES | lk_TILES | lk_TILES_0 | lk_TILES_1 | lk_TILES_2 | lk_TILES_3=>k_is)
