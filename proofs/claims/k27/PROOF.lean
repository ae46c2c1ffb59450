import PyProof.Rows.All
import Wide.All
import OpenK.AllK
import Wide.FinOn
import Lean
import PyProof.EqAt
import PyProof.EqKinds
import PyProof.TupleCall
import PySem.Challenge.RW_easelroom_k27_whole_a_map_or_what_shows
set_option Elab.async false
set_option linter.all false
set_option maxRecDepth 100000
set_option maxHeartbeats 0
local macro_rules | `(tactic| lia) => `(tactic| first | lia (splits := 9) | omega)
open Option renaming some→Dn,none→FN
open PySem.W renaming Frag→Ad,mg_none_of→Nf,nsIn→Lx,keepIn→Nk,findIn→Rt,fnOf→S8,codeIn→U8
open PySem renaming wpAny_bind→Aj,Value→JI,Shared→AP,Spec→aef,wpAny_pure→Fy,Program→FQ,starEach→Fx,boot_len→K6,sizeLine→Gn,Around→FT,NameKind→Ks,wpAny→CR,mainGlobals→JG,Builtin→RP,World→Cm,model→FP,wpAny_field→Kv,compareOp→Jc,wpAny_newObj_type→O2,cellsFrom→Jj,wpAny_callSpecial?_slot→Rp,mem_of_lookup→RJ,PassesOwn→Uz,assignEach→La,wpAny_call_entry→RL,FuncData→Le,wpAny_holding→Oj,wpAny_truthy_bool→SN,wpAny_mono→NQ,foldedSetIterable→SM,wpAny_Call_Name_kw→T6,binaryOp→ML,bootBuiltins→RD,backTo→K5,wpAny_seqItems→Ry,wpAny_setField_rec→Tc,wpAny_passesOwn→Sv,builtinLookup_eq_fast→U9,wpAny_pyIter_list→Tw,behindInMarks→S6,attributeBase→S5,SetTable→Ux,wpAny_of_eq→Rm,wpAny_attempt→T3,isSubtype_type→Tn,Paired→Sq,typeLookup_type→U5,sliceBounds→Sh,rawInt→Mj,cLine→Kq,Keyword→Nx,IsPair→Mv,wpAny_setField→U4,firstArgMember→U3,wpAny_rule→Sg,keywordEach→TQ,pyNext→Ni
open PySem.Heap renaming get?_push_of_some→HD,lt_size→Gy,get?_push_size→KJ,size_push→Om,SameBut→TK,get?_update_self→UL,ExtBut→TX
open List renaming length_map→Gg,getElem?_eq_getElem→JQ,size_toArray→Iz,getD_eq_getElem?_getD→Mz,mem_cons→J9,getElem?_map→LK,getElem?_eq_some_iff→NT,length_append→Lq,mem_singleton→Lz,lookup_cons→Lr,mem_of_getElem?→N5,mem_cons_of_mem→Nh,all_eq_true→MP,map_cons→LQ,mem_cons_self→Nb,take_length→Mp,not_mem_nil→Ml,take_succ→M8,getElem?_append_right→Rq,mem_map→Lk,mem_append_right→Oi,mem_append→Mw,length_take→Nm,getElem?_append_left→SJ,map_append→Nz,mem_range→Nj,mem_filter→OD,range→M5,length_cons→RN,exists_of_findSome?_eq_some→Ui,replicate→Ot,mem_iff_getElem→TJ,findSome?_cons→T9,length_drop→Sy,zip_cons_cons→Ti,length_range'→Tg,getElem?_eq_none→Ua,findSome?_eq_none_iff→Uj,getElem_mem→Tv,nodup_cons→Tp,getElem?_replicate→Uw,any_cons→T4,mem_flatMap→Uc,all_cons→Tj,append_nil→Ub,map_nil→TY,drop_zero→U6
open Option.some renaming inj→Hz
open Int renaming mul_ne_zero→IV,mul_eq_zero→Kw,eq_of_mul_eq_mul_left→Ue,mul_comm→RG,mul_zero→Rg,gcd→MJ,zero_mul→Rz,eq_ofNat_of_zero_le→Uv
open Nat renaming le_refl→Gi,lt_of_lt_of_le→Jl,le_trans→Ii,ne_of_lt→Jy,lt_irrefl→NK,lt_of_le_of_lt→SQ,ne_of_gt→RK,beq→Ls,lt_or_gt_of_ne→Td,eq_of_beq_eq_true→UG,zero_le→Rn,ble→Ny,le_succ→TV
open Bool renaming false_ne_true→Ly,and_eq_true→MN,false_eq_true→Te,not_eq_true→Tt
open PySem.PassesOwn renaming never→Lj
open Prod renaming ext→HB
open PySem.Builtin.SmallTypes renaming nextOf→RQ,ownedTupleIsFree→V1
open PySem.SeqAt renaming EqAt→Ru,ne_of_list_tuple→Uu
open PyProof.Rows renaming slot_tuple_getitem→Sd,callWith_type1→Uh,SortKind→Ri,kindOf→MH,Keyed→Ku,SortSt→N8,AllBare→RB
open Decidable renaming not_not→NP,byContradiction→Ug
open Classical renaming propDecidable→Tz
open Prod.mk renaming injEq→Ol
open PySem.F renaming slot_tuple_iterator_next→V0,slot_zip_next→Ut
open PySem.Obj renaming data_mapFields→T8,isFreed_of_fields→Us
open List.cons renaming injEq→Sx
open PySem.Builtin.Slice renaming slicePlaces→Um
open PySem.Heap.SameBut renaming update→UJ
open PySem.Builtin.Tuple renaming tupleExact→Ul
open PySem.Str renaming ofString→Rh
open False renaming elim→Oh
open Ne renaming symm→MK
open PySem.SetTable renaming bits→T5
open Option renaming getD_some→Ud
namespace L2
open PySem PySem.Spec PyProof.Rows
abbrev Key:=Sum Int Str
def Xu:Key->JI->Bool
 | .inl k,v=>Value.isInt k v
 | .inr x,v=>Value.isStrOf x v
def adp (w:Cm):Key->Int
 | .inl k=>hashInt k
 | .inr x=>hashStr w x
theorem bZ:∀ {k:Key} {v:JI},Xu k v=true->(∃ i t,k=Sum.inl i/\v=Value.int i t)\/(∃ x t,k=Sum.inr x/\v=Value.str x t)
 | .inl i,v,h=>by
  obtain ⟨t,e⟩:=Value.isInt_shape (k:=i) (v:=v) h;exact .inl ⟨i,t,rfl,e⟩
 | .inr x,v,h=>by
  obtain ⟨t,e⟩:=Value.isStrOf_shape (x:=x) (v:=v) h;exact .inr ⟨x,t,rfl,e⟩
theorem Yy (a b:Int):decide ((Sum.inl a:Key)=Sum.inl b)=(a==b):=by
 by_cases e:a=b
 ·subst e;simp
 ·have h:¬ (Sum.inl a:Key)=Sum.inl b:=fun q=>e (Sum.inl.inj q)
  rw [decide_eq_false h];exact (beq_eq_false_iff_ne.mpr e).symm
theorem Yb (a b:Str):decide ((Sum.inr a:Key)=Sum.inr b)=decide (a=b):=by
 by_cases e:a=b
 ·subst e;simp
 ·have h:¬ (Sum.inr a:Key)=Sum.inr b:=fun q=>e (Sum.inr.inj q)
  rw [decide_eq_false h,decide_eq_false e]
theorem Xv (a:Int)(b:Str):decide ((Sum.inl a:Key)=Sum.inr b)=false:=decide_eq_false (fun q=>nomatch q)
theorem Z2 (a:Str)(b:Int):decide ((Sum.inr a:Key)=Sum.inl b)=false:=decide_eq_false (fun q=>nomatch q)
def Aw (prog:FQ)(w:Cm):PySem.KeyKind prog w Key where
 is:=Xu
 hash:=adp w
 inj:=fun v a b ha hb=>by
  rcases bZ ha with ⟨i,t,rfl,rfl⟩ | ⟨x,t,rfl,rfl⟩
  ·rcases bZ hb with ⟨j,u,rfl,e⟩ | ⟨y,u,rfl,e⟩
   ·injection e with e1 _;rw [e1]
   ·exact nomatch e
  ·rcases bZ hb with ⟨j,u,rfl,e⟩ | ⟨y,u,rfl,e⟩
   ·exact nomatch e
   ·injection e with e1 _;rw [e1]
 byValue:=fun k v h=>by
  rcases bZ h with ⟨i,t,rfl,rfl⟩ | ⟨x,t,rfl,rfl⟩ <;> rfl
 pyHash:=fun hv h=>by
  rcases bZ hv with ⟨i,t,rfl,rfl⟩ | ⟨x,t,rfl,rfl⟩
  ·exact wpAny_pyHash_int h
  ·exact wpAny_pyHash_str h
 eqBool:=fun hu hv h=>by
  rcases bZ hu with ⟨i,t,rfl,rfl⟩ | ⟨x,t,rfl,rfl⟩
  ·rcases bZ hv with ⟨j,u,rfl,rfl⟩ | ⟨y,u,rfl,rfl⟩
   ·rw [Yy] at h;exact wpAny_eqBool_int h
   ·rw [Xv] at h;exact SeqAt.EqAt.int_str i t y u _ _ _ _ h
  ·rcases bZ hv with ⟨j,u,rfl,rfl⟩ | ⟨y,u,rfl,rfl⟩
   ·rw [Z2] at h;exact SeqAt.EqAt.str_int x t j u _ _ _ _ h
   ·rw [Yb] at h;exact wpAny_eqBool_str h
 «strs»:=fun k x t v h=>by
  rcases bZ h with ⟨i,u,rfl,e⟩ | ⟨y,u,rfl,e⟩
  ·exact nomatch e
  ·injection e with e1 _
   subst e1;cases v <;> rfl
inductive V where
 | non | bl (b:Bool) | int (i:Int) | str (x:Str) | byt (b:Array UInt8) | flt (b:UInt64) | ref (a:Addr) | ty (n:String)
 deriving DecidableEq
def RelV:V->JI->Prop
 | .non,u=>u=Value.none
 | .bl b,u=>u=Value.bool b
 | .int i,u=>∃ t,u=Value.int i t
 | .str x,u=>∃ t,u=Value.str x t
 | .byt b,u=>∃ t,u=Value.bytes b t
 | .flt b,u=>∃ t,u=Value.float b t
 | .ref a,u=>u=Value.ref a
 | .ty n,u=>u=Value.type n
abbrev BL:List V->List JI->Prop:=Sq RelV
theorem BL.length {xs:List V}{us:List JI}(r:BL xs us):xs.length=us.length:=Paired.length r
theorem BL.get:∀ {xs:List V} {us:List JI} {i:Nat} {x:V},BL xs us->xs[i]?=Dn x->∃ u,us[i]?=Dn u/\RelV x u
 | _,_,_,_,.nil,e=>by simp at e
 | _,_,0,_,.cons r _,e=>by simp at e;subst e;exact ⟨_,rfl,r⟩
 | _,_,i+1,x,.cons _ t,e=>by
  obtain ⟨u,h1,h2⟩:=BL.get (i:=i) (x:=x) t (by simpa using e);exact ⟨u,by simpa using h1,h2⟩
theorem BL.set {x:V}{u:JI}(r:RelV x u):∀ {xs:List V} {us:List JI} (i:Nat),BL xs us->BL (xs.set i x) (us.set i u)
 | _,_,_,.nil=>.nil
 | _,_,0,.cons _ t=>.cons r t
 | _,_,i+1,.cons q t=>.cons q (BL.set r i t)
theorem BL.append:∀ {xs ys:List V} {us ws:List JI},BL xs us->BL ys ws->BL (xs++ys) (us++ws)
 | _,_,_,_,.nil,s=>s
 | _,_,_,_,.cons r t,s=>.cons r (BL.append t s)
theorem BL.take:∀ {xs:List V} {us:List JI} (n:Nat),BL xs us->BL (xs.take n) (us.take n)
 | _,_,0,_=>.nil
 | _,_,_+1,.nil=>.nil
 | _,_,n+1,.cons r t=>.cons r (BL.take n t)
theorem BL.drop:∀ {xs:List V} {us:List JI} (n:Nat),BL xs us->BL (xs.drop n) (us.drop n)
 | _,_,0,r=>r
 | _,_,_+1,.nil=>.nil
 | _,_,n+1,.cons _ t=>BL.drop n t
def acM:Option V->Option JI->Prop
 | some v,Dn u=>RelV v u
 | none,FN=>True
 | _,_=>False
def KV {κ : Type}:List (κ×V)->List (κ×JI)->Prop:=Sq fun (p:κ×V) (q:κ×JI)=>p.1=q.1/\RelV p.2 q.2
def kV:Key->V
 | .inl i=>.int i
 | .inr x=>.str x
inductive HO where
 | lst (xs:List V)
 | tup (xs:List V)
 | dK (kvs:List (Key×V)) | dT (kvs:List (List Key×V))
 | set (S:Int->Bool) (n:Nat)
 | ins (C dx:Addr) (fs:List (Str×V))
 | own (x:Addr)
 | xd (fs:List (Str×V))
 | met (f x:Addr)
 | rng (lo hi:Int)
 | frz (o:Obj) (u:HO)
 | tbl (ps:Array JI)
 | ext (φ : Heap->Prop)
abbrev Hp:=Addr->Option HO
def G8 (H:Hp)(a:Addr)(o:HO):Hp:=fun b=>if b=a then Dn o else H b
theorem cj {H:Hp}{a:Addr}{o:HO}:G8 H a o a=Dn o:=by unfold G8;rw [if_pos rfl]
theorem aM {H:Hp}{a b:Addr}{o:HO}(h:b≠a):G8 H a o b=H b:=by unfold G8;rw [if_neg h]
theorem aQ {H:Hp}{a b:Addr}{o:HO}(h:H a=Dn o)(h':H b=FN):a≠b:=by
 intro e;subst e;rw [h] at h';cases h'
section
variable (P:FQ)(w:Cm)
def M6 (h:Heap)(a:Addr)(items:Array JI):Prop:=∃ o,h.get? a=Dn o/\o.cls=.type "tuple"/\(∃ n,o.data=.seq items n)/\o.dict=FN
theorem M6.tup {h:Heap}{a:Addr}{items:Array JI}(x:M6 h a items):IsTup h a items:=let ⟨o,ho,hc,hd,_⟩:=x;⟨o,ho,hc,hd⟩
theorem M6.new (h:Heap)(items:Array JI):M6 (h.push { cls:=.type "tuple",data:=.seq items }) h.objs.size items:=⟨_,KJ _ rfl,rfl,⟨_,rfl⟩,rfl⟩
def mX (H:Hp)(h:Heap)(a:Addr):HO->Prop
 | .lst xs=>xs.length<=Gn/\∃ (its:List JI) (n:Nat),BL xs its/\h.get? a=Dn { cls:=.type "list",data:=.seq its.toArray n }
 | .tup xs=>xs.length<=Gn/\∃ its:List JI,BL xs its/\M6 h a its.toArray
 | .dK kvs=>kvs.length<=Gn/\(a==sysModules)=false/\∃ vs,KV kvs vs/\h.DictOf (Aw P w) a vs
 | .dT kvs=>kvs.length<=Gn/\(a==sysModules)=false/\∃ xs:List (List Key×Addr×JI),
   Sq (fun (p:List Key×V) (q:List Key×Addr×JI)=>p.1=q.1/\H q.2.1=Dn (.tup (p.1.map kV))/\RelV p.2 q.2.2) kvs xs /\
   ∃ o es ep,h.get? a=Dn o/\o.ExactDict/\o.data=.dict es ep/\es.toList=xs.map (entryOfKey (tupleKind (Aw P w)))/\(xs.map (·.1)).Nodup
 | .set S n=>h.SetOf (intKind P w) a S n
 | .ins C dx fs=>H dx=Dn (.own a)/\fs.length<=1000/\dx≠a/\h.get? a=Dn (PySem.W.instObj C dx) /\
   ∃ mA,h.Ns1 dx mA/\(∀ f,acM (fs.lookup f) (mA f))/\PySem.Within mA (fs.map (·.1))
 | .own _=>∃ o,h.get? a=Dn o
 | .xd fs=>∃ mA,h.Ns1 a mA/\∀ f,acM (fs.lookup f) (mA f)
 | .rng lo hi=>∃ t u v,h.get? a=Dn { cls:=.type "range",data:=.fields #[.int lo t,.int hi u,.int 1 v] }
 | .frz o u=>h.get? a=Dn o/\mX H h a u
 | .tbl ps=>h.get? a=Dn { cls:=.none,data:=.fields ps }
 | .met f x=>h.get? a=Dn (PySem.W.methodObj (.ref f) (.ref x))
 | .ext φ=>φ h/\(∃ o,h.get? a=Dn o)/\∀ h1 h2:Heap,φ h1->(∀ o,h1.get? a=Dn o->h2.get? a=Dn o)->φ h2
def Kc (H:Hp)(h:Heap):Prop:=∀ a o,H a=Dn o->mX P w H h a o
end
section
variable {P:FQ}{w:Cm}{H H':Hp}{h h':Heap}{a:Addr}{o:HO}
theorem mX.lt (x:mX P w H h a o):a<h.objs.size:=by
 cases o with
 | lst xs=>obtain ⟨_,_,_,_,e⟩:=x;exact Gy e
 | tup xs=>obtain ⟨_,_,_,p⟩:=x;exact p.tup.lt
 | dK kvs=>obtain ⟨_,_,_,_,o,_,_,e,_⟩:=x;exact Gy e
 | dT kvs=>obtain ⟨_,_,_,_,o,_,_,e,_⟩:=x;exact Gy e
 | set S n=>obtain ⟨o,_,_,_,e,_⟩:=x;exact Gy e
 | ins C dx fs=>obtain ⟨_,_,_,e,_⟩:=x;exact Gy e
 | own y=>obtain ⟨_,e⟩:=x;exact Gy e
 | xd fs=>obtain ⟨_,⟨_,_,_,e,_⟩,_⟩:=x;exact Gy e
 | rng lo hi=>obtain ⟨_,_,_,e⟩:=x;exact Gy e
 | frz ob u=>obtain ⟨e,_⟩:=x;exact Gy e
 | tbl ps=>exact Gy (show h.get? a=Dn _ from x)
 | met f y=>exact Gy (show h.get? a=Dn _ from x)
 | ext φ=>obtain ⟨_,⟨_,e⟩,_⟩:=x;exact Gy e
theorem Paired.mapP {α β : Type}{F G:α->β->Prop}:∀ {l₁ : List α} {l₂ : List β},Sq F l₁ l₂->(∀ a b,F a b->G a b)->Sq G l₁ l₂
 | _,_,.nil,_=>.nil
 | _,_,.cons r t,f=>.cons (f _ _ r) (Paired.mapP t f)
theorem mX.stay (x:mX P w H h a o)(k:∀ b u,(b=a\/H b=Dn (.own a))->h.get? b=Dn u->h'.get? b=Dn u)
  (ho:∀ b,H b=Dn (.own a)->H' b=Dn (.own a)) (ht:∀ b xs,H b=Dn (.tup xs)->H' b=Dn (.tup xs)):mX P w H' h' a o:=by
 induction o with
 | lst xs=>obtain ⟨z,its,n,r,e⟩:=x;exact ⟨z,its,n,r,k _ _ (.inl rfl) e⟩
 | tup xs=>obtain ⟨z,its,r,ob,e,c⟩:=x;exact ⟨z,its,r,ob,k _ _ (.inl rfl) e,c⟩
 | dK kvs=>obtain ⟨z,y,vs,r,ob,es,ep,e,c⟩:=x;exact ⟨z,y,vs,r,ob,es,ep,k _ _ (.inl rfl) e,c⟩
 | dT kvs=>
  obtain ⟨z,y,xs,r,ob,es,ep,e,c⟩:=x;exact ⟨z,y,xs,Paired.mapP r fun p q z=>⟨z.1,ht _ _ z.2.1,z.2.2⟩,ob,es,ep,k _ _ (.inl rfl) e,c⟩
 | set S n=>obtain ⟨ob,es,ep,t,e,c⟩:=x;exact ⟨ob,es,ep,t,k _ _ (.inl rfl) e,c⟩
 | ins C dx fs=>
  obtain ⟨d,z,ne,e,mA,⟨od,es,ep,e2,c⟩,r⟩:=x;exact ⟨ho _ d,z,ne,k _ _ (.inl rfl) e,mA,⟨od,es,ep,k _ _ (.inr d) e2,c⟩,r⟩
 | own y=>obtain ⟨ob,e⟩:=x;exact ⟨ob,k _ _ (.inl rfl) e⟩
 | xd fs=>obtain ⟨mA,⟨od,es,ep,e,c⟩,r⟩:=x;exact ⟨mA,⟨od,es,ep,k _ _ (.inl rfl) e,c⟩,r⟩
 | rng lo hi=>obtain ⟨t,u,v,e⟩:=x;exact ⟨t,u,v,k _ _ (.inl rfl) e⟩
 | frz ob u ih=>obtain ⟨e,q⟩:=x;exact ⟨k _ _ (.inl rfl) e,ih q⟩
 | tbl ps=>
  have e:h.get? a=Dn { cls:=.none,data:=.fields ps }:=x;show h'.get? a=Dn { cls:=.none,data:=.fields ps };exact k a _ (.inl rfl) e
 | met f y=>
  have e:h.get? a=Dn (PySem.W.methodObj (.ref f) (.ref y)):=x;show h'.get? a=Dn (PySem.W.methodObj (.ref f) (.ref y));exact k a _ (.inl rfl) e
 | ext φ=>obtain ⟨p,⟨o,e⟩,st⟩:=x;exact ⟨st _ _ p fun o q=>k _ _ (.inl rfl) q,⟨o,k _ _ (.inl rfl) e⟩,st⟩
theorem Kc.lt (x:Kc P w H h)(e:H a=Dn o):a<h.objs.size:=(x a o e).lt
theorem Kc.fresh (x:Kc P w H h)(e:h.objs.size<=a):H a=FN:=by
 cases q:H a with
 | none=>rfl
 | some u=>exact absurd (Jl (x.lt q) e) (NK _)
theorem Kc.kept (x:Kc P w H h)(k:∀ b u,h.get? b=Dn u->h'.get? b=Dn u):Kc P w H h':=fun a o e=>
 (x a o e).stay (fun b u _ q=>k b u q) (fun _ q=>q) fun _ _ q=>q
theorem Kc.laid (x:Kc P w H h)(k:∀ b u,h.get? b=Dn u->h'.get? b=Dn u)(hp:h.objs.size<=a)(new:mX P w (G8 H a o) h' a o):Kc P w (G8 H a o) h':=fun b u e=>by
 have hn:=x.fresh hp;by_cases hb:b=a
 ·subst hb;rw [cj] at e;cases e;exact new
 ·rw [aM hb] at e;exact (x b u e).stay (fun c v _ q=>k c v q) (fun c q=>by rw [aM (aQ q hn)];exact q) fun c xs q=>by rw [aM (aQ q hn)];exact q
end
def Rd (H:Hp)(a:Addr)(u:HO):Prop:=H a=Dn u\/∃ o,H a=Dn (.frz o u)
theorem Rd.ok {P:FQ}{w:Cm}{H:Hp}{h:Heap}{a:Addr}{u:HO}(r:Rd H a u)(x:Kc P w H h):mX P w H h a u:=by
 rcases r with r | ⟨o,r⟩
 ·exact x a u r
 ·obtain ⟨_,q⟩:=x a _ r;exact q
def Mut:Option HO->Prop
 | some (.lst _)=>True
 | some (.dK _)=>True
 | some (.dT _)=>True
 | some (.set _ _)=>True
 | some (.ins _ _ _)=>True
 | some (.ext _)=>True
 | _=>False
section
variable {P:FQ}{w:Cm}{H:Hp}{h h':Heap}{x e:Addr}{o':HO}
theorem Kc.write (ok:Kc P w H h)(mu:Mut (H x))(he:e=x\/H e=Dn (.own x))(k:∀ b u,b≠e->h.get? b=Dn u->h'.get? b=Dn u)(heo:∃ u,h'.get? e=Dn u)
  (new:mX P w (G8 H x o') h' x o'):Kc P w (G8 H x o') h':=fun b u q=>by
 have nown:∀ c y,H c=Dn (.own y)->c≠x:=fun c y r z=>by subst z;rw [r] at mu;exact mu
 have ntup:∀ c xs,H c=Dn (.tup xs)->c≠x:=fun c xs r z=>by subst z;rw [r] at mu;exact mu
 by_cases hb:b=x
 ·subst hb;rw [cj] at q;cases q;exact new
 ·rw [aM hb] at q;by_cases hbe:b=e
  ·have q':H b=Dn (.own x):=by
    rcases he with z | z
    ·exact absurd (hbe.trans z) hb
    ·rw [hbe];exact z
   rw [q] at q';cases q';obtain ⟨v,hv⟩:=heo;exact ⟨v,by rw [hbe];exact hv⟩
  ·refine (ok b u q).stay (fun c v hc r=>k c v ?_ r) (fun c r=>by rw [aM (nown c b r)];exact r) fun c xs r=>by rw [aM (ntup c xs r)];exact r
   rcases hc with rfl | hc
   ·exact hbe
   ·rintro rfl;rcases he with z | z
    ·exact nown c b hc z
    ·rw [hc] at z;cases z;exact hb rfl
end
structure Un (fs ex:List Addr) (H H':Hp) (h h':Heap):Prop where
 keep:∀ b o,h.get? b=Dn o->H b=FN->b∉fs->b∉ex->h'.get? b=Dn o
 slot:∀ b o,h.get? b=Dn o->H b=FN->b∈fs->b∉ex->∃ sl,h'.get? b=Dn { o with slots:=sl }
 free:∀ b o,h.get? b=Dn o->H b=FN->b∉ex->H' b=FN
 there:∀ b o,h.get? b=Dn o->b∉ex->∃ o',h'.get? b=Dn o'
 tups:∀ b xs,H b=Dn (.tup xs)->H' b=Dn (.tup xs)
 frzs:∀ b o u,H b=Dn (.frz o u)->H' b=Dn (.frz o u)
 tbls:∀ b ps,H b=Dn (.tbl ps)->∃ more,H' b=Dn (.tbl (ps++more))
section
variable {fs fs' ex ex':List Addr}{H H1 H2:Hp}{h h1 h2 h':Heap}{a x e:Addr}{o:HO}
theorem Un.any (u:Un fs ex H H1 h h1){b:Addr}{ob:Obj}(q:h.get? b=Dn ob)(n:H b=FN)(hx:b∉ex):∃ sl,h1.get? b=Dn { ob with slots:=sl }:=by
 by_cases hb:b∈fs
 ·exact u.slot b ob q n hb hx
 ·exact ⟨ob.slots,u.keep b ob q n hb hx⟩
theorem Un.kept (k:∀ b u,h.get? b=Dn u->h'.get? b=Dn u):Un fs ex H H h h':=
 ⟨fun b ob q _ _ _=>k b ob q,fun b ob q _ _ _=>⟨ob.slots,k b ob q⟩,fun _ _ _ n _=>n,fun b ob q _=>⟨ob,k b ob q⟩,fun _ _ q=>q,fun _ _ _ q=>q,fun _ ps q=>⟨#[],by rw [q];simp⟩⟩
theorem Un.refl:Un fs ex H H h h:=Un.kept fun _ _ q=>q
theorem Un.laid (k:∀ b u,h.get? b=Dn u->h'.get? b=Dn u)(hp:h.objs.size<=a)(hn:H a=FN):Un fs ex H (G8 H a o) h h' where
 keep:=fun b u q _ _ _=>k b u q
 slot:=fun b u q _ _ _=>⟨u.slots,k b u q⟩
 free:=fun b u q n _=>by rw [aM (Jy (Jl (Gy q) hp))];exact n
 there:=fun b u q _=>⟨u,k b u q⟩
 tups:=fun b xs q=>by rw [aM (aQ q hn)];exact q
 frzs:=fun b u xs q=>by rw [aM (aQ q hn)];exact q
 tbls:=fun b ps q=>⟨#[],by rw [aM (aQ q hn),q];simp⟩
theorem Un.write (mu:Mut (H x))(he:e=x\/H e=Dn (.own x))(k:∀ b u,b≠e->h.get? b=Dn u->h'.get? b=Dn u)(heo:∃ u,h'.get? e=Dn u):Un fs ex H (G8 H x o) h h':=by
 have hx:∀ b,H b=FN->b≠x:=fun b n z=>by subst z;rw [n] at mu;exact mu
 have hb:∀ b,H b=FN->b≠e:=fun b n z=>by
  subst z;rcases he with r | r
  ·exact hx b n r
  ·rw [n] at r;cases r
 have hm:∀ b u,H b=Dn u->¬ Mut (Dn u)->b≠x:=fun b u q nm z=>by subst z;rw [q] at mu;exact nm mu
 refine ⟨fun b u q n _ _=>k b u (hb b n) q,fun b u q n _ _=>⟨u.slots,k b u (hb b n) q⟩,fun b u q n _=>by rw [aM (hx b n)];exact n,fun b u q _=>?_,
  fun b xs q=>by rw [aM (hm b _ q fun z=>z)];exact q,fun b u xs q=>by rw [aM (hm b _ q fun z=>z)];exact q,fun b ps q=>⟨#[],by rw [aM (hm b _ q fun z=>z),q];simp⟩⟩
 by_cases hbe:b=e
 ·subst hbe;exact heo
 ·exact ⟨u,k b u hbe q⟩
end
def trk (h:Heap)(H:Hp):List Addr:=(M5 h.objs.size).filter fun a=>(H a).isSome
def Oq (h:Heap)(H:Hp):Heap:=PySem.W.hideAll h (trk h H)
theorem zaO (h:Heap)(H:Hp):(Oq h H).objs.size=h.objs.size:=PySem.W.hideAll_size _ _
theorem zby {h:Heap}{H:Hp}{b:Addr}{o:Obj}(e:h.get? b=Dn o)(n:H b=FN):(Oq h H).get? b=Dn o:=
 PySem.W.hideAll_get _ e fun hm=>by
  have q:(H b).isSome=true:=(OD.mp hm).2;rw [n] at q;simp at q
theorem agt {h:Heap}{H:Hp}{b:Addr}{o:Obj}(e:(Oq h H).get? b=Dn o):h.get? b=Dn o/\H b=FN:=by
 have e':h.get? b=Dn o:=PySem.W.of_hideAll (trk h H) e;refine ⟨e',?_⟩;cases q:H b with
 | none=>rfl
 | some x=>
  have hm:b∈trk h H:=OD.mpr ⟨Nj.mpr (Gy e'),by simp [q]⟩;have z:(Oq h H).get? b=FN:=PySem.W.hideAll_none (trk h H) hm;rw [z] at e;cases e
def afs (g h:Heap)(L:Addr):List (Addr×Obj):=(M5 h.objs.size).filterMap fun a=>if a=L\/(g.get? a).isSome=true then FN else (h.get? a).map fun o=>(a,o)
def rest (g h:Heap)(L d:Addr):List (Addr×Obj):=(afs g h L).filter fun p=>decide (p.1≠d)
structure Mod (K:Ad) (mg:Str->Option JI) (base:Heap):Prop where
 kin:K.In base
 glob:base.Ns JG mg
 blt:∃ mb,base.Ns builtinsNs mb/\∀ x:Str,x ≠ "__name__"->mb x=RD x
 nolimit:base.NoLimit
structure Cx where
 prog:FQ
 w:Cm
 K:Ad
 mg:Str->Option JI
 base:Heap
 A:FT
 N:List Str
 s₀ : AP
 H₀ : Hp
 env:Env
 outer:List Env
 stack:List Env
 ex:List Addr
 fn:Str->Bool
 calm:Bool
 pn:List (Addr×Obj)
 xe:JI->AP->Prop
def frs (l:List Env):List Addr:=l.filterMap (·.frame)
abbrev Cx.fs (X:Cx):List Addr:=frs X.outer
def Vis (sc:Scope)(x:Str):Prop:=sc.names.lookup x=Dn .local\/sc.names.lookup x=Dn .cell\/sc.names.lookup x=Dn .free
def Loc (sc:Scope)(x:Str):Prop:=sc.names.lookup x=Dn .local\/sc.names.lookup x=Dn .cell
def Look (env:Env)(h:Heap)(m:Str->Option JI)(x:Str)(u:JI):Prop:=
 (env.kindOf x=Dn .local/\m x=Dn u)\/((env.kindOf x=Dn .cell\/env.kindOf x=Dn .free)/\∃ c,env.cells.lookup x=Dn c/\h.IsCell c (Dn u))
def Still (H:Hp)(v:JI):Prop:=∃ (a:Addr) (o:Obj) (u:HO) (vs:Array JI),v=.ref a/\H a=Dn (.frz o u)/\o.data=.fields vs/\vs[2]?=Dn .none
def Quiet (A:FT)(H:Hp):Prop:=∀ v,A.handled=Dn v->Still H v
structure Cx.Ok (X:Cx):Prop where
 mod:Mod X.K X.mg X.base
 kind:X.env.scope.kind=.function
 glob:X.env.globals=JG
 blt:X.env.builtins=builtinsNs
 above:X.s₀.heap.objs.size<=X.env.locals
 inj:∀ x y c,X.env.cells.lookup x=Dn c->X.env.cells.lookup y=Dn c->x=y
 has:∀ x,(X.env.kindOf x=Dn .cell\/X.env.kindOf x=Dn .free)->∃ c,X.env.cells.lookup x=Dn c
 cab:∀ x c,X.fn x=true->X.env.cells.lookup x=Dn c->X.s₀.heap.objs.size<=c
 hd:X.calm=true->X.A.handled=FN
 qt:Quiet X.A X.H₀
 frames:X.A.frames=Dn X.stack
 stk:X.stack=X.outer\/(X.stack=X.env::X.outer/\X.env.frame=Dn X.env.locals)
 exf:∀ b∈X.ex,b≠X.env.locals/\∀ x c,X.env.cells.lookup x=Dn c->c≠b
 bs:∀ b o,X.base.get? b=Dn o->X.s₀.heap.get? b=Dn o/\X.H₀ b=FN
 bsz:X.base.objs.size<=X.s₀.heap.objs.size
 noex:∀ b o,X.base.get? b=Dn o->b∉X.ex
 exfs:∀ b∈X.ex,b∉X.fs
 funs:X.s₀.heap.FunFrames X.base X.outer
 frf:∀ b∈X.fs,X.H₀ b=FN
structure Ac (X:Cx) (pins:List (Addr×Obj)) (σ : List (Option V)) (H:Hp) (s:AP):Prop where
 ok:X.Ok
 os:s.os=X.s₀.os
 bare:RB s.gens
 base:Un X.fs X.ex X.H₀ H X.s₀.heap s.heap
 loc:∃ m,s.heap.Ns X.env.locals m/\∀ (i:Nat) (x:Str) (v:V),X.N[i]?=Dn x->σ[i]?=Dn (Dn v)->Vis X.env.scope x->∃ u,RelV v u/\Look X.env s.heap m x u
 cell:∀ x c,X.env.cells.lookup x=Dn c->∃ v,s.heap.IsCell c v
 free:H X.env.locals=FN
 freeC:∀ x c,X.env.cells.lookup x=Dn c->H c=FN
 pin:∀ p∈X.pn++pins,s.heap.get? p.1=Dn p.2/\H p.1=FN/\p.1≠X.env.locals/\p.1∉X.fs/\∀ v,p.2.data≠.cell v
 hok:Kc X.prog X.w H s.heap
 len:σ.length=X.N.length
section
variable {X:Cx}{pins:List (Addr×Obj)}{σ : List (Option V)}{H H':Hp}{s:AP}{h':Heap}
theorem Cx.Ok.nofr (ok:X.Ok){b:Addr}{o:Obj}(e:X.base.get? b=Dn o):b∉X.fs:=fun hb=>by
 have:=(ok.funs.mem hb).1
 rw [e] at this;cases this
theorem Ac.bs (I:Ac X pins σ H s):∀ b o,X.base.get? b=Dn o->s.heap.get? b=Dn o/\H b=FN:=fun b o e=>
 ⟨I.base.keep b o (I.ok.bs b o e).1 (I.ok.bs b o e).2 (I.ok.nofr e) (I.ok.noex b o e),I.base.free b o (I.ok.bs b o e).1 (I.ok.bs b o e).2 (I.ok.noex b o e)⟩
theorem Ac.qt0 (I:Ac X pins σ H s):Quiet X.A H:=fun v e=>let ⟨a,o,u,vs,h1,h2,h3⟩:=I.ok.qt v e;⟨a,o,u,vs,h1,I.base.frzs a o u h2,h3⟩
theorem Ac.bk (I:Ac X pins σ H s):∀ b o,X.base.get? b=Dn o->s.heap.get? b=Dn o:=fun b o e=>(I.bs b o e).1
theorem Ac.mod (I:Ac X pins σ H s):Mod X.K X.mg X.base:=I.ok.mod
theorem Ac.kIn (I:Ac X pins σ H s):X.K.In s.heap:=I.ok.mod.kin.keeps I.bk
theorem Ac.lt (I:Ac X pins σ H s):X.env.locals<s.heap.objs.size:=let ⟨_,hn,_⟩:=I.loc;hn.lt
theorem Ac.sz (I:Ac X pins σ H s):X.s₀.heap.objs.size<=s.heap.objs.size:=Ii I.ok.above (Nat.le_of_lt I.lt)
theorem Ac.nofs (I:Ac X pins σ H s){a:Addr}(h:s.heap.objs.size<=a):a∉X.fs:=fun hb=>by
 obtain ⟨_,o,ho,_⟩:=I.ok.funs.mem hb;exact absurd (Jl (Gy ho)<|Ii I.sz h)<|NK _
theorem Ac.cne (I:Ac X pins σ H s):∀ x c,X.env.cells.lookup x=Dn c->c≠X.env.locals:=fun x c e z=>by
 obtain ⟨v,o,ho,hd⟩:=I.cell x c e;obtain ⟨m,⟨o',es,ep,ho',hd',_⟩,_⟩:=I.loc;rw [z,ho'] at ho;cases ho;rw [hd'] at hd;cases hd
theorem Ac.funs (I:Ac X pins σ H s):s.heap.FunFrames X.base X.outer:=by
 have all:∀ (l:List Env),(∀ b∈frs l,b∈X.fs)->X.s₀.heap.FunFrames X.base l->s.heap.FunFrames X.base l:=by
  intro l;induction l with
  | nil=>intro _ _;trivial
  | cons env r ih=>
   intro hs hl;obtain ⟨hk,⟨L,o,hf,hn,ho,hd⟩,hr⟩:=hl;have hL:L∈X.fs:=hs L (by unfold frs;rw [List.filterMap_cons,hf];exact Nb);obtain ⟨sl,e⟩:=I.base.slot L o ho (I.ok.frf L hL) hL fun z=>I.ok.exfs L z hL
   exact ⟨hk,⟨L,_,hf,hn,e,hd⟩,ih (fun b hb=>hs b (by unfold frs;rw [List.filterMap_cons,hf];exact Nh _ hb)) hr⟩
 exact all X.outer (fun _ hb=>hb) I.ok.funs
theorem Ac.stack (I:Ac X pins σ H s):s.heap.FunFrames X.base X.stack:=by
 rcases I.ok.stk with e | ⟨e,hf⟩
 ·rw [e];exact I.funs
 ·rw [e];obtain ⟨m,hn,_⟩:=I.loc;refine .cons (by rw [I.ok.kind];decide) hf hn ?_ I.funs;exact Heap.get?_none_of_le<|Ii I.ok.bsz I.ok.above
theorem Ac.stkSub (I:Ac X pins σ H s):∀ b∈frs X.stack,b∈X.env.locals::X.fs:=fun b hb=>by
 rcases I.ok.stk with e | ⟨e,hf⟩
 ·rw [e] at hb;exact Nh _ hb
 ·rw [e] at hb;unfold frs at hb;rw [List.filterMap_cons,hf] at hb;exact hb
theorem Ac.stkFree (I:Ac X pins σ H s):∀ b∈frs X.stack,H b=FN:=fun b hb=>by
 rcases J9.mp (I.stkSub b hb) with e | hb
 ·rw [e];exact I.free
 ·obtain ⟨_,o,ho,_⟩:=I.ok.funs.mem hb;exact I.base.free b o ho (I.ok.frf b hb) fun z=>I.ok.exfs b z hb
theorem Ac.stepG {g':Array GenState}{t':Nat}{d':Drawn}{ch:List Addr}(I:Ac X pins σ H s)
  (hch:∀ b∈ch,(b∈X.ex\/X.s₀.heap.get? b=FN)/\b≠X.env.locals/\(∀ x c,X.env.cells.lookup x=Dn c->c≠b)/\∀ p∈X.pn++pins,p.1≠b)
  (keep:∀ b o,b≠X.env.locals->b∉X.fs->b∉ch->s.heap.get? b=Dn o->H b=FN->h'.get? b=Dn o)
  (slot:∀ b o,b≠X.env.locals->b∈X.fs->b∉ch->s.heap.get? b=Dn o->H b=FN->∃ sl,h'.get? b=Dn { o with slots:=sl }) (free:∀ b o,b∉ch->s.heap.get? b=Dn o->H b=FN->H' b=FN)
  (there:∀ b o,b∉ch->s.heap.get? b=Dn o->∃ o',h'.get? b=Dn o')
  (tups:∀ b xs,H b=Dn (.tup xs)->H' b=Dn (.tup xs)) (frzs:∀ b o u,H b=Dn (.frz o u)->H' b=Dn (.frz o u)) (tbls:∀ b ps,H b=Dn (.tbl ps)->∃ more,H' b=Dn (.tbl (ps++more)))
  (ns:∀ m,s.heap.Ns X.env.locals m->h'.Ns X.env.locals m) (hok:Kc X.prog X.w H' h') (hg:RB g') :
  Ac X pins σ H' { s with heap:=h',gens:=g',drawn:=d',toks:=t' }:=by
 have neL:∀ b o,X.s₀.heap.get? b=Dn o->b≠X.env.locals:=fun b o e=>Jy (Jl (Gy e) I.ok.above)
 have neC:∀ b o,X.s₀.heap.get? b=Dn o->b∉X.ex->b∉ch:=fun b o e hx hb=>by
  rcases (hch b hb).1 with z | z
  ·exact hx z
  ·rw [z] at e;cases e
 have cellK:∀ x c,X.env.cells.lookup x=Dn c->∀ v,s.heap.IsCell c v->h'.IsCell c v:=fun x c e v ⟨o,ho,hd⟩=>by
  have nch:c∉ch:=fun z=>(hch c z).2.2.1 x c e rfl
  by_cases hc:c∈X.fs
  ·obtain ⟨sl,q⟩:=slot c o (I.cne x c e) hc nch ho (I.freeC x c e);exact ⟨_,q,hd⟩
  ·exact ⟨o,keep c o (I.cne x c e) hc nch ho<|I.freeC x c e,hd⟩
 refine ⟨I.ok,I.os,hg,⟨fun b o e n hb hx=>?_,fun b o e n hb hx=>?_,fun b o e n hx=>?_,fun b o e hx=>?_,fun b xs e=>tups b xs<|I.base.tups b xs e,fun b o xs e=>frzs b o xs<|I.base.frzs b o xs e,fun b ps e=>?_⟩,?_,fun x c e=>?_,?_,fun x c e=>?_,fun p hp=>?_,hok,I.len⟩
 ·exact keep b o (neL b o e) hb (neC b o e hx) (I.base.keep b o e n hb hx)<|I.base.free b o e n hx
 ·obtain ⟨sl,e1⟩:=I.base.slot b o e n hb hx;obtain ⟨sl',e2⟩:=slot b _ (neL b o e) hb (neC b o e hx) e1 (I.base.free b o e n hx);exact ⟨sl',e2⟩
 ·obtain ⟨o',e1⟩:=I.base.there b o e hx;exact free b o' (neC b o e hx) e1<|I.base.free b o e n hx
 ·obtain ⟨o',e1⟩:=I.base.there b o e hx;exact there b o' (neC b o e hx) e1
 ·obtain ⟨m1,e1⟩:=I.base.tbls b ps e;obtain ⟨m2,e2⟩:=tbls b _ e1;exact ⟨m1++m2,by rw [e2,Array.append_assoc]⟩
 ·obtain ⟨m,hn,hl⟩:=I.loc;refine ⟨m,ns m hn,fun i x v e1 e2 e3=>?_⟩;obtain ⟨u,r,l⟩:=hl i x v e1 e2 e3;refine ⟨u,r,?_⟩;rcases l with l | ⟨k,c,e,z⟩
  ·exact .inl l
  ·exact .inr ⟨k,c,e,cellK x c e _ z⟩
 ·obtain ⟨v,z⟩:=I.cell x c e;exact ⟨v,cellK x c e v z⟩
 ·obtain ⟨m,⟨o,_,_,ho,_⟩,_⟩:=I.loc;exact free _ o (fun z=>(hch _ z).2.1 rfl) ho I.free
 ·obtain ⟨v,o,ho,hd⟩:=I.cell x c e;exact free c o (fun z=>(hch c z).2.2.1 x c e rfl) ho<|I.freeC x c e
 ·obtain ⟨e,n,ne,nf,d⟩:=I.pin p hp;have nch:p.1∉ch:=fun z=>(hch p.1 z).2.2.2 p hp rfl
  exact ⟨keep p.1 p.2 ne nf nch e n,free p.1 p.2 nch e n,ne,nf,d⟩
theorem Ac.step {g':Array GenState}{t':Nat}{d':Drawn}{ch:List Addr}(I:Ac X pins σ H s)
  (hch:∀ b∈ch,(b∈X.ex\/X.s₀.heap.objs.size<=b)/\b≠X.env.locals/\(∀ x c,X.env.cells.lookup x=Dn c->c≠b)/\∀ p∈X.pn++pins,p.1≠b)
  (keep:∀ b o,b≠X.env.locals->b∉X.fs->b∉ch->s.heap.get? b=Dn o->H b=FN->h'.get? b=Dn o)
  (slot:∀ b o,b≠X.env.locals->b∈X.fs->b∉ch->s.heap.get? b=Dn o->H b=FN->∃ sl,h'.get? b=Dn { o with slots:=sl }) (free:∀ b o,b∉ch->s.heap.get? b=Dn o->H b=FN->H' b=FN)
  (there:∀ b o,b∉ch->s.heap.get? b=Dn o->∃ o',h'.get? b=Dn o')
  (tups:∀ b xs,H b=Dn (.tup xs)->H' b=Dn (.tup xs)) (frzs:∀ b o u,H b=Dn (.frz o u)->H' b=Dn (.frz o u)) (tbls:∀ b ps,H b=Dn (.tbl ps)->∃ more,H' b=Dn (.tbl (ps++more)))
  (ns:∀ m,s.heap.Ns X.env.locals m->h'.Ns X.env.locals m) (hok:Kc X.prog X.w H' h') (hg:RB g') :
  Ac X pins σ H' { s with heap:=h',gens:=g',drawn:=d',toks:=t' }:=
 I.stepG (ch:=ch) (fun b z=>⟨(hch b z).1.imp id fun q=>Heap.get?_none_of_le q,(hch b z).2⟩) keep slot free there tups frzs tbls ns hok hg
theorem Ac.un {t':Nat}(I:Ac X pins σ H s)(u:Un X.fs [] H H' s.heap h')(hok:Kc X.prog X.w H' h'):Ac X pins σ H' { s with heap:=h',toks:=t' }:=by
 obtain ⟨m,⟨o,es,ep,ho,r⟩,_⟩:=id I.loc;obtain ⟨sl,hL⟩:=u.any ho I.free (by simp);exact I.step (g':=s.gens) (d':=s.drawn) (ch:=[]) (fun _ z=>nomatch z) (fun b o _ hb _ e n=>u.keep b o e n hb (by simp)) (fun b o _ hb _ e n=>u.slot b o e n hb (by simp)) (fun b o _ e n=>u.free b o e n (by simp)) (fun b o _ e=>u.there b o e (by simp)) u.tups u.frzs u.tbls (fun m' hm=>by
  obtain ⟨o',es',ep',ho',r'⟩:=hm;rw [ho] at ho';cases ho';exact ⟨_,es',ep',hL,r'⟩) hok I.bare
theorem Ac.call {g':Array GenState}{t':Nat}{d':Drawn}{ch:List Addr}(I:Ac X pins σ H s)(u:Un (frs X.stack) ch H H' s.heap h')(hok:Kc X.prog X.w H' h')(hg:RB g')
  (hch:∀ b∈ch,(b∈X.ex\/X.s₀.heap.objs.size<=b)/\b≠X.env.locals/\(∀ x c,X.env.cells.lookup x=Dn c->c≠b)/\∀ p∈X.pn++pins,p.1≠b) :
  Ac X pins σ H' { s with heap:=h',gens:=g',drawn:=d',toks:=t' }:=by
 obtain ⟨m,⟨o,es,ep,ho,r⟩,_⟩:=id I.loc;obtain ⟨sl,hL⟩:=u.any ho I.free fun z=>(hch _ z).2.1 rfl
 exact I.step (ch:=ch) hch (fun b o hL hb hc e n=>u.keep b o e n (fun z=>(J9.mp (I.stkSub b z)).elim hL hb) hc) (fun b o _ _ hc e n=>u.any e n hc) (fun b o hc e n=>u.free b o e n hc) (fun b o hc e=>u.there b o e hc) u.tups u.frzs u.tbls (fun m' hm=>by
  obtain ⟨o',es',ep',ho',r'⟩:=hm;rw [ho] at ho';cases ho';exact ⟨_,es',ep',hL,r'⟩) hok hg
theorem Ac.turned {t':Nat}{it:Addr}(I:Ac X pins σ H s)(k:∀ b o,b≠it->s.heap.get? b=Dn o->h'.get? b=Dn o)(hn:H it=FN)(hL:it≠X.env.locals)
  (h1:it∈X.ex\/X.s₀.heap.objs.size<=it) (h2:∀ x c,X.env.cells.lookup x=Dn c->c≠it) (h3:∀ p∈X.pn++pins,p.1≠it):Ac X pins σ H { s with heap:=h',toks:=t' }:=by
 have nit:∀ b u,H b=Dn u->b≠it:=fun b u e z=>by rw [z,hn] at e;cases e
 refine I.step (g':=s.gens) (d':=s.drawn) (ch:=[it]) (fun b hb=>?_) (fun b o _ _ hc e _=>k b o (fun z=>hc<|by simp [z]) e) (fun b o _ _ hc e _=>⟨o.slots,k b o (fun z=>hc<|by simp [z]) e⟩) (fun _ _ _ _ n=>n)
  (fun b o hc e=>⟨o,k b o (fun z=>hc (by simp [z])) e⟩) (fun _ _ e=>e) (fun _ _ _ e=>e) (fun b ps e=>⟨#[],by rw [e];simp⟩) (fun m hm=>?_) (fun b u e=>?_) I.bare
 ·have e:b=it:=by simpa using hb
  subst e;exact ⟨h1,hL,h2,h3⟩
 ·obtain ⟨o,es,ep,ho,r⟩:=hm;exact ⟨o,es,ep,k _ o (MK hL) ho,r⟩
 ·refine (I.hok b u e).stay (fun c v hc q=>k c v ?_ q) (fun _ q=>q) fun _ _ q=>q;rcases hc with z | z
  ·rw [z];exact nit b u e
  ·exact nit c _ z
theorem Ac.tok (I:Ac X pins σ H s)(t:Nat):Ac X pins σ H { s with toks:=t }:=I.un (h':=s.heap) (t':=t) Un.refl I.hok
theorem Ac.kept {t':Nat}(I:Ac X pins σ H s)(k:∀ b u,s.heap.get? b=Dn u->h'.get? b=Dn u):Ac X pins σ H { s with heap:=h',toks:=t' }:=I.un (Un.kept k) (I.hok.kept k)
theorem Ac.laid {a:Addr}{o:HO}{t':Nat}(I:Ac X pins σ H s)(k:∀ b u,s.heap.get? b=Dn u->h'.get? b=Dn u)(hp:s.heap.objs.size<=a)(new:mX X.prog X.w (G8 H a o) h' a o) :
  Ac X pins σ (G8 H a o) { s with heap:=h',toks:=t' }:=I.un (Un.laid k hp (I.hok.fresh hp)) (I.hok.laid k hp new)
theorem Ac.write {x e:Addr}{o:HO}{t':Nat}(I:Ac X pins σ H s)(mu:Mut (H x))(he:e=x\/H e=Dn (.own x))(k:∀ b u,b≠e->s.heap.get? b=Dn u->h'.get? b=Dn u)(heo:∃ u,h'.get? e=Dn u)
  (new:mX X.prog X.w (G8 H x o) h' x o):Ac X pins σ (G8 H x o) { s with heap:=h',toks:=t' }:=I.un (Un.write mu he k heo) (I.hok.write mu he k heo new)
theorem Ac.weak {σ':List (Option V)}(I:Ac X pins σ H s)(hl:σ'.length = σ.length)(w:∀ (i:Nat) v,σ'[i]?=Dn (Dn v)->σ[i]?=Dn (Dn v)):Ac X pins σ' H s:=
 ⟨I.ok,I.os,I.bare,I.base,let ⟨m,hn,hl'⟩:=I.loc;⟨m,hn,fun i x v e1 e2 e3=>hl' i x v e1 (w i v e2) e3⟩,I.cell,I.free,I.freeC,I.pin,I.hok,hl.trans I.len⟩
theorem Ac.pins_of {pins':List (Addr×Obj)}(I:Ac X pins σ H s)(h:∀ p∈pins',s.heap.get? p.1=Dn p.2/\H p.1=FN/\p.1≠X.env.locals/\p.1∉X.fs/\∀ v,p.2.data≠.cell v):Ac X pins' σ H s:=
 ⟨I.ok,I.os,I.bare,I.base,I.loc,I.cell,I.free,I.freeC,fun p hp=>(Mw.mp hp).elim (fun z=>I.pin p (List.mem_append_left _ z)) (h p),I.hok,I.len⟩
theorem Fg {N:List Str}(hN:N.Nodup){i j:Nat}{x:Str}(a:N[i]?=Dn x)(b:N[j]?=Dn x):i=j:=by
 obtain ⟨h1,e1⟩:=NT.mp a;obtain ⟨h2,e2⟩:=NT.mp b;exact (List.getElem_inj hN).mp (e1.trans e2.symm)
theorem yU {M:Model}{A:FT}{E:JI->AP->Prop}{i:Nat}{x:Str}{v:V}{u:JI}{Q:Unit->AP->Prop}(I:Ac X pins σ H s)(hN:X.N.Nodup)(hi:X.N[i]?=Dn x)(hx:Loc X.env.scope x)(r:RelV v u)
  (h:∀ s',Ac X pins (σ.set i (Dn v)) H s'->(∃ a,TK a s.heap s'.heap/\(a=X.env.locals\/X.env.cells.lookup x=Dn a))->Q () s') (hf:X.fn x=true\/X.env.scope.names.lookup x=Dn .local:=by first | exact .inl rfl | exact .inr rfl | assumption):CR M A (storeName X.env x u) Q E s:=by
 obtain ⟨m,hn,hl⟩:=id I.loc;have hcls:(X.env.scope.kind==.class||(X.env.scope.kind==.module&&X.env.locals != X.env.globals))=false:=by rw [I.ok.kind];rfl
 have hiσ : i < σ.length:=by rw [I.len];exact (NT.mp hi).1
 have cne:=I.cne;have tracked:∀ {a:Addr} {h':Heap},(∃ o,s.heap.get? a=Dn o/\H a=FN)->TK a s.heap h'->Kc X.prog X.w H h':=fun {a h'} ha hs b ob e=>by
  obtain ⟨_,_,hfree⟩:=ha;refine (I.hok b ob e).stay (fun c w' hc q=>(hs.2 c ?_).trans q) (fun _ q=>q) fun _ _ q=>q;rintro rfl;rcases hc with rfl | hc
  ·rw [hfree] at e;cases e
  ·rw [hfree] at hc;cases hc
 rcases hx with hk | hk
 ·refine wpAny_storeName_local hk hn (fun h' hn' hs=>?_) hcls;obtain ⟨oL,_,_,hoL,_⟩:=id hn;refine h _ ⟨I.ok,I.os,I.bare,⟨fun b o e n hb hx=>?_,fun b o e n hb hx=>?_,I.base.free,fun b o e hx=>?_,I.base.tups,I.base.frzs,I.base.tbls⟩,⟨_,hn',fun j y v' e1 e2 e3=>?_⟩,fun y c e=>?_,I.free,I.freeC,fun p hp=>?_,tracked ⟨oL,hoL,I.free⟩ hs,by simpa using I.len⟩ ⟨_,hs,.inl rfl⟩
  ·exact (hs.2 b<|Jy<|Jl (Gy e) I.ok.above).trans (I.base.keep b o e n hb hx)
  ·obtain ⟨sl,e1⟩:=I.base.slot b o e n hb hx;exact ⟨sl,(hs.2 b<|Jy<|Jl (Gy e) I.ok.above).trans e1⟩
  ·obtain ⟨o',e1⟩:=I.base.there b o e hx;exact ⟨o',(hs.2 b<|Jy<|Jl (Gy e) I.ok.above).trans e1⟩
  ·by_cases hj:j=i
   ·subst hj;rw [hi] at e1;cases e1;rw [List.getElem?_set_self hiσ] at e2;cases e2;exact ⟨u,r,.inl ⟨hk,by simp⟩⟩
   ·rw [List.getElem?_set_ne (MK hj)] at e2;obtain ⟨u',r',q⟩:=hl j y v' e1 e2 e3;refine ⟨u',r',?_⟩;rcases q with ⟨k,e⟩ | ⟨k,c,e,z⟩
    ·refine .inl ⟨k,?_⟩;have:y≠x:=fun e=>hj (Fg hN e1 (e ▸ hi))
     simp [this,e]
    ·exact .inr ⟨k,c,e,z.sameBut hs<|cne y c e⟩
  ·obtain ⟨w',z⟩:=I.cell y c e;exact ⟨w',z.sameBut hs<|cne y c e⟩
  ·obtain ⟨e,n,ne,nf,d⟩:=I.pin p hp;exact ⟨(hs.2 p.1 ne).trans e,n,ne,nf,d⟩
 ·have hfn:X.fn x=true:=by
   rcases hf with z | z
   ·exact z
   ·rw [z] at hk;cases hk
  obtain ⟨c,hc⟩:=I.ok.has x (.inl hk);obtain ⟨w',z⟩:=I.cell x c hc;refine wpAny_storeName_cell I.ok.kind hk hc z<|fun h' hc' hs=>?_
  obtain ⟨oc,hoc,hocd⟩:=id z;refine h { s with heap:=h' } ⟨I.ok,I.os,I.bare,⟨fun b o e n hb hx=>?_,fun b o e n hb hx=>?_,I.base.free,fun b o e hx=>?_,I.base.tups,I.base.frzs,I.base.tbls⟩,⟨m,hn.sameBut hs<|MK<|cne x c hc,fun j y v' e1 e2 e3=>?_⟩,fun y c' e=>?_,I.free,I.freeC,fun p hp=>?_,tracked ⟨oc,hoc,I.freeC x c hc⟩ hs,by simpa using I.len⟩ ⟨c,hs,.inr hc⟩
  ·exact (hs.2 b<|Jy<|Jl (Gy e)<|I.ok.cab x c hfn hc).trans (I.base.keep b o e n hb hx)
  ·obtain ⟨sl,e1⟩:=I.base.slot b o e n hb hx;exact ⟨sl,(hs.2 b<|Jy<|Jl (Gy e)<|I.ok.cab x c hfn hc).trans e1⟩
  ·obtain ⟨o',e1⟩:=I.base.there b o e hx;exact ⟨o',(hs.2 b<|Jy<|Jl (Gy e)<|I.ok.cab x c hfn hc).trans e1⟩
  ·by_cases hj:j=i
   ·subst hj;rw [hi] at e1;cases e1;rw [List.getElem?_set_self hiσ] at e2;cases e2;exact ⟨u,r,.inr ⟨.inl hk,c,hc,hc'⟩⟩
   ·rw [List.getElem?_set_ne (MK hj)] at e2;obtain ⟨u',r',q⟩:=hl j y v' e1 e2 e3;refine ⟨u',r',?_⟩;rcases q with q | ⟨k,c',e,z'⟩
    ·exact .inl q
    ·refine .inr ⟨k,c',e,z'.sameBut hs ?_⟩;rintro rfl;exact hj<|Fg hN e1<|I.ok.inj _ _ _ e hc ▸ hi
  ·by_cases hcc:c'=c
   ·subst hcc;exact ⟨_,hc'⟩
   ·obtain ⟨w2,z2⟩:=I.cell y c' e;exact ⟨w2,z2.sameBut hs hcc⟩
  ·obtain ⟨e,n,ne,nf,d⟩:=I.pin p hp;refine ⟨(hs.2 p.1 ?_).trans e,n,ne,nf,d⟩;intro q;rw [q,hoc] at e;have q':oc=p.2:=Hz e;exact d w' (by rw [<-q'];exact hocd)
theorem qN {M:Model}{A:FT}{E:JI->AP->Prop}{i:Nat}{x:Str}{v:V}{u:JI}{Q:Unit->AP->Prop}(I:Ac X pins σ H s)(hN:X.N.Nodup)(hi:X.N[i]?=Dn x)(hx:Loc X.env.scope x)(r:RelV v u)
  (h:∀ s',Ac X pins (σ.set i (Dn v)) H s'->Q () s') (hf:X.fn x=true\/X.env.scope.names.lookup x=Dn .local:=by first | exact .inl rfl | exact .inr rfl | assumption):CR M A (storeName X.env x u) Q E s:=
 yU I hN hi hx r (fun s' I' _=>h s' I') hf
theorem Ac.call' {s':AP}{ch:List Addr}(I:Ac X pins σ H s)(ho:s'.os=s.os)(u:Un (frs X.stack) ch H H' s.heap s'.heap)(hok:Kc X.prog X.w H' s'.heap)(hg:RB s'.gens)
  (hch:∀ b∈ch,(b∈X.ex\/X.s₀.heap.objs.size<=b)/\b≠X.env.locals/\(∀ x c,X.env.cells.lookup x=Dn c->c≠b)/\∀ p∈X.pn++pins,p.1≠b):Ac X pins σ H' s':=by
 obtain ⟨h',g',d',t',o'⟩:=s';have e:o'=s.os:=ho;subst e;exact I.call (g':=g') (t':=t') (d':=d') u hok hg hch
end
abbrev XK:=JI->Option Addr->Hp->Prop
abbrev St:=List (Option V)
abbrev VK:=V->Hp->Prop
abbrev TE:=St->Hp->VK->Prop
abbrev TT:=St->Hp->(Bool->Hp->Prop)->Prop
abbrev TA:=St->Hp->(List V->Hp->Prop)->Prop
structure Ends where
 nx:St->Hp->Prop
 rt:VK
 bk:St->Hp->Prop:=fun _ _=>False
 ct:St->Hp->Prop:=fun _ _=>False
abbrev TS:=Ends->St->Hp->Prop
def EP (X:Cx)(pins:List (Addr×Obj))(σ : St)(Q:VK)(u:JI)(s':AP):Prop:=∃ v H',Ac X pins σ H' s'/\RelV v u/\Q v H'
def TP (X:Cx)(pins:List (Addr×Obj))(σ : St)(Q:Bool->Hp->Prop)(b:Bool)(s':AP):Prop:=∃ H',Ac X pins σ H' s'/\Q b H'
def aee (X:Cx)(pins:List (Addr×Obj))(σ : St)(Q:List V->Hp->Prop)(us:List JI)(s':AP):Prop:=∃ vs H',Ac X pins σ H' s'/\BL vs us/\Q vs H'
def SP (X:Cx)(pins:List (Addr×Obj))(D:Ends)(f:Flow)(s':AP):Prop:=
 match f with
 | .next=>∃ σ' H',Ac X pins σ' H' s'/\D.nx σ' H'
 | .brk=>∃ σ' H',Ac X pins σ' H' s'/\D.bk σ' H'
 | .cont=>∃ σ' H',Ac X pins σ' H' s'/\D.ct σ' H'
 | .ret u=>∃ v σ' H',Ac X pins σ' H' s'/\RelV v u/\D.rt v H'
def PE (X:Cx)(e:Expr)(t:TE):Prop:=
 ∀ (pins:List (Addr×Obj)) (s:AP) (σ : St) (H:Hp) (Q:VK),Ac X pins σ H s->t σ H Q->CR (FP X.prog X.w) X.A (eval e X.env) (EP X pins σ Q) X.xe s
def PT (X:Cx)(e:Expr)(t:TT):Prop:=
 ∀ (pins:List (Addr×Obj)) (s:AP) (σ : St) (H:Hp) (Q:Bool->Hp->Prop),Ac X pins σ H s->t σ H Q->CR (FP X.prog X.w) X.A (isTrue e X.env (eval e X.env)) (TP X pins σ Q) X.xe s
def PW (X:Cx)(e:Expr)(t:TT):Prop:=
 ∀ (whole:Sem JI) (pins:List (Addr×Obj)) (s:AP) (σ : St) (H:Hp) (Q:Bool->Hp->Prop),Ac X pins σ H s->t σ H Q->CR (FP X.prog X.w) X.A (isTrue e X.env whole) (TP X pins σ Q) X.xe s
theorem PW.pt {X:Cx}{e:Expr}{t:TT}(h:PW X e t):PT X e t:=h _
def PA (X:Cx)(es:List Expr)(t:TA):Prop:=
 ∀ (pos:Pos) (pins:List (Addr×Obj)) (s:AP) (σ : St) (H:Hp) (Q:List V->Hp->Prop),Ac X pins σ H s->t σ H Q->CR (FP X.prog X.w) X.A (spliced (K5 pos (Fx es X.env))) (aee X pins σ Q) X.xe s
def PS (X:Cx)(st:Stmt)(t:TS):Prop:=
 ∀ (pins:List (Addr×Obj)) (s:AP) (σ : St) (H:Hp) (D:Ends),Ac X pins σ H s->t D σ H->CR (FP X.prog X.w) X.A (exec st X.env) (SP X pins D) X.xe s
def Mf (X:Cx)(st:List Stmt)(t:TS):Prop:=
 ∀ (pins:List (Addr×Obj)) (s:AP) (σ : St) (H:Hp) (D:Ends),Ac X pins σ H s->t D σ H->CR (FP X.prog X.w) X.A (execs st X.env) (SP X pins D) X.xe s
theorem G6 {α : Type}{t:Sem α}{Q Q':α->AP->Prop}{M:Model}{A:FT}{E:JI->AP->Prop}{s:AP}(h:CR M A t Q E s)(hQ:∀ a s,Q a s->Q' a s):CR M A t Q' E s:=NQ h hQ fun _ _ x=>x
section
variable {X:Cx}
def Yg (i:Nat):TE:=fun σ H Q=>∃ v,σ[i]?=Dn (Dn v)/\Q v H
def tC (v:V):TE:=fun _ H Q=>Q v H
theorem YW {i:Nat}{x:Str}{pos:Pos}(hN:X.N[i]?=Dn x)(hv:Vis X.env.scope x)(hd:(x==("__debug__" : Str))=false:=by decide)(hcd:(x==("__classdict__" : Str))=false:=by decide):PE X (.Name x pos) (Yg i):=by
 intro pins s σ H Q I h;obtain ⟨v,e,h⟩:=h;obtain ⟨m,hn,hl⟩:=I.loc;obtain ⟨u,r,l⟩:=hl i x v hN e hv;have fin:EP X pins σ Q u s:=⟨v,H,I,r,h⟩
 rcases l with ⟨hk,hm⟩ | ⟨hk,c,hc,hcell⟩
 ·exact wpAny_Name (wpAny_loadName_local I.ok.kind hk hn hm fin) hd
 ·rcases hk with hk | hk
  ·exact wpAny_Name (wpAny_loadName_cell I.ok.kind hk hc hcell fin) hd
  ·exact wpAny_Name (wpAny_loadName_free I.ok.kind hk hc hcell fin hcd) hd
theorem YX {i j pos}:PE X (.Constant (.int i) j pos) (tC (.int i)):=fun _ _ _ H _ I h=>wpAny_Constant_int ⟨.int i,H,I.tok _,⟨_,rfl⟩,h⟩
theorem abb {b j pos}:PE X (.Constant (.bool b) j pos) (tC (.bl b)):=fun _ _ _ H _ I h=>Constant_bool ⟨.bl b,H,I,rfl,h⟩
theorem Y6 {j pos}:PE X (.Constant .none j pos) (tC .non):=fun _ _ _ H _ I h=>Constant_none ⟨.non,H,I,rfl,h⟩
theorem ZX {x j pos}:PE X (.Constant (.str x) j pos) (tC (.str x)):=fun _ _ _ H _ I h=>Calls.Constant_str ⟨.str x,H,I.tok _,⟨_,rfl⟩,h⟩
def Gl (X:Cx)(x:Str):Prop:=X.env.kindOf x=Dn .globalImplicit
theorem Ao {E:JI->AP->Prop}{pins:List (Addr×Obj)}{s:AP}{σ : St}{H:Hp}{x:Str}{u:JI}{pos:Pos}{Q:JI->AP->Prop}(I:Ac X pins σ H s)(hg:Gl X x)(hm:X.mg x=Dn u)(h:Q u s)
  (hd:(x==("__debug__" : Str))=false:=by decide):CR (FP X.prog X.w) X.A (eval (.Name x pos) X.env) Q E s:=
 Calls.Name_function_global I.ok.kind hg (Calls.loadGlobal_global (by rw [I.ok.glob];exact I.mod.glob.keeps I.bk) hm h) hd
theorem tL {E:JI->AP->Prop}{pins:List (Addr×Obj)}{s:AP}{σ : St}{H:Hp}{x:Str}{u:JI}{pos:Pos}{Q:JI->AP->Prop}(I:Ac X pins σ H s)(hg:Gl X x)(hm:X.mg x=FN)(hv:RD x=Dn u)(h:Q u s)
  (hn:x ≠ "__name__":=by decide) (hd:(x==("__debug__" : Str))=false:=by decide):CR (FP X.prog X.w) X.A (eval (.Name x pos) X.env) Q E s:=by
 obtain ⟨mb,h1,h2⟩:=I.mod.blt;exact Calls.Name_function_global I.ok.kind hg (Calls.loadGlobal_builtin (by rw [I.ok.glob];exact I.mod.glob.keeps I.bk) hm (by rw [I.ok.blt];exact h1.keeps I.bk) ((h2 x hn).trans hv) h) hd
theorem Jg {x:Str}{v:V}{u:JI}{pos:Pos}(hg:Gl X x)(hm:X.mg x=Dn u)(r:RelV v u)(hd:(x==("__debug__" : Str))=false:=by decide):PE X (.Name x pos) (tC v):=
 fun _ _ _ H _ I h=>Ao I hg hm ⟨v,H,I,r,h⟩ hd
theorem xR {x:Str}{v:V}{u:JI}{pos:Pos}(hg:Gl X x)(hm:X.mg x=FN)(hv:RD x=Dn u)(r:RelV v u)(hn:x ≠ "__name__":=by decide)(hd:(x==("__debug__" : Str))=false:=by decide):PE X (.Name x pos) (tC v):=
 fun _ _ _ H _ I h=>tL I hg hm hv ⟨v,H,I,r,h⟩ hn hd
variable {a b:Expr}{ta tb:TE}{pos:Pos}
variable {tA tB':TT}{rest:List Expr}
def adM (t u:TT):TT:=fun σ H Q=>t σ H fun c H1=>if c=true then u σ H1 Q else Q false H1
def tOr (t u:TT):TT:=fun σ H Q=>t σ H fun c H1=>if c=true then Q true H1 else u σ H1 Q
def adw (t:TT):TT:=fun σ H Q=>t σ H fun c H1=>Q (!c) H1
theorem Vj (ha:PT X a tA):PW X (.BoolOp .And [a] pos) tA:=by
 intro wh pins s σ H Q I h;refine isTrue_and<|G6 (ha pins s σ H Q I h) fun c s1 e=>?_
 cases c with
 | true=>exact isTrue_and_nil e
 | false=>exact e
theorem WD (ha:PT X a tA):PW X (.BoolOp .Or [a] pos) tA:=by
 intro wh pins s σ H Q I h;refine isTrue_or<|G6 (ha pins s σ H Q I h) fun c s1 e=>?_
 cases c with
 | false=>exact isTrue_or_nil e
 | true=>exact e
theorem YS (ha:PT X a tA)(hb:PW X (.BoolOp .And (b::rest) pos) tB'):PW X (.BoolOp .And (a::b::rest) pos) (adM tA tB'):=by
 intro wh pins s σ H Q I h;refine isTrue_and<|G6 (ha pins s σ H _ I h) fun c s1 ⟨H1,I1,q1⟩=>?_
 cases c with
 | true=>exact hb wh pins s1 σ H1 Q I1 q1
 | false=>exact ⟨H1,I1,q1⟩
theorem abJ (ha:PT X a tA)(hb:PW X (.BoolOp .Or (b::rest) pos) tB'):PW X (.BoolOp .Or (a::b::rest) pos) (tOr tA tB'):=by
 intro wh pins s σ H Q I h;refine isTrue_or<|G6 (ha pins s σ H _ I h) fun c s1 ⟨H1,I1,q1⟩=>?_
 cases c with
 | true=>exact ⟨H1,I1,q1⟩
 | false=>exact hb wh pins s1 σ H1 Q I1 q1
theorem XQ (ha:PT X a tA):PT X (.UnaryOp .Not a pos) (adw tA):=by
 intro pins s σ H Q I h;exact isTrue_not<|ha pins s σ H (fun c H1=>Q (!c) H1) I h
def ab0 (ta tb:TE):TE:=fun σ H Q=>ta σ H fun x H1=>∃ c,x=.bl c/\if c=true then tb σ H1 Q else Q (.bl false) H1
def adO (ta tb:TE):TE:=fun σ H Q=>ta σ H fun x H1=>∃ c,x=.bl c/\if c=true then Q (.bl true) H1 else tb σ H1 Q
theorem VR {op}{t:TE}(h:PE X a t):PE X (.BoolOp op [a] pos) t:=fun pins s σ H Q I hw=>BoolOp_one (h pins s σ H Q I hw)
theorem ZL (ha:PE X a ta)(hb:PE X (.BoolOp .And (b::rest) pos) tb):PE X (.BoolOp .And (a::b::rest) pos) (ab0 ta tb):=by
 intro pins s σ H Q I h;refine BoolOp_and<|G6 (ha pins s σ H _ I h) fun v s1 ⟨x,H1,I1,r1,q1⟩=>?_
 obtain ⟨c,rfl,q1⟩:=q1;cases r1;refine SN ?_;cases c with
 | true=>exact hb pins s1 σ H1 Q I1 q1
 | false=>exact ⟨.bl false,H1,I1,rfl,q1⟩
theorem aaX (ha:PE X a ta)(hb:PE X (.BoolOp .Or (b::rest) pos) tb):PE X (.BoolOp .Or (a::b::rest) pos) (adO ta tb):=by
 intro pins s σ H Q I h;refine BoolOp_or<|G6 (ha pins s σ H _ I h) fun v s1 ⟨x,H1,I1,r1,q1⟩=>?_
 obtain ⟨c,rfl,q1⟩:=q1;cases r1;refine SN ?_;cases c with
 | false=>exact hb pins s1 σ H1 Q I1 q1
 | true=>exact ⟨.bl true,H1,I1,rfl,q1⟩
def tIf (t:TT)(ta tb:TE):TE:=fun σ H Q=>t σ H fun c H1=>if c=true then ta σ H1 Q else tb σ H1 Q
theorem zbl {c:Expr}(hc:PT X c tA)(ha:PE X a ta)(hb:PE X b tb):PE X (.IfExp c a b pos) (tIf tA ta tb):=by
 intro pins s σ H Q I h;refine wpAny_IfExp<|G6 (hc pins s σ H _ I h) fun d s1 ⟨H1,I1,q1⟩=>?_
 cases d with
 | true=>exact ha pins s1 σ H1 Q I1 q1
 | false=>exact hb pins s1 σ H1 Q I1 q1
end
def Io (K:Ad)(H:Hp)(a:Addr)(xs:List V):Prop:=
 Rd H a (.lst xs) \/
  ∃ (o:Obj) (its:Array JI) (n:Nat),K.lookup a=Dn o/\o.cls=.type "list"/\o.dict=FN/\o.data=.seq its n/\its.size<=Gn/\BL xs its.toList
def J4 (K:Ad)(H:Hp)(a:Addr)(xs:List V):Prop:=
 Rd H a (.tup xs) \/
  ∃ (o:Obj) (its:Array JI) (n:Nat),K.lookup a=Dn o/\o.cls=.type "tuple"/\o.data=.seq its n/\its.size<=Gn/\BL xs its.toList/\o.dict=FN
def adu:JI->Option V
 | .none=>Dn .non
 | .bool b=>Dn (.bl b)
 | .int i _=>Dn (.int i)
 | .str x _=>Dn (.str x)
 | .bytes b _=>Dn (.byt b)
 | .float b _=>Dn (.flt b)
 | .ref a=>Dn (.ref a)
 | .type n=>Dn (.ty n)
 | _=>FN
theorem RelV.abs {x:V}{u:JI}(r:RelV x u):adu u=Dn x:=by
 cases x with
 | non=>cases r;rfl
 | bl _=>cases r;rfl
 | int _=>obtain ⟨t,rfl⟩:=r;rfl
 | str _=>obtain ⟨t,rfl⟩:=r;rfl
 | byt _=>obtain ⟨t,rfl⟩:=r;rfl
 | flt _=>obtain ⟨t,rfl⟩:=r;rfl
 | ref _=>cases r;rfl
 | ty _=>cases r;rfl
theorem RelV.inj {x y:V}{u:JI}(r:RelV x u)(q:RelV y u):x=y:=Hz (r.abs.symm.trans q.abs)
theorem BL.inj:∀ {xs ys:List V} {us:List JI},BL xs us->BL ys us->xs=ys
 | _,_,_,.nil,.nil=>rfl
 | _,_,_,.cons r t,.cons r' t'=>by rw [r.inj r',BL.inj t t']
section
variable {X:Cx}{pins:List (Addr×Obj)}{σ : St}{H:Hp}{s:AP}{a:Addr}{xs ys:List V}
theorem Io.of {K:Ad}(h:H a=Dn (.lst xs)):Io K H a xs:=.inl (.inl h)
theorem J4.of {K:Ad}(h:H a=Dn (.tup xs)):J4 K H a xs:=.inl (.inl h)
theorem Ac.list (I:Ac X pins σ H s)(h:Io X.K H a xs):∃ its:List JI,BL xs its/\PlainL s.heap a its.toArray/\xs.length<=Gn:=by
 rcases h with h | ⟨o,its,n,hk,hc,hd,hs,hz,r⟩
 ·obtain ⟨z,its,n,r,e⟩:=h.ok I.hok;exact ⟨its,r,⟨_,n,e,rfl,rfl,rfl⟩,z⟩
 ·refine ⟨its.toList,r,⟨o,n,I.kIn a o hk,hc,hd,by simpa using hs⟩,?_⟩;have e:=r.length;simp only [Array.length_toList] at e;lia
theorem Ac.tupO (I:Ac X pins σ H s)(h:J4 X.K H a xs):∃ its:List JI,BL xs its/\M6 s.heap a its.toArray/\xs.length<=Gn:=by
 rcases h with h | ⟨o,its,n,hk,hc,hs,hz,r,hd⟩
 ·obtain ⟨z,its,r,p⟩:=h.ok I.hok;exact ⟨its,r,p,z⟩
 ·refine ⟨its.toList,r,⟨o,I.kIn a o hk,hc,⟨n,by simpa using hs⟩,hd⟩,?_⟩;have e:=r.length;simp only [Array.length_toList] at e;lia
theorem Ac.tuple (I:Ac X pins σ H s)(h:J4 X.K H a xs):∃ its:List JI,BL xs its/\IsTup s.heap a its.toArray/\xs.length<=Gn:=let ⟨its,r,p,z⟩:=I.tupO h;⟨its,r,p.tup,z⟩
theorem Ac.list_inj (I:Ac X pins σ H s)(h:Io X.K H a xs)(h':Io X.K H a ys):xs=ys:=by
 obtain ⟨its,r,⟨o,n,e,_,_,d⟩,_⟩:=I.list h;obtain ⟨its',r',⟨o',n',e',_,_,d'⟩,_⟩:=I.list h';rw [e] at e';cases e';rw [d] at d';injection d' with d1 _
 have:its=its':=by simpa using congrArg Array.toList d1
 subst this;exact r.inj r'
theorem Ac.tuple_inj (I:Ac X pins σ H s)(h:J4 X.K H a xs)(h':J4 X.K H a ys):xs=ys:=by
 obtain ⟨its,r,⟨o,e,_,n,d⟩,_⟩:=I.tuple h;obtain ⟨its',r',⟨o',e',_,n',d'⟩,_⟩:=I.tuple h';rw [e] at e';cases e';rw [d] at d';injection d' with d1 _
 have:its=its':=by simpa using congrArg Array.toList d1
 subst this;exact r.inj r'
end
abbrev Cx.wish (X:Cx)(E:JI->AP->Prop):Cx:={ X with xe:=E }
abbrev Cx.nox (X:Cx):Cx:=X.wish fun _ _=>False
theorem Cx.Ok.wish {X:Cx}(ok:X.Ok)(E:JI->AP->Prop):(X.wish E).Ok:=
 ⟨ok.mod,ok.kind,ok.glob,ok.blt,ok.above,ok.inj,ok.has,ok.cab,ok.hd,ok.qt,ok.frames,ok.stk,ok.exf,ok.bs,ok.bsz,ok.noex,ok.exfs,ok.funs,ok.frf⟩
theorem Cx.Ok.unwish {X:Cx}{E:JI->AP->Prop}(ok:(X.wish E).Ok):X.Ok:=
 ⟨ok.mod,ok.kind,ok.glob,ok.blt,ok.above,ok.inj,ok.has,ok.cab,ok.hd,ok.qt,ok.frames,ok.stk,ok.exf,ok.bs,ok.bsz,ok.noex,ok.exfs,ok.funs,ok.frf⟩
section
variable {X:Cx}{pins:List (Addr×Obj)}{σ : St}{H:Hp}{s:AP}{E:JI->AP->Prop}
theorem Ac.wish (I:Ac X pins σ H s)(E:JI->AP->Prop):Ac (X.wish E) pins σ H s:=⟨I.ok.wish E,I.os,I.bare,I.base,I.loc,I.cell,I.free,I.freeC,I.pin,I.hok,I.len⟩
theorem Ac.unwish (I:Ac (X.wish E) pins σ H s):Ac X pins σ H s:=⟨I.ok.unwish,I.os,I.bare,I.base,I.loc,I.cell,I.free,I.freeC,I.pin,I.hok,I.len⟩
theorem SP.unwish {D:Ends}{f:Flow}{s':AP}(h:SP (X.wish E) pins D f s'):SP X pins D f s':=by
 cases f with
 | next=>obtain ⟨σ',H',I,q⟩:=h;exact ⟨σ',H',I.unwish,q⟩
 | brk=>obtain ⟨σ',H',I,q⟩:=h;exact ⟨σ',H',I.unwish,q⟩
 | cont=>obtain ⟨σ',H',I,q⟩:=h;exact ⟨σ',H',I.unwish,q⟩
 | ret u=>obtain ⟨v,σ',H',I,r,q⟩:=h;exact ⟨v,σ',H',I.unwish,r,q⟩
theorem Mf.nox {st:List Stmt}{t:TS}(h:Mf X.nox st t):Mf X st t:=fun pins s σ H D I hw=>
 NQ (h pins s σ H D (I.wish _) hw) (fun _ _ q=>q.unwish) fun _ _ z=>Oh z
end
section
variable {X:Cx}{st:Stmt}{rest:List Stmt}{t u:TS}{e:Expr}{te:TE}{pos:Pos}
def abK:TS:=fun D σ H=>D.nx σ H
def ac6 (t u:TS):TS:=fun D σ H=>t { D with nx:=u D } σ H
theorem afP:Mf X [] abK:=fun _ _ σ H _ I h=>wpAny_execs_nil ⟨σ,H,I,h⟩
theorem zbv (h1:PS X st t)(h2:Mf X rest u):Mf X (st::rest) (ac6 t u):=by
 intro pins s σ H D I h;refine wpAny_execs_cons<|G6 (h1 pins s σ H { D with nx:=u D } I h) fun f s1 q=>?_
 cases f with
 | next=>
  obtain ⟨σ',H',I',q⟩:=q;exact h2 pins s1 σ' H' D I' q
 | ret v=>exact q
 | brk=>exact q
 | cont=>exact q
theorem zbC (h1:PS X st t):Mf X [st] t:=by
 intro pins s σ H D I h;refine wpAny_execs_cons<|G6 (h1 pins s σ H D I h) fun f s1 q=>?_
 cases f with
 | next=>exact wpAny_execs_nil q
 | ret v=>exact q
 | brk=>exact q
 | cont=>exact q
theorem Ac.quiet {pins:List (Addr×Obj)}{σ : St}{H:Hp}{s:AP}(I:Ac X pins σ H s):interactive X.env=false:=by simp [interactive,I.ok.kind]
def ab4 (te:TE):TS:=fun D σ H=>te σ H fun _ H1=>D.nx σ H1
theorem agr (he:PE X e te)(hs:swapsWith e FN pos.line X.env=pure false:=by rfl):PS X (.Expr e pos) (ab4 te):=by
 intro pins s σ H D I h;exact wpAny_Expr_any (G6 (he pins s σ H _ I h) fun v s1 ⟨x,H1,I1,r1,q1⟩=>⟨σ,H1,I1,q1⟩) I.quiet hs
def adU (te:TE):TS:=fun D σ H=>te σ H D.rt
theorem Zr (he:PE X e te):PS X (.Return (Dn e) pos) (adU te):=by
 intro pins s σ H D I h;exact wpAny_Return_some<|G6 (he pins s σ H _ I h) fun v s1 ⟨x,H1,I1,r1,q1⟩=>⟨x,σ,H1,I1,r1,q1⟩
def acZ (c:TT)(t u:TS):TS:=fun D σ H=>c σ H fun b H1=>if b=true then t D σ H1 else u D σ H1
theorem abe {c:Expr}{a b:List Stmt}{tc:TT}(hc:PT X c tc)(ha:Mf X a t)(hb:Mf X b u):PS X (.If c a b pos) (acZ tc t u):=by
 intro pins s σ H D I h;refine wpAny_If<|G6 (hc pins s σ H _ I h) fun d s1 ⟨H1,I1,q1⟩=>?_
 cases d with
 | true=>exact ha pins s1 σ H1 D I1 q1
 | false=>exact hb pins s1 σ H1 D I1 q1
def Wz:TS:=fun _ _ _=>False
theorem zbd:PS X st Wz:=fun _ _ _ _ _ _ h=>h.elim
end
abbrev TG:=V->St->Hp->(St->Hp->Prop)->Prop
abbrev Ou:=List V->St->Hp->(St->Hp->Prop)->Prop
def PG (X:Cx)(target:Expr)(t:TG):Prop:=
 ∀ (pins:List (Addr×Obj)) (s:AP) (σ : St) (H:Hp) (v:V) (u:JI) (Q:St->Hp->Prop),Ac X pins σ H s->RelV v u->t v σ H Q ->
  CR (FP X.prog X.w) X.A (assign target X.env u) (fun _ s'=>∃ σ' H',Ac X pins σ' H' s'/\Q σ' H') X.xe s
def RV (X:Cx)(ts:List Expr)(t:Ou):Prop:=
 ∀ (pins:List (Addr×Obj)) (s:AP) (σ : St) (H:Hp) (vs:List V) (us:List JI) (Q:St->Hp->Prop),Ac X pins σ H s->BL vs us->t vs σ H Q ->
  CR (FP X.prog X.w) X.A (assignInOrder ((La ts X.env).map (·.2)) us) (fun _ s'=>∃ σ' H',Ac X pins σ' H' s'/\Q σ' H') X.xe s
abbrev YC:=V->V->V->Hp->(Hp->Prop)->Prop
def abM (X:Cx)(t:YC):Prop:=
 ∀ (pins:List (Addr×Obj)) (s:AP) (σ : St) (H:Hp) (o i v:V) (ov iv u:JI) (Q:Hp->Prop),Ac X pins σ H s->RelV o ov->RelV i iv->RelV v u->t o i v H Q ->
  CR (FP X.prog X.w) X.A (setItem ov iv u) (fun _ s'=>∃ H',Ac X pins σ H' s'/\Q H') X.xe s
section
variable {X:Cx}{pos:Pos}
def GP (i:Nat):TG:=fun v σ H Q=>Q (σ.set i (Dn v)) H
theorem wF {i:Nat}{x:Str}(hN:X.N.Nodup)(hi:X.N[i]?=Dn x)(hx:Loc X.env.scope x)(hf:X.fn x=true\/X.env.scope.names.lookup x=Dn .local:=by first | exact .inl rfl | exact .inr rfl | assumption):PG X (.Name x pos) (GP i):=by
 intro pins s σ H v u Q I r h;exact wpAny_assign_Name<|qN I hN hi hx r (fun s' I'=>⟨_,H,I',h⟩) hf
def adY:Ou:=fun vs σ H Q=>vs=[]/\Q σ H
def abg (t:TG)(u:Ou):Ou:=fun vs σ H Q=>∃ v r,vs=v::r/\t v σ H fun σ' H'=>u r σ' H' Q
theorem Lb:RV X [] adY:=by
 intro pins s σ H vs us Q I r h;obtain ⟨e,h⟩:=h;subst e;cases r;exact assignInOrder_nil ⟨σ,H,I,h⟩
theorem vR {e:Expr}{es:List Expr}{t:TG}{u:Ou}(h1:PG X e t)(h2:RV X es u)
  (hs:(La (e::es) X.env).map (·.2)=assign e X.env::(La es X.env).map (·.2):=by rfl):RV X (e::es) (abg t u):=by
 intro pins s σ H vs us Q I r h;obtain ⟨v,vr,e1,h⟩:=h;subst e1;cases r with
 | cons r rr=>
  rw [hs];refine assignInOrder_cons<|G6 (h1 pins s σ H _ _ _ I r h) fun _ s1 ⟨σ1,H1,I1,q1⟩=>?_
  exact h2 pins s1 σ1 H1 _ _ Q I1 rr q1
def adb (K:Ad)(n:Nat)(t:Ou):TG:=fun v σ H Q=>∃ a xs,v=.ref a/\J4 K H a xs/\xs.length=n/\t xs σ H Q
theorem Yt {es:List Expr}{k:Nat}{t:Ou}{n:Nat}(hc:X.calm=true)(h:RV X es t)
  (hn:(La es X.env).length=n:=by rfl) (hst:(La es X.env).findIdx? (·.1)=FN:=by rfl):PG X (.Tuple es k pos) (adb X.K n t):=by
 intro pins s σ H v u Q I r hw;obtain ⟨a,xs,e1,hq,hl,hw⟩:=hw;subst e1;cases r;obtain ⟨its,rv,ht,hz⟩:=I.tuple hq;refine assign_Tuple_tuple (I.ok.hd hc) ht (by simp [hn,<-hl,rv.length]) hst fun h' hx=>?_;have I1:Ac X pins σ H { s with heap:=h' }:=I.kept (t':=s.toks) fun b o e=>hx b o (Jy (Gy e)) e
 exact h pins _ σ H xs _ Q I1 (by simpa using rv) hw
def ac9 (to ti:TE)(t:YC):TG:=fun v σ H Q=>to σ H fun o H1=>ti σ H1 fun i H2=>t o i v H2 fun H3=>Q σ H3
theorem ZJ {o i:Expr}{to ti:TE}{t:YC}(ho:PE X o to)(hi:PE X i ti)(hs:abM X t)
  (ha:∀ v,assign (.Subscript o i pos) X.env v=(do
   let ov <-holding [v] (eval o X.env)
   let iv <-holding [v,ov] (eval i X.env)
   standAt pos
   holding [v,ov,iv] (setItem ov iv v)
   release [v,ov,iv] []):=by intro _;rfl):PG X (.Subscript o i pos) (ac9 to ti t):=by
 intro pins s σ H v u Q I r h;rw [ha];refine Aj<|Oj<|G6 (ho pins s σ H _ I h) fun ov s1 ⟨x,H1,I1,r1,q1⟩=>?_
 refine Aj<|Oj<|G6 (hi pins s1 σ H1 _ I1 q1) fun iv s2 ⟨y,H2,I2,r2,q2⟩=>?_
 refine Aj<|wpAny_standAt<|Aj<|Oj<|G6 (hs pins s2 σ H2 x y v ov iv u _ I2 r1 r2 r q2) fun _ s3 ⟨H3,I3,q3⟩=>?_
 exact wpAny_release ⟨σ,H3,I3,q3⟩
def Ys (te:TE)(g:TG):TS:=fun D σ H=>te σ H fun x H1=>g x σ H1 D.nx
theorem Yo {tg e:Expr}{te:TE}{g:TG}(he:PE X e te)(hg:PG X tg g)(hs:swapsWithSole [tg] e pos.line X.env=pure false:=by rfl)(hw:swappedStores [tg] e X.env=pure FN:=by rfl)
  (h1:(La [tg] X.env).map (·.2)=[assign tg X.env]:=by rfl):PS X (.Assign [tg] e pos) (Ys te g):=by
 intro pins s σ H D I h;refine wpAny_Assign_stores (G6 (he pins s σ H _ I h) fun v s1 ⟨x,H1,I1,r1,q1⟩=>?_) hs hw;rw [h1];exact G6 (hg pins s1 σ H1 x v _ I1 r1 q1) fun _ s2 q=>q
theorem V8 {i:Nat}{x:Str}{e:Expr}{te:TE}{pos':Pos}(hN:X.N.Nodup)(hi:X.N[i]?=Dn x)(hx:Loc X.env.scope x)(he:PE X e te)(hs:swapsWith e (Dn (.Name x pos')) pos.line X.env=pure false:=by rfl)(hf:X.fn x=true\/X.env.scope.names.lookup x=Dn .local:=by first | exact .inl rfl | exact .inr rfl | assumption) :
  PS X (.Assign [.Name x pos'] e pos) (Ys te (GP i)):=by
 intro pins s σ H D I h;refine wpAny_Assign_Name (G6 (he pins s σ H _ I h) fun v s1 ⟨y,H1,I1,r1,q1⟩=>?_) hs;exact qN I1 hN hi hx r1 (fun s2 I2=>⟨_,H1,I2,q1⟩) hf
def acX (i j:Nat)(ta:TA):TS:=fun D σ H=>ta σ H fun vs H1=>∃ v w,vs=[v,w]/\D.nx ((σ.set i (Dn v)).set j (Dn w)) H1
theorem ZK {i j:Nat}{x y:Str}{a b:Expr}{ta:TA}{px py pt:Pos}{kt k2 pt2}(hc:X.calm=true)(hN:X.N.Nodup)(hi:X.N[i]?=Dn x)(hj:X.N[j]?=Dn y)(hij:i≠j)
  (hx:X.env.scope.names.lookup x=Dn .local) (hy:X.env.scope.names.lookup y=Dn .local) (ha:PA X [a,b] ta)
  (hw:swappedStores [.Tuple [.Name x px,.Name y py] kt pt] (.Tuple [a,b] k2 pt2) X.env=pure (Dn [x,y]))
  (hs:swapsWithSole [.Tuple [.Name x px,.Name y py] kt pt] (.Tuple [a,b] k2 pt2) pos.line X.env=pure false:=by rfl) :
  PS X (.Assign [.Tuple [.Name x px,.Name y py] kt pt] (.Tuple [a,b] k2 pt2) pos) (acX i j ta):=by
 intro pins s σ H D I h;rw [exec_Assign_arm];refine Aj<|wpAny_standAt ?_
 rw [hs];refine Aj<|Fy ?_
 rw [if_neg (by decide)];refine Aj<|Tuple_<|G6 (ha _ pins s σ H _ I h) fun us s1 ⟨vs,H1,I1,r1,q1⟩=>?_
 obtain ⟨v,w,e1,q1⟩:=q1;subst e1;obtain ⟨u1,u2,rfl,rv,rw'⟩:∃ u1 u2,us=[u1,u2]/\RelV v u1/\RelV w u2:=by
  cases r1 with
  | cons p q=>
   cases q with
   | cons p' q'=>
    cases q'
    exact ⟨_,_,rfl,p,p'⟩
 refine O2 ?_ (by show 2<=Gn;decide);have I2:Ac X pins σ H1 { s1 with heap:=s1.heap.push { cls:=.type "tuple",data:=.seq [u1,u2].toArray } }:=I1.kept (t':=s1.toks) fun b o e=>HD _ e
 rw [hw];refine Aj<|Fy ?_
 show CR (FP X.prog X.w) X.A (do rule "assign.swapped-stores";let items <-unpackItems (.ref s1.heap.objs.size) 2 FN;assignInOrder [fun v=>bindName X.env y v,fun v=>bindName X.env x v] items.reverse;pure Flow.next) _ _ _;refine Aj<|Sg<|Aj<|unpackItems_tuple (items:=#[u1,u2]) (I.ok.hd hc) (IsTup.new s1.heap _) fun h' hx'=>?_
 have I3:=I2.kept (h':=h') (t':=s1.toks) fun b o e=>hx' b o (Jy (Gy e)) e
 show CR _ _ (assignInOrder [fun v=>bindName X.env y v,fun v=>bindName X.env x v] [u2,u1] >>= fun _=>pure Flow.next) _ _ _;refine Aj<|assignInOrder_cons<|wpAny_bindName<|qN I3 hN hj (.inl hy) rw' (fun s2 I4=>?_)<|.inr hy
 refine assignInOrder_cons<|wpAny_bindName<|qN I4 hN hi (.inl hx) rv (fun s3 I5=>assignInOrder_nil<|Fy ?_)<|.inr hx
 rw [List.set_comm _ _ (MK hij)] at I5;exact ⟨_,H1,I5,q1⟩
def Z1 (c:TT)(tb:TS):TS:=fun D σ H=>∃ W:Nat->St->Hp->Prop,(∃ m,W m σ H)/\∀ m σ H,W m σ H ->
 c σ H fun b H1=>if b=true then ∃ N:St->Hp->Prop,(∀ σ' H',N σ' H'->∃ m',m'<m/\W m' σ' H')/\tb { D with nx:=N,ct:=N,bk:=D.nx } σ H1 else D.nx σ H1
theorem ahi {c:Expr}{body:List Stmt}{tc:TT}{tb:TS}(hp:Uz (FP X.prog X.w) X.A X.env X.xe)(hc:PT X c tc)(hb:Mf X body tb):PS X (.While c body [] pos) (Z1 tc tb):=by
 intro pins s σ H D I h;obtain ⟨W,⟨m0,w0⟩,turn⟩:=h;refine wpAny_While<|codeAny_whileLoop (fun n s'=>∃ σ' H',Ac X pins σ' H' s'/\W n σ' H') ?_ m0 ⟨σ,H,I,w0⟩
 rintro n s1 ⟨σ1,H1,I1,w1⟩;refine Sv hp<|G6 (hc pins s1 σ1 H1 _ I1<|turn n σ1 H1 w1) fun b s2 ⟨H2,I2,q2⟩=>?_
 cases b with
 | true=>
  obtain ⟨N,hN,q2⟩:=q2;rw [if_pos rfl];refine Sv hp<|G6 (hb pins s2 σ1 H2 _ I2 q2) fun f s3 q3=>?_
  cases f with
  | next=>
   obtain ⟨σ3,H3,I3,n3⟩:=q3;obtain ⟨m',hm,w3⟩:=hN σ3 H3 n3;exact ⟨m',hm,σ3,H3,I3,w3⟩
  | cont=>
   obtain ⟨σ3,H3,I3,n3⟩:=q3;obtain ⟨m',hm,w3⟩:=hN σ3 H3 n3;exact ⟨m',hm,σ3,H3,I3,w3⟩
  | brk=>exact q3
  | ret v=>exact q3
 | false=>
  rw [if_neg Ly];exact wpAny_execs_nil ⟨σ1,H2,I2,q2⟩
end
theorem vW:entryFor table "proto.unchain" = Dn RP.«proto.unchain»:=entryFor_of_tree (by kernel_rfl)
def Bs (A:FT)(h:Heap):Prop:=∀ v,A.handled=Dn v->∃ (a:Addr) (o:Obj) (vs:Array JI),v=.ref a/\h.get? a=Dn o/\o.data=.fields vs/\vs[2]?=Dn .none
theorem aem {A:FT}{P:FQ}{w:Cm}{H:Hp}{h:Heap}(q:Quiet A H)(x:Kc P w H h):Bs A h:=fun v e=>by
 obtain ⟨a,o,u,vs,h1,h2,h3,h4⟩:=q v e;exact ⟨a,o,vs,h1,(x a _ h2).1,h3,h4⟩
theorem zar {α : Type}{prog:FQ}{w:Cm}{A:FT}{E:JI->AP->Prop}{s:AP}{e:Addr}{oe:Obj}{ws:Array JI}{Q:α->AP->Prop}(hq:Bs A s.heap)(he:s.heap.get? e=Dn oe)(hd:oe.data=.fields ws)(hz:2<ws.size)(hne:∀ v,A.handled=Dn v->v≠.ref e)
  (h:∀ h',(∀ b,b≠e->h'.get? b=s.heap.get? b)->(∃ o',h'.get? e=Dn o'/\o'.cls=oe.cls)->E (.ref e) { s with heap:=h' }):CR (FP prog w) A (raiseNew (.ref e):Sem α) Q E s:=by
 unfold raiseNew;refine Aj<|wpAny_handled ?_
 cases hh:A.handled with
 | none=>
  dsimp only;refine Aj<|Fy<|wpAny_throw ?_
  exact h s.heap (fun _ _=>rfl) ⟨oe,he,rfl⟩
 | some v=>
  obtain ⟨a,o,vs,rfl,ho,hdo,h2⟩:=hq v hh;dsimp only;have ne:(Value.ref a != Value.ref e)=true:=by
   have:=hne _ hh
   simp only [bne_iff_ne,ne_eq];exact this
  rw [if_pos ne];refine Aj<|Oj<|wpAny_runValue<|codeAny_builtin vW ?_
  unfold RP.«proto.unchain»;dsimp only;refine Aj<|Kv ho hdo h2 ?_
  rw [if_pos (show (Value.none==Value.none)=true from rfl)];refine Aj<|Fy<|Fy ?_
  dsimp only;refine Aj ?_;unfold updateField;refine Aj<|wpAny_load he ?_
  rw [hd];dsimp only;rw [if_pos hz];refine wpAny_update he<|wpAny_throw ?_
  have hd3:=T8 hd (·.setIfInBounds 2 (Value.ref a));exact h _ (fun b hb=>Heap.get?_update_other _ _<|MK hb) ⟨_,UL _ he<|Us hd3,Obj.cls_mapFields _ _⟩
theorem aew {prog:FQ}{w:Cm}{A:FT}{E:JI->AP->Prop}{s:AP}{it:Addr}{x left step:Int}{Q:Option JI->AP->Prop}(hh:Bs A s.heap)(hit:IsRangeIter s.heap it x left step)(hleft:left<=0)
  (hQ:∀ h',TX it s.heap h'->Q FN { s with heap:=h' }):CR (FP prog w) A (Ni (.ref it)) Q E s:=by
 have hT:s.TypeIs (.ref it) "range_iterator":=⟨_,hit,rfl⟩
 unfold Ni;refine Aj (T3 (Rp (name:=Rh "__next__") hT F.slot_range_iterator_next
  (RL F.slot_range_iterator_next hT F.entry_range_iterator_next ?_ (F.args_range_iterator_next_1 _))))
 show CR _ _ (field (.ref it) 0 >>= _) _ _ s;refine Aj<|Kv hit rfl (x:=Mj x) rfl ?_
 show CR _ _ (field (.ref it) 1 >>= _) _ _ s;refine Aj<|Kv hit rfl (x:=Mj left) rfl ?_
 show CR _ _ (field (.ref it) 2 >>= _) _ _ s;refine Aj<|Kv hit rfl (x:=Mj step) rfl ?_
 show CR _ _ (if left<=0 then _ else _) _ _ s;rw [if_pos hleft];refine Aj<|Sg ?_
 refine Aj ?_;show CR _ _ (newExc (.type "StopIteration") [] >>= _) _ _ _;refine Aj ?_;simp only [newExc,newTuple];refine Aj<|O2 ?_<|by size_fits
 refine Aj (m:=U3 _ _)<|Rm (a:=Value.none) (by first | rfl | (simp only [U3];rfl)) ?_
 refine O2 ?_<|by size_fits
 refine zar (A:=A.in1) (fun v e=>?_) (KJ _ rfl) rfl (by simp;lia) (fun v e=>?_) fun h' h1 ⟨o',h2,h3⟩=>?_
 ·obtain ⟨a,o,vs,r1,r2,r3⟩:=hh v e;exact ⟨a,o,vs,r1,HD _<|HD _ r2,r3⟩
 ·obtain ⟨a,o,vs,r1,r2,r3⟩:=hh v e;rw [r1];intro q;have q:a=_:=Value.ref.inj q;have:=Gy r2
  rw [q] at this;exact absurd this<|Nat.not_lt.mpr<|by simp [Heap.push]
 refine Aj<|wpAny_isInstance (T := "StopIteration") (b:=true) ⟨_,h2,h3⟩ isSubtype_stop ?_
 refine Fy<|hQ _ fun b o hb e=>?_
 rw [h1 b ?_]
 ·exact HD _<|HD _ e
 ·have:=Gy e
  exact Jy<|Jl this<|by simp [Heap.push]
structure It where
 go:Nat->Hp->Prop
 yld:Nat->Hp->V->Hp->Prop
 stop:Nat->Hp->Prop
 cm:Bool
def GC (X:Cx)(pins:List (Addr×Obj))(H:Hp)(b:Addr):Prop:=
 H b=FN/\b≠X.env.locals/\b∉X.fs/\(b∈X.ex\/X.s₀.heap.objs.size<=b)/\(∀ x c,X.env.cells.lookup x=Dn c->c≠b)/\∀ p∈X.pn++pins,p.1≠b
theorem Ac.fpOk {X:Cx}{pins:List (Addr×Obj)}{σ : St}{H H':Hp}{s:AP}{b:Addr}(I:Ac X pins σ H s)(hb:s.heap.objs.size<=b)(hn:H' b=FN):GC X pins H' b:=by
 refine ⟨hn,RK<|Jl I.lt hb,I.nofs hb,.inr<|Ii I.sz hb,fun x c e z=>?_,fun p hp z=>?_⟩
 ·obtain ⟨v,q⟩:=I.cell x c e;exact absurd (Jl q.lt (by rw [z];exact hb))<|NK _
 ·exact absurd (Jl (Gy (I.pin p hp).1) (by rw [z];exact hb))<|NK _
structure Turn (P:FQ) (w:Cm) (K:Ad) (tg:Expr) (J:It) (fp:List Addr) (it:Addr) (tn:Nat->Heap->Prop):Prop where
 mem:it∈fp
 obj:∀ i h,tn i h->∀ b∈fp,∃ o,h.get? b=Dn o/\∀ v,o.data≠.cell v
 keep:∀ i h h',tn i h->(∀ b∈fp,∀ o,h.get? b=Dn o->h'.get? b=Dn o)->tn i h'
 item:∀ (X:Cx),X.prog=P->X.w=w->X.K=K->(J.cm=true->X.calm=true)->∀ (i:Nat) (pins:List (Addr×Obj)) (s:AP) (σ : St) (H:Hp) (E:JI->AP->Prop),Ac X pins σ H s->(∀ b∈fp,GC X pins H b)->tn i s.heap->J.go i H ->
  CR (FP P w) X.A (Ni (.ref it)) (fun r s1=>∃ u,r=Dn u /\
   CR (FP P w) X.A (letOwnedTupleGo tg (.ref it) u) (fun _ s2=>∃ x H',Ac X pins σ H' s2/\RelV x u/\J.yld i H x H'/\tn (i+1) s2.heap/\∀ b∈fp,H' b=FN) E s1) E s
 done:∀ (X:Cx),X.prog=P->X.w=w->X.K=K->(J.cm=true->X.calm=true)->∀ (i:Nat) (pins:List (Addr×Obj)) (s:AP) (σ : St) (H:Hp) (E:JI->AP->Prop),Ac X pins σ H s->(∀ b∈fp,GC X pins H b)->tn i s.heap->J.stop i H ->
  CR (FP P w) X.A (Ni (.ref it)) (fun r s1=>r=FN/\Ac X pins σ H s1) E s
 self:∀ (A:FT) (i:Nat) (s:AP) (Q:JI->AP->Prop) (E:JI->AP->Prop),tn i s.heap->Q (.ref it) s->CR (FP P w) A (pyIter (.ref it)) Q E s
abbrev TI:=St->Hp->(It->Hp->Prop)->Prop
def PIE (X:Cx)(pins:List (Addr×Obj))(σ : St)(tg:Expr)(R:It->Hp->Prop)(itv:JI)(s2:AP):Prop:=
 ∃ (it:Addr) (fp:List Addr) (tn:Nat->Heap->Prop) (J:It) (H':Hp),itv=.ref it/\Ac X pins σ H' s2/\Turn X.prog X.w X.K tg J fp it tn/\tn 0 s2.heap/\(∀ b∈fp,GC X pins H' b)/\R J H'
def PI (X:Cx)(tg iter:Expr)(wi:TI):Prop:=
 ∀ (pins:List (Addr×Obj)) (s:AP) (σ : St) (H:Hp) (R:It->Hp->Prop),Ac X pins σ H s->wi σ H R ->
  CR (FP X.prog X.w) X.A (eval iter X.env) (fun v s1=>CR (FP X.prog X.w) X.A (pyIter v) (PIE X pins σ tg R) X.xe s1) X.xe s
theorem Hi {M:Model}{A:FT}{E:JI->AP->Prop}{s:AP}{tg:Expr}{it:Addr}{u:JI}{o:Obj}{n:String}{vs:Array JI}{Q:Unit->AP->Prop}(ho:s.heap.get? it=Dn o)(hc:o.cls=.type n)(hd:o.data=.fields vs)
    (hn:["enumerate", "zip", "dict_itemiterator", "dict_reverseitemiterator", "odict_iterator", "itertools.zip_longest", "itertools.pairwise"].contains n=false) (hQ:Q () s):CR M A (letOwnedTupleGo tg (.ref it) u) Q E s:=by
  unfold letOwnedTupleGo;cases tg <;> first
    | exact Fy hQ
    | (cases u <;> first
        | exact Fy hQ
        | (refine Aj (wpAny_load ho ?_)
           rw [hc,hd];show CR M A (if (["enumerate", "zip", "dict_itemiterator", "dict_reverseitemiterator", "odict_iterator", "itertools.zip_longest", "itertools.pairwise"].contains n&&vs[0]?==Dn (Mj _))=true then _ else _) Q E s;rw [if_neg (by intro h;rw [hn,Bool.false_and] at h;cases h)];exact Fy hQ))
def Itl (K:Ad)(a:Addr):It:=
 ⟨fun i H=>∃ xs x,Io K H a xs/\xs[i]?=Dn x,fun i H x H'=>H'=H/\∀ xs,Io K H a xs->xs[i]?=Dn x,fun i H=>∃ xs,Io K H a xs/\xs.length<=i,true⟩
def Itt (K:Ad)(a:Addr):It:=
 ⟨fun i H=>∃ xs x,J4 K H a xs/\xs[i]?=Dn x,fun i H x H'=>H'=H/\∀ xs,J4 K H a xs->xs[i]?=Dn x,fun i H=>∃ xs,J4 K H a xs/\xs.length<=i,true⟩
def Itr (lo:Int)(n:Nat):It:=⟨fun i _=>i<n,fun i H x H'=>H'=H/\x=.int (lo+i),fun i _=>n<=i,false⟩
theorem aeG {P:FQ}{w:Cm}{K:Ad}{tg:Expr}(a it:Addr):Turn P w K tg (Itl K a) [it] it (fun i h=>h.IsListIter it a i) where
 mem:=by simp
 obj:=fun i h st b hb=>by
  have e:b=it:=by simpa using hb
  subst e;obtain ⟨o,e,c,d⟩:=st;exact ⟨o,e,fun v z=>by rw [d] at z;cases z⟩
 keep:=fun i h h' st k=>st.at fun o e=>k it (by simp) o e
 item:=by
  intro X hP hw hK hc i pins s σ H E I hf st hg;subst hP hw hK;obtain ⟨xs,x,hq,hx⟩:=hg;obtain ⟨its,rv,p,hz⟩:=I.list hq;obtain ⟨u,hu,ru⟩:=rv.get hx;obtain ⟨f0,f1,f2,f3,f4,f5⟩:=hf it (by simp);refine wpAny_pyNext_list_item st p.isList (x:=u) (by simpa using hu) fun h' st' sb=>?_;have I1:Ac X pins σ H { s with heap:=h' }:=I.turned (t':=s.toks) (fun b o hb e=>(sb.2 b hb).trans e) f0 f1 f3 f4 f5;obtain ⟨o,e,c,d⟩:=id st';exact ⟨u,rfl,Hi (s:={ s with heap:=h' }) e c d (by decide) ⟨x,H,I1,ru,⟨rfl,fun ys hy=>by rw [I.list_inj hy hq];exact hx⟩,st',fun b hb=>(hf b hb).1⟩⟩
 done:=by
  intro X hP hw hK hc i pins s σ H E I hf st hg;subst hP hw hK;obtain ⟨xs,hq,hx⟩:=hg;obtain ⟨its,rv,p,hz⟩:=I.list hq;obtain ⟨f0,f1,f2,f3,f4,f5⟩:=hf it (by simp);have hl:=rv.length;exact wpAny_pyNext_list_end (I.ok.hd<|hc rfl) st p.isList (by simp;lia) fun h' eb=>⟨rfl,I.turned (t':=s.toks) (fun b o hb e=>eb b o hb e) f0 f1 f3 f4 f5⟩
 self:=fun _ _ _ _ _ st h=>wpAny_pyIter_listiter st h
theorem aer {P:FQ}{w:Cm}{K:Ad}{tg:Expr}(a it:Addr):Turn P w K tg (Itt K a) [it] it (fun i h=>h.IsTupleIter it a i) where
 mem:=by simp
 obj:=fun i h st b hb=>by
  have e:b=it:=by simpa using hb
  subst e;obtain ⟨o,e,c,d⟩:=st;exact ⟨o,e,fun v z=>by rw [d] at z;cases z⟩
 keep:=fun i h h' st k=>st.at fun o e=>k it (by simp) o e
 item:=by
  intro X hP hw hK hc i pins s σ H E I hf st hg;subst hP hw hK;obtain ⟨xs,x,hq,hx⟩:=hg;obtain ⟨its,rv,p,hz⟩:=I.tuple hq;obtain ⟨u,hu,ru⟩:=rv.get hx;obtain ⟨f0,f1,f2,f3,f4,f5⟩:=hf it (by simp);refine wpAny_pyNext_tuple_item st (show s.heap.IsTuple a its.toArray from p) (x:=u) (by simpa using hu) fun h' st' sb=>?_;have I1:Ac X pins σ H { s with heap:=h' }:=I.turned (t':=s.toks) (fun b o hb e=>(sb.2 b hb).trans e) f0 f1 f3 f4 f5;obtain ⟨o,e,c,d⟩:=id st';exact ⟨u,rfl,Hi (s:={ s with heap:=h' }) e c d (by decide) ⟨x,H,I1,ru,⟨rfl,fun ys hy=>by rw [I.tuple_inj hy hq];exact hx⟩,st',fun b hb=>(hf b hb).1⟩⟩
 done:=by
  intro X hP hw hK hc i pins s σ H E I hf st hg;subst hP hw hK;obtain ⟨xs,hq,hx⟩:=hg;obtain ⟨its,rv,p,hz⟩:=I.tuple hq;obtain ⟨f0,f1,f2,f3,f4,f5⟩:=hf it (by simp);have hl:=rv.length;exact wpAny_pyNext_tuple_end (I.ok.hd<|hc rfl) st (show s.heap.IsTuple a its.toArray from p) (by simp;lia) fun h' eb=>⟨rfl,I.turned (t':=s.toks) (fun b o hb e=>eb b o hb e) f0 f1 f3 f4 f5⟩
 self:=fun _ _ _ _ _ st h=>wpAny_pyIter_tupleiter st h
theorem zas {P:FQ}{w:Cm}{K:Ad}{tg:Expr}(it:Addr)(lo:Int)(n:Nat):Turn P w K tg (Itr lo n) [it] it (fun i h=>IsRangeIter h it (lo+(i:Nat)*1) ((n:Int) - (i:Nat)) 1) where
 mem:=by simp
 obj:=fun i h st b hb=>by
  have e:b=it:=by simpa using hb
  subst e;exact ⟨_,st,fun v z=>by
   have z':Data.fields _=Data.cell v:=z;cases z'⟩
 keep:=fun i h h' st k=>k it (by simp) _ st
 item:=by
  intro X hP hw hK hc i pins s σ H E I hf st hg;subst hP hw hK;obtain ⟨f0,f1,f2,f3,f4,f5⟩:=hf it (by simp);refine wpAny_pyNext_range_item st (by have:i<n:=hg;lia) fun h' st' kk=>?_;have I1:Ac X pins σ H { s with heap:=h',toks:=s.toks+1 }:=I.turned (fun b o hb e=>(kk.2 b hb).trans e) f0 f1 f3 f4 f5;have st2:IsRangeIter h' it (lo+((i+1:Nat):Int)*1) ((n:Int) - ((i+1:Nat):Int)) 1:=by
   have e1:lo+((i+1:Nat):Int)*1=lo+((i:Nat):Int)*1+1:=by lia
   have e2:(n:Int) - ((i+1:Nat):Int)=(n:Int) - ((i:Nat):Int) - 1:=by lia
   rw [e1,e2];exact st'
  refine ⟨_,rfl,Hi (s:={ s with heap:=h',toks:=s.toks+1 }) (n := "range_iterator") st' rfl rfl (by decide) ⟨.int<|lo+i,H,I1,⟨s.toks,?_⟩,⟨rfl,rfl⟩,st2,fun b hb=>(hf b hb).1⟩⟩;rw [Int.mul_one]
 done:=by
  intro X hP hw hK hc i pins s σ H E I hf st hg;subst hP hw hK;obtain ⟨f0,f1,f2,f3,f4,f5⟩:=hf it (by simp);exact aew (aem I.qt0 I.hok) st (by have:n<=i:=hg;lia) fun h' eb=>⟨rfl,I.turned (t':=s.toks) (fun b o hb e=>eb b o hb e) f0 f1 f3 f4 f5⟩
 self:=fun _ _ _ _ _ st h=>wpAny_pyIter_rangeiter st h
section
variable {X:Cx}{tg:Expr}
theorem DP {pins:List (Addr×Obj)}{σ : St}{H:Hp}{s:AP}{R:It->Hp->Prop}{E:JI->AP->Prop}{lo hi:Int}{t u v:Tok}{tk:Nat}(I:Ac X pins σ H s)(h1:-(2^62)<=lo)(h2:lo<2^62)(h3:-(2^62)<=hi)(h4:hi<2^62)
  (q:R (Itr lo (hi - lo).toNat) H):CR (FP X.prog X.w) X.A (pyIter (.ref s.heap.objs.size)) (PIE X pins σ tg R) E { s with heap:=s.heap.push { cls:=.type "range",data:=.fields #[.int lo t,.int hi u,.int 1 v] },toks:=tk }:=by
 refine wpAny_pyIter_range (IsRange.new ..) (small_one h1 h2 h3 h4) ?_;have I1:Ac X pins σ H { s with heap:=s.heap.push { cls:=.type "range",data:=.fields #[.int lo t,.int hi u,.int 1 v] },toks:=tk }:=I.kept fun b o e=>HD _ e
 refine ⟨(s.heap.push { cls:=.type "range",data:=.fields #[.int lo t,.int hi u,.int 1 v] }).objs.size,[(s.heap.push { cls:=.type "range",data:=.fields #[.int lo t,.int hi u,.int 1 v] }).objs.size],_,_,H,rfl,
  I1.kept (t':=tk) fun b o e=>HD _ e,zas _ lo (hi - lo).toNat,?_,fun b hb=>?_,q⟩
 ·have e1:lo+((0:Nat):Int)*1=lo:=by simp
  have e2:(((hi - lo).toNat:Nat):Int) - ((0:Nat):Int)=Builtin.Range.rangeSize lo hi 1:=by rw [rangeSize_one];split <;> lia
  show IsRangeIter _ _ (lo+((0:Nat):Int)*1) ((((hi - lo).toNat:Nat):Int) - ((0:Nat):Int)) 1;rw [e1,e2];exact KJ _ rfl
 ·have e:b=(s.heap.push { cls:=.type "range",data:=.fields #[.int lo t,.int hi u,.int 1 v] }).objs.size:=by simpa using hb
  subst e;exact I1.fpOk (Gi _)<|I1.hok.fresh<|Gi _
def aat (ta:TA):TI:=fun σ H R=>ta σ H fun vs H1=>∃ j:Int,vs=[.int j]/\-(2^62)<=j/\j<2^62/\R (Itr 0 j.toNat) H1
def abG (ta:TA):TI:=fun σ H R=>ta σ H fun vs H1=>∃ i j:Int,vs=[.int i,.int j]/\(-(2^62)<=i/\i<2^62/\-(2^62)<=j/\j<2^62)/\R (Itr i (j - i).toNat) H1
theorem zaW {a:Expr}{ta:TA}{p pos:Pos}(hg:Gl X "range")(hm:X.mg "range" = FN)(ha:PA X [a] ta)(hs:Fx [a] X.env=[(false,eval a X.env)]:=by rfl):PI X tg (.Call (.Name "range" p) [a] [] pos) (aat ta):=by
 intro pins s σ H R I h;refine Call_<|tL I hg hm boot_range<|Uh (G6 (ha pos pins s σ H _ I h) fun us s1 ⟨vs,H1,I1,r1,q1⟩=>?_) hs rfl
 obtain ⟨j,e,q1,q2,q⟩:=q1;subst e;cases r1 with
 | cons r rr=>
  cases rr;obtain ⟨t,rfl⟩:=r;exact call_range_1<|DP I1 (by lia) (by lia) q1 q2<|by simpa using q
theorem aed {a b:Expr}{ta:TA}{p pos:Pos}(hg:Gl X "range")(hm:X.mg "range" = FN)(ha:PA X [a,b] ta)(hs:Fx [a,b] X.env=[(false,eval a X.env),(false,eval b X.env)]:=by rfl)(hs2:Fx [b] X.env=[(false,eval b X.env)]:=by rfl) :
  PI X tg (.Call (.Name "range" p) [a,b] [] pos) (abG ta):=by
 intro pins s σ H R I h;refine Call_<|tL I hg hm boot_range<|Uh (G6 (ha pos pins s σ H _ I h) fun us s1 ⟨vs,H1,I1,r1,q1⟩=>?_) (by rw [hs,hs2]) (by rw [hs2];rfl)
 obtain ⟨i,j,e,⟨q1,q2,q3,q4⟩,q⟩:=q1;subst e;cases r1 with
 | cons r rr=>
  cases rr with
  | cons r' rr=>
   cases rr;obtain ⟨t,rfl⟩:=r;obtain ⟨t',rfl⟩:=r';exact call_range_2<|DP I1 q1 q2 q3 q4 q
def adK (wi:TI)(g:TG)(tb:TS):TS:=fun D σ H=>wi σ H fun J H1=>∃ W:Nat->Nat->St->Hp->Prop,(∃ m,W 0 m σ H1)/\∀ i m σ H,W i m σ H ->
 (J.stop i H/\D.nx σ H)\/(J.go i H/\∃ N:St->Hp->Prop,(∀ σ' H',N σ' H'->∃ m',m'<m/\W (i+1) m' σ' H')/\∀ x H',J.yld i H x H'->g x σ H' fun σ2 H2=>tb { D with nx:=N,ct:=N,bk:=D.nx } σ2 H2)
def zM (fp:List Addr)(h:Heap):List (Addr×Obj):=fp.filterMap fun b=>(h.get? b).map fun o=>(b,o)
theorem kh {fp:List Addr}{h:Heap}{b:Addr}{o:Obj}(hb:b∈fp)(e:h.get? b=Dn o):(b,o)∈zM fp h:=List.mem_filterMap.mpr ⟨b,hb,by rw [e];rfl⟩
theorem zaw {fp:List Addr}{h:Heap}{p:Addr×Obj}(hp:p∈zM fp h):p.1∈fp/\h.get? p.1=Dn p.2:=by
 obtain ⟨b,hb,e⟩:=List.mem_filterMap.mp hp;cases q:h.get? b with
 | none=>rw [q] at e;cases e
 | some o=>
  rw [q] at e;have e':(b,o)=p:=Hz e;subst e';exact ⟨hb,q⟩
theorem Ac.pinned {pins:List (Addr×Obj)}{σ : St}{H:Hp}{s:AP}{fp:List Addr}(I:Ac X pins σ H s)(hf:∀ b∈fp,GC X pins H b)(ho:∀ b∈fp,∃ o,s.heap.get? b=Dn o/\∀ v,o.data≠.cell v):Ac X (pins++zM fp s.heap) σ H s:=
 I.pins_of fun p hp=>(Mw.mp hp).elim (fun z=>I.pin p (Oi _ z)) fun z=>by
  obtain ⟨hb,e⟩:=zaw z;obtain ⟨f0,f1,f2,_⟩:=hf p.1 hb;obtain ⟨o,e',d⟩:=ho p.1 hb;rw [e] at e';cases e';exact ⟨e,f0,f1,f2,d⟩
theorem Ac.unpinned {pins pl:List (Addr×Obj)}{σ : St}{H:Hp}{s:AP}(I:Ac X (pins++pl) σ H s):Ac X pins σ H s:=I.pins_of fun p hp=>I.pin p (Oi _ (List.mem_append_left _ hp))
theorem Yp {iter:Expr}{body:List Stmt}{wi:TI}{g:TG}{tb:TS}{pos:Pos}(hp:Uz (FP X.prog X.w) X.A X.env X.xe)(hc:X.calm=true)(hi:PI X tg iter wi)(hg:PG X tg g)(hb:Mf X body tb)
  (hs:∀ x,SM iter X.env x=pure x:=by intro _;rfl):PS X (.For tg iter body [] pos) (adK wi g tb):=by
 intro pins s σ H D I h;refine wpAny_For (G6 (hi pins s σ H _ I h) fun v s1 h1=>G6 h1 fun itv s2 h2=>?_) hs;obtain ⟨it,fp,tn,J,H2,e,I2,T,st2,f2,W,⟨m0,w0⟩,turn⟩:=h2;subst e
 -- what stays true of the iterator's objects through the loop
 have stat:∀ {H':Hp},(∀ b∈fp,H' b=FN)->∀ b∈fp,GC X pins H' b:=fun hn b hb=>⟨hn b hb,(f2 b hb).2⟩
 refine codeAny_forLoop_any (fun n s'=>∃ i σ' H',Ac X pins σ' H' s'/\tn i s'.heap/\(∀ b∈fp,H' b=FN)/\W i n σ' H') ?_ m0 ⟨0,σ,H2,I2,st2,fun b hb=>(f2 b hb).1,w0⟩;rintro n s3 ⟨i,σ3,H3,I3,st3,fr3,w3⟩;rcases turn i n σ3 H3 w3 with ⟨stop,qn⟩ | ⟨go,N,hN,step⟩
 ·refine Sv hp<|G6 (T.done X rfl rfl rfl (fun _=>hc) i pins s3 σ3 H3 X.xe I3 (stat fr3) st3 stop) fun r s4 ⟨hr,I4⟩=>?_
  subst hr;exact wpAny_execs_nil ⟨σ3,H3,I4,qn⟩
 ·refine Sv hp<|G6 (T.item X rfl rfl rfl (fun _=>hc) i pins s3 σ3 H3 X.xe I3 (stat fr3) st3 go) fun r s4 ⟨u,hr,h4⟩=>?_
  subst hr;refine Sv hp<|G6 h4 fun _ s5 ⟨x,H5,I5,r5,y5,st5,fr5⟩=>?_
  have I5':=I5.pinned (stat fr5) (T.obj _ _ st5);refine Sv hp<|G6 (hg _ s5 σ3 H5 x u _ I5' r5<|step x H5 y5) fun _ s6 ⟨σ6,H6,I6,q6⟩=>?_
  refine Sv hp<|G6 (hb _ s6 σ6 H6 _ I6 q6) fun f s7 q7=>?_
  have again:∀ {σ7:St} {H7:Hp},Ac X (pins++zM fp s5.heap) σ7 H7 s7->N σ7 H7->∃ m,m<n/\∃ i σ' H',Ac X pins σ' H' s7/\tn i s7.heap/\(∀ b∈fp,H' b=FN)/\W i m σ' H':=fun {σ7 H7} I7 n7=>by
   obtain ⟨m',hm,w7⟩:=hN σ7 H7 n7;refine ⟨m',hm,i+1,σ7,H7,I7.unpinned,T.keep _ _ _ st5 fun b hb o e=>(I7.pin (b,o)<|Oi _<|Oi _<|kh hb e).1,fun b hb=>?_,w7⟩;obtain ⟨o,e,d⟩:=T.obj _ _ st5 b hb;exact (I7.pin (b,o)<|Oi _<|Oi _<|kh hb e).2.1
  cases f with
  | next=>obtain ⟨σ7,H7,I7,n7⟩:=q7;exact again I7 n7
  | cont=>obtain ⟨σ7,H7,I7,n7⟩:=q7;exact again I7 n7
  | brk=>obtain ⟨σ7,H7,I7,q7⟩:=q7;exact ⟨σ7,H7,I7.unpinned,q7⟩
  | ret v=>obtain ⟨x7,σ7,H7,I7,r7,q7⟩:=q7;exact ⟨x7,σ7,H7,I7.unpinned,r7,q7⟩
end
abbrev R2:=V->V->Hp->VK->Prop
def JC (X:Cx)(f:JI->JI->Sem JI)(r:R2):Prop:=
 ∀ (pins:List (Addr×Obj)) (s:AP) (σ : St) (H:Hp) (x y:V) (v u:JI) (Q:VK),Ac X pins σ H s->RelV x v->RelV y u->r x y H Q ->
  CR (FP X.prog X.w) X.A (f v u) (EP X pins σ Q) X.xe s
def UnR (X:Cx)(f:JI->Sem JI)(r:V->Hp->VK->Prop):Prop:=
 ∀ (pins:List (Addr×Obj)) (s:AP) (σ : St) (H:Hp) (x:V) (v:JI) (Q:VK),Ac X pins σ H s->RelV x v->r x H Q ->
  CR (FP X.prog X.w) X.A (f v) (EP X pins σ Q) X.xe s
def jc (X:Cx)(f:JI)(r:List V->Hp->VK->Prop):Prop:=
 ∀ (pins:List (Addr×Obj)) (s:AP) (σ : St) (H:Hp) (xs:List V) (us:List JI) (Q:VK),Ac X pins σ H s->BL xs us->r xs H Q ->
  CR (FP X.prog X.w) X.A (call f us) (EP X pins σ Q) X.xe s
def ac7 (X:Cx)(r:V->Hp->(Bool->Hp->Prop)->Prop):Prop:=
 ∀ (pins:List (Addr×Obj)) (s:AP) (σ : St) (H:Hp) (x:V) (v:JI) (Q:Bool->Hp->Prop),Ac X pins σ H s->RelV x v->r x H Q ->
  CR (FP X.prog X.w) X.A (truthy v) (TP X pins σ Q) X.xe s
def tOp (r:R2)(ta tb:TE):TE:=fun σ H Q=>ta σ H fun x H1=>tb σ H1 fun y H2=>r x y H2 Q
def tUn (r:V->Hp->VK->Prop)(ta:TE):TE:=fun σ H Q=>ta σ H fun x H1=>r x H1 Q
def rI (C:Int->Int->Prop)(g:Int->Int->V):R2:=fun x y H Q=>∃ i j,x=.int i/\y=.int j/\C i j/\Q (g i j) H
def rI0 (g:Int->Int->V):R2:=fun x y H Q=>∃ i j,x=.int i/\y=.int j/\Q (g i j) H
def rU (g:Int->V):V->Hp->VK->Prop:=fun x H Q=>∃ i,x=.int i/\Q (g i) H
section
variable {X:Cx}{a b c:Expr}{ta tb tc:TE}{pos:Pos}
theorem ab1 (ha:PE X a ta)(hb:PE X b tb){pins:List (Addr×Obj)}{s:AP}{σ : St}{H:Hp}{R:V->V->Hp->Prop}(I:Ac X pins σ H s)
  (h:ta σ H fun x H1=>tb σ H1 fun y H2=>R x y H2) {Q:JI->AP->Prop} {f:JI->JI->Sem JI}
  (hf:∀ v u s2 x y H2,Ac X pins σ H2 s2->RelV x v->RelV y u->R x y H2->CR (FP X.prog X.w) X.A (f v u) Q X.xe s2) :
  CR (FP X.prog X.w) X.A (eval a X.env) (fun v s₁=>CR (FP X.prog X.w) X.A (eval b X.env) (fun u s₂=>CR (FP X.prog X.w) X.A (f v u) Q X.xe s₂) X.xe s₁) X.xe s:=by
 refine G6 (ha pins s σ H _ I h) fun v s1 ⟨x,H1,I1,r1,q1⟩=>?_;refine G6 (hb pins s1 σ H1 _ I1 q1) fun u s2 ⟨y,H2,I2,r2,q2⟩=>?_;exact hf v u s2 x y H2 I2 r1 r2 q2
theorem aaz {op:Operator}{r:R2}(ho:JC X (ML op) r)(ha:PE X a ta)(hb:PE X b tb):PE X (.BinOp a op b pos) (tOp r ta tb):=by
 intro pins s σ H Q I h;exact wpAny_BinOp<|ab1 ha hb I h fun v u s2 x y H2 I2 rx ry q=>ho pins s2 σ H2 x y v u Q I2 rx ry q
theorem abN {op:UnaryOp}{r:V->Hp->VK->Prop}(ho:UnR X (unaryOp op) r)(ha:PE X a ta):PE X (.UnaryOp op a pos) (tUn r ta):=by
 intro pins s σ H Q I h;exact UnaryOp_<|G6 (ha pins s σ H _ I h) fun v s1 ⟨x,H1,I1,r1,q1⟩=>ho pins s1 σ H1 x v Q I1 r1 q1
theorem opI {f:JI->JI->Sem JI}{C:Int->Int->Prop}{g:Int->Int->Int}
  (rule:∀ (i j:Int) (t u:Tok) (s:AP) (Q:JI->AP->Prop) (E:JI->AP->Prop),C i j->Q (.int (g i j) s.toks) { s with toks:=s.toks+1 }->CR (FP X.prog X.w) X.A (f (.int i t) (.int j u)) Q E s) :
  JC X f (rI C fun i j=>.int (g i j)):=by
 intro pins s σ H x y v u Q I rx ry h;obtain ⟨i,j,rfl,rfl,hc,q⟩:=h;obtain ⟨t,rfl⟩:=rx;obtain ⟨t',rfl⟩:=ry;exact rule i j t t' s _ _ hc ⟨.int<|g i j,H,I.tok _,⟨_,rfl⟩,q⟩
theorem acW {f:JI->JI->Sem JI}{g:Int->Int->Int}
  (rule:∀ (i j:Int) (t u:Tok) (s:AP) (Q:JI->AP->Prop) (E:JI->AP->Prop),Q (.int (g i j) s.toks) { s with toks:=s.toks+1 }->CR (FP X.prog X.w) X.A (f (.int i t) (.int j u)) Q E s) :
  JC X f (rI0 fun i j=>.int (g i j)):=by
 intro pins s σ H x y v u Q I rx ry h;obtain ⟨i,j,rfl,rfl,q⟩:=h;obtain ⟨t,rfl⟩:=rx;obtain ⟨t',rfl⟩:=ry;exact rule i j t t' s _ _ ⟨.int<|g i j,H,I.tok _,⟨_,rfl⟩,q⟩
theorem abt {f:JI->JI->Sem JI}{g:Int->Int->Bool}
  (rule:∀ (i j:Int) (t u:Tok) (s:AP) (Q:JI->AP->Prop) (E:JI->AP->Prop),Q (.bool (g i j)) s->CR (FP X.prog X.w) X.A (f (.int i t) (.int j u)) Q E s) :
  JC X f (rI0 fun i j=>.bl (g i j)):=by
 intro pins s σ H x y v u Q I rx ry h;obtain ⟨i,j,rfl,rfl,q⟩:=h;obtain ⟨t,rfl⟩:=rx;obtain ⟨t',rfl⟩:=ry;exact rule i j t t' s _ _ ⟨.bl<|g i j,H,I,rfl,q⟩
def ab2 (i j:Int):Prop:=0<=j/\j<=1000000/\i.natAbs<2^64
theorem WM:JC X (ML .Add) (rI0 fun i j=>.int (i+j)):=acW fun _ _ _ _ _ _ _ q=>add_int q
theorem Xz:JC X (ML .Sub) (rI0 fun i j=>.int (i - j)):=acW fun _ _ _ _ _ _ _ q=>sub_int q
theorem Vp:JC X (ML .Mod) (rI (fun _ j=>j≠0) fun i j=>.int (i.fmod j)):=opI fun _ _ _ _ _ _ _ hc q=>mod_int' hc q
theorem V9:JC X (ML .Pow) (rI ab2 fun i j=>.int (i^j.toNat)):=opI fun _ _ _ _ _ _ _ hc q=>pow_int_small hc.1 hc.2.1 hc.2.2 q
theorem unI {f:JI->Sem JI}{g:Int->Int}
  (rule:∀ (i:Int) (t:Tok) (s:AP) (Q:JI->AP->Prop) (E:JI->AP->Prop),Q (.int (g i) s.toks) { s with toks:=s.toks+1 }->CR (FP X.prog X.w) X.A (f (.int i t)) Q E s) :
  UnR X f (rU fun i=>.int (g i)):=by
 intro pins s σ H x v Q I rx h;obtain ⟨i,rfl,q⟩:=h;obtain ⟨t,rfl⟩:=rx;exact rule i t s _ _ ⟨.int<|g i,H,I.tok _,⟨_,rfl⟩,q⟩
theorem Wn:UnR X (unaryOp .USub) (rU fun i=>.int (-i)):=unI fun _ _ _ _ _ q=>neg_int q
theorem vK {pins:List (Addr×Obj)}{σ : St}{H:Hp}{s:AP}{Q:VK}{k k':Bool}(I:Ac X pins σ H s)(q:Q (.bl k) H)(e:k=k'):EP X pins σ Q (.bool k') s:=by
 subst e;exact ⟨.bl k,H,I,rfl,q⟩
theorem aaC:JC X (Jc .Lt) (rI0 fun i j=>.bl (decide (i<j))):=abt fun _ _ _ _ _ _ _ q=>lt_int q
theorem aaM:JC X (Jc .LtE) (rI0 fun i j=>.bl (decide (i<=j))):=abt fun _ _ _ _ _ _ _ q=>le_int q
theorem abE:JC X (Jc .Gt) (rI0 fun i j=>.bl (decide (j<i))):=abt fun _ _ _ _ _ _ _ q=>gt_int q
theorem ZC:JC X (Jc .Is) (fun x y H Q=>y=.non/\Q (.bl (decide (x=.non))) H):=by
 intro pins s σ H x y v u Q I rx ry h;obtain ⟨rfl,q⟩:=h;cases ry;refine is_none_gen<|vK I q ?_
 cases x <;> first
  | (cases rx;rfl)
  | (obtain ⟨t,rfl⟩:=rx;rfl)
theorem zbH:JC X (Jc .IsNot) (fun x y H Q=>y=.non/\Q (.bl (!decide (x=.non))) H):=by
 intro pins s σ H x y v u Q I rx ry h;obtain ⟨rfl,q⟩:=h;cases ry;refine isnot_none_gen<|vK I q ?_
 cases x <;> first
  | (cases rx;rfl)
  | (obtain ⟨t,rfl⟩:=rx;rfl)
theorem JC.or {f:JI->JI->Sem JI}{r r':R2}(h:JC X f r)(h':JC X f r'):JC X f (fun x y H Q=>r x y H Q\/r' x y H Q):=by
 intro pins s σ H x y v u Q I rx ry q;rcases q with q | q
 ·exact h pins s σ H x y v u Q I rx ry q
 ·exact h' pins s σ H x y v u Q I rx ry q
theorem Qv (b:Expr){op:CmpOp}(h:op≠.In:=by decide)(h2:op≠.NotIn:=by decide):S6 op b=false:=by
 have e1:(op==CmpOp.In)=false:=by cases op <;> first | rfl | exact absurd rfl h
 have e2:(op==CmpOp.NotIn)=false:=by cases op <;> first | rfl | exact absurd rfl h2
 cases b <;> simp [S6,e1,e2]
theorem afd {op:CmpOp}{r:R2}(ho:JC X (Jc op) r)(ha:PE X a ta)(hb:PE X b tb)(hm:S6 op b=false):PE X (.Compare a [op] [b] pos) (tOp r ta tb):=by
 intro pins s σ H Q I h;exact wpAny_Compare1 (ab1 ha hb I h fun v u s2 x y H2 I2 rx ry q=>ho pins s2 σ H2 x y v u Q I2 rx ry q) hm
def Wa (t:TE):TT:=fun σ H Q=>t σ H fun x H'=>∃ k,x=.bl k/\Q k H'
theorem agm {op:CmpOp}{r:R2}(ho:JC X (Jc op) r)(ha:PE X a ta)(hb:PE X b tb)(hm:S6 op b=false):PT X (.Compare a [op] [b] pos) (Wa (tOp r ta tb)):=by
 intro pins s σ H Q I h;refine wpAny_isTrue_Compare1 (G6 (ha pins s σ H _ I h) fun v s1 ⟨x,H1,I1,r1,q1⟩=>G6 (hb pins s1 σ H1 _ I1 q1) fun u s2 ⟨y,H2,I2,r2,q2⟩=>
  G6 (ho pins s2 σ H2 x y v u _ I2 r1 r2 q2) fun c s3 ⟨z,H3,I3,r3,k,e,q3⟩=>?_) hm
 subst e;cases r3;exact SN ⟨H3,I3,q3⟩
def Q6 (r r':R2)(ta tb tc:TE):TE:=fun σ H Q=>ta σ H fun x H1=>tb σ H1 fun y H2=>r x y H2 fun z H3=>∃ k,z=.bl k /\
 (if k=true then tc σ H3 fun w' H4=>r' y w' H4 Q else Q (.bl false) H3)
theorem afz {op op':CmpOp}{r r':R2}(ho:JC X (Jc op) r)(ho':JC X (Jc op') r')(ha:PE X a ta)(hb:PE X b tb)(hc:PE X c tc)
  (hm:lastMarks [op,op'] [b,c]=false:=by with_unfolding_all rfl):PT X (.Compare a [op,op'] [b,c] pos) (Wa (Q6 r r' ta tb tc)):=by
 intro pins s σ H Q I h;refine isTrue_chain (G6 (ha pins s σ H _ I h) fun v s1 ⟨x,H1,I1,r1,q1⟩=>test_link (G6 (hb pins s1 σ H1 _ I1 q1) fun u s2 ⟨y,H2,I2,r2,q2⟩=>
  G6 (ho pins s2 σ H2 x y v u _ I2 r1 r2 q2) fun d s3 ⟨z,H3,I3,r3,k,e,q3⟩=>?_)) hm
 subst e;cases r3;refine SN ?_;cases k with
 | false=>
  obtain ⟨k',e',q'⟩:=q3;cases e'
  exact ite_ff ⟨H3,I3,q'⟩
 | true=>
  refine ite_tt<|test_last<|G6 (hc pins s3 σ H3 _ I3 q3) fun w' s4 ⟨z',H4,I4,r4,q4⟩=>G6 (ho' pins s4 σ H4 y z' u w' _ I4 r2 r4 q4) fun d' s5 ⟨z2,H5,I5,r5,k2,e2,q5⟩=>?_
  subst e2;cases r5;exact SN ⟨H5,I5,q5⟩
def ab9 (K:Ad)(x:V)(H:Hp)(k:Bool):Prop:=
 match x with
 | .non=>k=false
 | .bl b=>k=b
 | .int i=>k=(i != 0)
 | .str y=>y.length<=Gn/\k=((y.length:Int) != 0)
 | .byt y=>y.size<=Gn/\k=((y.size:Int) != 0)
 | .ref p=>(∃ xs,Io K H p xs/\k = !xs.isEmpty)\/(∃ xs,J4 K H p xs/\k = !xs.isEmpty)\/∃ kvs,H p=Dn (.dK kvs)/\k = !kvs.isEmpty
 | _=>False
theorem aeg {κ : Type}{kvs:List (κ×V)}{vs:List (κ×JI)}(r:KV kvs vs):(!vs.isEmpty) = !kvs.isEmpty:=by
 cases r <;> rfl
theorem uZ {xs:List V}{its:List JI}(r:BL xs its):(!its.toArray.isEmpty) = !xs.isEmpty:=by
 cases r <;> simp
theorem qp:(Gn:Nat)<2^63:=by rw [sizeLine_eq];decide
theorem Wg:ac7 X (fun x H Q=>∃ k,ab9 X.K x H k/\Q k H):=by
 intro pins s σ H x v Q I rx h;obtain ⟨k,e,q⟩:=h;have hl:=qp;have hs:Gn=16777216:=sizeLine_eq;cases x with
 | non=>
  cases rx;have e':k=false:=e;subst e';exact truthy_none ⟨H,I,q⟩
 | bl b=>
  cases rx;have e':k=b:=e;subst e';exact SN ⟨H,I,q⟩
 | int i=>
  obtain ⟨t,rfl⟩:=rx;have e':k=(i != 0):=e;subst e';exact PySem.P.truthy_int ⟨H,I,q⟩
 | str y=>
  obtain ⟨t,rfl⟩:=rx;obtain ⟨hy,e'⟩:y.length<=Gn/\k=((y.length:Int) != 0):=e;subst e';exact PySem.P.truthy_str (by lia) ⟨H,I.tok _,q⟩
 | byt y=>
  obtain ⟨t,rfl⟩:=rx;obtain ⟨hy,e'⟩:y.size<=Gn/\k=((y.size:Int) != 0):=e;subst e';exact PySem.W.truthy_bytes (by lia) ⟨H,I.tok _,q⟩
 | ref p=>
  cases rx;have e':(∃ xs,Io X.K H p xs/\k = !xs.isEmpty)\/(∃ xs,J4 X.K H p xs/\k = !xs.isEmpty)\/∃ kvs,H p=Dn (.dK kvs)/\k = !kvs.isEmpty:=e
  rcases e' with ⟨xs,hx,e'⟩ | ⟨xs,hx,e'⟩ | ⟨kvs,hx,e'⟩
  ·subst e';obtain ⟨its,r,pl,hz⟩:=I.list hx;have hlen:=r.length;exact wpAny_truthy_list pl.isList (by simp only [Iz];lia) ⟨H,I.tok _,by rw [uZ r];exact q⟩
  ·subst e';obtain ⟨its,r,pl,hz⟩:=I.tuple hx;have hlen:=r.length;exact truthy_tuple pl (by simp only [Iz];lia) ⟨H,I.tok _,by rw [uZ r];exact q⟩
  ·subst e';obtain ⟨hz,hS,vs,r,m⟩:kvs.length<=Gn/\(p==sysModules)=false/\∃ vs,KV kvs vs/\s.heap.DictOf (Aw X.prog X.w) p vs:=I.hok p _ hx
   have hlen:kvs.length=vs.length:=Paired.length r;exact wpAny_truthy_dict hS m (by lia) ⟨H,I.tok _,by rw [aeg r];exact q⟩
 | _=>exact (show False from e).elim
theorem zbm (ha:PE X a ta)(he:∀ whole,isTrue a X.env whole=(do let v <-whole;standAt a.pos;holding [v] (truthy v))) :
  PT X a (fun σ H Q=>ta σ H fun x H'=>∃ k,ab9 X.K x H' k/\Q k H'):=by
 intro pins s σ H Q I h;exact isTrue_plain (G6 (ha pins s σ H _ I h) fun v s1 ⟨x,H1,I1,r1,q1⟩=>Wg pins s1 σ H1 x v Q I1 r1 q1)<|he _
theorem vals1 {x:V}{us:List JI}(r:BL [x] us):∃ u,us=[u]/\RelV x u:=by
 cases r with
 | cons r1 r2=>cases r2;exact ⟨_,rfl,r1⟩
theorem vals2 {x y:V}{us:List JI}(r:BL [x,y] us):∃ u w',us=[u,w']/\RelV x u/\RelV y w':=by
 cases r with
 | cons r1 r2=>
  cases r2 with
  | cons r3 r4=>cases r4;exact ⟨_,_,rfl,r1,r3⟩
theorem aeI:jc X (.builtin "abs") (fun xs H Q=>∃ i,xs=[.int i]/\Q (.int (if i<0 then -i else i)) H):=by
 intro pins s σ H xs us Q I r h;obtain ⟨i,rfl,q⟩:=h;obtain ⟨u,rfl,t,rfl⟩:=vals1 r;exact call_abs_int fun u tk=>⟨.int<|if i<0 then -i else i,H,I.tok _,⟨_,rfl⟩,q⟩
theorem yh (hc:X.calm=true):jc X (.builtin "max") (fun xs H Q=>∃ i j,xs=[.int i,.int j]/\Q (.int (if j>i then j else i)) H):=by
 intro pins s σ H xs us Q I r h;obtain ⟨i,j,rfl,q⟩:=h;obtain ⟨u,w',rfl,⟨t,rfl⟩,⟨t',rfl⟩⟩:=vals2 r;refine max_two_ints (I.ok.hd hc) fun h' tk k=>⟨_,H,I.kept k,?_,q⟩;by_cases hj:j>i
 ·rw [if_pos hj,if_pos hj];exact ⟨_,rfl⟩
 ·rw [if_neg hj,if_neg hj];exact ⟨_,rfl⟩
theorem aek (hc:X.calm=true):jc X (.builtin "min") (fun xs H Q=>∃ i j,xs=[.int i,.int j]/\Q (.int (if j<i then j else i)) H):=by
 intro pins s σ H xs us Q I r h;obtain ⟨i,j,rfl,q⟩:=h;obtain ⟨u,w',rfl,⟨t,rfl⟩,⟨t',rfl⟩⟩:=vals2 r;refine min_two_ints (I.ok.hd hc) fun h' tk k=>⟨_,H,I.kept k,?_,q⟩;by_cases hj:j<i
 ·rw [if_pos hj,if_pos hj];exact ⟨_,rfl⟩
 ·rw [if_neg hj,if_neg hj];exact ⟨_,rfl⟩
end
structure ad1 (h:Heap) (x dx C:Addr) (mA:Str->Option JI):Prop where
 obj:h.get? x=Dn (PySem.W.instObj C dx)
 ns:h.Ns1 dx mA
 ne:dx≠x
section
variable {prog:FQ}{w:Cm}{A:FT}{E:JI->AP->Prop}{s:AP}{K:Ad}{x dx C f:Addr}{mA:Str->Option JI}{name:Str}{v:JI}
end
section
variable {P:FQ}{w:Cm}{H H':Hp}{h h':Heap}{a C dx:Addr}{fs fs':List (Str×V)}
end
structure Cls (K:Ad) (C:Addr):Prop where
 pg:PySem.W.plainGet K C Str.empty=true
 hd:PySem.W.hasDictIn K C=true
 po:PySem.W.plainOver K C=true
 sa:Rt K (.ref C) "__setattr__" = Dn (Dn (.builtin "object.__setattr__"))
structure Con (K:Ad) (C:Addr) (f:Str) (v:V) (u:JI):Prop where
 at_:Rt K (.ref C) f=Dn (Dn u)
 rel:RelV v u
 get:PySem.W.specialIn K u "__get__" = Dn FN
 cp:PySem.W.copiedNames.contains f=false
structure Meth (K:Ad) (C:Addr) (m:Str) (f:Addr):Prop where
 at_:Rt K (.ref C) m=Dn (Dn (.ref f))
 fn:PySem.W.isFn K (.ref f)=true
 kp:Nk K (.ref f)=true
section
variable {X:Cx}{pins:List (Addr×Obj)}{σ : St}{H:Hp}{s:AP}{a C dx:Addr}{fs:List (Str×V)}{f:Str}{v:V}{A:FT}{E:JI->AP->Prop}
end
section
variable {X:Cx}{o e value:Expr}{f:Str}{pos pos' tpos:Pos}{ta tv:TE}
end
section
variable {X:Cx}{pins:List (Addr×Obj)}{σ : St}{H:Hp}{s:AP}{A:FT}{E:JI->AP->Prop}{Q:JI->AP->Prop}{c:JI}{b:Bool}
inductive Ij (K:Ad) (H:Hp):V->JI->Prop where
 | non:Ij K H .non (.type "NoneType")
 | bl (x:Bool):Ij K H (.bl x) (.type "bool")
 | int (i:Int):Ij K H (.int i) (.type "int")
 | str (x:Str):Ij K H (.str x) (.type "str")
 | flt (x:UInt64):Ij K H (.flt x) (.type "float")
 | lst {a:Addr} {xs:List V} (e:H a=Dn (.lst xs)):Ij K H (.ref a) (.type "list")
 | frz {a:Addr} {o:Obj} {xs:List V} (e:H a=Dn (.frz o (.lst xs))):Ij K H (.ref a) (.type "list")
 | tup {a:Addr} {xs:List V} (e:H a=Dn (.tup xs)):Ij K H (.ref a) (.type "tuple")
 | dK {a:Addr} {kvs:List (Key×V)} (e:H a=Dn (.dK kvs)):Ij K H (.ref a) (.type "dict")
 | dT {a:Addr} {kvs:List (List Key×V)} (e:H a=Dn (.dT kvs)):Ij K H (.ref a) (.type "dict")
 | ins {a C dx:Addr} {fs:List (Str×V)} (e:H a=Dn (.ins C dx fs)) (cl:Cls K C) (ha:Rt K (.ref C) "__class__" = Dn (Dn (.builtin "object.__class__")))
   (hn:PySem.W.specialIn K (.builtin "object.__class__") "__get__" = Dn (Dn (.builtin "getset_descriptor.__get__"))) (htk:PySem.W.takesIn K (.builtin "object.__class__")=Dn true)
   (hm:PySem.W.mroIn K C (.type "object")=Dn true):Ij K H (.ref a) (.ref C)
end
structure mK (k:Nat) (A:FT):Prop where
 hd:9<=k->A.handled=FN
 dp:A.depth+3*k+5<recursionLimit
 un:A.units+16*k+200<Kq
theorem mK.mono {j k:Nat}{A:FT}(r:mK k A)(h:j<=k):mK j A:=⟨fun z=>r.hd (Ii z h),by have:=r.dp;lia,by have:=r.un;lia⟩
theorem mK.deeper {k:Nat}{A:FT}(r:mK (k+1) A)(env:Env):mK k (A.deeper env):=
 ⟨fun z=>r.hd (Nat.le_succ_of_le z),by have:=r.dp;show A.depth+1+3*k+5<_;lia,by have:=r.un;show A.units+3+16*k+200<_;lia⟩
theorem mK.calm {k:Nat}{A:FT}(r:mK k A)(h:9<=k):A.handled.isNone=true:=by rw [r.hd h];rfl
theorem mK.depth {k:Nat}{A:FT}(r:mK k A):A.depth<recursionLimit:=by have:=r.dp;lia
theorem mK.units {k:Nat}{A:FT}(r:mK k A):A.units+64<Kq:=by have:=r.un;lia
def acz:TA:=fun _ H Q=>Q [] H
def aaR (ta:TE)(tr:TA):TA:=fun σ H Q=>ta σ H fun x H1=>tr σ H1 fun xs H2=>Q (x::xs) H2
section
variable {X:Cx}{e:Expr}{es:List Expr}{te:TE}{t:TA}{pos:Pos}
theorem ZS:PA X [] acz:=fun _ _ _ _ H Q I h=>Calls.spliced_nil ⟨[],H,I,.nil,h⟩
theorem zbG (ha:PE X e te)(hr:PA X es t)(hs:Fx (e::es) X.env=(false,eval e X.env)::Fx es X.env:=by rfl):PA X (e::es) (aaR te t):=by
 intro pos pins s σ H Q I h;rw [hs];show CR _ _ (spliced ((false,eval e X.env)::K5 pos (Fx es X.env))) _ _ s;refine Calls.spliced_cons<|G6 (ha pins s σ H _ I h) fun u s1 ⟨x,H1,I1,r1,q1⟩=>?_
 exact G6 (hr pos pins s1 σ H1 _ I1 q1) fun us s2 ⟨xs,H2,I2,r2,q2⟩=>⟨x::xs,H2,I2,.cons r1 r2,q2⟩
def ac1 (t:TA):TE:=fun σ H Q=>t σ H fun xs H1=>xs.length<=Gn/\∀ p,H1 p=FN->Q (.ref p) (G8 H1 p (.tup xs))
def ac5 (t:TA):TE:=fun σ H Q=>t σ H fun xs H1=>xs.length<=Gn/\∀ p,H1 p=FN->Q (.ref p) (G8 H1 p (.lst xs))
theorem X4 {x1}(h:PA X es t):PE X (.Tuple es x1 pos) (ac1 t):=by
 intro pins s σ H Q I hq;refine wpAny_Tuple_spliced<|G6 (h pos pins s σ H _ I hq) fun us s1 ⟨xs,H1,I1,r,z,q⟩=>⟨by rw [<-r.length];exact z,?_⟩
 have hf:H1 s1.heap.objs.size=FN:=I1.hok.fresh (Gi _);refine ⟨.ref s1.heap.objs.size,G8 H1 s1.heap.objs.size<|.tup xs,I1.laid (t':=s1.toks) (fun b u e=>HD _ e) (Gi _) ?_,rfl,q _ hf⟩;exact ⟨z,us,r,⟨_,KJ _ rfl,rfl,⟨_,rfl⟩,rfl⟩⟩
theorem O8 (h:PA X es t):PE X (.List es pos) (ac5 t):=by
 intro pins s σ H Q I hq;refine wpAny_List_spliced<|G6 (h pos pins s σ H _ I hq) fun us s1 ⟨xs,H1,I1,r,z,q⟩=>⟨by rw [<-r.length];exact z,?_⟩
 have hf:H1 s1.heap.objs.size=FN:=I1.hok.fresh (Gi _);refine ⟨.ref s1.heap.objs.size,G8 H1 s1.heap.objs.size<|.lst xs,I1.laid (t':=s1.toks) (fun b u e=>HD _ e) (Gi _) ?_,rfl,q _ hf⟩;exact ⟨z,us,0,r,KJ _ rfl⟩
end
abbrev Sp:=List V->Hp->VK->XK->Prop
abbrev Nr:=List Env->Hp->AP->XK->JI->AP->Prop
structure aan (P:FQ) (w:Cm) (K:Ad) (mg:Str->Option JI) (base:Heap) (A:FT) (outer:List Env) (s:AP) (H:Hp):Prop where
 frames:A.frames=Dn outer
 mod:Mod K mg base
 bs:∀ b o,base.get? b=Dn o->s.heap.get? b=Dn o/\H b=FN
 bsz:base.objs.size<=s.heap.objs.size
 funs:s.heap.FunFrames base outer
 frf:∀ b∈frs outer,H b=FN
 hok:Kc P w H s.heap
 bare:RB s.gens
 qt:Quiet A H
def CE (outer:List Env)(P:FQ)(w:Cm)(H:Hp)(s:AP)(Q:VK)(u:JI)(s':AP):Prop:=
 ∃ v H',s'.os=s.os/\RB s'.gens/\Un (frs outer) [] H H' s.heap s'.heap/\Kc P w H' s'.heap/\RelV v u/\Q v H'
def aeK (CX:Nr)(outer:List Env)(P:FQ)(w:Cm)(H:Hp)(s:AP)(Q:VK)(E:XK)(r:Result)(s':AP):Prop:=
 match r with
 | .ok (.ret u)=>CE outer P w H s Q u s'
 | .ok _=>False
 | .error e=>CX outer H s E e s'
structure qJ (P:FQ) (w:Cm) (K:Ad) (mg:Str->Option JI) (base:Heap) (CX:Nr) (k:Nat) (f:Addr) (fd:Le) (ps:List Str) (sp:Sp):Prop where
 len:∀ vs H Q E,sp vs H Q E->vs.length=ps.length
 run:∀ (A:FT) (outer:List Env) (s:AP) (H:Hp) (args:Args) (us:List JI) (vs:List V) (Q:VK) (E:XK),mK k A->aan P w K mg base A outer s H->BindsTo s fd args (ps.zip us)->BL vs us->sp vs H Q E ->
  codeAny (FP P w) A (.call (.ref f) args) (aeK CX outer P w H s Q E) s
theorem qJ.mono {P:FQ}{w:Cm}{K:Ad}{mg:Str->Option JI}{base:Heap}{CX:Nr}{j k:Nat}{f:Addr}{fd:Le}{ps:List Str}{sp:Sp}(F:qJ P w K mg base CX j f fd ps sp)(h:j<=k) :
  qJ P w K mg base CX k f fd ps sp:=⟨F.len,fun A outer s H args us vs Q E hr=>F.run A outer s H args us vs Q E (hr.mono h)⟩
theorem qJ.imp {P:FQ}{w:Cm}{K:Ad}{mg:Str->Option JI}{base:Heap}{CX:Nr}{k:Nat}{f:Addr}{fd:Le}{ps:List Str}{sp sp':Sp}(F:qJ P w K mg base CX k f fd ps sp)
  (h:∀ vs H Q E,sp' vs H Q E->sp vs H Q E):qJ P w K mg base CX k f fd ps sp':=
 ⟨fun vs H Q E q=>F.len vs H Q E (h _ _ _ _ q),fun A outer s H args us vs Q E hr he hb hv hs=>F.run A outer s H args us vs Q E hr he hb hv (h _ _ _ _ hs)⟩
section
variable {X:Cx}{pins:List (Addr×Obj)}{σ : St}{H:Hp}{s s':AP}
theorem Ac.env0 (I:Ac X pins σ H s):aan X.prog X.w X.K X.mg X.base X.A X.stack s H:=
 ⟨I.ok.frames,I.ok.mod,I.bs,Ii I.ok.bsz I.sz,I.stack,I.stkFree,I.hok,I.bare,I.qt0⟩
theorem Ac.after {Q:VK}{u:JI}(I:Ac X pins σ H s)(h:CE X.stack X.prog X.w H s Q u s'):EP X pins σ Q u s':=by
 obtain ⟨v,H',os,bare,un,hok,r,q⟩:=h;obtain ⟨hh,g,d,t,os'⟩:=s';obtain rfl:os'=s.os:=os;exact ⟨v,H',I.call (h':=hh) (g':=g) (d':=d) (t':=t) (ch:=[]) un hok bare<|fun b z=>absurd z<|by simp,r,q⟩
end
def TF (sp:Sp)(dvs:List V)(E:XK)(t:TA):TE:=fun σ H Q=>t σ H fun vs H1=>sp (vs++dvs) H1 Q E
def Binds (K:Ad)(fd:Le)(ps:List Str)(ds:List JI):Prop:=
 ∀ (s:AP) (us:List JI),K.In s.heap->(us++ds).length=ps.length->BindsTo s fd ⟨us,[]⟩ (ps.zip (us++ds))
theorem Binds.all {K:Ad}{fd:Le}{ps:List Str}(h:∀ us:List JI,us.length=ps.length->bindArgs fd ⟨us,[]⟩=pure (ps.zip us)):Binds K fd ps []:=fun s us _ hl=>by
 rw [Ub] at hl |-
 exact .of_eq<|h us hl
def Passes (CX:Nr)(X:Cx)(E:XK):Prop:=∀ (pins:List (Addr×Obj)) (σ : St) (H:Hp) (s:AP) (e:JI) (s':AP),Ac X pins σ H s->CX X.stack H s E e s'->X.xe e s'
section
variable {X:Cx}{CX:Nr}{k:Nat}{f C:Addr}{fd:Le}{ps:List Str}{sp:Sp}{dvs:List V}{ds:List JI}{E:XK}{x m:Str}{p pos apos:Pos}{e o:Expr}{es:List Expr}{ta:TE}{t:TA}
theorem Je {pins:List (Addr×Obj)}{σ : St}{H:Hp}{s:AP}{Q:VK}{us:List JI}{vs:List V}(F:qJ X.prog X.w X.K X.mg X.base CX k f fd ps sp)(hr:mK k X.A)(hb:Binds X.K fd ps ds)(hd:BL dvs ds)(hx:Passes CX X E)
  (I:Ac X pins σ H s) (r:BL vs us) (h:sp (vs++dvs) H Q E):CR (FP X.prog X.w) X.A (call (.ref f) us) (EP X pins σ Q) X.xe s:=by
 have r2:BL (vs++dvs) (us++ds):=r.append hd;have hl:(us++ds).length=ps.length:=by rw [<-r2.length];exact F.len _ _ _ _ h
 refine wpAny_call<|codeAny_mono (F.run X.A X.stack s H ⟨us,[]⟩ (us++ds) (vs++dvs) Q E hr I.env0 (hb s us I.kIn hl) r2 h) fun r s' hq=>?_
 cases r with
 | error e=>exact hx pins σ H s e s' I hq
 | ok fl=>
  cases fl with
  | ret u=>exact I.after hq
  | next=>exact Oh hq
  | brk=>exact Oh hq
  | cont=>exact Oh hq
theorem aeY (F:qJ X.prog X.w X.K X.mg X.base CX k f fd ps sp)(hr:mK k X.A)(hg:Gl X x)(hm:X.mg x=Dn (.ref f))(hk:Nk X.K (.ref f)=true)(hb:Binds X.K fd ps ds)(hd:BL dvs ds)(hx:Passes CX X E)
  (ha:PA X (e::es) t) (hdb:(x==("__debug__" : Str))=false:=by decide) (he:Fx (e::es) X.env=(false,eval e X.env)::Fx es X.env:=by rfl) (hpl:(K5 pos (Fx es X.env)).any (·.1)=false:=by rfl) :
  PE X (.Call (.Name x p) (e::es) [] pos) (TF sp dvs E t):=by
 intro pins s σ H Q I h;refine T6<|Ao I hg hm ?_ hdb
 refine PySem.W.callWith_K (h₀:=X.base) I.ok.mod.kin hk (G6 (ha pos pins s σ H _ I h) fun us s1 ⟨vs,H1,I1,r,q⟩=>⟨I1.kIn,?_⟩) he hpl;exact Je F hr hb hd hx I1 r q
theorem aeB (F:qJ X.prog X.w X.K X.mg X.base CX k f fd ps sp)(hr:mK k X.A)(hg:Gl X x)(hm:X.mg x=Dn (.ref f))(hk:Nk X.K (.ref f)=true)(hb:Binds X.K fd ps ds)(hd:BL dvs ds)(hx:Passes CX X E)
  (hdb:(x==("__debug__" : Str))=false:=by decide):PE X (.Call (.Name x p) [] [] pos) (TF sp dvs E acz):=by
 intro pins s σ H Q I h;refine T6<|Ao I hg hm ?_ hdb
 exact PySem.W.callWith_K0 I.kIn hk<|Je (us:=[]) F hr hb hd hx I .nil h
structure zad (K:Ad) (C f:Addr):Prop where
 makes:PySem.W.makesIn K C=true
 init:Rt K (.ref C) "__init__" = Dn (Dn (.ref f))
 fn:PySem.W.isFn K (.ref f)=true
 kp:Nk K (.ref C)=true
end
section
variable {X:Cx}{CX:Nr}{k:Nat}{f C:Addr}{fd:Le}{ps ks:List Str}{sp:Sp}{E:XK}{x m:Str}{p pos apos kpos:Pos}{e o:Expr}{es:List Expr}{kws:List Nx}{te ta:TE}{t tk:TA}{nm:Option Str}
structure acV (K:Ad) (fd:Le) (ps ks:List Str) (g:List JI->List JI->List JI) (gV:List V->List V->List V):Prop where
 to:∀ (s:AP) (us ws:List JI),K.In s.heap->(g us ws).length=ps.length->BindsTo s fd ⟨us,ks.zip ws⟩ (ps.zip (g us ws))
 rel:∀ {vs:List V} {us:List JI} {zs:List V} {ws:List JI},BL vs us->BL zs ws->BL (gV vs zs) (g us ws)
variable {g:List JI->List JI->List JI}{gV:List V->List V->List V}
end
structure pB (N P:List Str) (sc:Scope):Prop where
 kind:sc.kind=.function
 co:sc.isCoroutine=false
 gen:sc.isGenerator=false
 nd:N.Nodup
 pre:N.take P.length=P
 par:∀ x∈P,sc.names.lookup x=Dn .local\/sc.names.lookup x=Dn .cell
 nofree:∀ y∈sc.names,y.2≠.free
theorem zU {MH:Str->Option Ks}{x:Str}:∀ {binds:List (Str×JI)} {m:Str->Option JI},(∀ v,(x,v)∉binds)->bindL MH binds m x=m x
 | [],_,_=>rfl
 | (n,v)::r,m,h=>by
  unfold bindL;rw [zU fun w hw=>h w (Nh _ hw)];split
  ·have:x≠n:=by rintro rfl;exact h v Nb
   simp [this]
  ·rfl
theorem z7 {MH:Str->Option Ks}{x:Str}:∀ {binds:List (Str×JI)} {m:Str->Option JI},(∀ v,(x,v)∉binds)->bindC MH binds m x=m x
 | [],_,_=>rfl
 | (n,v)::r,m,h=>by
  unfold bindC;rw [z7 fun w hw=>h w (Nh _ hw)];split
  ·rfl
  ·have:x≠n:=by rintro rfl;exact h v Nb
   simp [this]
theorem zQ {MH:Str->Option Ks}{x:Str}{v:JI}:∀ {P:List Str} {vs:List JI} {i:Nat} {m:Str->Option JI},P.Nodup->P[i]?=Dn x->vs[i]?=Dn v->MH x=Dn .local ->
  bindL MH (P.zip vs) m x=Dn v
 | [],_,_,_,_,h,_,_=>by simp at h
 | _::_,[],_,_,_,_,h,_=>by simp at h
 | p::P,w::vs,0,m,nd,h1,h2,hk=>by
  simp at h1 h2;subst h1;subst h2;show bindL MH ((p,w)::P.zip vs) m p=_;unfold bindL;rw [zU fun v hv=>(Tp.mp nd).1 (List.of_mem_zip hv).1,if_pos hk];simp
 | p::P,w::vs,i+1,m,nd,h1,h2,hk=>by
  show bindL MH ((p,w)::P.zip vs) m x=_;unfold bindL;exact zQ (i:=i) (Tp.mp nd).2 (by simpa using h1) (by simpa using h2) hk
theorem yr {MH:Str->Option Ks}{x:Str}{v:JI}:∀ {P:List Str} {vs:List JI} {i:Nat} {m:Str->Option JI},P.Nodup->P[i]?=Dn x->vs[i]?=Dn v->MH x≠Dn .local ->
  bindC MH (P.zip vs) m x=Dn v
 | [],_,_,_,_,h,_,_=>by simp at h
 | _::_,[],_,_,_,_,h,_=>by simp at h
 | p::P,w::vs,0,m,nd,h1,h2,hk=>by
  simp at h1 h2;subst h1;subst h2;show bindC MH ((p,w)::P.zip vs) m p=_;unfold bindC;rw [z7 fun v hv=>(Tp.mp nd).1 (List.of_mem_zip hv).1,if_neg hk];simp
 | p::P,w::vs,i+1,m,nd,h1,h2,hk=>by
  show bindC MH ((p,w)::P.zip vs) m x=_;unfold bindC;exact yr (i:=i) (Tp.mp nd).2 (by simpa using h1) (by simpa using h2) hk
def start (N:List Str)(vs:List V):St:=vs.map Dn++Ot (N.length - vs.length) FN
def Mr (CX:Nr)(P:FQ)(w:Cm)(K:Ad)(mg:Str->Option JI)(base:Heap)(N:List Str)(qual:Str)(scope:Scope)(f:Addr)(cd:JI)(A:FT)(outer:List Env)(s:AP)(H:Hp)(E:XK):Cx where
 prog:=P
 w:=w
 K:=K
 mg:=mg
 base:=base
 A:=A.deeper (envOfC qual scope s.heap.objs.size f cd)
 N:=N
 s₀:=s
 H₀:=H
 env:=envOfC qual scope s.heap.objs.size f cd
 outer:=outer
 stack:=envOfC qual scope s.heap.objs.size f cd::outer
 ex:=[]
 calm:=A.handled.isNone
 fn:=fun _=>true
 pn:=[]
 xe:=fun e s'=>CR (FP P w) (A.deeper (envOfC qual scope s.heap.objs.size f cd)) (leaving (envOfC qual scope s.heap.objs.size f cd) e) (fun _ s''=>CX outer H s E e s'') (fun e' s''=>CX outer H s E e' s'') s'
theorem Dk {sc:Scope}{n:Nat}{x:Str}(h:sc.names.lookup x=Dn .cell):∃ c,(Jj n sc.names []).lookup x=Dn c:=by
 have q:=PySem.W.cellsFrom_some sc.names n [] (.inl h);exact Option.isSome_iff_exists.mp q
theorem ahj {CX:Nr}{P:FQ}{w:Cm}{K:Ad}{mg:Str->Option JI}{base:Heap}{N ps:List Str}{qual:Str}{scope:Scope}{f:Addr}{cd:JI}{A:FT}{outer:List Env}{s s1:AP}{H:Hp}{E:XK}{us:List JI}{vs:List V}
  (S:pB N ps scope) (e0:aan P w K mg base A outer s H) (hl:vs.length=ps.length) (r:BL vs us)
  (x:InCallC s s.heap.objs.size (bindL (envOfC qual scope s.heap.objs.size f cd).kindOf (ps.zip us) fun _=>FN) (Jj (s.heap.objs.size+1) scope.names []) (bindC (envOfC qual scope s.heap.objs.size f cd).kindOf (ps.zip us) fun _=>FN) s1) :
  Ac (Mr CX P w K mg base N qual scope f cd A outer s H E) [] (start N vs) H s1:=by
 have hpl:ps.length<=N.length:=by have:=congrArg List.length S.pre;rw [Nm] at this;lia
 obtain ⟨h1,tk,rfl,hk⟩:=x.done;have noA:∀ b:Addr,b∉(Mr CX P w K mg base N qual scope f cd A outer s H E).ex:=fun b z=>absurd (show b∈([]:List Addr) from z) (by simp)
 refine ⟨⟨e0.mod,S.kind,rfl,rfl,Gi _,fun y z c h1 h2=>?_,fun y hy=>?_,fun y c _ h=>?_,fun z=>Option.isNone_iff_eq_none.mp (show A.handled.isNone=true from z),e0.qt,Around.frames_deeper e0.frames,.inr ⟨rfl,rfl⟩,fun b z=>absurd z (noA b),e0.bs,e0.bsz,fun b _ _=>noA b,fun b z=>absurd z (noA b),e0.funs,e0.frf⟩,
  rfl,e0.bare,Un.kept hk,⟨_,x.toInCall.ns,fun i y v h1 h2 h3=>?_⟩,fun y c h=>⟨_,x.cell y c h⟩,e0.hok.fresh (Gi _),fun y c h=>?_,fun p hp=>absurd (show p∈([]:List (Addr×Obj)) from hp) (by simp),e0.hok.kept hk,?_⟩
 ·exact name_of_addr x.apart (RJ h1)<|RJ h2
 ·have hy:scope.names.lookup y=Dn .cell\/scope.names.lookup y=Dn .free:=hy;rcases hy with hy | hy
  ·exact Dk hy
  ·exact absurd rfl<|S.nofree _<|RJ hy
 ·exact Nat.le_of_lt<|x.above y c<|RJ h
 ·have hi:i<vs.length:=by
   unfold start at h2;by_cases hi:i<vs.length
   ·exact hi
   ·rw [Rq (by simpa using hi)] at h2;rw [Uw] at h2;split at h2 <;> cases h2
  have ha:vs[i]?=Dn v:=by
   unfold start at h2;rw [SJ (by simpa using hi),LK] at h2;cases e:vs[i]? with
   | none=>rw [e] at h2;cases h2
   | some a=>rw [e] at h2;cases h2;rfl
  obtain ⟨u,hu,rv⟩:=r.get ha;have hp:ps[i]?=Dn y:=by
   rw [<-S.pre,List.getElem?_take_of_lt (by lia)];exact h1
  have ndP:ps.Nodup:=by rw [<-S.pre];exact S.nd.sublist (List.take_sublist _ _)
  refine ⟨u,rv,?_⟩;rcases S.par y (N5 hp) with k | k
  ·exact .inl ⟨k,zQ ndP hp hu k⟩
  ·obtain ⟨c,e⟩:=Dk (n:=s.heap.objs.size+1) k;refine .inr ⟨.inl k,c,e,?_⟩;have q:=x.cell y c e;rw [yr ndP hp hu (by show scope.names.lookup y≠_;rw [k];decide)] at q;exact q
 ·exact e0.hok.fresh<|Nat.le_of_lt<|x.above y c<|RJ h
 ·unfold start;show _=N.length;rw [Lq,Gg,List.length_replicate];lia
theorem aaE {CX:Nr}{P:FQ}{w:Cm}{K:Ad}{mg:Str->Option JI}{base:Heap}{k:Nat}{f:Addr}{name qual:Str}{params:Arguments}{body:List Stmt}{scope:Scope}{dV kV doc pm cdv ct oc:JI}{an od:Option Addr}
  {osl:Array (Option JI)} {N ps:List Str} {sp:Sp} (lk:K.lookup f=Dn ⟨oc,od,.func (S8 name qual params body scope dV kV doc pm an cdv ct),osl⟩) (hcd:U8 K cdv qual=true) (S:pB N ps scope)
  (len:∀ vs H Q E,sp vs H Q E->vs.length=ps.length)
  (hbody:∀ (A:FT) (outer:List Env) (s:AP) (H:Hp) (vs:List V) (Q:VK) (E:XK),mK k (A.deeper (envOfC qual scope s.heap.objs.size f cdv))->sp vs H Q E ->
   ∃ t,Mf (Mr CX P w K mg base N qual scope f cdv A outer s H E) body t/\t { nx:=fun _ H'=>Q .non H',rt:=Q } (start N vs) H) :
  qJ P w K mg base CX (k+1) f (S8 name qual params body scope dV kV doc pm an cdv ct) ps sp:=by
 refine ⟨len,fun A outer s H args us vs Q E hr e0 hb r hsp=>?_⟩;have hl:=len _ _ _ _ hsp;have KX:K.In s.heap:=e0.mod.kin.keeps fun b o e=>(e0.bs b o e).1
 have lim:s.heap.NoLimit:=e0.mod.nolimit.keeps fun b o e=>(e0.bs b o e).1
 have hkind:∀ y∈ps.zip us,scope.names.lookup y.1=Dn .local\/(scope.names.lookup y.1=Dn .cell/\((Jj (s.heap.objs.size+1) scope.names []).lookup y.1).isSome=true):=fun ⟨n,v⟩ hy=>by
  rcases S.par n (List.of_mem_zip hy).1 with q | q
  ·exact .inl q
  ·exact .inr ⟨q,PySem.W.cellsFrom_some _ _ _<|.inl q⟩
 refine codeAny_call_function hr.depth (KX _ _ lk) rfl S.co S.gen rfl (PySem.W.codeRec_of KX hcd)<|hb _ _ _ _ ?_
 refine wpAny_newFunctionEnv_cells S.kind hkind fun env he s1 x=>?_;subst he;refine ⟨lim.keeps x.toInCall.keep,codeAny_func ?_⟩;obtain ⟨t,ht,hq⟩:=hbody A outer s H vs Q E (hr.deeper _) hsp;have I:Ac (Mr CX P w K mg base N qual scope f cdv A outer s H E) [] (start N vs) H s1:=ahj S e0 hl r x;refine NQ (ht [] s1 (start N vs) H _ I hq) (fun fl s' hs=>?_) fun e s' hs=>hs;have fin:∀ {σ':St} {H':Hp} {v:V} {u:JI},Ac (Mr CX P w K mg base N qual scope f cdv A outer s H E) [] σ' H' s'->RelV v u->Q v H'->CE outer P w H s Q u s':=
  fun {σ' H' v u} J rv q=>⟨v,H',J.os,J.bare,J.base,J.hok,rv,q⟩
 cases fl with
 | ret u=>
  obtain ⟨v,σ',H',J,rv,q⟩:=hs;exact fin J rv q
 | next=>
  obtain ⟨σ',H',J,q⟩:=hs;exact fin (v:=V.non) (u:=Value.none) J rfl q
 | brk=>
  obtain ⟨_,_,_,q⟩:=hs;exact Oh q
 | cont=>
  obtain ⟨_,_,_,q⟩:=hs;exact Oh q
section
variable {X:Cx}{x:Str}{p pos:Pos}{e:Expr}{es:List Expr}{t:TA}{id T:String}{r:List V->Hp->VK->Prop}
def tCB (r:List V->Hp->VK->Prop)(t:TA):TE:=fun σ H Q=>t σ H fun vs H1=>r vs H1 Q
theorem zbx (hc:jc X (.builtin id) r)(hg:Gl X x)(hm:X.mg x=FN)(hv:RD x=Dn (.builtin id))(ha:PA X (e::es) t)(hn:x ≠ "__name__":=by decide)(hdb:(x==("__debug__" : Str))=false:=by decide)
  (he:Fx (e::es) X.env=(false,eval e X.env)::Fx es X.env:=by rfl) (hpl:(K5 pos (Fx es X.env)).any (·.1)=false:=by rfl):PE X (.Call (.Name x p) (e::es) [] pos) (tCB r t):=by
 intro pins s σ H Q I h;refine T6<|tL I hg hm hv ?_ hn hdb
 exact PyProof.Rows.callWith_builtin1 (G6 (ha pos pins s σ H _ I h) fun us s1 ⟨vs,H1,I1,r1,q1⟩=>hc pins s1 σ H1 vs us Q I1 r1 q1) he hpl
theorem zaU (hc:jc X (.type T) r)(hg:Gl X x)(hm:X.mg x=FN)(hv:RD x=Dn (.type T))(ha:PA X (e::es) t)(hn:x ≠ "__name__":=by decide)(hdb:(x==("__debug__" : Str))=false:=by decide)
  (he:Fx (e::es) X.env=(false,eval e X.env)::Fx es X.env:=by rfl) (hpl:(K5 pos (Fx es X.env)).any (·.1)=false:=by rfl):PE X (.Call (.Name x p) (e::es) [] pos) (tCB r t):=by
 intro pins s σ H Q I h;refine T6<|tL I hg hm hv ?_ hn hdb
 exact Uh (G6 (ha pos pins s σ H _ I h) fun us s1 ⟨vs,H1,I1,r1,q1⟩=>hc pins s1 σ H1 vs us Q I1 r1 q1) he hpl
end
end L2
namespace HT
open PySem PyProof.Rows
section
open PySem.SeqAt
open PySem.AutoSeq1 (wpAny_loadPart')
open PySem.MeetsSeq PySem.MeetsSeq2 PySem.MeetsSeq3
end
section
variable {prog:FQ}{w:Cm}{A:FT}{E:JI->AP->Prop}{s:AP}
theorem RM {t b:Addr}{vs ws:List JI}{Q:JI->AP->Prop}(ht:IsTup s.heap t vs.toArray)(hb:IsTup s.heap b ws.toArray)(hv:vs≠[])
  (h1:ws=[]->Q (.ref t) s) (h2:ws≠[]->Q (.ref s.heap.objs.size) { s with heap:=s.heap.push { cls:=.type "tuple",data:=.seq (vs++ws).toArray } })
  (hsz:vs.length+ws.length<=Gn):CR (FP prog w) A (ML .Add (.ref t) (.ref b)) Q E s:=by
 obtain ⟨⟨cls,dd,data,sl⟩,ho,hc,n,hd⟩:=id ht;obtain ⟨⟨cls2,dd2,data2,sl2⟩,ho2,hc2,n2,hd2⟩:=id hb;simp only at hc hd hc2 hd2;subst hc hd hc2 hd2;have e:vs.toArray++ws.toArray=(vs++ws).toArray:=by simp
 by_cases hw:ws=[]
 ·exact concat_meets ⟨_,ho,rfl⟩ ⟨_,ho2,rfl⟩ noFill_tuple_add seq_tuple_add PySem.F.slot_tuple_add PySem.F.entry_tuple_add (PySem.F.args_tuple_add_2 _ _)
   (tuple_addW1 t b vs.toArray ws.toArray n n2 dd dd2 sl sl2 (by simpa using hv) (by simp [hw])) ⟨ho,ho2,h1 hw⟩
 ·refine concat_meets ⟨_,ho,rfl⟩ ⟨_,ho2,rfl⟩ noFill_tuple_add seq_tuple_add PySem.F.slot_tuple_add PySem.F.entry_tuple_add (PySem.F.args_tuple_add_2 _ _)
   (tuple_addW2 t b vs.toArray ws.toArray n n2 dd dd2 sl sl2 (by simpa using hv) (by simpa using hw) (by rw [Iz,Iz];exact hsz)) ⟨ho,ho2,?_⟩
  rw [e];exact h2 hw
def sIx (n d:Nat):Option Int->Nat
 | none=>d
 | some v=>if v<0 then (v+(n:Int)).toNat else min v.toNat n
theorem CW (n d:Nat):sIx n d FN=d:=rfl
theorem JZ (n d k:Nat):sIx n d (Dn (k:Int))=min k n:=by
 show (if (k:Int)<0 then ((k:Int)+(n:Int)).toNat else min (k:Int).toNat n)=min k n;rw [if_neg (by lia),Int.toNat_natCast]
theorem Zb (n d:Nat)(hd:d<=n)(o:Option Int):sIx n d o<=n:=by
 cases o with
 | none=>exact hd
 | some v=>
  show (if v<0 then (v+(n:Int)).toNat else min v.toNat n)<=n;by_cases hv:v<0
  ·rw [if_pos hv];lia
  ·rw [if_neg hv];exact Nat.min_le_right _ _
theorem Hh (v:Int)(n d:Nat):(if v<0 then max (v+(n:Int)) 0 else min v (n:Int))=((sIx n d (Dn v):Nat):Int):=by
 show (if v<0 then max (v+(n:Int)) 0 else min v (n:Int))=(((if v<0 then (v+(n:Int)).toNat else min v.toNat n):Nat):Int);by_cases hv:v<0
 ·simp only [if_pos hv];lia
 ·simp only [if_neg hv];lia
theorem aen (lo hi:Option Int)(n:Nat):Builtin.Slice.sliceAdjust lo hi 1 (n:Int)=(((sIx n 0 lo:Nat):Int),((sIx n n hi:Nat):Int)):=by
 have h1:¬ ((1:Int)<0):=by lia
 unfold Builtin.Slice.sliceAdjust;simp only [h1,if_false];refine HB ?_ ?_
 ·cases lo with
  | none=>rfl
  | some v=>exact Hh v n 0
 ·cases hi with
  | none=>rfl
  | some v=>exact Hh v n n
theorem zaE (i j:Nat):Um (i:Int) (j:Int) 1=j - i:=by
 unfold Um;have h1:(1:Int)>0:=by lia
 simp only [h1,if_true,Int.ediv_one];split <;> lia
theorem u6 {v:JI}{o:Option Int}{Q:Option Int->AP->Prop}(p:IsPart v o)(h:Q o s):CR (FP prog w) A (Builtin.Slice.slicePartIndex v) Q E s:=by
 cases p with
 | none=>exact slicePart_none h
 | int i t=>exact slicePart_int h
theorem jE {sl:Addr}{vl vu:JI}{lo hi:Option Int}{n:Nat}{Q:Int×Int×Nat->AP->Prop}(hs:s.heap.IsSliceOf sl vl vu .none)(pl:IsPart vl lo)(pu:IsPart vu hi)
  (h:Q (((sIx n 0 lo:Nat):Int),1,sIx n n hi - sIx n 0 lo) s):CR (FP prog w) A (Builtin.Slice.sliceApplied (.ref sl) (pure (n:Int))) Q E s:=by
 obtain ⟨os,hos,hcs,hds⟩:=id hs;unfold Builtin.Slice.sliceApplied Builtin.Slice.sliceFields;refine Aj<|Aj<|Kv hos hds (x:=vl) rfl<|Aj<|Kv hos hds (x:=vu) rfl<|Aj<|Kv hos hds (x:=.none) rfl<|Fy ?_
 refine Aj<|slicePart_none ?_
 show CR _ _ (if ((1:Int)==0)=true then _ else _) _ _ s;rw [if_neg (by decide)];refine Aj<|u6 pl<|Aj<|u6 pu<|Aj<|Fy ?_
 show CR _ _ (match Builtin.Slice.sliceAdjust lo hi 1 (n:Int) with | (lo,hi)=>pure (lo,(1:Int),Um lo hi 1)) _ _ s;rw [aen lo hi n];show CR _ _ (pure (((sIx n 0 lo:Nat):Int),(1:Int),Um ((sIx n 0 lo:Nat):Int) ((sIx n n hi:Nat):Int) 1)) _ _ s;rw [zaE];exact Fy h
theorem afQ (xs:Array JI)(i k:Nat):((M5 k).filterMap fun (m:Nat)=>xs[((i:Int)+(m:Int)*1).toNat]?).toArray=((xs.toList.drop i).take k).toArray:=by
 have e:(fun (m:Nat)=>xs[((i:Int)+(m:Int)*1).toNat]?)=fun m=>xs[i+m]?:=by
  funext m;have:((i:Int)+(m:Int)*1).toNat=i+m:=by lia
  rw [this]
 rw [e];have:=pick_run xs i k
 rw [List.filterMap_map] at this;have e2:((fun x=>xs[x]?) ∘ fun x=>i+x)=fun m=>xs[i+m]?:=rfl
 rw [e2] at this;rw [this]
theorem oM {t sl:Addr}{items:Array JI}{vl vu:JI}{lo hi:Option Int}{Q:JI->AP->Prop}(ht:IsTup s.heap t items)(hs:s.heap.IsSliceOf sl vl vu .none)(pl:IsPart vl lo)(pu:IsPart vu hi)
  (hw:¬ (sIx items.size 0 lo=0/\sIx items.size items.size hi=items.size))
  (h:Q (.ref s.heap.objs.size) { s with heap:=s.heap.push { cls:=.type "tuple",data:=.seq ((items.toList.drop (sIx items.size 0 lo)).take (sIx items.size items.size hi - sIx items.size 0 lo)).toArray } })
  (hsz:items.size<=Gn):CR (FP prog w) A (getItem (.ref t) (.ref sl)) Q E s:=by
 have htake:sizeOk (.seq ((items.toList.drop (sIx items.size 0 lo)).take (sIx items.size items.size hi - sIx items.size 0 lo)).toArray):=by
  show ((items.toList.drop (sIx items.size 0 lo)).take (sIx items.size items.size hi - sIx items.size 0 lo)).toArray.size<=Gn;rw [Iz,Nm,Sy,Array.length_toList];lia
 have hj:sIx items.size items.size hi<=items.size:=Zb _ _ (Gi _) hi;obtain ⟨os,hos,hcs,hds⟩:=id hs;have hTs:s.TypeIs (.ref sl) "slice":=⟨os,hos,hcs⟩
 unfold getItem;try with_reducible refine Oj ?_
 first | refine Aj (Fy ?_) | skip
 refine Aj<|wpAny_sequenceKey ht.typeIs (by decide) ?_
 refine Aj (Rp (name:=Rh "__getitem__") ht.typeIs Sd
  (RL Sd ht.typeIs entry_tuple_getitem ?_ (args_tuple_getitem _ _)))
 show CR _ _ (Builtin.Tuple.tupleItemsOf (.ref t) >>= _) _ _ s;refine Aj<|tupleItemsOf_ ht ?_
 refine Aj<|wpAny_typeOf hTs ?_
 rw [if_pos (by decide)];refine Aj<|jE hs pl pu ?_
 have hno:¬ ((((sIx items.size 0 lo:Nat):Int)==0&&(1:Int)==1&&(sIx items.size items.size hi - sIx items.size 0 lo)==items.size)=true):=by
  intro q;rw [MN,MN] at q;have q1:((sIx items.size 0 lo:Nat):Int)=0:=eq_of_beq q.1.1;have q2:sIx items.size items.size hi - sIx items.size 0 lo=items.size:=eq_of_beq q.2;exact hw ⟨by lia,by lia⟩
 show CR _ _ (if (((sIx items.size 0 lo:Nat):Int)==0&&(1:Int)==1&&(sIx items.size items.size hi - sIx items.size 0 lo)==items.size)=true then _ else _) _ _ s;rw [if_neg hno,afQ];first
  | exact Aj (m:=Ul _) (O2 (Fy ⟨_,rfl,Fy h⟩) htake)
  | exact Aj (m:=Ul _) (O2 (Aj (Fy (Fy ⟨_,rfl,Fy h⟩))) htake)
  | exact Aj (Aj (m:=Ul _) (O2 (Fy (Fy ⟨_,rfl,Fy h⟩)) htake))
  | exact Aj (Aj (m:=Ul _) (O2 (Fy ⟨_,rfl,Fy h⟩) htake))
end
end HT
namespace L2
open PySem PySem.Spec PyProof.Rows
abbrev TO:=St->Hp->(Option Int->Hp->Prop)->Prop
def PO (X:Cx)(e:Option Expr)(t:TO):Prop:=
 ∀ (pins:List (Addr×Obj)) (s:AP) (σ : St) (H:Hp) (Q:Option Int->Hp->Prop),Ac X pins σ H s->t σ H Q ->
  CR (FP X.prog X.w) X.A (evalPart e X.env) (fun u s'=>∃ o H',Ac X pins σ H' s'/\IsPart u o/\Q o H') X.xe s
def aha:TO:=fun _ H Q=>Q FN H
def aaY (t:TE):TO:=fun σ H Q=>t σ H fun x H1=>∃ i,x=.int i/\Q (Dn i) H1
section
variable {X:Cx}{e:Expr}{te:TE}{lo hi:Option Expr}{tl th:TO}{pos p2:Pos}
theorem afC:PO X FN aha:=by
 intro pins s σ H Q I h;rw [evalPart_none];exact Fy ⟨FN,H,I,.none,h⟩
theorem afZ (h:PE X e te):PO X (Dn e) (aaY te):=by
 intro pins s σ H Q I hw;rw [evalPart_some];refine G6 (h pins s σ H _ I hw) fun u s1 ⟨x,H1,I1,r1,q1⟩=>?_;obtain ⟨i,rfl,q⟩:=q1;obtain ⟨t,rfl⟩:=r1;exact ⟨Dn i,H1,I1,.int i t,q⟩
def Ov (X:Cx)(r:V->Option Int->Option Int->Hp->VK->Prop):Prop:=
 ∀ (pins:List (Addr×Obj)) (s:AP) (σ : St) (H:Hp) (x:V) (v vl vu:JI) (lo hi:Option Int) (sl:Addr) (Q:VK),Ac X pins σ H s->RelV x v->s.heap.IsSliceOf sl vl vu .none->IsPart vl lo->IsPart vu hi->r x lo hi H Q ->
  ∃ T id,typeLookup (.type T) "__getitem__" = pure (Dn (.builtin id))/\s.TypeIs v T/\CR (FP X.prog X.w) X.A (getItem v (.ref sl)) (EP X pins σ Q) X.xe s
theorem Ov.or {r r':V->Option Int->Option Int->Hp->VK->Prop}(h:Ov X r)(h':Ov X r'):Ov X (fun x lo hi H Q=>r x lo hi H Q\/r' x lo hi H Q):=by
 intro pins s σ H x v vl vu lo hi sl Q I rx hs pl pu q;rcases q with q | q
 ·exact h pins s σ H x v vl vu lo hi sl Q I rx hs pl pu q
 ·exact h' pins s σ H x v vl vu lo hi sl Q I rx hs pl pu q
def tSl (r:V->Option Int->Option Int->Hp->VK->Prop)(te:TE)(tl th:TO):TE:=fun σ H Q=>te σ H fun x H1=>tl σ H1 fun l H2=>th σ H2 fun u H3=>r x l u H3 Q
theorem afk {r:V->Option Int->Option Int->Hp->VK->Prop}(hr:Ov X r)(he:PE X e te)(hl:PO X lo tl)(hu:PO X hi th):PE X (.Subscript e (.Slice lo hi FN p2) pos) (tSl r te tl th):=by
 intro pins s σ H Q I h;refine Subscript_<|G6 (he pins s σ H _ I h) fun v s1 ⟨x,H1,I1,r1,q1⟩=>?_
 refine wpAny_Slice<|G6 (hl pins s1 σ H1 _ I1 q1) fun vl s2 ⟨l,H2,I2,pl,q2⟩=>G6 (hu pins s2 σ H2 _ I2 q2) fun vu s3 ⟨u,H3,I3,pu,q3⟩=>?_
 rw [evalPart_none];refine Fy ?_;have I4:Ac X pins σ H3 { s3 with heap:=s3.heap.push { cls:=.type "slice",data:=.fields #[vl,vu,.none] } }:=I3.kept (t':=s3.toks) fun b ob q=>HD _ q
 obtain ⟨T,id,hT,ht,hg⟩:=hr pins { s3 with heap:=s3.heap.push { cls:=.type "slice",data:=.fields #[vl,vu,.none] } } σ H3 x v vl vu l u s3.heap.objs.size Q I4 r1 (Heap.IsSliceOf.new ..) pl pu q3;show CR (FP X.prog X.w) X.A (subscriptTail e (.Slice lo hi FN p2) v (.ref s3.heap.objs.size)) (EP X pins σ Q) X.xe { s3 with heap:=s3.heap.push { cls:=.type "slice",data:=.fields #[vl,vu,.none] } };exact tail_any (ops:=[.ref s3.heap.objs.size,v]) ht hT hg<|by with_unfolding_all rfl
def M7 (xs:List V)(lo hi:Option Int):List V:=(xs.drop (HT.sIx xs.length 0 lo)).take (HT.sIx xs.length xs.length hi - HT.sIx xs.length 0 lo)
theorem tX (xs:List V)(lo hi:Option Int):(M7 xs lo hi).length<=xs.length:=by
 unfold M7;rw [Nm,Sy];lia
def adA (K:Ad):V->Option Int->Option Int->Hp->VK->Prop:=fun x lo hi H Q=>∃ a xs,x=.ref a/\J4 K H a xs /\
 ¬ (HT.sIx xs.length 0 lo=0/\HT.sIx xs.length xs.length hi=xs.length)/\∀ p,H p=FN->Q (.ref p) (G8 H p (.tup (M7 xs lo hi)))
theorem Yd:Ov X (adA X.K):=by
 intro pins s σ H x v vl vu lo hi sl Q I rx hs pl pu h;obtain ⟨a,xs,rfl,hx,hw,q⟩:=h;cases rx;obtain ⟨its,r,ht,hz⟩:=I.tuple hx;have hlen:its.toArray.size=xs.length:=by rw [Iz];exact r.length.symm
 refine ⟨"tuple",_,Sd.lookup,ht.typeIs,?_⟩;refine HT.oM ht hs pl pu (by rw [hlen];exact hw) ?_ (by rw [hlen];exact hz);rw [hlen];refine ⟨.ref s.heap.objs.size,_,I.laid (t':=s.toks) (o:=.tup (M7 xs lo hi)) (fun b ob q=>HD _ q) (Gi _) ?_,rfl,q _<|I.hok.fresh<|Gi _⟩;exact ⟨Ii (tX xs lo hi) hz,_,(r.drop<|HT.sIx xs.length 0 lo).take (HT.sIx xs.length xs.length hi - HT.sIx xs.length 0 lo),M6.new _ _⟩
def abD (K:Ad):R2:=fun x y H Q=>∃ a b xs ys,x=.ref a/\y=.ref b/\J4 K H a xs/\J4 K H b ys/\xs≠[]/\xs.length+ys.length<=Gn /\
 (ys=[]->Q (.ref a) H)/\(ys≠[]->∀ p,H p=FN->Q (.ref p) (G8 H p (.tup (xs++ys))))
theorem BL.nil_iff {xs:List V}{us:List JI}(r:BL xs us):us=[]↔xs=[]:=by
 cases r with
 | nil=>simp
 | cons _ _=>simp
theorem ahp:JC X (ML .Add) (abD X.K):=by
 intro pins s σ H x y v u Q I rx ry h;obtain ⟨a,b,xs,ys,rfl,rfl,ha,hb,hx,hz,q1,q2⟩:=h;cases rx;cases ry;obtain ⟨its,r1,p1,_⟩:=I.tuple ha;obtain ⟨its2,r2,p2,_⟩:=I.tuple hb;refine HT.RM p1 p2 (fun z=>hx<|r1.nil_iff.mp z) (fun z=>⟨.ref a,H,I,rfl,q1<|r2.nil_iff.mp z⟩) (fun z=>?_) (by rw [<-r1.length,<-r2.length];exact hz);refine ⟨.ref s.heap.objs.size,_,I.laid (t':=s.toks) (o:=.tup (xs++ys)) (fun b ob q=>HD _ q) (Gi _) ?_,rfl,q2 (fun w=>z<|r2.nil_iff.mpr w) _<|I.hok.fresh<|Gi _⟩;exact ⟨by rw [Lq];exact hz,_,r1.append r2,M6.new _ _⟩
end
def Nu (n:Nat)(i:Int):Option Nat:=if 0<=i then (if i<n then Dn i.toNat else FN) else if -(n:Int)<=i then Dn (i+n).toNat else FN
def Ji {α : Type}(xs:List α)(i:Int):Option α:=(Nu xs.length i).bind fun j=>xs[j]?
theorem JN {n:Nat}{i:Int}{j:Nat}(h:Nu n i=Dn j):seqIndex? i n=Dn j/\j<n/\-(n:Int)<=i/\i<n:=by
 unfold Nu at h;by_cases h0:0<=i
 ·rw [if_pos h0] at h;by_cases h1:i<n
  ·rw [if_pos h1] at h;have e:i.toNat=j:=Hz h;exact ⟨by rw [seqIndex_of h0 h1,e],by lia,by lia,h1⟩
  ·rw [if_neg h1] at h;cases h
 ·rw [if_neg h0] at h;by_cases h1:-(n:Int)<=i
  ·rw [if_pos h1] at h;have e:(i+n).toNat=j:=Hz h;exact ⟨by rw [seqIndex_neg (by lia) h1,e],by lia,h1,by lia⟩
  ·rw [if_neg h1] at h;cases h
theorem BP {α : Type}{xs:List α}{i:Int}{v:α}(h:Ji xs i=Dn v):∃ j,seqIndex? i xs.length=Dn j/\xs[j]?=Dn v/\j<xs.length/\-(xs.length:Int)<=i/\i<xs.length:=by
 unfold Ji at h;cases e:Nu xs.length i with
 | none=>rw [e] at h;cases h
 | some j=>
  rw [e] at h;obtain ⟨h1,h2,h3,h4⟩:=JN e;exact ⟨j,h1,h,h2,h3,h4⟩
theorem rY {α : Type}{xs:List α}{j:Nat}{v:α}(h:xs[j]?=Dn v):Ji xs (j:Int)=Dn v:=by
 have hj:j<xs.length:=(NT.mp h).1;have e:Nu xs.length (j:Int)=Dn j:=by
  unfold Nu;rw [if_pos (by lia),if_pos (by lia)];simp
 unfold Ji;rw [e];exact h
theorem zbw {α : Type}(xs:List α)(v:α):Ji (xs++[v]) (-1)=Dn v:=by
 have hl:(xs++[v]).length=xs.length+1:=by simp
 have e:Nu (xs++[v]).length (-1)=Dn xs.length:=by
  unfold Nu;rw [hl,if_neg (by decide),if_pos (by lia)];congr 1
  lia
 unfold Ji;rw [e];show (xs++[v])[xs.length]?=Dn v;simp
def Aq (b:Expr):Prop:=∀ o i,subscripted b false o i=operate [o,i] (getItem o i)
def RW (X:Cx)(r:R2):Prop:=
 ∀ (value slice:Expr) (pins:List (Addr×Obj)) (s:AP) (σ : St) (H:Hp) (x y:V) (v u:JI) (Q:VK),Ac X pins σ H s->RelV x v->RelV y u->r x y H Q ->
  subscripted slice false v u=operate [v,u] (getItem v u)->CR (FP X.prog X.w) X.A (subscriptTail value slice v u) (EP X pins σ Q) X.xe s
def MtR (X:Cx)(id:String)(r:V->List V->Hp->VK->Prop):Prop:=
 ∀ (pins:List (Addr×Obj)) (s:AP) (σ : St) (H:Hp) (x:V) (xs:List V) (v:JI) (us:List JI) (Q:VK),Ac X pins σ H s->RelV x v->BL xs us->r x xs H Q ->
  CR (FP X.prog X.w) X.A (call (.builtin id) (v::us)) (EP X pins σ Q) X.xe s
section
variable {X:Cx}{a b:Expr}{ta tb:TE}{pos:Pos}
theorem RW.or {r r':R2}(h:RW X r)(h':RW X r'):RW X (fun x y H Q=>r x y H Q\/r' x y H Q):=by
 intro value slice pins s σ H x y v u Q I rx ry q hs;rcases q with q | q
 ·exact h value slice pins s σ H x y v u Q I rx ry q hs
 ·exact h' value slice pins s σ H x y v u Q I rx ry q hs
theorem aa7 {r:R2}(hr:RW X r)(ha:PE X a ta)(hb:PE X b tb)(hs:Aq b):PE X (.Subscript a b pos) (tOp r ta tb):=by
 intro pins s σ H Q I h;exact Subscript_<|ab1 ha hb I h fun v u s2 x y H2 I2 rx ry q=>hr a b pins s2 σ H2 x y v u Q I2 rx ry q<|hs _ _
def acI (K:Ad):R2:=fun x y H Q=>∃ p xs i v,x=.ref p/\y=.int i/\Io K H p xs/\Ji xs i=Dn v/\Q v H
def acq (K:Ad):R2:=fun x y H Q=>∃ p xs i v,x=.ref p/\y=.int i/\J4 K H p xs/\Ji xs i=Dn v/\Q v H
def acg:R2:=fun x y H Q=>∃ z i c,x=.str z/\y=.int i/\z.length<=Gn/\Ji z.cps.toList i=Dn c/\Q (.str ⟨#[c]⟩) H
theorem Vs:RW X (acI X.K):=by
 intro value slice pins s σ H x y v u Q I rx ry h hs;obtain ⟨p,xs,i,z,rfl,rfl,hq,he,q⟩:=h;cases rx;obtain ⟨t,rfl⟩:=ry;obtain ⟨its,r,pl,hz⟩:=I.list hq;obtain ⟨j,h1,h2,h3,h4,h5⟩:=BP he;obtain ⟨w,ew,rw'⟩:=r.get h2;have hl:=r.length;have hn:=qp;have fin:EP X pins σ Q w s:=⟨z,H,I,rw',q⟩
 by_cases h0:0<=i
 ·have hj:i.toNat=j:=by
   rw [seqIndex_of h0 h5] at h1;exact Hz h1
  exact item_listR pl.isList h0 (by lia) (by rw [hj];simpa using ew) fin hs
 ·have hj:(i+(its.toArray.size:Int)).toNat=j:=by
   rw [seqIndex_neg (by lia) h4] at h1;rw [Iz,<-hl];exact Hz h1
  exact subscriptTail_builtinR (x:=w) pl.isList.typeIs slot_list_getitem.lookup
   (wpAny_getItem_list_neg (Q:=fun r s'=>r=w/\EP X pins σ Q r s') pl.isList (by lia) (by rw [Iz] <;> lia) (by lia) (by rw [hj];simpa using ew) ⟨rfl,fin⟩) hs
theorem Yc:RW X (acq X.K):=by
 intro value slice pins s σ H x y v u Q I rx ry h hs;obtain ⟨p,xs,i,z,rfl,rfl,hq,he,q⟩:=h;cases rx;obtain ⟨t,rfl⟩:=ry;obtain ⟨its,r,pl,hz⟩:=I.tuple hq;obtain ⟨j,h1,h2,h3,h4,h5⟩:=BP he;obtain ⟨w,ew,rw'⟩:=r.get h2;have hl:=r.length;have hn:=qp;have fin:EP X pins σ Q w s:=⟨z,H,I,rw',q⟩
 exact subscriptTail_builtinR (x:=w) pl.typeIs slot_tuple_getitem.lookup
  (getItem_tuple (j:=j) (Q:=fun r s'=>r=w/\EP X pins σ Q r s') pl (by lia) (by lia) (by rw [Iz,<-hl];exact h1) (by simpa using ew) ⟨rfl,fin⟩) hs
theorem Zo:RW X acg:=by
 intro value slice pins s σ H x y v u Q I rx ry h hs;obtain ⟨z,i,c,rfl,rfl,hz,he,q⟩:=h;obtain ⟨t,rfl⟩:=rx;obtain ⟨t',rfl⟩:=ry;obtain ⟨j,h1,h2,h3,h4,h5⟩:=BP he;have hl:z.cps.toList.length=z.length:=by simp [Str.length]
 rw [hl] at h1 h4 h5;have hn:=qp;exact tail_any (typeIs_str s z t) slot_str_getitem.lookup (getItem_str (c:=c) (by
  have e1:decide (i < -(2^63:Int))=false:=decide_eq_false (by lia);have e2:decide (i>=2^63)=false:=decide_eq_false (by lia);rw [e1,e2,Bool.or_false]) (by rw [h1];simpa using h2) ⟨.str ⟨#[c]⟩,H,I.tok _,⟨_,rfl⟩,q⟩) hs
def rIx (K:Ad):R2:=fun x y H Q=>acI K x y H Q\/acq K x y H Q\/acg x y H Q
theorem Zz:RW X (rIx X.K):=Vs.or (Yc.or Zo)
theorem zao (its:List JI)(n j:Nat)(u:JI):Obj.mapSeq (·.setIfInBounds j u) { cls:=.type "list",data:=.seq its.toArray n } = { cls:=.type "list",data:=.seq (its.set j u).toArray n }:=by
 simp [Obj.mapSeq]
theorem Ac.lst {pins:List (Addr×Obj)}{σ : St}{H:Hp}{s:AP}{p:Addr}{xs:List V}(I:Ac X pins σ H s)(h:H p=Dn (.lst xs)) :
  ∃ (its:List JI) (n:Nat),BL xs its/\s.heap.get? p=Dn { cls:=.type "list",data:=.seq its.toArray n }/\xs.length<=Gn:=by
 obtain ⟨z,its,n,r,e⟩:=I.hok p _ h;exact ⟨its,n,r,e,z⟩
theorem Ac.lstUpd {pins:List (Addr×Obj)}{σ : St}{H:Hp}{s:AP}{p:Addr}{xs ys:List V}{its its':List JI}{n n':Nat}{f:Obj->Obj}(I:Ac X pins σ H s)(h:H p=Dn (.lst xs))
  (ho:s.heap.get? p=Dn { cls:=.type "list",data:=.seq its.toArray n }) (hf:f { cls:=.type "list",data:=.seq its.toArray n } = { cls:=.type "list",data:=.seq its'.toArray n' }) (r:BL ys its') (hz:ys.length<=Gn) (t:Nat) :
  Ac X pins σ (G8 H p (.lst ys)) { s with heap:=s.heap.update p f,toks:=t }:=by
 have e:(s.heap.update p f).get? p=Dn { cls:=.type "list",data:=.seq its'.toArray n' }:=by
  rw [UL f ho (by rw [hf] <;> rfl),hf]
 refine I.write (x:=p) (e:=p) (by rw [h];trivial) (.inl rfl) (fun b u hb q=>(Heap.get?_update_other _ _<|MK hb).trans q) ⟨_,e⟩ ?_;exact ⟨hz,its',n',r,e⟩
def Zv:V->V->V->Hp->(Hp->Prop)->Prop:=fun o i v H Q=>∃ p xs k j,o=.ref p/\i=.int k/\H p=Dn (.lst xs)/\Nu xs.length k=Dn j/\Q (G8 H p (.lst (xs.set j v)))
theorem set_list:abM X Zv:=by
 intro pins s σ H o i v ov iv u Q I ro ri rv h;obtain ⟨p,xs,k,j,rfl,rfl,hp,hj,q⟩:=h;cases ro;obtain ⟨t,rfl⟩:=ri;obtain ⟨its,n,r,ho,hz⟩:=I.lst hp;obtain ⟨h1,h2,h3,h4⟩:=JN hj;have hl:=r.length;have hn:=qp;have I':Ac X pins σ (G8 H p (.lst (xs.set j v))) { s with heap:=s.heap.update p (Obj.mapSeq (·.setIfInBounds j u)) }:=
  I.lstUpd hp ho (zao its n j u) (r.set rv j) (by rw [List.length_set];exact hz) s.toks
 by_cases h0:0<=k
 ·have hk:k.toNat=j:=by
   rw [seqIndex_of h0 h4] at h1;exact Hz h1
  exact PySem.W.ki_setAt ho h0 (by lia) (by rw [Iz,<-hl];exact h4) (by rw [hk];exact ⟨_,I',q⟩)
 ·have hk:(k+(its.toArray.size:Int)).toNat=j:=by
   rw [seqIndex_neg (by lia) h3] at h1;rw [Iz,<-hl];exact Hz h1
  exact PySem.W.ki_setBack ho (by lia) (by rw [Iz,<-hl];exact h3) (by lia) (by rw [hk];exact ⟨_,I',q⟩)
theorem zag (lo hi:Option Int)(n:Nat):(Sh lo hi FN n).1=((HT.sIx n 0 lo:Nat):Int)/\(Sh lo hi FN n).2.1=((HT.sIx n n hi:Nat):Int)/\(Sh lo hi FN n).2.2=1:=by
 refine ⟨?_,?_,rfl⟩
 ·cases lo with
  | none=>simp [Sh,HT.sIx]
  | some i=>
   simp only [Sh,HT.sIx,Option.getD_none,show (1:Int)>0 by decide,if_true];by_cases h:i<0
   ·simp only [h,if_true] <;> lia
   ·simp only [h,if_false] <;> lia
 ·cases hi with
  | none=>simp [Sh,HT.sIx]
  | some i=>
   simp only [Sh,HT.sIx,Option.getD_none,show (1:Int)>0 by decide,if_true];by_cases h:i<0
   ·simp only [h,if_true] <;> lia
   ·simp only [h,if_false] <;> lia
theorem v8 (its:List JI)(lo hi:Option Int):slicePick its.toArray lo hi FN=((its.drop (HT.sIx its.length 0 lo)).take (HT.sIx its.length its.length hi - HT.sIx its.length 0 lo)).toArray:=by
 obtain ⟨h1,h2,h3⟩:=zag lo hi its.toArray.size;unfold slicePick;rw [h1,h2,h3];simp only [sliceRange_one,pick_run,Iz] <;> rfl
def ado (K:Ad):V->Option Int->Option Int->Hp->VK->Prop:=fun x lo hi H Q=>∃ a xs,x=.ref a/\Io K H a xs/\∀ p,H p=FN->Q (.ref p) (G8 H p (.lst (M7 xs lo hi)))
theorem zbI:Ov X (ado X.K):=by
 intro pins s σ H x v vl vu lo hi sl Q I rx hs pl pu h;obtain ⟨a,xs,rfl,hx,q⟩:=h;cases rx;obtain ⟨its,r,ht,hz⟩:=I.list hx;have hlen:=r.length;refine ⟨"list",_,slot_list_getitem.lookup,ht.isList.typeIs,?_⟩;refine wpAny_getItem_list_slice ht.isList hs pl pu .none (by simp) ?_ (by rw [Iz] <;> lia);rw [v8,<-hlen];refine ⟨.ref s.heap.objs.size,_,I.laid (t':=s.toks) (o:=.lst (M7 xs lo hi)) (fun b ob q=>HD _ q) (Gi _) ?_,rfl,q _<|I.hok.fresh<|Gi _⟩;exact ⟨Ii (tX xs lo hi) hz,_,0,(r.drop<|HT.sIx xs.length 0 lo).take (HT.sIx xs.length xs.length hi - HT.sIx xs.length 0 lo),KJ _ rfl⟩
def pF:V->Bool
 | .non=>true
 | .bl _=>true
 | .int _=>true
 | .str _=>true
 | _=>false
def Oe:V->V->Bool
 | .non,.non=>true
 | .bl a,.bl b=>a==b
 | .bl a,.int b=>(if a then 1 else 0)==b
 | .int a,.bl b=>a==(if b then 1 else 0)
 | .int a,.int b=>a==b
 | .str a,.str b=>a==b
 | _,_=>false
theorem P0 {A:FT}{s:AP}{y x:V}{u v:JI}(ry:RelV y u)(rx:RelV x v)(fy:pF y=true)(fx:pF x=true):Ru A s u v (Oe y x):=by
 cases y with
 | non=>
  cases ry;cases x with
  | non=>cases rx;exact SeqAt.EqAt.same _
  | bl b=>cases rx;exact SeqAt.EqAt.none_bool b
  | int b=>obtain ⟨t,rfl⟩:=rx;exact SeqAt.EqAt.none_int b t
  | str b=>obtain ⟨t,rfl⟩:=rx;exact SeqAt.EqAt.none_str b t
  | _=>exact absurd (show false=true from fx) Ly
 | bl a=>
  cases ry;cases x with
  | non=>cases rx;exact SeqAt.EqAt.bool_none a
  | bl b=>cases rx;exact SeqAt.EqAt.bool_bool a b
  | int b=>obtain ⟨t,rfl⟩:=rx;exact SeqAt.EqAt.bool_int a b t
  | str b=>obtain ⟨t,rfl⟩:=rx;exact SeqAt.EqAt.bool_str a b t
  | _=>exact absurd (show false=true from fx) Ly
 | int a=>
  obtain ⟨t',rfl⟩:=ry;cases x with
  | non=>cases rx;exact SeqAt.EqAt.int_none a t'
  | bl b=>cases rx;exact SeqAt.EqAt.int_bool a t' b
  | int b=>obtain ⟨t,rfl⟩:=rx;exact SeqAt.EqAt.int_int a t' b t
  | str b=>obtain ⟨t,rfl⟩:=rx;exact SeqAt.EqAt.int_str a t' b t
  | _=>exact absurd (show false=true from fx) Ly
 | str a=>
  obtain ⟨t',rfl⟩:=ry;cases x with
  | non=>cases rx;exact SeqAt.EqAt.str_none a t'
  | bl b=>cases rx;exact SeqAt.EqAt.str_bool a t' b
  | int b=>obtain ⟨t,rfl⟩:=rx;exact SeqAt.EqAt.str_int a t' b t
  | str b=>obtain ⟨t,rfl⟩:=rx;exact SeqAt.EqAt.str_str a t' b t
  | _=>exact absurd (show false=true from fx) Ly
 | _=>exact absurd (show false=true from fy) Ly
def R8 (x:V)(u:JI):Bool:=match u with
 | .none=>Oe .non x
 | .bool b=>Oe (.bl b) x
 | .int i _=>Oe (.int i) x
 | .str z _=>Oe (.str z) x
 | _=>false
theorem PX {x y:V}{u:JI}(r:RelV y u)(f:pF y=true):R8 x u=Oe y x:=by
 cases y with
 | non=>cases r;rfl
 | bl b=>cases r;rfl
 | int i=>obtain ⟨t,rfl⟩:=r;rfl
 | str z=>obtain ⟨t,rfl⟩:=r;rfl
 | _=>exact absurd (show false=true from f) Ly
theorem Bp {x:V}:∀ {xs:List V} {us:List JI},BL xs us->xs.all pF=true->us.any (R8 x)=xs.any fun y=>Oe y x
 | _,_,.nil,_=>rfl
 | y::xs,u::us,.cons r t,f=>by
  rw [Tj,MN] at f;rw [T4,T4,PX r f.1,Bp t f.2]
theorem wI {A:FT}{s:AP}{x:V}{v:JI}(rx:RelV x v)(fx:pF x=true):∀ {xs:List V} {us:List JI},BL xs us->xs.all pF=true->∀ u∈us,Ru A s u v (R8 x u)
 | _,_,.nil,_=>fun u hu=>by cases hu
 | y::xs,u::us,.cons r t,f=>fun u' hu=>by
  rw [Tj,MN] at f;rcases J9.mp hu with rfl | hu
  ·rw [PX r f.1];exact P0 r rx f.1 fx
  ·exact wI rx fx t f.2 u' hu
def inV (x:V)(xs:List V):Bool:=xs.any fun y=>Oe y x
def rIn (K:Ad)(neg:Bool):R2:=fun x y H Q=>∃ p xs,y=.ref p/\(Io K H p xs\/J4 K H p xs)/\pF x=true/\xs.all pF=true/\Q (.bl (if neg then !inV x xs else inV x xs)) H
theorem z6:JC X (Jc .NotIn) (rIn X.K true):=by
 intro pins s σ H x y v u Q I rx ry h;obtain ⟨p,xs,rfl,hq,fx,fs,q⟩:=h;cases ry;rcases hq with hq | hq
 ·obtain ⟨its,r,pl,hz⟩:=I.list hq;refine SeqAt.notIn_listAt (R8 x) pl.isList (fun w hw=>wI rx fx r fs w<|by simpa using hw) ⟨.bl _,H,I,rfl,?_⟩;rw [show its.toArray.any (R8 x)=its.any (R8 x) by simp,Bp r fs];exact q
 ·obtain ⟨its,r,pl,hz⟩:=I.tuple hq;refine SeqAt.notIn_tupleAt (R8 x) pl (fun w hw=>wI rx fx r fs w<|by simpa using hw) ⟨.bl _,H,I,rfl,?_⟩;rw [show its.toArray.any (R8 x)=its.any (R8 x) by simp,Bp r fs];exact q
theorem aeb:jc X (.builtin "len") (fun xs H Q=>∃ p ys,xs=[.ref p]/\(Io X.K H p ys\/J4 X.K H p ys)/\Q (.int ys.length) H):=by
 intro pins s σ H xs us Q I r h;obtain ⟨p,ys,rfl,hq,q⟩:=h;obtain ⟨u,rfl,rx⟩:=vals1 r;cases rx;have hn:=qp;rcases hq with hq | hq
 ·obtain ⟨its,r',pl,hz⟩:=I.list hq;have hlen:=r'.length;exact Calls.call_len_list pl.isList (by simp only [Iz] <;> lia) ⟨.int ys.length,H,I.tok _,⟨s.toks+1,by rw [Iz,hlen]⟩,q⟩
 ·obtain ⟨its,r',pl,hz⟩:=I.tuple hq;have hlen:=r'.length;exact len_tuple pl (by simp only [Iz] <;> lia) ⟨.int ys.length,H,I.tok _,⟨s.toks+1,by rw [Iz,hlen]⟩,q⟩
theorem jc.or {f:JI}{r r':List V->Hp->VK->Prop}(h:jc X f r)(h':jc X f r'):jc X f (fun xs H Q=>r xs H Q\/r' xs H Q):=by
 intro pins s σ H xs us Q I rs q;rcases q with q | q
 ·exact h pins s σ H xs us Q I rs q
 ·exact h' pins s σ H xs us Q I rs q
theorem p7:jc X (.type "list") (fun xs H Q=>∃ p ys,xs=[.ref p]/\(Io X.K H p ys\/J4 X.K H p ys)/\∀ l,H l=FN->Q (.ref l) (G8 H l (.lst ys))):=by
 intro pins s σ H xs us Q I r h;obtain ⟨p,ys,rfl,hq,q⟩:=h;obtain ⟨u,rfl,rx⟩:=vals1 r;cases rx;have fin:∀ (its:List JI),BL ys its->ys.length<=Gn->∀ (h':Heap) (c':Nat),(∀ b o',s.heap.get? b=Dn o'->h'.get? b=Dn o') ->
   h'.get? s.heap.objs.size=Dn { cls:=.type "list",dict:=FN,data:=.seq its.toArray c',slots:=#[] }->EP X pins σ Q (.ref s.heap.objs.size) { s with heap:=h' }:=fun its r' hz h' c' kp e=>
  ⟨.ref s.heap.objs.size,_,I.laid (t':=s.toks) kp (Gi _) (show mX X.prog X.w _ h' _ (.lst ys) from ⟨hz,its,c',r',e⟩),rfl,q _ (I.hok.fresh (Gi _))⟩
 rcases hq with hq | hq
 ·obtain ⟨its,r',pl,hz⟩:=I.list hq;have hlen:=r'.length;obtain ⟨o,ho,hc,n,hd⟩:=pl.isList;exact call_list_seq p (.inl rfl) ho hc hd (fun h' c' kp e=>fin its r' hz h' c' kp e) (by simp only [Iz] <;> lia)
 ·obtain ⟨its,r',pl,hz⟩:=I.tuple hq;have hlen:=r'.length;obtain ⟨o,ho,hc,n,hd⟩:=pl;exact call_list_seq p (.inr rfl) ho hc hd (fun h' c' kp e=>fin its r' hz h' c' kp e) (by simp only [Iz] <;> lia)
theorem wQ:jc X (.type "tuple") (fun xs H Q=>∃ p ys,xs=[.ref p]/\((Io X.K H p ys/\∀ l,H l=FN->Q (.ref l) (G8 H l (.tup ys)))\/(J4 X.K H p ys/\Q (.ref p) H))):=by
 intro pins s σ H xs us Q I r h;obtain ⟨p,ys,rfl,h⟩:=h;obtain ⟨u,rfl,rx⟩:=vals1 r;cases rx;rcases h with ⟨hq,q⟩ | ⟨hq,q⟩
 ·obtain ⟨its,r',pl,hz⟩:=I.list hq;have hlen:=r'.length;refine call_tuple_list pl.isList (fun h' kp=>?_) (by simp only [Iz] <;> lia);have I1:Ac X pins σ H { s with heap:=h' }:=I.kept (t':=s.toks) kp;have I2:Ac X pins σ (G8 H h'.objs.size (.tup ys)) { s with heap:=h'.push { cls:=.type "tuple",data:=.seq its.toArray } }:=
   I1.laid (t':=s.toks) (fun b o e=>HD _ e) (Gi _) (show mX X.prog X.w _ _ _ (.tup ys) from ⟨hz,its,r',M6.new _ _⟩)
  exact ⟨.ref h'.objs.size,_,I2,rfl,q _<|I1.hok.fresh<|Gi _⟩
 ·obtain ⟨its,r',pl,hz⟩:=I.tuple hq;exact call_tuple_same pl ⟨.ref p,H,I,rfl,q⟩
def tyV (K:Ad)(T:String)(x:V)(H:Hp):Prop:=match x with
 | .str _=>T = "str"
 | .int _=>T = "int"
 | .ref p=>(T = "list"/\∃ xs,Io K H p xs)\/(T = "tuple"/\∃ o,K.lookup p=Dn o/\o.cls=.type "tuple"/\o.dict=FN) \/
   (T = "dict"/\((∃ kvs,H p=Dn (.dK kvs))\/∃ kvs,H p=Dn (.dT kvs)))\/(T = "set"/\∃ S n,H p=Dn (.set S n))
 | _=>False
theorem Qz {pins:List (Addr×Obj)}{σ : St}{H:Hp}{s:AP}{T:String}{x:V}{v:JI}(I:Ac X pins σ H s)(r:RelV x v)(ty:tyV X.K T x H) :
  s.TypeIs v T/\∀ a,v=.ref a->∃ ob,s.heap.get? a=Dn ob/\ob.dict=FN:=by
 cases x with
 | str z=>
  obtain ⟨t,rfl⟩:=r;cases (show T = "str" from ty)
  exact ⟨typeIs_str s z t,fun _ e=>nomatch e⟩
 | int i=>
  obtain ⟨t,rfl⟩:=r;cases (show T = "int" from ty)
  exact ⟨typeIs_int s i t,fun _ e=>nomatch e⟩
 | ref p=>
  cases r;rcases ty with ⟨rfl,xs,hq⟩ | ⟨rfl,o,hk,hc,hd⟩ | ⟨rfl,hk⟩ | ⟨rfl,S,n,hk⟩
  ·obtain ⟨its,_,pl,_⟩:=I.list hq;refine ⟨pl.isList.typeIs,fun a e=>?_⟩;cases e;obtain ⟨o,n,e,c,hd,_⟩:=pl;exact ⟨o,e,hd⟩
  ·refine ⟨⟨o,I.kIn p o hk,hc⟩,fun a e=>?_⟩;cases e;exact ⟨o,I.kIn _ o hk,hd⟩
  ·have z:∃ o,s.heap.get? p=Dn o/\o.ExactDict:=by
    rcases hk with ⟨kvs,hk⟩ | ⟨kvs,hk⟩
    ·obtain ⟨_,_,_,_,o,_,_,e,ex,_⟩:=I.hok p _ hk;exact ⟨o,e,ex⟩
    ·obtain ⟨_,_,_,_,o,_,_,e,ex,_⟩:=I.hok p _ hk;exact ⟨o,e,ex⟩
   obtain ⟨o,e,ex⟩:=z;refine ⟨⟨o,e,ex.1⟩,fun a e2=>?_⟩;cases e2;exact ⟨o,e,ex.2.1⟩
  ·obtain ⟨o,_,_,_,e,ex,_⟩:=I.hok p _ hk;refine ⟨⟨o,e,ex.1⟩,fun a e2=>?_⟩;cases e2;exact ⟨o,e,ex.2.1⟩
 | _=>exact Oh ty
def adP (K:Ad)(T:String)(r:V->List V->Hp->VK->Prop)(to:TE):TE:=fun σ H Q=>to σ H fun x H1=>tyV K T x H1/\r x [] H1 Q
def tBM (K:Ad)(T:String)(r:V->List V->Hp->VK->Prop)(to:TE)(t:TA):TE:=fun σ H Q=>to σ H fun x H1=>tyV K T x H1/\t σ H1 fun xs H2=>r x xs H2 Q
variable {o e:Expr}{es:List Expr}{to:TE}{t:TA}{name:Str}{apos cpos:Pos}{T id:String}{r:V->List V->Hp->VK->Prop}
theorem Xf (pa:PlainAttrs T)(slot:Slot T name id)(hty:typeOf (.builtin id)=pure (.type "method_descriptor"))(hm:MtR X id r)(ho:PE X o to)
  (hbase:S5 o name X.env (eval o X.env)=eval o X.env:=by rfl) (hline:(apos.endLine==cpos.line)=true:=by rfl):PE X (.Call (.Attribute o name apos) [] [] cpos) (adP X.K T r to):=by
 intro pins s σ H Q I h;refine wpAny_Call_method0_late hbase hline<|G6 (ho pins s σ H _ I h) fun v s1 ⟨x,H1,I1,r1,ty,q1⟩=>?_
 obtain ⟨h1,h2⟩:=Qz I1 r1 ty;exact ⟨T,id,pa,slot,hty,h1,h2,Calls.callWith_builtin rfl<|PySem.evalArgs_none<|hm pins s1 σ H1 x [] v [] Q I1 r1 .nil q1⟩
theorem XD (pa:PlainAttrs T)(slot:Slot T name id)(hty:typeOf (.builtin id)=pure (.type "method_descriptor"))(hm:MtR X id r)(ho:PE X o to)(ha:PA X (e::es) t)
  (hbase:S5 o name X.env (eval o X.env)=eval o X.env:=by rfl)
  (hfew:((K5 cpos (Fx (e::es) X.env)).all (fun x=>!x.1)&&(backToKw cpos (TQ [] X.env)).all (fun x=>x.1.isSome)
   && decide ((e::es).length+([]:List Nx).length+(if ([]:List Nx).isEmpty then 0 else 1)<30))=true:=by rfl)
  (hline:(apos.endLine==cpos.line)=true:=by rfl) (hs:Fx (e::es) X.env=(false,eval e X.env)::Fx es X.env:=by rfl) (hplain:(K5 cpos (Fx es X.env)).any (·.1)=false:=by rfl) :
  PE X (.Call (.Attribute o name apos) (e::es) [] cpos) (tBM X.K T r to t):=by
 intro pins s σ H Q I h;refine wpAny_Call_method_late hbase hfew hline rfl<|G6 (ho pins s σ H _ I h) fun v s1 ⟨x,H1,I1,r1,ty,q1⟩=>?_
 obtain ⟨h1,h2⟩:=Qz I1 r1 ty;refine ⟨T,id,pa,slot,hty,h1,h2,?_⟩;have hA:=ha cpos pins s1 σ H1 _ I1 q1;rw [hs] at hA |-
 refine Calls.callWith_builtin (by show (false||(K5 cpos<|Fx es X.env).any (·.1))=false;rw [hplain] <;> rfl)<|Calls.evalArgs_plain ?_
 exact G6 hA fun us s2 ⟨vs,H2,I2,r2,q2⟩=>hm pins s2 σ H2 x vs v us Q I2 r1 r2 q2
/- xs.append(e), list.index on a module's tuple .. are MtR facts of 06m -/
end
def MtM (X:Cx)(id:String)(r:V->List V->Hp->VK->Prop):Prop:=
 ∀ (pins:List (Addr×Obj)) (s:AP) (σ : St) (H:Hp) (x:V) (xs:List V) (v:JI) (us:List JI) (Q:VK),Ac X pins σ H s->RelV x v->BL xs us->r x xs H Q ->
  CR (FP X.prog X.w) X.A (call (.builtin id) (v::us)) (EP X pins σ Q) X.xe s
theorem BL.one:∀ {x:V} {us:List JI},BL [x] us->∃ u,us=[u]/\RelV x u
 | _,_,.cons r .nil=>⟨_,rfl,r⟩
theorem BL.zero:∀ {us:List JI},BL [] us->us=[]
 | _,.nil=>rfl
theorem BL.dropLast {xs:List V}{us:List JI}(h:BL xs us):BL xs.dropLast us.dropLast:=by
 induction h with
 | nil=>exact .nil
 | cons r t ih=>
  cases t with
  | nil=>exact .nil
  | cons q t'=>exact .cons r ih
theorem ael {α : Type}(l:List α):l.eraseIdx (l.length - 1)=l.dropLast:=by
 induction l with
 | nil=>rfl
 | cons a r ih=>
  cases r with
  | nil=>rfl
  | cons b r=>
   have e:(a::b::r).length - 1=((b::r).length - 1)+1:=by
    have h1:(a::b::r).length=r.length+2:=rfl;have h2:(b::r).length=r.length+1:=rfl;lia
   rw [e,List.eraseIdx_cons_succ,ih];all_goals rfl
section
variable {X:Cx}{pins:List (Addr×Obj)}{σ : St}{H:Hp}{s:AP}{l b:Addr}{xs ys zs:List V}
theorem Ac.lset {its its':List JI}{n:Nat}{f:Array JI->Array JI}{t':Nat}(I:Ac X pins σ H s)(hH:H l=Dn (.lst xs))
  (e:s.heap.get? l=Dn { cls:=.type "list",data:=.seq its.toArray n }) (hf:f its.toArray=its'.toArray) (hv:BL ys its') (hz:ys.length<=Gn) :
  Ac X pins σ (G8 H l (.lst ys)) { s with heap:=s.heap.update l (Obj.mapSeq f),toks:=t' }:=by
 have q:=PySem.IsL.update e f;rw [hf] at q;refine I.write (x:=l) (e:=l) (by rw [hH];exact trivial) (.inl rfl) (fun b' u hb hu=>(Heap.get?_update_other s.heap (Obj.mapSeq f)<|MK hb).trans hu) ⟨_,q⟩ ?_;exact ⟨hz,its',_,hv,q⟩
theorem Ac.lnew {its:List JI}{t':Nat}(I:Ac X pins σ H s)(hv:BL ys its)(hz:ys.length<=Gn) :
  Ac X pins σ (G8 H s.heap.objs.size (.lst ys)) { s with heap:=s.heap.push { cls:=.type "list",data:=.seq its.toArray },toks:=t' }:=
 I.laid (fun _ _ q=>HD _ q) (Gi _) ⟨hz,its,0,hv,KJ _ rfl⟩
theorem Ac.fresh (I:Ac X pins σ H s):H s.heap.objs.size=FN:=I.hok.fresh (Gi _)
theorem Ac.lstM (I:Ac X pins σ H s)(hH:H l=Dn (.lst xs)):xs.length<=Gn/\∃ (its:List JI) (n:Nat),BL xs its/\xs.length=its.length/\s.heap.get? l=Dn { cls:=.type "list",data:=.seq its.toArray n }:=by
 obtain ⟨z,its,n,r,e⟩:=I.hok l _ hH;exact ⟨z,its,n,r,r.length,e⟩
theorem aeW {n:Nat}(h:n<=Gn):Builtin.List.listTooLong n=false:=by
 unfold Builtin.List.listTooLong;exact decide_eq_false<|by lia
end
section
variable {X:Cx}
def GX:V->List V->Hp->VK->Prop:=fun x vs H Q=>∃ l xs y,x=.ref l/\vs=[y]/\H l=Dn (.lst xs)/\xs.length<Gn/\Q .non (G8 H l (.lst (xs++[y])))
theorem zT:MtM X "list.append" GX:=by
 intro pins s σ H x vs v us Q I rx rv h;obtain ⟨l,xs,y,rfl,rfl,hH,hz,q⟩:=h;cases rx;obtain ⟨u,rfl,ru⟩:=rv.one;obtain ⟨z,its,n,r,hl,e⟩:=I.lstM hH;refine call_meets F.slot_list_append ⟨_,e,rfl⟩ F.entry_list_append (F.args_list_append_2 _ _) (PySem.list_append l its.toArray n u (by rw [Iz];lia)) ⟨e,?_⟩;refine ⟨.non,_,I.lset (its':=its++[u]) hH e (by simp) (r.append<|.cons ru .nil) ?_,rfl,q⟩;rw [Lq,List.length_singleton];lia
def Ir:V->List V->Hp->VK->Prop:=fun x vs H Q=>∃ l b xs zs,x=.ref l/\vs=[.ref b]/\H l=Dn (.lst xs)/\H b=Dn (.lst zs)/\xs.length+zs.length<=Gn/\Q .non (G8 H l (.lst (xs++zs)))
theorem afj:MtM X "list.extend" Ir:=by
 intro pins s σ H x vs v us Q I rx rv h;obtain ⟨l,b,xs,zs,rfl,rfl,hH,hB,hz,q⟩:=h;cases rx;obtain ⟨u,rfl,ru⟩:=rv.one;cases ru;obtain ⟨z,its,n,r,hl,e⟩:=I.lstM hH;obtain ⟨z2,its2,n2,r2,hl2,e2⟩:=I.lstM hB;have hsz:its.toArray.size+its2.toArray.size<=Gn:=by rw [Iz,Iz];lia
 have hlong:¬ (!its.toArray.isEmpty&&Builtin.List.listTooLong (its.toArray.size+its2.toArray.size))=true:=by
  rw [aeW hsz,Bool.and_false];exact Ly
 refine call_meets F.slot_list_extend ⟨_,e,rfl⟩ F.entry_list_extend (F.args_list_extend_2 _ _)
  (AutoSeq1.list_extend_list_list_0 l its.toArray n b its2.toArray n2 hlong (by rw [Iz];lia) (by lia)) ⟨e,e2,?_⟩
 refine ⟨.non,_,I.lset (its':=its++its2) hH e (by simp) (r.append r2) ?_,rfl,q⟩;rw [Lq];lia
def acA:V->List V->Hp->VK->Prop:=fun x vs H Q=>∃ l xs y,x=.ref l/\vs=[]/\H l=Dn (.lst xs)/\xs[xs.length - 1]?=Dn y/\Q y (G8 H l (.lst xs.dropLast))
theorem Yz:MtM X "list.pop" acA:=by
 intro pins s σ H x vs v us Q I rx rv h;obtain ⟨l,xs,y,rfl,rfl,hH,hy,q⟩:=h;cases rx;have hus:=rv.zero;subst hus;obtain ⟨z,its,n,r,hl,e⟩:=I.lstM hH;obtain ⟨u,hu,ru⟩:=r.get hy;have hy':its.toArray[its.toArray.size - 1]?=Dn u:=by
  show its.toArray[its.length - 1]?=Dn u;rw [<-Array.getElem?_toList,<-hl];exact hu
 refine call_meets F.slot_list_pop ⟨_,e,rfl⟩ F.entry_list_pop (F.args_list_pop_1 _) (MeetsSeq.list_pop_last l its.toArray n u hy' (by rw [Iz];lia)) ⟨e,?_⟩;refine ⟨y,_,I.lset (its':=its.dropLast) hH e ?_ r.dropLast ?_,ru,q⟩
 ·show its.toArray.eraseIdxIfInBounds (its.toArray.size - 1)=its.dropLast.toArray;rw [Iz,List.eraseIdxIfInBounds_toArray,ael]
 ·rw [List.length_dropLast];lia
def adT:R2:=fun x y H Q=>∃ l b xs zs,x=.ref l/\y=.ref b/\H l=Dn (.lst xs)/\H b=Dn (.lst zs)/\xs.length+zs.length<=Gn/\∀ p,H p=FN->Q (.ref p) (G8 H p (.lst (xs++zs)))
theorem W9:JC X (ML .Add) adT:=by
 intro pins s σ H x y v u Q I rx ry h;obtain ⟨l,b,xs,zs,rfl,rfl,hH,hB,hz,q⟩:=h;cases rx;cases ry;obtain ⟨z,its,n,r,hl,e⟩:=I.lstM hH;obtain ⟨z2,its2,n2,r2,hl2,e2⟩:=I.lstM hB;refine PySem.P.add_list e e2 ?_ (by rw [Iz,Iz];lia);have ea:its.toArray++its2.toArray=(its++its2).toArray:=by simp
 rw [ea];exact ⟨.ref _,_,I.lnew (t':=s.toks) (r.append r2) (by rw [Lq];lia),rfl,q _ I.fresh⟩
end
section
variable {prog:FQ}{w:Cm}{A:FT}{E:JI->AP->Prop}{s:AP}
end
section
variable {X:Cx}
end
end L2
namespace Att
open PySem PySem.W PySem.Calls PyProof.Rows
theorem rG {P:Params}{h:Heap}:∀ (ns:List Int) (vs:List JI),WellAll P h vs (ns.map WData.int)->IntsAre vs ns:=by
 intro ns;induction ns with
 | nil=>
  intro vs w;rw [TY] at w;cases w;exact .nil
 | cons n ns ih=>
  intro vs w;rw [LQ] at w;cases w with
  | cons a b=>
   cases a;exact .cons _ _<|ih _ b
theorem aeM {l:OpenLaw}{n:Nat}(hn:l.most=Dn n){P:Params}{h:Heap}{args:List WData}{vals:List JI}
  (hpre:l.row.toRowW.claim.pre args=true) (hwl:WellAll P h vals args) :
  ∃ a vs ns,vals=[Value.ref a]/\args=[WData.list (ns.map WData.int)]/\h.get? a=Dn { cls:=.type "list",data:=.seq vs.toArray }/\IntsAre vs ns/\ns.length<=n:=by
 have hsh:WShape.hasAll [] args [.list .int]=true:=(pre_splitW hpre).1;have hc:l.pre.holds [] { args:=args }=true:=(pre_splitW hpre).2;obtain ⟨d,r,rfl,h1,h2⟩:=hasAllW_cons hsh;obtain rfl:=hasAllW_nil h2;obtain ⟨xs,rfl,h3⟩:=hasW_list h1;obtain ⟨ns,rfl⟩:=items_int h3;have hlen:ns.length<=n:=by
  unfold OpenLaw.pre at hc;have h4:(WTm.not (.lt (.lit (.int (n:Int))) (.len (.arg 0)))).holds [] { args:=[.list (ns.map .int)] }=true:=by
   have h4:=(holds_andW hc).1;rw [hn] at h4;exact h4
  have h5:=condW_of h4 (w_not (w_lt w_lit (w_len_list (w_arg rfl))));rw [Gg] at h5;refine Nat.le_of_not_lt fun q=>?_;have q':(n:Int)<((ns.length:Nat):Int):=by lia
  first
   | (rw [decide_eq_true q'] at h5;exact absurd h5 (by decide))
   | (simp at h5;lia)
 cases hwl with
 | cons w1 w2=>
  cases w2;cases w1 with
  | list ho hall=>exact ⟨_,_,ns,rfl,rfl,ho,rG ns _ hall,hlen⟩
theorem aep (l:OpenLaw)(args:List WData):l.row.toRowW.claim.post args (.bool true) args=true:=
 postW_of (r:=l.row.toRowW) (X:=(true==true))
  (show WShape.has [] (.bool true) .bool=true by first | rfl | decide | simp [WShape.has,WShape.arms,WShape.armsAll])
  (show (WTm.eq .res (.lit (.bool true))).value [] { args:=args,res:=Dn (.bool true),after:=args }=Dn (.bool (true==true)) from w_eq_bool (w_res rfl) w_lit) rfl
theorem Cj {l:OpenLaw}{n:Nat}{q:FQ}{loose:List Str}{XP:(Str->Option JI)->Heap->Prop}{YP:Cm->Heap->Prop}{d:DefRec}
  (hn:l.most=Dn n) (hdf:d.params.defaults=[])
  (call:∀ (w:Cm) (s₀ s₁ : AP) (mg mb:Str->Option JI) (fa:Addr) (o:Obj) (pm cd doc:JI) (a:Addr) (vs:List JI) (ns:List Int),
   Ground q loose [] XP w s₀ mg mb s₁.heap->YP w s₁.heap ->
   s₁.heap.get? fa=Dn o->o.data=.func (docDef d.name d.params d.body d.scope pm cd doc)->s₁.heap.CodeRec cd d.name->mg d.name=Dn (.ref fa) ->
   s₁.heap.get? a=Dn { cls:=.type "list",data:=.seq vs.toArray }->IntsAre vs ns->ns.length<=n->s₁.gens = #[] ->
   codeAny (FP l.prog w) callerA (.call (.ref fa) ⟨[.ref a],[]⟩) (fun r s'=>r=.ok (.ret (.bool true))/\OldK s₁.heap s'.heap/\s'.os=s₁.os/\RB s'.gens) s₁) :
  WalkO q loose XP YP l.row.toRowW d [] (fun f vs=>PySem.call f vs):=by
 intro w s₀ s₁ mg mb G Y fa o pm cd doc dV kV ho hd hcd hD hmg hg args vals as hpre hlay hrd hwl hlo;obtain rfl:dV=.none:=Dflts.none hD hdf;obtain rfl:kV=.none:=Dflts.noKw hD;obtain ⟨a,vs,ns,rfl,rfl,hobj,hints,hlen⟩:=aeM hn hpre hwl;refine enter_call<|codeAny_mono (call w s₀ s₁ mg mb fa o pm cd doc a vs ns G Y ho (fd_plain hd) hcd hmg hobj hints hlen hg) fun r s' hq=>?_
 obtain ⟨rfl,h2,h3,h4⟩:=hq;exact ⟨.inl ⟨.bool true,.bool true,[],rfl,fun _=>rfl,.bool true,aep l _,fun _=>⟨List.Pairwise.nil,fun _ hm=>(nomatch hm)⟩⟩,h2,h3,h4⟩
section
variable {prog:FQ}{w:Cm}{A:FT}{E:JI->AP->Prop}{s:AP}{K:Frag}
def ledger (h:Heap)(L d:Addr):List (Addr×Obj):=(M5 h.objs.size).filterMap fun a=>if a=L\/a=d then FN else (h.get? a).map fun o=>(a,o)
end
end Att
namespace L2
open PySem PySem.Spec PyProof.Rows
theorem yH:∀ {vs:List JI} {ns:List Int},IntsAre vs ns->BL (ns.map V.int) vs
 | _,_,.nil=>.nil
 | _,_,.cons n t h=>.cons ⟨t,rfl⟩ (yH h)
def Only (H:Hp):Prop:=∀ b,H b=FN\/∃ o xs,H b=Dn (.frz o (.lst xs))
theorem ahk {P:FQ}{w:Cm}{K:Ad}{mg mb:Str->Option JI}{CX:Nr}{k:Nat}{fa a:Addr}{fd:Le}{x:Str}{sp:Sp}{s₁ : AP}{vs:List JI}{ns:List Int}
  (KX:K.In s₁.heap) (hns:s₁.heap.Ns JG mg) (hb:s₁.heap.Ns builtinsNs mb) (hbb:∀ x:Str,x ≠ "__name__"->mb x=RD x) (hlim:s₁.heap.NoLimit) (hg:s₁.gens = #[])
  (ha:s₁.heap.get? a=Dn { cls:=.type "list",data:=.seq vs.toArray }) (hi:IntsAre vs ns) (hl:ns.length<=Gn) (hr:mK k callerA)
  (F:∀ base:Heap,K.In base->base.Ns JG mg->qJ P w K mg base CX k fa fd [x] sp) (hbind:∀ (s:AP) (u:JI),BindsTo s fd ⟨[u],[]⟩ [(x,u)])
  (hsp:∀ H:Hp,Only H->Io K H a (ns.map V.int)->sp [.ref a] H (fun v _=>v=.bl true) fun _ _ _=>False)
  (hCX:∀ H e s',CX [] H s₁ (fun _ _ _=>False) e s'->False) :
  codeAny (FP P w) callerA (.call (.ref fa) ⟨[.ref a],[]⟩) (fun r s'=>r=.ok (.ret (.bool true))/\OldK s₁.heap s'.heap/\s'.os=s₁.os/\RB s'.gens) s₁:=by
 have rv:=yH hi;have lenV:=hi.length
 -- from an abstract heap in which nothing but the script may be tracked
 have core:∀ H:Hp,Only H->Io K H a (ns.map V.int)->Kc P w H s₁.heap->(∀ b,H b≠FN->b=a)->(H a≠FN->K.lookup a=FN) ->
   codeAny (FP P w) callerA (.call (.ref fa) ⟨[.ref a],[]⟩) (fun r s'=>r=.ok (.ret (.bool true))/\OldK s₁.heap s'.heap/\s'.os=s₁.os/\RB s'.gens) s₁:=by
  intro H hO hS hok hA hK;have base_of:∀ {b:Addr} {o:Obj},s₁.heap.get? b=Dn o->H b=FN->(Oq s₁.heap H).get? b=Dn o:=fun e n=>zby e n
  have noA:∀ {b:Addr} {o:Obj} {es:Array DictEntry} {ep:Nat},s₁.heap.get? b=Dn o->o.data=.dict es ep->H b=FN:=fun {b o es ep} e d=>by
   cases q:H b with
   | none=>rfl
   | some u=>
    have e':b=a:=hA b (by rw [q];simp);subst e';rw [ha] at e;cases e;have d':Data.seq vs.toArray _=Data.dict es ep:=d;cases d'
  have nsK:∀ {b:Addr} {m:Str->Option JI},s₁.heap.Ns b m->(Oq s₁.heap H).Ns b m:=fun {b m} ⟨o,es,ep,e,d,r⟩=>⟨o,es,ep,base_of e (noA e d),d,r⟩
  have hKb:K.In (Oq s₁.heap H):=fun b o e=>base_of (KX b o e) (by
   cases q:H b with
   | none=>rfl
   | some u=>
    have e':b=a:=hA b (by rw [q];simp);subst e';rw [hK (by rw [q];simp)] at e;cases e)
  have hM:Mod K mg (Oq s₁.heap H):=⟨hKb,nsK hns,⟨mb,nsK hb,hbb⟩,let ⟨mc,h1,h2⟩:=hlim;⟨mc,nsK h1,h2⟩⟩
  have e0:aan P w K mg (Oq s₁.heap H) callerA [] s₁ H:=⟨rfl,hM,fun b o e=>agt e,Nat.le_of_eq (zaO _ _),trivial,fun b hb=>absurd (show b∈([]:List Addr) from hb) (by simp),hok,.of_eq hg,fun v e=>(nomatch e)⟩
  refine codeAny_mono ((F _ hKb<|nsK hns).run callerA [] s₁ H ⟨[.ref a],[]⟩ [.ref a] [.ref a] _ _ hr e0 (hbind s₁<|.ref a) (.cons rfl .nil) (hsp H hO hS)) fun r s' h=>?_;cases r with
  | error e=>exact (hCX H e s' h).elim
  | ok fl=>
   cases fl with
   | next=>exact Oh h
   | brk=>exact Oh h
   | cont=>exact Oh h
   | ret u=>
    obtain ⟨v,H',os,bare,un,hok',r',q⟩:=h;have q':v=.bl true:=q;subst q';obtain rfl:u=Value.bool true:=r';refine ⟨rfl,OldK.of_keep fun b o e=>?_,os,bare⟩;cases q:H b with
    | none=>exact un.keep b o e q (by intro z;exact absurd (show b∈([]:List Addr) from z) (by simp)) (by simp)
    | some u=>
     rcases hO b with z | ⟨ob,xs,z⟩
     ·rw [q] at z;cases z
     ·have z2:=un.frzs b ob _ z;obtain ⟨e1,_⟩:=hok b _ z;obtain ⟨e2,_⟩:=hok' b _ z2;rw [e] at e1;cases e1;exact e2
 cases hk:K.lookup a with
 | some o=>
  -- the script is one of the module's own objects
  have e:=KX a o hk;rw [ha] at e;cases e;refine core (fun _=>FN) (fun _=>.inl rfl) (.inr ⟨_,vs.toArray,_,hk,rfl,rfl,rfl,by rw [Iz,lenV];exact hl,by simpa using rv⟩) (fun b u z=>by have z':(FN:Option HO)=Dn u:=z;cases z') (fun b z=>absurd rfl z) fun z=>absurd rfl z
 | none=>
  refine core (fun b=>if b=a then Dn (.frz { cls:=.type "list",data:=.seq vs.toArray } (.lst<|ns.map V.int)) else FN) (fun b=>?_) (.inl<|.inr ⟨{ cls:=.type "list",data:=.seq vs.toArray },if_pos rfl⟩) (fun b u z=>?_) (fun b z=>?_) fun _=>hk
  ·by_cases hb:b=a
   ·exact .inr ⟨_,_,if_pos hb⟩
   ·exact .inl<|if_neg hb
  ·by_cases hb:b=a
   ·have z':=(if_pos hb).symm.trans z;cases z'
    subst hb;exact ⟨ha,by rw [Gg];exact hl,vs,_,rv,ha⟩
   ·have z':=(if_neg hb).symm.trans z;cases z'
  ·by_cases hb:b=a
   ·exact hb
   ·exact absurd (if_neg hb) z
theorem Kf {l:PySem.W.OpenLaw}{n k:Nat}{q:FQ}{loose:List Str}{XP:(Str->Option JI)->Heap->Prop}{YP:Cm->Heap->Prop}{d:DefRec}{K:Params->Ad}{CX:Cm->Nr}{sp:Cm->Sp}{x:Str}
  (hn:l.most=Dn n) (hn2:n<=Gn) (hdf:d.params.defaults=[]) (hr:mK k callerA)
  (hY:∀ (w:Cm) (h:Heap),YP w h->(K w.params).In h)
  (F:∀ (w:Cm) (mg:Str->Option JI) (fa:Addr) (h:Heap),(K w.params).In h->h.Ns JG mg->mg d.name=Dn (.ref fa) ->
   ∃ fd:Le,(∀ (s:AP) (u:JI),BindsTo s fd ⟨[u],[]⟩ [(x,u)]) /\
    ∀ base:Heap,(K w.params).In base->base.Ns JG mg->qJ l.prog w (K w.params) mg base (CX w) k fa fd [x] (sp w))
  (hsp:∀ (w:Cm) (H:Hp) (a:Addr) (ns:List Int),ns.length<=n->Only H->Io (K w.params) H a (ns.map V.int)->sp w [.ref a] H (fun v _=>v=.bl true) fun _ _ _=>False)
  (hCX:∀ (w:Cm) (H:Hp) (s:AP) (e:JI) (s':AP),CX w [] H s (fun _ _ _=>False) e s'->False) :
  PySem.W.WalkO q loose XP YP l.row.toRowW d [] (fun f vs=>PySem.call f vs):=by
 refine Att.Cj hn hdf fun w s₀ s₁ mg mb fa o pm cd doc a vs ns G Y ho hd hcd hmg hobj hints hlen hg=>?_;have KX:=hY w _ Y;obtain ⟨fd,hb,hF⟩:=F w mg fa _ KX G.T.g hmg;exact ahk KX G.T.g G.T.b G.T.builtins G.T.nolimit hg hobj hints (Ii hlen hn2) hr hF hb (fun H hO hS=>hsp w H a ns hlen hO hS) fun H e s'=>hCX w H s₁ e s'
end L2
/- THE LAST THEOREM (shape; LID, My.* are yours):
   My.Adr: a structure of the addresses that your layer names (classes,functions);My.Txt K t: a structure (Prop) of the equations over K;
   My.txt_mk:{K} {implicit addresses ..} (e1:nsIn K JG "law" = Dn (Dn (.ref f))) (e2:K.lookup f=Dn ⟨oc,od,.func (fnOf "law" "law" params body scope dV kV doc pm an cdv ct),sl⟩) (e3:codeIn K cdv "law" = true) .. : ∃ t,My.Txt K t
theorem PySem.Challenge.cw_LID_holds : PySem.Challenge.rw_LID.Holds := by
 w_on;o_law;k_head;(case hw=>w_witness2)
 k_fill
 refine L2.Kf (l:=PySem.Challenge.rw_LID) (n:=63) (k:=40) (x := "script") (CX:=fun w=>..) (sp:=fun _=>My.sp_law) rfl (by decide) rfl ⟨rfl,by decide,by decide⟩ (fun w h Y=>PySem.W.kIn_of Y) ?F ?S ?C
 case F=>
  intro w mg fa h KX G hmg;have T:∃ t,My.Txt (L2.KOf KX) t:=by
   dsimp only [L2.KOf]                          -- K must stand as «<heap const> w.params» for k_is;refine' My.txt_mk ?e1 ?e2 ?e3 ..
   (case e1=>PySem.W.k_is)                    -- in the order: a name -> its address -> its object -> its parts
   (case e2=>PySem.W.k_is)
   ..
  obtain ⟨t,T⟩:=T;have e0:=hmg.symm.trans (PySem.W.mg_of KX G T.law);cases e0                                       -- fa is the law's own address
  exact ⟨_,fun s u=>.of_eq rfl,fun base kb nb=>My.law_fn T kb nb⟩     -- if «.of_eq rfl» comes too early: refine' ⟨_,?b,fun base kb nb=>My.law_fn T kb nb⟩;exact fun s u=>.of_eq rfl
 case S=>exact fun w H a ns hl hO hS=>..
 case C=>exact ..
(the tactic k_is has no namespace: write k_is) -/
namespace L2
open PySem PySem.Spec PyProof.Rows
def pA (s:Stmt):Arguments:=match s with
 | .FunctionDef _ a _ _ _ _ _ _ _ _=>a
 | _=>{ posonlyargs:=[],args:=[],vararg:=FN,kwonlyargs:=[],kw_defaults:=[],kwarg:=FN,defaults:=[] }
def je (s:Stmt):List Stmt:=match s with
 | .FunctionDef _ _ b _ _ _ _ _ _ _=>b
 | _=>[]
def bU (s:Stmt):Scope:=match s with
 | .FunctionDef _ _ _ _ _ _ sc _ _ _=>sc
 | _=>{ kind:=.function,names:=[],isGenerator:=false,isCoroutine:=false }
abbrev M4:Nr:=fun _ _ _ _ _ _=>False
abbrev E0:XK:=fun _ _ _=>False
theorem Rj {X:Cx}:Passes M4 X E0:=fun _ _ _ _ _ _ _ h=>h.elim
structure Rx (K:Ad) (x qual:Str) (st:Stmt) (f:Addr) (fd:Le):Prop where
 ex:∃ (oc:JI) (od:Option Addr) (kV doc pm:JI) (an:Option Addr) (cdv ct:JI) (osl:Array (Option JI)),
  fd=S8 x qual (pA st) (je st) (bU st) .none kV doc pm an cdv ct/\K.lookup f=Dn ⟨oc,od,.func fd,osl⟩/\U8 K cdv qual=true
 kp:Nk K (.ref f)=true
section
variable {P:FQ}{w:Cm}{K:Ad}{mg:Str->Option JI}{base:Heap}
theorem Rx.ok {x qual:Str}{st:Stmt}{f:Addr}{fd:Le}{N ps:List Str}{k:Nat}{sp:Sp}(F:Rx K x qual st f fd)(S:pB N ps (bU st))(len:∀ vs H Q E,sp vs H Q E->vs.length=ps.length)
  (hbody:∀ (cdv:JI) (A:FT) (outer:List Env) (s:AP) (H:Hp) (vs:List V) (Q:VK) (E:XK),mK k (A.deeper (envOfC qual (bU st) s.heap.objs.size f cdv))->sp vs H Q E ->
   ∃ t,Mf (Mr M4 P w K mg base N qual (bU st) f cdv A outer s H E).nox (je st) t/\t { nx:=fun _ H'=>Q .non H',rt:=Q } (start N vs) H):qJ P w K mg base M4 (k+1) f fd ps sp:=by
 obtain ⟨oc,od,kV,doc,pm,an,cdv,ct,osl,rfl,lk,hcd⟩:=F.ex;refine aaE lk hcd S len fun A outer s H vs Q E hr hsp=>?_;obtain ⟨t,h,q⟩:=hbody cdv A outer s H vs Q E hr hsp;exact ⟨t,h.nox,q⟩
theorem Rx.binds {x qual:Str}{st:Stmt}{f:Addr}{fd:Le}{ps:List Str}(F:Rx K x qual st f fd)
  (h:∀ (kV doc pm:JI) (an:Option Addr) (cdv ct:JI) (us:List JI),us.length=ps.length->bindArgs (S8 x qual (pA st) (je st) (bU st) .none kV doc pm an cdv ct) ⟨us,[]⟩=pure (ps.zip us)):Binds K fd ps []:=by
 obtain ⟨oc,od,kV,doc,pm,an,cdv,ct,osl,rfl,lk,hcd⟩:=F.ex;exact .all<|h kV doc pm an cdv ct
theorem JH {x qual:Str}{st:Stmt}{f:Addr}{oc:JI}{od an:Option Addr}{osl:Array (Option JI)}{kV doc pm cdv ct:JI}(l:K.lookup f=Dn ⟨oc,od,.func (S8 x qual (pA st) (je st) (bU st) .none kV doc pm an cdv ct),osl⟩)
  (c:U8 K cdv qual=true) (k:Nk K (.ref f)=true):Rx K x qual st f (S8 x qual (pA st) (je st) (bU st) .none kV doc pm an cdv ct):=⟨⟨oc,od,kV,doc,pm,an,cdv,ct,osl,rfl,l,c⟩,k⟩
end
section
variable {X:Cx}
theorem pv (i:Nat){x:Str}{pos:Pos}(hN:X.N[i]?=Dn x:=by rfl)(hv:Vis X.env.scope x:=by first | exact Or.inl rfl | exact Or.inr (Or.inl rfl) | exact Or.inr (Or.inr rfl))(hd:(x==("__debug__" : Str))=false:=by decide)
  (hcd:(x==("__classdict__" : Str))=false:=by decide):PE X (.Name x pos) (Yg i):=YW hN hv hd hcd
end
def Rr (env:Env):List (Str×Ks)->List (Str×Addr)->List (Str×Addr)
 | [],cs=>cs
 | (n,k)::r,cs=>Rr env r (if (k==NameKind.free)=true then (n,(env.cells.lookup n).getD 0)::cs else cs)
def Qm (scope:Scope)(env:Env):List (Str×Addr):=Rr env scope.names []
theorem xV {env:Env}{p:Str×Addr}:∀ (l:List (Str×Ks)) (cs:List (Str×Addr)),p∈Rr env l cs->p∈cs\/((p.1,NameKind.free)∈l/\p.2=(env.cells.lookup p.1).getD 0)
 | [],cs,h=>.inl h
 | (n,k)::r,cs,h=>by
  rcases xV r _ h with h | ⟨h1,h2⟩
  ·by_cases hk:(k==NameKind.free)=true
   ·rw [if_pos hk] at h;rcases J9.mp h with rfl | h
    ·have e:k=NameKind.free:=by simpa using hk
     subst e;exact .inr ⟨Nb,rfl⟩
    ·exact .inl h
   ·rw [if_neg hk] at h;exact .inl h
  ·exact .inr ⟨Nh _ h1,h2⟩
theorem Dc {env:Env}{x:Str}:∀ (l:List (Str×Ks)) (cs:List (Str×Addr)),((x,NameKind.free)∈l\/∃ c,(x,c)∈cs)->∃ c,(x,c)∈Rr env l cs
 | [],cs,h=>by
  rcases h with h | h
  ·exact absurd h<|by simp
  ·exact h
 | (n,k)::r,cs,h=>by
  refine Dc r _ ?_;rcases h with h | ⟨c,h⟩
  ·rcases J9.mp h with e | h
   ·injection e with e1 e2
    subst e1;subst e2;exact .inr ⟨_,by rw [if_pos<|by rfl];exact Nb⟩
   ·exact .inl h
  ·refine .inr ⟨c,?_⟩;by_cases hk:(k==NameKind.free)=true
   ·rw [if_pos hk];exact Nh _ h
   ·rw [if_neg hk];exact h
theorem iY {x:Str}{c:Addr}:∀ {l:List (Str×Addr)},(x,c)∈l->∃ c',l.lookup x=Dn c'
 | [],h=>absurd h (by simp)
 | (n,d)::r,h=>by
  by_cases e:x=n
  ·subst e;exact ⟨d,by simp [Lr]⟩
  ·rcases J9.mp h with q | q
   ·injection q with q1 _
    exact absurd q1 e
   ·obtain ⟨c',h'⟩:=iY q;refine ⟨c',?_⟩;have e':(x==n)=false:=beq_eq_false_iff_ne.mpr e;rw [Lr,e'];exact h'
theorem JV {scope:Scope}{env:Env}(h:∀ y∈scope.names,y.2=NameKind.free->∃ c,env.cells.lookup y.1=Dn c):closureFor scope env=pure (Qm scope env):=by
 unfold closureFor Qm;have key:∀ (l:List (Str×Ks)) (cs:List (Str×Addr)),(∀ y∈l,y.2=NameKind.free->∃ c,env.cells.lookup y.1=Dn c) ->
   (forIn l cs (fun (x:Str×Ks) (cs:List (Str×Addr))=>(if (x.2==NameKind.free)=true then cellOf env x.1 >>= fun c=>pure (ForInStep.yield ((x.1,c)::cs)) else pure (ForInStep.yield cs):Sem (ForInStep (List (Str×Addr))))))=pure (Rr env l cs):=by
  intro l;induction l with
  | nil=>intro cs _;rfl
  | cons x r ih=>
   intro cs hl;obtain ⟨n,k⟩:=x;rw [List.forIn_cons];have hr:∀ y∈r,y.2=NameKind.free->∃ c,env.cells.lookup y.1=Dn c:=fun y hy=>hl y (Nh _ hy)
   by_cases hk:(k==NameKind.free)=true
   ·obtain ⟨c,hc⟩:=hl (n,k) Nb (by simpa using hk);have hc':env.cells.lookup n=Dn c:=hc;have e1:cellOf env n=pure c:=by unfold cellOf;rw [hc']
    simp only [hk,if_true,e1,pure_bind];rw [ih _ hr];simp only [Rr,hk,if_true,hc',Ud]
   ·simp only [hk,if_false,pure_bind,Te];rw [ih _ hr];simp only [Rr,hk,if_false,Te]
 have q:=key scope.names [] h
 simpa using q
theorem jL {y:Str}{c:Addr}:∀ {names:List (Str×Ks)} {n:Nat} {acc:List (Str×Addr)},(y,c)∈Jj n names acc↔(y,c)∈acc\/(y,c)∈Jj n names []
 | [],n,acc=>by simp [Jj]
 | (name,kind)::r,n,acc=>by
  unfold Jj;split
  ·rw [jL (acc:=(name,n)::acc),jL (acc:=[(name,n)])];simp only [J9,Ml,or_false];exact ⟨fun h=>h.elim (fun h=>h.elim (fun h=>.inr<|.inl h) .inl) fun h=>.inr<|.inr h,fun h=>h.elim (fun h=>.inl<|.inr h) fun h=>h.elim (fun h=>.inl<|.inl h) .inr⟩
  ·exact jL
theorem Bh {y:Str}{c:Addr}:∀ {names:List (Str×Ks)} {n:Nat},(y,c)∈Jj n names []->(y,NameKind.cell)∈names
 | [],n,h=>by simp [Jj] at h
 | (name,kind)::r,n,h=>by
  unfold Jj at h;split at h
  ·rename_i hk;rcases jL.mp h with q | q
   ·have hk':kind=.cell:=by simpa using hk
    simp only [J9,Ml,or_false,Ol] at q;rw [q.1,hk'];exact Nb
   ·exact Nh _<|Bh q
  ·exact Nh _<|Bh h
theorem IW {y:Str}:∀ {names:List (Str×Ks)} {n:Nat},(y,NameKind.cell)∈names->∃ c,(y,c)∈Jj n names []
 | [],n,h=>by simp at h
 | (name,kind)::r,n,h=>by
  unfold Jj;rcases J9.mp h with q | q
  ·cases q;rw [if_pos (by rfl)];exact ⟨n,jL.mpr<|.inl Nb⟩
  ·split
   ·obtain ⟨c,hc⟩:=IW (n:=n+1) q;exact ⟨c,jL.mpr<|.inr hc⟩
   ·exact IW q
theorem XC {h:Heap}{names:List (Str×Ks)}{y:Str}{c:Addr}(e:(y,c)∈Jj h.objs.size names []):(pushCells h names).IsCell c FN/\h.objs.size<=c:=
 (cellsFrom_ok names h h.objs.size [] ⟨fun _ _ z=>by simp at z,List.Pairwise.nil⟩ (Gi _)).empty y c e
theorem aeU {n:Nat}{names:List (Str×Ks)}{y z:Str}{c:Addr}(e:(y,c)∈Jj n names [])(e':(z,c)∈Jj n names []):y=z:=by
 have key:∀ (k:Nat),∃ h:Heap,h.objs.size=k:=fun k=>by
  induction k with
  | zero=>exact ⟨{ (default:Heap) with objs:=#[] },rfl⟩
  | succ k ih=>
   obtain ⟨h,e⟩:=ih;exact ⟨h.push { cls:=.type "cell",data:=.cell FN },by rw [Om,e]⟩
 obtain ⟨h,rfl⟩:=key n;exact name_of_addr (cellsFrom_ok names h h.objs.size [] ⟨fun _ _ z=>by simp at z,List.Pairwise.nil⟩<|Gi _).apart e e'
theorem aei {M:Model}{A:FT}{E:JI->AP->Prop}{s:AP}{scope:Scope}{globals:Addr}{closure:List (Str×Addr)}{qual:Str}{func:Option Addr}{code:JI}{ar:Env}{builtins:Addr}{Q:Env->AP->Prop}
  (hQ:Q { scope:=scope,locals:=s.heap.objs.size,globals:=globals,cells:=Jj (s.heap.objs.size+1) scope.names closure,qual:=qual,func:=func,code:=ar.code,frame:=ar.frame,builtins:=ar.builtins } { s with heap:=pushCells (s.heap.push { cls:=.type "dict",data:=.dict #[] }) scope.names }) :
  CR M A (newFunctionEnv scope globals closure [] qual func code (Dn ar) builtins) Q E s:=by
 simp only [newFunctionEnv,Option.isSome_some,if_true];refine Aj<|wpAny_alloc ?_
 refine Aj<|wpAny_layCells _ (fun name kind cells=>by cases hkc:kind==NameKind.cell <;> simp [hkc]) _ _ _ _ ?_
 rw [show ({ s with heap:=s.heap.push { cls:=.type "dict",data:=.dict #[] } }:AP).heap.objs.size=s.heap.objs.size+1 from Om ..];rw [List.forIn_nil];exact Aj<|Fy<|Fy hQ
def blk (X:Cx)(scope:Scope)(N':List Str)(C:Addr)(s:AP)(H:Hp)(ex:List Addr):Cx where
 prog:=X.prog
 w:=X.w
 K:=X.K
 mg:=X.mg
 base:=X.base
 A:=X.A
 N:=N'
 s₀:=s
 H₀:=H
 env:=compEnvC scope (Jj (C+1) scope.names (Qm scope X.env)) C X.env
 outer:=X.stack
 stack:=X.stack
 ex:=ex
 fn:=fun y=>decide (scope.names.lookup y=Dn .cell)
 calm:=X.calm
 pn:=[]
 xe:=fun _ _=>False
structure j7 (X:Cx) (scope:Scope) (x:List Str) (ix:List Nat):Prop where
 kind:scope.kind=.function
 own:∀ y∈x,scope.names.lookup y=Dn .local\/scope.names.lookup y=Dn .cell
 names:∀ y∈scope.names,scope.names.lookup y.1=Dn y.2
 free:∀ y∈scope.names,y.2=.free->X.env.scope.names.lookup y.1=Dn .cell\/X.env.scope.names.lookup y.1=Dn .free
 ixs:∀ i∈ix,scope.names.lookup (X.N.getD i "")=Dn .free
 nd:(x++ix.map fun i=>X.N.getD i "").Nodup
def Eb:List Str->Bool
 | []=>true
 | x::r=>!(r.contains x)&&Eb r
def acN (sc:Scope)(N:List Str)(scope:Scope)(x:List Str)(ix:List Nat):Bool:=
 decide (scope.kind=.function)&&x.all (fun y=>decide (scope.names.lookup y=Dn .local)||decide (scope.names.lookup y=Dn .cell)) &&
 scope.names.all (fun y=>decide (scope.names.lookup y.1=Dn y.2)) &&
 scope.names.all (fun y=>!decide (y.2=.free)||decide (sc.names.lookup y.1=Dn .cell)||decide (sc.names.lookup y.1=Dn .free)) &&
 ix.all (fun i=>decide (scope.names.lookup (N.getD i "")=Dn .free))&&Eb (x++ix.map fun i=>N.getD i "")
theorem yO:∀ {l:List Str},Eb l=true->l.Nodup
 | [],_=>List.nodup_nil
 | x::r,h=>by
  unfold Eb at h;rw [MN] at h;refine Tp.mpr ⟨fun hm=>?_,yO h.2⟩;have:r.contains x=true:=List.contains_iff_mem.mpr hm
  rw [this] at h;exact absurd h.1<|by decide
theorem cD {X:Cx}{scope:Scope}{x:List Str}{ix:List Nat}(h:acN X.env.scope X.N scope x ix=true):j7 X scope x ix:=by
 unfold acN at h;simp only [MN,MP,decide_eq_true_eq,Bool.or_eq_true,Bool.not_eq_true',decide_eq_false_iff_not] at h;obtain ⟨⟨⟨⟨⟨h1,h3⟩,h4⟩,h5⟩,h6⟩,h7⟩:=h;refine ⟨h1,fun y hy=>h3 y hy,fun y hy=>h4 y hy,fun y hy hk=>?_,fun i hi=>h6 i hi,yO h7⟩
 ·rcases h5 y hy with (q | q) | q
  ·exact absurd hk q
  ·exact .inl q
  ·exact .inr q
def Jx (ix:List Nat)(σ : St):St:=ix.map fun i=>(σ[i]?).getD FN
abbrev jC (X:Cx)(x:List Str)(ix:List Nat):List Str:=x++ix.map fun i=>X.N.getD i ""
theorem gH {scope:Scope}{env:Env}{x:Str}:∀ {names:List (Str×Ks)} {k:Ks},
  (names.map fun (p:Str×Ks)=>if (p.2==NameKind.free&&env.scope.kind==.function&&env.kindOf p.1==Dn .cell)=true then (p.1,NameKind.cell) else (p.1,p.2)).lookup x=Dn k ->
  names.lookup x=Dn k\/(k=.cell/\names.lookup x=Dn .free)
 | [],k,h=>by simp at h
 | (n,k')::r,k,h=>by
  rw [LQ] at h;cases hx:x==n with
  | true=>
   by_cases hc:(k'==NameKind.free&&env.scope.kind==.function&&env.kindOf n==Dn .cell)=true
   ·rw [if_pos hc] at h;simp only [Lr,hx] at h;have hk:k'=.free:=by
     have:=(Bool.and_eq_true_iff.mp (Bool.and_eq_true_iff.mp hc).1).1
     simpa using this
    subst hk;cases h;exact .inr ⟨rfl,by simp [Lr,hx]⟩
   ·rw [if_neg hc] at h;simp only [Lr,hx] at h;cases h;exact .inl<|by simp [Lr,hx]
  | false=>
   have h':(r.map fun (p:Str×Ks)=>if (p.2==NameKind.free&&env.scope.kind==.function&&env.kindOf p.1==Dn .cell)=true then (p.1,NameKind.cell) else (p.1,p.2)).lookup x=Dn k:=by
    by_cases hc:(k'==NameKind.free&&env.scope.kind==.function&&env.kindOf n==Dn .cell)=true
    ·rw [if_pos hc] at h;simpa only [Lr,hx] using h
    ·rw [if_neg hc] at h;simpa only [Lr,hx] using h
   rcases gH (scope:=scope) (env:=env) h' with q | ⟨q1,q2⟩
   ·exact .inl<|by simpa only [Lr,hx] using q
   ·exact .inr ⟨q1,by simpa only [Lr,hx] using q2⟩
theorem pY {env:Env}{x:Str}:∀ {names:List (Str×Ks)},names.lookup x=Dn .free ->
  (names.map fun (p:Str×Ks)=>if (p.2==NameKind.free&&env.scope.kind==.function&&env.kindOf p.1==Dn .cell)=true then (p.1,NameKind.cell) else (p.1,p.2)).lookup x=Dn .cell \/
  (names.map fun (p:Str×Ks)=>if (p.2==NameKind.free&&env.scope.kind==.function&&env.kindOf p.1==Dn .cell)=true then (p.1,NameKind.cell) else (p.1,p.2)).lookup x=Dn .free
 | [],h=>by simp at h
 | (n,k')::r,h=>by
  rw [LQ];cases hx:x==n with
  | true=>
   simp only [Lr,hx] at h;cases h;by_cases hc:(NameKind.free==NameKind.free&&env.scope.kind==.function&&env.kindOf n==Dn .cell)=true
   ·rw [if_pos hc];exact .inl (by simp [Lr,hx])
   ·rw [if_neg hc];exact .inr (by simp [Lr,hx])
  | false=>
   have h':r.lookup x=Dn .free:=by simpa only [Lr,hx] using h
   have ih:=pY (env:=env) h';by_cases hc:(k'==NameKind.free&&env.scope.kind==.function&&env.kindOf n==Dn .cell)=true
   ·rw [if_pos hc];simpa only [Lr,hx] using ih
   ·rw [if_neg hc];simpa only [Lr,hx] using ih
theorem qD {env:Env}{x:Str}:∀ {names:List (Str×Ks)},names.lookup x=Dn .cell ->
  (names.map fun (p:Str×Ks)=>if (p.2==NameKind.free&&env.scope.kind==.function&&env.kindOf p.1==Dn .cell)=true then (p.1,NameKind.cell) else (p.1,p.2)).lookup x=Dn .cell
 | [],h=>by simp at h
 | (n,k')::r,h=>by
  rw [LQ];cases hx:x==n with
  | true=>
   simp only [Lr,hx] at h;cases h;rw [if_neg (by simp)];simp [Lr,hx]
  | false=>
   have ih:=qD (env:=env) (show r.lookup x=Dn .cell by simpa only [Lr,hx] using h);split
   ·simpa only [Lr,hx] using ih
   ·simpa only [Lr,hx] using ih
section
variable {X:Cx}{pins:List (Addr×Obj)}{σ : St}{H:Hp}{s:AP}{scope:Scope}{x:List Str}{ix:List Nat}{C:Addr}{fp:List Addr}
theorem JF (B:j7 X scope x ix){y:Str}(hy:y∈x):Loc (relabel scope X.env) y/\(decide (scope.names.lookup y=Dn .cell)=true\/(relabel scope X.env).names.lookup y=Dn .local):=by
 rcases B.own y hy with q | q
 ·have:=lookup_relabel_local (env:=X.env) q
  exact ⟨.inl this,.inr this⟩
 ·exact ⟨.inr<|qD (env:=X.env) q,.inl<|decide_eq_true q⟩
theorem xU (I:Ac X pins σ H s)(B:j7 X scope x ix):∀ y∈scope.names,y.2=NameKind.free->∃ c,X.env.cells.lookup y.1=Dn c:=fun y hy hk=>I.ok.has y.1 (B.free y hy hk)
theorem W2 (I:Ac X pins σ H s)(B:j7 X scope x ix){y:Str}{c:Addr}(h:(y,c)∈Qm scope X.env):X.env.cells.lookup y=Dn c:=by
 rcases xV scope.names [] h with q | ⟨q1,q2⟩
 ·exact absurd q<|by simp
 ·obtain ⟨c',e⟩:=xU I B _ q1 rfl;have e':X.env.cells.lookup y=Dn c':=e;have q2':c=(X.env.cells.lookup y).getD 0:=q2;rw [e',Ud] at q2';rw [e',q2']
theorem qG (I:Ac X pins σ H s)(B:j7 X scope x ix){y:Str}{c:Addr}(h:(Jj (C+1) scope.names (Qm scope X.env)).lookup y=Dn c):X.env.cells.lookup y=Dn c\/(y,c)∈Jj (C+1) scope.names []:=
 (jL.mp (RJ h)).imp_left (W2 I B)
theorem G4 {n:Nat}{names:List (Str×Ks)}{y:Str}{c:Addr}(e:(y,c)∈Jj n names []):n<=c:=by
 have key:∀ (names:List (Str×Ks)) (n:Nat),(y,c)∈Jj n names []->n<=c:=by
  intro names;induction names with
  | nil=>intro n h;simp [Jj] at h
  | cons a r ih=>
   intro n h;obtain ⟨name,kind⟩:=a;unfold Jj at h;split at h
   ·rcases jL.mp h with q | q
    ·simp only [J9,Ml,or_false,Ol] at q;exact Nat.le_of_eq q.2.symm
    ·exact Ii (TV n)<|ih (n+1) q
   ·exact ih n h
 exact key names n e
theorem ags (B:j7 X scope x ix){y:Str}{c:Addr}(hf:scope.names.lookup y=Dn .free)(h:(y,c)∈Jj (C+1) scope.names []):False:=by
 have:=B.names _ (Bh h)
 simp only at this;rw [hf] at this;cases this
theorem CJ {y:Str}(h:scope.names.lookup y=Dn .free\/scope.names.lookup y=Dn .cell):∃ c,(Jj (C+1) scope.names (Qm scope X.env)).lookup y=Dn c:=by
 rcases h with h | h
 ·obtain ⟨c,hc⟩:=Dc (env:=X.env) scope.names [] (.inl (RJ h));exact iY<|jL.mpr<|.inl hc
 ·obtain ⟨c,hc⟩:=IW (n:=C+1) (RJ h);exact iY<|jL.mpr<|.inr hc
theorem Wh (I:Ac X pins σ H s)(B:j7 X scope x ix)(hC:s.heap.objs.size<=C)(hf:∀ b∈fp,GC X pins H b)(ho:∀ b∈fp,∃ o,s.heap.get? b=Dn o) :
  (blk X scope (jC X x ix) C s H fp).Ok where
 mod:=I.ok.mod
 kind:=B.kind
 glob:=I.ok.glob
 blt:=I.ok.blt
 above:=hC
 inj:=fun y z c h1 h2=>by
  have far:∀ {y z:Str},X.env.cells.lookup y=Dn c->(z,c)∈Jj (C+1) scope.names []->False:=fun {y z} e q=>by
   obtain ⟨v,w⟩:=I.cell y c e;exact absurd (Jl w.lt<|Ii (Ii hC<|TV C)<|G4 q)<|NK _
  rcases qG I B h1 with q1 | q1
  ·rcases qG I B h2 with q2 | q2
   ·exact I.ok.inj y z c q1 q2
   ·exact (far q1 q2).elim
  ·rcases qG I B h2 with q2 | q2
   ·exact (far q2 q1).elim
   ·exact aeU q1 q2
 has:=fun y hy=>by
  have hy':(relabel scope X.env).names.lookup y=Dn .cell\/(relabel scope X.env).names.lookup y=Dn .free:=hy;rcases hy' with q | q
  ·rcases gH (scope:=scope) (env:=X.env) q with r | ⟨_,r⟩
   ·exact CJ<|.inr r
   ·exact CJ<|.inl r
  ·rcases gH (scope:=scope) (env:=X.env) q with r | ⟨r,_⟩
   ·exact CJ<|.inl r
   ·cases r
 cab:=fun y c hf h=>by
  have hf':scope.names.lookup y=Dn .cell:=of_decide_eq_true hf;rcases jL.mp (RJ h) with q | q
  ·rcases xV scope.names [] q with q | ⟨q1,_⟩
   ·exact absurd q<|by simp
   ·have:=B.names _ q1
    simp only at this;rw [hf'] at this;cases this
  ·exact Ii (Ii hC<|TV C)<|G4 q
 hd:=I.ok.hd
 qt:=I.qt0
 frames:=I.ok.frames
 stk:=.inl rfl
 exf:=fun b hb=>by
  obtain ⟨o,e⟩:=ho b hb;refine ⟨Jy<|Jl (Gy e) hC,fun y c h=>?_⟩;rcases qG I B h with q | q
  ·exact (hf b hb).2.2.2.2.1 y c q
  ·intro z;rw [z] at q;exact absurd (Jl (Gy e)<|Ii (Ii hC<|TV C)<|G4 q)<|NK _
 bs:=I.bs
 bsz:=Ii I.ok.bsz I.sz
 noex:=fun b o e hb=>by
  rcases (hf b hb).2.2.2.1 with q | q
  ·exact I.ok.noex b o e q
  ·exact absurd (Jl (Gy e)<|Ii I.ok.bsz q)<|NK _
 exfs:=fun b hb z=>by
  obtain ⟨_,h1,h2,_⟩:=hf b hb;rcases J9.mp (I.stkSub b z) with e | e
  ·exact h1 e
  ·exact h2 e
 funs:=I.stack
 frf:=I.stkFree
theorem afB {D:Addr}{h1:Heap}{tk:Nat}{m:Str->Option JI}(I:Ac X pins σ H s)(B:j7 X scope x ix)(ok:(blk X scope (jC X x ix) C s H fp).Ok)
  (hD:D=s.heap.objs.size) (k:∀ b o,s.heap.get? b=Dn o->h1.get? b=Dn o) (hl:h1.get? D=Dn { cls:=.type "list",data:=.seq #[] }) (hns:h1.Ns C m) (hCD:C≠D) (hC:s.heap.objs.size<=C) (hce:∀ y c,(y,c)∈Jj (C+1) scope.names []->h1.IsCell c FN) :
  Ac (blk X scope (jC X x ix) C s H fp) [] (Ot x.length FN++Jx ix σ) (G8 H D (.lst [])) { s with heap:=h1,toks:=tk } where
 ok:=ok
 os:=rfl
 bare:=I.bare
 base:=Un.laid k (by rw [hD];exact Gi _) (I.hok.fresh (by rw [hD];exact Gi _))
 loc:=by
  refine ⟨m,hns,fun i y v e1 e2 e3=>?_⟩;by_cases hix:i<x.length
  ·rw [SJ (by simpa using hix),Uw,if_pos hix] at e2;cases e2
  ·rw [Rq (by simpa using hix),List.length_replicate] at e2;have e1':(ix.map fun i=>X.N.getD i "")[i - x.length]?=Dn y:=by
    have z:(x++ix.map fun i=>X.N.getD i "")[i]?=Dn y:=e1
    rwa [Rq (by simpa using hix)] at z
   generalize i - x.length=j at e1' e2;unfold Jx at e2;rw [LK] at e1' e2;cases hj:ix[j]? with
   | none=>rw [hj] at e2;cases e2
   | some i'=>
    rw [hj] at e1' e2;simp only [Option.map_some,Option.some.injEq] at e1' e2;have hi:σ[i']?=Dn (Dn v):=by
     cases q:σ[i']? with
     | none=>rw [q] at e2;cases e2
     | some z=>rw [q] at e2;exact congrArg Dn e2
    have hlt:i'<X.N.length:=by
     have:=(NT.mp hi).1
     rw [I.len] at this;exact this
    have hn:X.N[i']?=Dn y:=by
     rw [Mz,JQ hlt,Ud] at e1';rw [JQ hlt,e1']
    have hfree:scope.names.lookup y=Dn .free:=by
     have:=B.ixs i' (N5 hj)
     rw [e1'] at this;exact this
    have kx:=B.free _ (RJ hfree) rfl;have vis:Vis X.env.scope y:=by
     rcases kx with q | q
     ·exact .inr<|.inl q
     ·exact .inr<|.inr q
    obtain ⟨m',_,hl'⟩:=I.loc;obtain ⟨u,r,lk⟩:=hl' i' y v hn hi vis;refine ⟨u,r,?_⟩;rcases lk with ⟨q,_⟩ | ⟨_,c,hc,hcell⟩
    ·have q':X.env.scope.names.lookup y=Dn .local:=q;rcases kx with z | z <;> (rw [q'] at z;cases z)
    ·obtain ⟨c',hc'⟩:=CJ (X:=X) (C:=C) (.inl hfree);have e:=(qG I B hc').resolve_right fun z=>ags B hfree z
     rw [hc] at e;cases e;refine .inr ⟨pY (env:=X.env) hfree,c,hc',?_⟩;obtain ⟨o,ho,hd⟩:=hcell;exact ⟨o,k c o ho,hd⟩
 cell:=fun y c h=>by
  rcases qG I B h with q | q
  ·obtain ⟨v,o,ho,hd⟩:=I.cell y c q;exact ⟨v,o,k c o ho,hd⟩
  ·exact ⟨FN,hce y c q⟩
 free:=by
  show G8 H D (.lst []) C=FN;rw [aM hCD];exact I.hok.fresh hC
 freeC:=fun y c h=>by
  show G8 H D (.lst []) c=FN;rcases qG I B h with q | q
  ·obtain ⟨v,o,ho,hd⟩:=I.cell y c q;rw [aM (by rw [hD];exact Jy (Gy ho))];exact I.freeC y c q
  ·have g:s.heap.objs.size<c:=Jl (Nat.lt_succ_of_le hC) (G4 q);rw [aM (by rw [hD];exact RK g)];exact I.hok.fresh<|Nat.le_of_lt g
 pin:=fun p hp=>absurd (show p∈([]:List (Addr×Obj)) from hp) (by simp)
 hok:=I.hok.laid k (by rw [hD];exact Gi _) ⟨Rn _,[],0,.nil,hl⟩
 len:=by
  show (Ot x.length FN++Jx ix σ).length=(jC X x ix).length;simp [Jx]
theorem Ka {σ':St}{H':Hp}{s':AP}{h':Heap}{p':List (Addr×Obj)}(I:Ac X pins σ H s)(hC:s.heap.objs.size<=C)(hf:∀ b∈fp,GC X pins H b)(J:Ac (blk X scope (jC X x ix) C s H fp) p' σ' H' s')
  (hs:TK C s'.heap h'):Ac X pins σ H' { s' with heap:=h' }:=by
 have I1:Ac X pins σ H' s':=I.call' (ch:=fp) J.os J.base J.hok J.bare fun b hb=>⟨(hf b hb).2.2.2.1,(hf b hb).2.1,(hf b hb).2.2.2.2.1,(hf b hb).2.2.2.2.2⟩
 refine I1.turned (it:=C) (t':=s'.toks) (fun b o hb e=>(hs.2 b hb).trans e) J.free (RK<|Jl I.lt hC) (.inr<|Ii I.sz hC) (fun y c e z=>?_)<|fun p hp z=>?_
 ·obtain ⟨v,q⟩:=I.cell y c e;exact absurd (Jl q.lt (by rw [z];exact hC))<|NK _
 ·exact absurd (Jl (Gy (I.pin p hp).1) (by rw [z];exact hC))<|NK _
end
def VH (X:Cx)(ifs:List Expr)(t:TT):Prop:=
 ∀ (pins:List (Addr×Obj)) (s:AP) (σ : St) (H:Hp) (Q:Bool->Hp->Prop),Ac X pins σ H s->t σ H Q ->
  CR (FP X.prog X.w) X.A (forIn ifs true fun c r=>if r=true then do let ok <-isTrue c X.env (eval c X.env);pure (ForInStep.yield ok) else pure (ForInStep.yield r)) (TP X pins σ Q) X.xe s
def adE:TT:=fun _ H Q=>Q true H
theorem afS {X:Cx}:VH X [] adE:=fun _ _ _ H _ I h=>Fy ⟨H,I,h⟩
theorem Vv {X:Cx}{c:Expr}{t:TT}(h:PT X c t):VH X [c] t:=fun pins s σ H Q I hq=>by
 rw [List.forIn_cons];refine Aj ?_;rw [if_pos rfl];refine Aj<|G6 (h pins s σ H Q I hq) fun b s1 q=>Fy ?_
 exact Fy q
def abB (n:Nat)(own:V->Hp->List V->Prop)(ix:List Nat)(tt:TT)(te:TE)(σ : St)(Q:VK)(J:It)(H1:Hp)(D:Addr):Prop:=∃ W:Nat->Nat->List V->Hp->Prop,(∃ m,W 0 m [] (G8 H1 D (.lst [])))/\∀ i m ys H,W i m ys H->H D=Dn (.lst ys) ->
 (J.stop i H/\Q (.ref D) H)\/(J.go i H/\ys.length<Gn/\∀ x H',J.yld i H x H'->∃ vs,own x H' vs/\vs.length=n/\tt (vs.map Dn++Jx ix σ) H' fun b H2=>
  if b=true then te (vs.map Dn++Jx ix σ) H2 (fun v H3=>H3 D=Dn (.lst ys)/\∃ m',m'<m/\W (i+1) m' (ys++[v]) (G8 H3 D (.lst (ys++[v]))))
  else H2 D=Dn (.lst ys)/\∃ m',m'<m/\W (i+1) m' ys H2)
def wLC (n:Nat)(own:V->Hp->List V->Prop)(ix:List Nat)(tt:TT)(te:TE)(σ : St)(Q:VK)(J:It)(H1:Hp):Prop:=∀ D,H1 D=FN->abB n own ix tt te σ Q J H1 D
def tLC (n:Nat)(own:V->Hp->List V->Prop)(ix:List Nat)(wi:TI)(tt:TT)(te:TE):TE:=fun σ H Q=>wi σ H fun J H1=>wLC n own ix tt te σ Q J H1
def Rb (n:Nat)(own:V->Hp->List V->Prop):TG:=fun v σ H N=>∃ vs,own v H vs/\vs.length=n/\N (vs.map Dn++σ.drop n) H
theorem zaY {P:FQ}{w:Cm}{A:FT}{R:Result->AP->Prop}{s:AP}{elt target iter:Expr}{ifs:List Expr}{scope:Scope}{pos:Pos}{it acc:JI}{env:Env}(Iv:Nat->AP->Prop)
  (turn:∀ n s,Iv n s->CR (FP P w) A (Ni it) (fun r s₁=>match r with
   | none=>R (.ok .next) s₁
   | some v=>CR (FP P w) A (letOwnedTupleGo target it v) (fun _ t₁=>CR (FP P w) A (assign target env v) (fun _ s₂=>
     CR (FP P w) A (forIn ifs true fun c r=>if r=true then do let ok <-isTrue c env (eval c env);pure (ForInStep.yield ok) else pure (ForInStep.yield r)) (fun ok s₃=>
      if ok=true then CR (FP P w) A (eval elt env) (fun x s₄=>
       CR (FP P w) A (call (.builtin "list.append") [acc,x]) (fun _ s₅=>∃ m,m<n/\Iv m s₅) (notedBy (FP P w) A env fun e s'=>R (.error e) s') s₄) (notedBy (FP P w) A env fun e s'=>R (.error e) s') s₃
      else ∃ m,m<n/\Iv m s₃) (notedBy (FP P w) A env fun e s'=>R (.error e) s') s₂) (notedBy (FP P w) A env fun e s'=>R (.error e) s') t₁) (notedBy (FP P w) A env fun e s'=>R (.error e) s') s₁) (notedBy (FP P w) A env fun e s'=>R (.error e) s') s)
  (n:Nat) (h:Iv n s):codeAny (FP P w) A (.compLoop (.ListComp elt [⟨target,iter,ifs,0⟩] scope pos) 0 it acc env) R s:=by
 refine codeAny_loop rfl Iv (fun n s hI=>?_) n h;show CR _ A ((compTurn (.ListComp elt [⟨target,iter,ifs,0⟩] scope pos) 0 it acc env).onRaise (fun x=>do noteFrame x env;theTreesLotGoes x)) _ _ s;refine wpAny_noted ?_;rw [compTurn_list];refine Aj<|wpAny_standAt<|Aj<|NQ (turn n s hI) (fun r s₁ k₁=>?_) fun _ _ z=>z
 cases r with
 | none=>exact Fy k₁
 | some v=>
  refine Aj<|NQ k₁ (fun _ t₁ k₂=>Aj<|NQ k₂ (fun _ s₂ k₃=>Aj<|NQ k₃ (fun ok s₃ k₄=>?_) fun _ _ z=>z) fun _ _ z=>z) fun _ _ z=>z
  cases ok with
  | false=>exact Fy ⟨rfl,k₄⟩
  | true=>exact Aj (Aj (NQ k₄ (fun x s₄ k₅=>Aj (NQ k₅ (fun _ s₅ k₆=>Fy (Fy ⟨rfl,k₆⟩)) fun _ _ z=>z)) fun _ _ z=>z))
section
variable {X:Cx}{scope:Scope}{x:List Str}{ix:List Nat}{elt iter tg:Expr}{ifs:List Expr}{px pos:Pos}{wi:TI}{tt:TT}{te:TE}{own:V->Hp->List V->Prop}
theorem J7 {pins:List (Addr×Obj)}{σ : St}{s₂ : AP}{H2:Hp}{it:Addr}{fp:List Addr}{tn:Nat->Heap->Prop}{J:It}{Q:VK}{E:JI->AP->Prop}{RR:JI->Addr->Result->AP->Prop}
  (hc:J.cm=true->X.calm=true) (B:j7 X scope x ix) (hg:∀ C s H fp,PG (blk X scope (jC X x ix) C s H fp) tg (Rb x.length own)) (ht:∀ C s H fp,VH (blk X scope (jC X x ix) C s H fp) ifs tt) (he:∀ C s H fp,PE (blk X scope (jC X x ix) C s H fp) elt te)
  (I2:Ac X pins σ H2 s₂) (T:Turn X.prog X.w X.K tg J fp it tn) (st2:tn 0 s₂.heap) (f2:∀ b∈fp,GC X pins H2 b) (hq:wLC x.length own ix tt te σ Q J H2)
  (hRR:∀ D C s' σ' H' p',s₂.heap.objs.size<=C->Ac (blk X scope (jC X x ix) C s₂ H2 fp) p' σ' H' s'->Q (.ref D) H'->RR (.ref D) C (.ok .next) s') :
  CR (FP X.prog X.w) X.A (newList []) (fun acc s₃=>CR (FP X.prog X.w) X.A (newFunctionEnv scope X.env.globals (Qm scope X.env) [] X.env.qual FN .none (Dn X.env)) (fun cenv s₄=>
   codeAny (FP X.prog X.w) X.A (.compStart (.ListComp elt [⟨tg,iter,ifs,0⟩] scope pos) 0 (.ref it) acc { cenv with scope:=relabel scope X.env }) (RR acc cenv.locals) s₄) E s₃) E s₂:=by
 refine O2<|aei ?_
 dsimp only;generalize hH2:s₂.heap.push { cls:=.type "list",dict:=FN,data:=.seq ([]:List JI).toArray }=HH;generalize hh1:pushCells (HH.push { cls:=.type "dict",data:=.dict #[] }) scope.names=h₁;have hns₁ : h₁.Ns HH.objs.size (fun _=>FN):=by
  obtain ⟨o,es,ep,ho,r⟩:=Heap.Ns.new HH (.type "dict");exact ⟨o,es,ep,by rw [<-hh1];exact pushCells_keeps _ _ _ _ ho,r⟩
 have hkeep:∀ b o,HH.get? b=Dn o->h₁.get? b=Dn o:=fun b o e=>by rw [<-hh1];exact pushCells_keeps _ _ _ _ (HD _ e)
 have hce:∀ y c,(y,c)∈Jj (HH.objs.size+1) scope.names []->h₁.IsCell c FN:=fun y c e=>by
  rw [<-hh1];exact (XC (h:=HH.push { cls:=.type "dict",data:=.dict #[] }) (by rw [Om];exact e)).1
 have hC:HH.objs.size=s₂.heap.objs.size+1:=by rw [<-hH2,Om]
 have hDC:s₂.heap.objs.size≠HH.objs.size:=by rw [hC];exact Jy (Nat.lt_succ_self _)
 have hCle:s₂.heap.objs.size<=HH.objs.size:=by rw [hC];exact TV _
 have old:∀ b o,s₂.heap.get? b=Dn o->h₁.get? b=Dn o:=fun b o e=>hkeep b o (hH2 ▸ HD _ e)
 have hacc:h₁.get? s₂.heap.objs.size=Dn { cls:=.type "list",data:=.seq #[] }:=hkeep _ _ (hH2 ▸ KJ _ rfl);have hob:∀ b∈fp,∃ o,s₂.heap.get? b=Dn o:=fun b hb=>let ⟨o,e,_⟩:=T.obj 0 _ st2 b hb;⟨o,e⟩
 have ok:=Wh (C:=HH.objs.size) I2 B hCle f2 hob;obtain ⟨W,⟨m0,w0⟩,turn⟩:=hq s₂.heap.objs.size (I2.hok.fresh (Gi _))
 -- the iterator's records, in the block
 have stat:∀ {H':Hp},(∀ b∈fp,H' b=FN)->∀ b∈fp,GC (blk X scope (jC X x ix) HH.objs.size s₂ H2 fp) [] H' b:=fun {H'} hn b hb=>by
  obtain ⟨o,e⟩:=hob b hb;obtain ⟨_,g1,g2,g3,g4,g5⟩:=f2 b hb;refine ⟨hn b hb,Jy<|Jl (Gy e) hCle,fun z=>?_,.inl hb,fun y c h=>?_,fun p hp=>absurd (show p∈([]:List (Addr×Obj)) from hp)<|by simp⟩
  ·rcases J9.mp (I2.stkSub b z) with q | q
   ·exact g1 q
   ·exact g2 q
  ·rcases qG I2 B h with q | q
   ·exact g4 y c q
   ·intro z;rw [z] at q;exact absurd (Jl (Gy e)<|Ii (Ii hCle<|TV _)<|G4 q)<|NK _
 have loop:∀ s₃ : AP,s₃ = { s₂ with heap:=h₁ } ->
   codeAny (FP X.prog X.w) X.A (.compLoop (.ListComp elt [⟨tg,iter,ifs,0⟩] scope pos) 0 (.ref it) (.ref s₂.heap.objs.size) (compEnvC scope (Jj (HH.objs.size+1) scope.names (Qm scope X.env)) HH.objs.size X.env))
    (RR (.ref s₂.heap.objs.size) HH.objs.size) s₃:=by
  rintro s₃ rfl;have J0:=afB (fp:=fp) (C:=HH.objs.size) (tk:=s₂.toks) I2 B ok rfl old hacc hns₁ (MK hDC) hCle hce;have fr0:∀ b∈fp,G8 H2 s₂.heap.objs.size (.lst []) b=FN:=fun b hb=>by
   obtain ⟨o,e⟩:=hob b hb;rw [aM (Jy (Gy e))];exact (f2 b hb).1
  refine zaY (fun k s'=>∃ i ys H',Ac (blk X scope (jC X x ix) HH.objs.size s₂ H2 fp) [] (Ot x.length FN++Jx ix σ) H' s'/\tn i s'.heap/\(∀ b∈fp,H' b=FN)/\H' s₂.heap.objs.size=Dn (.lst ys)/\W i k ys H') ?_ m0
   ⟨0,[],_,J0,T.keep 0 _ _ st2 (fun b _ o e=>old b o e),fr0,cj,w0⟩
  rintro n s₄ ⟨i,ys,H4,I4,st4,fr4,hD4,w4⟩;rcases turn i n ys H4 w4 hD4 with ⟨stop,qn⟩ | ⟨go,hz,step⟩
  ·refine G6 (T.done (blk X scope (jC X x ix) HH.objs.size s₂ H2 fp) rfl rfl rfl hc i [] s₄ _ H4 _ I4 (stat fr4) st4 stop) fun r s5 ⟨hr,I5⟩=>?_;subst hr;exact hRR _ _ s5 _ H4 [] hCle I5 qn
  ·refine G6 (T.item (blk X scope (jC X x ix) HH.objs.size s₂ H2 fp) rfl rfl rfl hc i [] s₄ _ H4 _ I4 (stat fr4) st4 go) fun r s5 ⟨u,hr,h5⟩=>?_;subst hr;refine NQ h5 (fun _ s6 ⟨xv,H6,I6,r6,y6,st6,fr6⟩=>?_) fun _ _ z=>z;have I6':=I6.pinned (stat fr6) (T.obj _ _ st6);obtain ⟨vs,hov,hvl,q7⟩:=step xv H6 y6;have fgt:∀ {σ9:St} {H9:Hp} {s9:AP} {p9:List (Addr×Obj)},σ9.length=x.length->Ac (blk X scope (jC X x ix) HH.objs.size s₂ H2 fp) p9 (σ9++Jx ix σ) H9 s9->Ac (blk X scope (jC X x ix) HH.objs.size s₂ H2 fp) p9 (Ot x.length FN++Jx ix σ) H9 s9:=fun {σ9 H9 s9 p9} hl I9=>
    I9.weak (by simp [hl]) fun k v e=>by
     by_cases hk:k<x.length
     ·rw [SJ (by simpa using hk),Uw,if_pos hk] at e;cases e
     ·rw [Rq (by simpa using hk),List.length_replicate] at e;rw [Rq (by rw [hl];lia),hl];exact e
   refine NQ (hg _ _ _ _ _ s6 _ H6 xv u (fun σ9 H9=>σ9=vs.map Dn++(Ot x.length (FN:Option V)++Jx ix σ).drop x.length/\H9=H6) I6' r6 ⟨vs,hov,hvl,rfl,rfl⟩) (fun _ s7 ⟨σ7,H7,I7,e7,e8⟩=>?_) fun _ _ z=>z.elim;subst e7 e8;rw [List.drop_left' (by simp)] at I7;have hml:(vs.map Dn).length=x.length:=by rw [Gg];exact hvl
   refine NQ (ht _ _ _ _ _ s7 _ H7 _ I7 q7) (fun b s8 ⟨H8,I8,q8⟩=>?_) fun _ _ z=>z.elim;have pinned:∀ {H9:Hp} {s9:AP} {σ9:St},Ac (blk X scope (jC X x ix) HH.objs.size s₂ H2 fp) ([]++zM fp s6.heap) σ9 H9 s9->tn (i+1) s9.heap/\∀ b∈fp,H9 b=FN:=fun {H9 s9 σ9} I9=>by
    refine ⟨T.keep _ _ _ st6 fun b hb o e=>(I9.pin (b,o)<|Oi _<|Oi _<|kh hb e).1,fun b hb=>?_⟩;obtain ⟨o,e,d⟩:=T.obj _ _ st6 b hb;exact (I9.pin (b,o)<|Oi _<|Oi _<|kh hb e).2.1
   cases b with
   | false=>
    rw [if_neg Ly] at q8 |-
    obtain ⟨hD8,m',hm,w8⟩:=q8;obtain ⟨t8,f8⟩:=pinned I8;exact ⟨m',hm,i+1,ys,H8,fgt hml I8.unpinned,t8,f8,hD8,w8⟩
   | true=>
    rw [if_pos rfl] at q8 |-
    refine NQ (he _ _ _ _ _ s8 _ H8 _ I8 q8) (fun u9 s9 ⟨v9,H9,I9,r9,hD9,m',hm,w9⟩=>?_) fun _ _ z=>z.elim;refine NQ (zT (X:=blk X scope (jC X x ix) HH.objs.size s₂ H2 fp) _ s9 _ H9 (.ref s₂.heap.objs.size) [v9] _ [u9] (fun _ H'=>H'=G8 H9 s₂.heap.objs.size (.lst<|ys++[v9])) I9 rfl (.cons r9 .nil) ⟨_,ys,v9,rfl,rfl,hD9,hz,rfl⟩) (fun _ s10 ⟨_,H10,I10,_,e10⟩=>?_) fun _ _ z=>z.elim;subst e10;obtain ⟨t10,f10⟩:=pinned I10;exact ⟨m',hm,i+1,ys++[v9],_,fgt hml I10.unpinned,t10,f10,cj,w9⟩
 exact codeAny_compStart_list (loop _ rfl)<|T.self _ 0 _ _ _ (T.keep 0 _ _ st2<|fun b _ o e=>old b o e)<|loop _ rfl
theorem abR (ix:List Nat)(hc:X.calm=true)(B:j7 X scope x ix)(hg:∀ C s H fp,PG (blk X scope (jC X x ix) C s H fp) tg (Rb x.length own))(hi:PI X tg iter wi)(ht:∀ C s H fp,VH (blk X scope (jC X x ix) C s H fp) ifs tt)(he:∀ C s H fp,PE (blk X scope (jC X x ix) C s H fp) elt te)
  (hs:∀ v,SM iter X.env v=pure v:=by intro _;rfl):PE X (.ListComp elt [⟨tg,iter,ifs,0⟩] scope pos) (tLC x.length own ix wi tt te):=by
 intro pins s σ H Q I h;rw [eval_ListComp];refine wpAny_comprehension_free (use:=FN) rfl hs (JV<|xU I B) B.kind (fun y hy hk=>by rw [B.names y hy,hk]) ?_;refine G6 (hi pins s σ H _ I h) fun v s1 h1=>G6 h1 fun itv s2 h2=>?_;obtain ⟨it,fp,tn,J,H2,e,I2,T,st2,f2,hq⟩:=h2;subst e;refine J7 (RR:=fun acc C=>compPost (FP X.prog X.w) X.A X.xe FN (EP X pins σ Q) acc C) (fun _=>hc) B hg ht he I2 T st2 f2 hq fun D C s' σ' H' p' hC I' q'=>?_;obtain ⟨m,hn,_⟩:=I'.loc;exact ⟨m,hn,fun h' hs'=>⟨.ref D,H',Ka I2 hC f2 I' hs',rfl,q'⟩⟩
theorem abY (ix:List Nat){i:Nat}{y:Str}{py spos:Pos}(hN:X.N.Nodup)(hi':X.N[i]?=Dn y)(hy:Loc X.env.scope y)(hc:X.calm=true)(B:j7 X scope x ix)(hg:∀ C s H fp,PG (blk X scope (jC X x ix) C s H fp) tg (Rb x.length own))(hi:PI X tg iter wi)
  (ht:∀ C s H fp,VH (blk X scope (jC X x ix) C s H fp) ifs tt) (he:∀ C s H fp,PE (blk X scope (jC X x ix) C s H fp) elt te)
  (hsw:swapsWith (.ListComp elt [⟨tg,iter,ifs,0⟩] scope pos) (Dn (.Name y py)) spos.line X.env=pure true:=by rfl)
  (hf:X.fn y=true\/X.env.scope.names.lookup y=Dn .local:=by first | exact .inl rfl | exact .inr rfl | assumption)
  (hs:∀ v,SM iter X.env v=pure v:=by intro _;rfl):PS X (.Assign [.Name y py] (.ListComp elt [⟨tg,iter,ifs,0⟩] scope pos) spos) (Ys (tLC x.length own ix wi tt te) (GP i)):=by
 intro pins s σ H D I h;rw [exec_Assign_Name_used _ _ _ _ hsw];refine Aj<|wpAny_standAt<|Aj ?_
 show CR _ X.A (do let _ <-comprehension (.ListComp elt [⟨tg,iter,ifs,0⟩] scope pos) scope X.env _ (newList []) false (eval iter X.env) (Dn (assign (.Name y py) X.env))) _ _ s;refine Aj<|NQ (wpAny_comprehension_free (use:=Dn (assign (.Name y py) X.env)) (Q:=fun _ s'=>SP X pins D .next s') rfl hs (JV<|xU I B) B.kind (fun y hy hk=>by rw [B.names y hy,hk]) ?_) (fun _ s' hq=>Fy<|Fy hq) fun _ _ e=>e
 refine G6 (hi pins s σ H _ I h) fun v s1 h1=>G6 h1 fun itv s2 h2=>?_;obtain ⟨it,fp,tn,J,H2,e,I2,T,st2,f2,hq⟩:=h2;subst e;refine J7 (RR:=fun acc C=>compPost (FP X.prog X.w) X.A X.xe (Dn<|assign (.Name y py) X.env) (fun _ s'=>SP X pins D .next s') acc C) (fun _=>hc) B hg ht he I2 T st2 f2 hq fun D' C s' σ' H' p' hC I' q'=>?_;obtain ⟨m,hn,_⟩:=I'.loc;have I3:Ac X pins σ H' s':=Ka (h':=s'.heap) I2 hC f2 I' (.refl ..);show CR _ X.A (assign (.Name y py) X.env (.ref D')) _ _ s';have cneC:∀ z c,X.env.cells.lookup z=Dn c->c≠C:=fun z c e q=>by
  obtain ⟨v,w⟩:=I2.cell z c e;exact absurd (Jl w.lt (by rw [q];exact hC))<|NK _
 have lneC:X.env.locals≠C:=Jy (Jl I2.lt hC);refine wpAny_assign_Name<|yU (v:=.ref D') I3 hN hi' hy rfl (fun s'' I'' hsb=>?_) hf
 obtain ⟨a,hsb,ha⟩:=hsb;have haC:C≠a:=by
  rcases ha with rfl | ha
  ·exact MK lneC
  ·exact MK<|cneC _ _ ha
 refine ⟨m,hn.sameBut hsb haC,fun h' hs'=>⟨_,H',?_,q'⟩⟩;refine I''.turned (it:=C) (t':=s''.toks) (fun b o hb e=>(hs'.2 b hb).trans e) I'.free (MK lneC) (.inr<|Ii I2.sz hC) cneC<|fun p hp z=>?_
 exact absurd (Jl (Gy (I2.pin p hp).1) (by rw [z];exact hC))<|NK _
end
def Sm (n:Nat)(i:Int):Prop:=i.natAbs<2^n
theorem Sm.bits {n:Nat}{i:Int}(h:Sm n i):Builtin.Int.intBits i<=n:=by
 unfold Builtin.Int.intBits;by_cases e:i=0
 ·subst e;exact Rn _
 ·have e':(i==0)=false:=beq_eq_false_iff_ne.mpr e;rw [e'];have h0:i.natAbs≠0:=by lia
  have:=(Nat.log2_lt h0).mpr h
  simp only [Te,if_false];lia
theorem Sm.mono {m n:Nat}{i:Int}(h:Sm m i)(hmn:m<=n):Sm n i:=Jl h (Nat.pow_le_pow_right (by decide) hmn)
theorem Sm.mul {m n:Nat}{i j:Int}(h:Sm m i)(h':Sm n j):Sm (m+n) (i*j):=by
 unfold Sm at *;rw [Int.natAbs_mul,Nat.pow_add];by_cases e:j.natAbs=0
 ·rw [e,Nat.mul_zero];exact Nat.mul_pos (Nat.pow_pos<|by decide)<|Nat.pow_pos<|by decide
 ·exact Jl (Nat.mul_lt_mul_of_pos_right h<|Nat.pos_of_ne_zero e)<|Nat.mul_le_mul_left _<|Nat.le_of_lt h'
theorem Sm.add {m n:Nat}{i j:Int}(h:Sm m i)(h':Sm n j):Sm (max m n+1) (i+j):=by
 have h1:=h.mono (Nat.le_max_left m n);have h2:=h'.mono (Nat.le_max_right m n);unfold Sm at *;rw [Nat.pow_succ];lia
theorem Sm.neg {n:Nat}{i:Int}(h:Sm n i):Sm n (-i):=by unfold Sm at *;rw [Int.natAbs_neg];exact h
theorem Sm.sub {m n:Nat}{i j:Int}(h:Sm m i)(h':Sm n j):Sm (max m n+1) (i - j):=by
 rw [Int.sub_eq_add_neg];exact h.add h'.neg
theorem Sm.zero {n:Nat}:Sm n 0:=Nat.pow_pos (by decide)
theorem uV {n:Nat}{i:Int}(h1:-(2^n:Int)<i)(h2:i<(2^n:Int)):Sm n i:=by
 unfold Sm;have e:((2^n:Nat):Int)=(2:Int)^n:=by simp
 lia
theorem Sm.le {n:Nat}{i j:Int}(h:Sm n i)(hj:j.natAbs<=i.natAbs):Sm n j:=SQ hj h
def cY (i j:Int):Prop:=∃ m n,m<=1000000/\n<=1000000/\Sm m i/\Sm n j
theorem cY.ok {i j:Int}(h:cY i j):IntMulOk i j:=by
 obtain ⟨m,n,hm,hn,h1,h2⟩:=h;have e:(2:Nat)^20=1048576:=by decide
 exact .of_bits (by have:=h1.bits;lia) (by have:=h2.bits;lia)
def Ej (_ j:Int):Prop:=j≠0/\∃ n,n<=8000/\Sm n j
theorem agj {n:Nat}{j:Int}(hn:n<=8000)(h:Sm n j):j.natAbs.log2<9000:=by
 by_cases e:j.natAbs=0
 ·rw [e];decide
 ·have:=(Nat.log2_lt e).mpr h
  lia
section
variable {X:Cx}
theorem agc:JC X (ML .Mult) (rI cY fun i j=>.int (i*j)):=opI fun _ _ _ _ _ _ _ hc q=>mul_int q hc.ok
theorem agl:JC X (ML .FloorDiv) (rI Ej fun i j=>.int (i.fdiv j)):=opI fun i j _ _ _ _ _ hc q=>by
 obtain ⟨h1,n,hn,h2⟩:=hc;exact floordiv_int h1 q<|.inl<|PyProof.noPylong_of_log2<|agj hn h2
theorem uD:∀ {bs:List Bool} {its:List JI} {i:Nat} {v:JI},BL (bs.map V.bl) its->its[i]?=Dn v->∃ b,bs[i]?=Dn b/\v=.bool b
 | [],_,_,_,.nil,e=>by simp at e
 | b::bs,_,0,_,.cons r _,e=>by simp at e;subst e;exact ⟨b,rfl,r⟩
 | _::bs,_,i+1,v,.cons _ t,e=>by
  obtain ⟨b,h1,h2⟩:=uD (i:=i) (v:=v) t (by simpa using e);exact ⟨b,by simpa using h1,h2⟩
theorem zaA:∀ (bs:List Bool),((M5 bs.length).all fun i=>(bs[i]?).getD true)=bs.all id:=fun bs=>by
 rw [Bool.eq_iff_iff,MP,MP];constructor
 ·intro h b hb;obtain ⟨i,hi,rfl⟩:=TJ.mp hb;have:=h i (Nj.mpr hi)
  simpa [hi] using this
 ·intro h i hi;have hi':=Nj.mp hi;have:=h bs[i] (Tv hi')
  simpa [hi'] using this
theorem zaL (hc:X.calm=true):jc X (.builtin "all") (fun xs H Q=>∃ (p:Addr) (bs:List Bool),xs=[.ref p]/\Io X.K H p (bs.map V.bl)/\Q (.bl (bs.all id)) H):=by
 intro pins s σ H xs us Q I r h;obtain ⟨p,bs,rfl,hS,q⟩:=h;obtain ⟨u,rfl,ru⟩:=vals1 r;cases ru;obtain ⟨its,rv,pl,hz⟩:=I.list hS;have hlen:its.length=bs.length:=by rw [<-rv.length,Gg]
 have hl:=pl.isList;have hlt:p<s.heap.objs.size:=by obtain ⟨_,e,_⟩:=hl;exact Gy e
 refine call_all_walk<|Tw hl ?_
 refine ⟨s.heap.objs.size,[s.heap.objs.size,p],[s.heap.objs.size],its.toArray.size,_,_,fun i=>(bs[i]?).getD true,rfl,Walks.list (A:=X.A.in1) (I.ok.hd hc) _ p (Jy hlt) its.toArray,
  ⟨⟨_,KJ _ rfl,rfl,rfl⟩,hl.push _⟩,fun i v s' Q' E' hP hQ=>?_,fun h' tk hk=>?_⟩
 ·obtain ⟨b,e,rfl⟩:=uD rv (by simpa using hP);simp only [e,Ud] at hQ;exact SN hQ
 ·have e:((M5 its.toArray.size).all fun i=>(bs[i]?).getD true)=bs.all id:=by
   rw [Iz,hlen];exact zaA bs
  rw [e];refine ⟨.bl<|bs.all id,H,I.kept (h':=h') (t':=tk)<|fun b x e=>?_,rfl,q⟩;exact hk b x (fun hm=>by rw [Lz.mp hm] at e;exact NK _ (Gy e))<|HD _ e
def acD (K:Ad)(H:Hp):V->String->Bool->Prop
 | .int _,T,b=>(T = "int"/\b=true)\/(T = "bool"/\b=false)\/(T = "tuple"/\b=false)\/(T = "list"/\b=false)
 | .bl _,T,b=>(T = "int"/\b=true)\/(T = "bool"/\b=true)\/(T = "tuple"/\b=false)\/(T = "list"/\b=false)
 | .str _,T,b=>(T = "int"/\b=false)\/(T = "bool"/\b=false)\/(T = "tuple"/\b=false)\/(T = "list"/\b=false)
 | .non,T,b=>(T = "int"/\b=false)\/(T = "bool"/\b=false)\/(T = "tuple"/\b=false)\/(T = "list"/\b=false)
 | .ref p,T,b=>(∃ xs,J4 K H p xs/\((T = "int"/\b=false)\/(T = "bool"/\b=false)\/(T = "tuple"/\b=true)\/(T = "list"/\b=false))) \/
   (∃ xs,Io K H p xs/\((T = "int"/\b=false)\/(T = "bool"/\b=false)\/(T = "tuple"/\b=false)\/(T = "list"/\b=true)))
 | _,_,_=>False
theorem zbg:jc X (.builtin "isinstance") (fun xs H Q=>∃ x T b,xs=[x,.ty T]/\acD X.K H x T b/\Q (.bl b) H):=by
 intro pins s σ H xs us Q I r h;obtain ⟨x,T,b,rfl,hi,q⟩:=h;obtain ⟨u,w',rfl,rx,ru⟩:=vals2 r;cases ru;have k0:EP X pins σ Q (.bool b) s:=⟨.bl b,H,I,rfl,q⟩
 have k1:EP X pins σ Q (.bool b) { s with toks:=s.toks+1 }:=⟨.bl b,H,I.tok _,rfl,q⟩
 cases x with
 | int i=>
  obtain ⟨t,rfl⟩:=rx;rcases hi with ⟨rfl,rfl⟩ | ⟨rfl,rfl⟩ | ⟨rfl,rfl⟩ | ⟨rfl,rfl⟩
  ·exact IsiPair.int_int k0
  ·exact IsiPair.int_bool k1
  ·exact IsiPair.int_tuple k1
  ·exact IsiPair.int_list k1
 | bl i=>
  cases rx;rcases hi with ⟨rfl,rfl⟩ | ⟨rfl,rfl⟩ | ⟨rfl,rfl⟩ | ⟨rfl,rfl⟩
  ·first | exact IsiPair.bool_int k0 | exact IsiPair.bool_int k1
  ·first | exact IsiPair.bool_bool k0 | exact IsiPair.bool_bool k1
  ·exact IsiPair.bool_tuple k1
  ·exact IsiPair.bool_list k1
 | str i=>
  obtain ⟨t,rfl⟩:=rx;rcases hi with ⟨rfl,rfl⟩ | ⟨rfl,rfl⟩ | ⟨rfl,rfl⟩ | ⟨rfl,rfl⟩
  ·exact IsiPair.str_int k1
  ·exact IsiPair.str_bool k1
  ·exact IsiPair.str_tuple k1
  ·exact IsiPair.str_list k1
 | non=>
  cases rx;rcases hi with ⟨rfl,rfl⟩ | ⟨rfl,rfl⟩ | ⟨rfl,rfl⟩ | ⟨rfl,rfl⟩
  ·exact IsiPair.NoneType_int k1
  ·exact IsiPair.NoneType_bool k1
  ·exact IsiPair.NoneType_tuple k1
  ·exact IsiPair.NoneType_list k1
 | ref p=>
  cases rx;rcases hi with ⟨xs,hS,hi⟩ | ⟨xs,hS,hi⟩
  ·obtain ⟨its,_,⟨o,e,c,_⟩,_⟩:=I.tuple hS;rcases hi with ⟨rfl,rfl⟩ | ⟨rfl,rfl⟩ | ⟨rfl,rfl⟩ | ⟨rfl,rfl⟩
   ·exact IsiPair.tuple_int e c k1
   ·exact IsiPair.tuple_bool e c k1
   ·exact IsiPair.tuple_tuple e c k0
   ·exact IsiPair.tuple_list e c k1
  ·obtain ⟨its,_,pl,_⟩:=I.list hS;obtain ⟨o,e,c,_⟩:=pl.isList;rcases hi with ⟨rfl,rfl⟩ | ⟨rfl,rfl⟩ | ⟨rfl,rfl⟩ | ⟨rfl,rfl⟩
   ·exact IsiPair.list_int e c k1
   ·exact IsiPair.list_bool e c k1
   ·exact IsiPair.list_tuple e c k1
   ·exact IsiPair.list_list e c k0
 | _=>exact (show False from hi).elim
end
inductive W where
 | non | bl (b:Bool) | int (i:Int) | str (x:Str) | ty (n:String) | tup (ws:List W) | lst (ws:List W) | loc (n:Nat) | kls (ws:List W) | exc (n:Str)
 | exa (n:Str) (ws:List W)
 | fnv (f:Addr) (i:Nat)
inductive Cell where
 | lst (ws:List W) | obj (C:Addr) (fs:List (Str×W)) | dct (kvs:List (Key×W))
 | dtt (kvs:List (List Int×W))
structure Gh where
 nx:Nat
 c:Nat->Option Cell
structure Mu where
 f:Nat->Option Addr
 hid:Addr->Prop
def adv (K:Ad)(p:Addr)(xs:List V):Prop:=
 ∃ (o:Obj) (its:Array JI) (n:Nat),K.lookup p=Dn o/\o.cls=.type "list"/\o.dict=FN/\o.data=.seq its n/\its.size<=Gn/\BL xs its.toList
def Frz (H:Hp)(μ : Mu)(p:Addr)(xs:List V):Prop:=H p=Dn (.lst xs)/\(∀ n,μ.f n≠Dn p)/\¬ μ.hid p
def Frk (K:Ad)(H:Hp)(p:Addr)(xs:List V):Prop:=(∃ o,H p=Dn (.frz o (.lst xs)))\/adv K p xs
theorem Frz.sq {K:Ad}{H:Hp}{μ : Mu}{p:Addr}{xs:List V}(h:Frz H μ p xs):Io K H p xs:=.inl (.inl h.1)
theorem Frk.sq {K:Ad}{H:Hp}{p:Addr}{xs:List V}(h:Frk K H p xs):Io K H p xs:=by
 rcases h with h | h
 ·exact .inl<|.inr h
 ·exact .inr h
def vmB:List JI:=[.type "ValueError",.type "Exception",.type "BaseException",.type "object"]
def ac3 (K:Ad)(C:Addr)(n:Str):Bool:=Lx K JG n==Dn (Dn (.ref C))&&PySem.W.typeIn K (.ref C)==Dn (.type "type")&&match PySem.W.clsIn K C with
 | some cd=>cd.name==n&&cd.mro.contains (.type "BaseException")
 | none=>false
def aaQ (K:Ad)(C:Addr)(n:Str):Bool:=ac3 K C n&&(match PySem.W.clsIn K C with
 | some cd=>(match cd.mro with
  | [.ref C',.ref R,a,b,c,d]=>C'==C&&[a,b,c,d]==vmB&&Lx K JG "EaselError"==Dn (Dn (.ref R))&&(PySem.W.clsIn K R).any (fun c=>c.name==("EaselError" : Str))
  | _=>false)
 | none=>false)&&Rt K (.ref C) "__getattribute__"==Dn (Dn (.builtin "BaseException.__getattribute__"))&&Rt K (.ref C) "__getattr__"==Dn FN&&Rt K (.ref C) "__class__"==Dn (Dn (.builtin "object.__class__"))&&PySem.W.specialIn K (.builtin "object.__class__") "__get__"==Dn (Dn (.builtin "getset_descriptor.__get__"))
 && PySem.W.takesIn K (.builtin "object.__class__")==Dn true
def acF (n:Str):List Str:=if n = "Apart" then ["word", "places"] else ["at"]
def ac4 (K:Ad)(C:Addr)(n:Str):Bool:=aaQ K C n&&PySem.W.hasDictIn K C&&(acF n).all fun f=>Rt K (.ref C) f==Dn FN
def Xoa (K:Ad)(o:Obj)(n:Str)(dd:Addr):Prop:=∃ C,o.cls=.ref C/\o.dict=Dn dd/\PySem.W.notCls o=true/\ac4 K C n=true
def Xob (K:Ad)(o:Obj)(n:Str):Prop:=∃ C,o.cls=.ref C/\o.dict=FN/\PySem.W.notCls o=true/\aaQ K C n=true
mutual
def Aa (K:Ad)(H:Hp)(μ : Mu):W->V->Prop
 | .non,v=>v=.non
 | .bl b,v=>v=.bl b
 | .int i,v=>v=.int i
 | .str x,v=>v=.str x
 | .ty n,v=>v=.ty n
 | .tup ws,v=>∃ p xs,v=.ref p/\J4 K H p xs/\aL K H μ ws xs
 | .lst ws,v=>∃ p xs,v=.ref p/\Frz H μ p xs/\aL K H μ ws xs
 | .kls ws,v=>∃ p xs,v=.ref p/\Frk K H p xs/\aL K H μ ws xs
 | .loc n,v=>∃ p,v=.ref p/\μ.f n=Dn p
 | .exc n,v=>∃ p o u,v=.ref p/\H p=Dn (.frz o u)/\Xob K o n
 | .exa n ws,v=>∃ p o u dd ns xs,v=.ref p/\H p=Dn (.frz o u)/\Xoa K o n dd/\H dd=Dn (.xd (List.zip ns xs))/\ns=acF n/\ns.length=xs.length/\aL K H μ ws xs
 | .fnv f _,v=>v=.ref f
def aL (K:Ad)(H:Hp)(μ : Mu):List W->List V->Prop
 | [],xs=>xs=[]
 | w::ws,xs=>∃ v vs,xs=v::vs/\Aa K H μ w v/\aL K H μ ws vs
end
section
variable {K:Ad}{H H' H1 H2:Hp}{μ μ' μ1 μ2:Mu}{h h':Gh}{w:W}{ws:List W}{v:V}{xs:List V}
theorem aL.len:∀ {ws:List W} {xs:List V},aL K H μ ws xs->ws.length=xs.length
 | [],xs,h=>by
  have e:xs=[]:=by rw [aL] at h;exact h
  rw [e];rfl
 | w::ws,xs,h=>by
  rw [aL] at h;obtain ⟨v,vs,e,_,h⟩:=h;rw [e,RN,RN,aL.len h]
theorem aL.get:∀ {ws:List W} {xs:List V} {i:Nat} {w:W},aL K H μ ws xs->ws[i]?=Dn w->∃ v,xs[i]?=Dn v/\Aa K H μ w v
 | [],_,_,_,_,e=>by simp at e
 | a::ws,xs,0,w,h,e=>by
  rw [aL] at h;obtain ⟨v,vs,e1,r,_⟩:=h;simp at e;subst e;subst e1;exact ⟨v,rfl,r⟩
 | a::ws,xs,i+1,w,h,e=>by
  rw [aL] at h;obtain ⟨v,vs,e1,_,h⟩:=h;subst e1;obtain ⟨u,h1,h2⟩:=aL.get (i:=i) (w:=w) h (by simpa using e);exact ⟨u,by simpa using h1,h2⟩
theorem aL.nil:aL K H μ [] []:=by rw [aL]
theorem aL.cons (r:Aa K H μ w v)(h:aL K H μ ws xs):aL K H μ (w::ws) (v::xs):=by
 rw [aL];exact ⟨v,xs,rfl,r,h⟩
theorem aL.append:∀ {ws:List W} {xs:List V} {us:List W} {ys:List V},aL K H μ ws xs->aL K H μ us ys->aL K H μ (ws++us) (xs++ys)
 | [],xs,us,ys,h,g=>by
  rw [aL] at h;subst h;exact g
 | w::ws,xs,us,ys,h,g=>by
  rw [aL] at h;obtain ⟨v,vs,e,r,h⟩:=h;subst e;exact aL.cons r<|aL.append h g
theorem aL.one (r:Aa K H μ w v):aL K H μ [w] [v]:=aL.cons r aL.nil
theorem aL.set (r:Aa K H μ w v):∀ {ws:List W} {xs:List V} (i:Nat),aL K H μ ws xs->aL K H μ (ws.set i w) (xs.set i v)
 | [],xs,i,h=>by rw [aL] at h;subst h;exact aL.nil
 | a::ws,xs,0,h=>by
  rw [aL] at h;obtain ⟨u,vs,e,_,h⟩:=h;subst e;exact aL.cons r h
 | a::ws,xs,i+1,h=>by
  rw [aL] at h;obtain ⟨u,vs,e,q,h⟩:=h;subst e;exact aL.cons q<|aL.set r i h
theorem aL.take:∀ {ws:List W} {xs:List V} (n:Nat),aL K H μ ws xs->aL K H μ (ws.take n) (xs.take n)
 | _,_,0,_=>by simp only [List.take_zero];exact aL.nil
 | [],xs,n+1,h=>by rw [aL] at h;subst h;exact aL.nil
 | a::ws,xs,n+1,h=>by
  rw [aL] at h;obtain ⟨u,vs,e,q,h⟩:=h;subst e;exact aL.cons q<|aL.take n h
theorem aL.drop:∀ {ws:List W} {xs:List V} (n:Nat),aL K H μ ws xs->aL K H μ (ws.drop n) (xs.drop n)
 | _,_,0,h=>h
 | [],xs,n+1,h=>by rw [aL] at h;subst h;exact aL.nil
 | a::ws,xs,n+1,h=>by
  rw [aL] at h;obtain ⟨u,vs,e,q,h⟩:=h;subst e;exact aL.drop n h
structure Ex0 (K:Ad) (H:Hp) (μ : Mu) (H':Hp) (μ':Mu):Prop where
 t:∀ p xs,J4 K H p xs->J4 K H' p xs
 l:∀ p xs,Frz H μ p xs->Frz H' μ' p xs
 k:∀ p xs,Frk K H p xs->Frk K H' p xs
 m:∀ n p,μ.f n=Dn p->μ'.f n=Dn p
 x:∀ p o u,H p=Dn (.frz o u)->H' p=Dn (.frz o u)
 y:∀ p fs,H p=Dn (.xd fs)->H' p=Dn (.xd fs)
structure Ex (K:Ad) (H:Hp) (μ : Mu) (H':Hp) (μ':Mu):Prop extends Ex0 K H μ H' μ' where
 o:∀ p u,μ.hid p->H p=Dn u->μ'.hid p/\H' p=Dn u
mutual
theorem Aa.ex (e:Ex0 K H μ H' μ'):∀ {w:W} {v:V},Aa K H μ w v->Aa K H' μ' w v
 | .non,_,h=>by rw [Aa] at h |-;exact h
 | .bl _,_,h=>by rw [Aa] at h |-;exact h
 | .int _,_,h=>by rw [Aa] at h |-;exact h
 | .str _,_,h=>by rw [Aa] at h |-;exact h
 | .ty _,_,h=>by rw [Aa] at h |-;exact h
 | .tup ws,_,h=>by
  rw [Aa] at h |-
  obtain ⟨p,xs,e1,hs,hr⟩:=h;exact ⟨p,xs,e1,e.t _ _ hs,aL.ex e hr⟩
 | .lst ws,_,h=>by
  rw [Aa] at h |-
  obtain ⟨p,xs,e1,hs,hr⟩:=h;exact ⟨p,xs,e1,e.l _ _ hs,aL.ex e hr⟩
 | .kls ws,_,h=>by
  rw [Aa] at h |-
  obtain ⟨p,xs,e1,hs,hr⟩:=h;exact ⟨p,xs,e1,e.k _ _ hs,aL.ex e hr⟩
 | .loc n,_,h=>by
  rw [Aa] at h |-
  obtain ⟨p,e1,hm⟩:=h;exact ⟨p,e1,e.m _ _ hm⟩
 | .exc n,_,h=>by
  rw [Aa] at h |-
  obtain ⟨p,o,u,e1,hm,hx⟩:=h;exact ⟨p,o,u,e1,e.x _ _ _ hm,hx⟩
 | .exa n ws,_,h=>by
  rw [Aa] at h |-
  obtain ⟨p,o,u,dd,ns,xs,e1,hm,hx,hd,e2,e3,hr⟩:=h;exact ⟨p,o,u,dd,ns,xs,e1,e.x _ _ _ hm,hx,e.y _ _ hd,e2,e3,aL.ex e hr⟩
 | .fnv _ _,_,h=>by rw [Aa] at h |-;exact h
theorem aL.ex (e:Ex0 K H μ H' μ'):∀ {ws:List W} {xs:List V},aL K H μ ws xs->aL K H' μ' ws xs
 | [],_,h=>by rw [aL] at h |-;exact h
 | w::ws,_,h=>by
  rw [aL] at h |-
  obtain ⟨v,vs,e1,r,h⟩:=h;exact ⟨v,vs,e1,Aa.ex e r,aL.ex e h⟩
end
structure Ie (K:Ad) (H:Hp) (μ : Mu) (H':Hp) (μ':Mu):Prop where
 r:∀ w v,Aa K H μ w v->Aa K H' μ' w v
 o:∀ p u,μ.hid p->H p=Dn u->μ'.hid p/\H' p=Dn u
theorem Ie.refl:Ie K H μ H μ:=⟨fun _ _ h=>h,fun _ _ h g=>⟨h,g⟩⟩
theorem Ie.trans (a:Ie K H μ H1 μ1)(b:Ie K H1 μ1 H2 μ2):Ie K H μ H2 μ2:=
 ⟨fun w v h=>b.r w v (a.r w v h),fun p u h g=>let ⟨h1,g1⟩:=a.o p u h g;b.o p u h1 g1⟩
theorem Ex.ext (e:Ex K H μ H' μ'):Ie K H μ H' μ':=⟨fun _ _ h=>Aa.ex e.toEx0 h,e.o⟩
theorem Ie.s (e:Ie K H μ H' μ'):∀ {ws:List W} {xs:List V},aL K H μ ws xs->aL K H' μ' ws xs
 | [],_,h=>by rw [aL] at h |-;exact h
 | w::ws,_,h=>by
  rw [aL] at h |-
  obtain ⟨v,vs,e1,r,h⟩:=h;exact ⟨v,vs,e1,e.r _ _ r,Ie.s e h⟩
def aaj:Option HO->Prop
 | some (.lst _)=>True
 | some (.dK _)=>True
 | some (.ins _ _ _)=>True
 | some (.ext _)=>True
 | _=>False
def Wx {κ : Type}(K:Ad)(H:Hp)(μ : Mu):List (κ×W)->List (κ×V)->Prop:=Sq fun (p:κ×W) (q:κ×V)=>p.1=q.1/\Aa K H μ p.2 q.2
def adC (x:List Int×Addr×JI):DictEntry:=⟨reduceHash (Builtin.Tuple.tupleHashOf (x.1.map hashInt)),.ref x.2.1,x.2.2⟩
def adR (a:Addr)(xs:List (List Int×Addr×JI))(h:Heap):Prop:=xs.length<=Gn/\(a==sysModules)=false/\(xs.map (·.1)).Nodup/\∃ o es ep,h.get? a=Dn o/\o.ExactDict/\o.data=.dict es ep/\es.toList=xs.map adC
def vJ (K:Ad)(H:Hp)(μ : Mu)(p:Addr):Cell->Prop
 | .lst ws=>∃ xs,H p=Dn (.lst xs)/\aL K H μ ws xs
 | .obj C fs=>∃ dx fvs,H p=Dn (.ins C dx fvs)/\Wx K H μ fs fvs
 | .dct kvs=>∃ kvv,H p=Dn (.dK kvv)/\Wx K H μ kvs kvv
 | .dtt kvs=>∃ xs vs,H p=Dn (.ext (adR p xs))/\kvs.map (·.1)=xs.map (·.1)/\BL vs (xs.map (·.2.2))/\aL K H μ (kvs.map fun x=>W.tup (x.1.map W.int)) (xs.map fun x=>V.ref x.2.1)/\aL K H μ (kvs.map (·.2)) vs
structure Fv (K:Ad) (μ : Mu) (H:Hp) (h:Gh):Prop where
 inj:∀ m n p,μ.f m=Dn p->μ.f n=Dn p->m=n
 dom:∀ n p,μ.f n=Dn p->n<h.nx
 trk:∀ n p,μ.f n=Dn p->aaj (H p)
 cel:∀ n c,h.c n=Dn c->∃ p,μ.f n=Dn p/\vJ K H μ p c
 hd:∀ p,μ.hid p->(∃ xs,H p=Dn (.lst xs))/\∀ n,μ.f n≠Dn p
theorem vJ.ext {p:Addr}{c:Cell}(e:Ie K H μ H' μ')(hp:H' p=H p)(x:vJ K H μ p c):vJ K H' μ' p c:=by
 cases c with
 | lst ws=>obtain ⟨xs,a,b⟩:=x;exact ⟨xs,hp.trans a,e.s b⟩
 | obj C fs=>obtain ⟨dx,fvs,a,b⟩:=x;exact ⟨dx,fvs,hp.trans a,Paired.mapP b fun _ _ z=>⟨z.1,e.r _ _ z.2⟩⟩
 | dct kvs=>obtain ⟨kvv,a,b⟩:=x;exact ⟨kvv,hp.trans a,Paired.mapP b fun _ _ z=>⟨z.1,e.r _ _ z.2⟩⟩
 | dtt kvs=>obtain ⟨xs,vs,a,b,c,d,f⟩:=x;exact ⟨xs,vs,hp.trans a,b,c,e.s d,e.s f⟩
theorem Rd.laid {p q:Addr}{o u:HO}(hp:H p=FN)(r:Rd H q u):Rd (G8 H p o) q u:=by
 have ne:q≠p:=by
  rcases r with r | ⟨_,r⟩
  ·exact aQ r hp
  ·exact aQ r hp
 unfold Rd;rw [aM ne];exact r
theorem Ex.laid {p:Addr}{o:HO}(hp:H p=FN):Ex K H μ (G8 H p o) μ where
 t:=fun q xs h=>by
  rcases h with h | h
  ·exact .inl<|h.laid hp
  ·exact .inr h
 l:=fun q xs h=>⟨by rw [aM (aQ h.1 hp)];exact h.1,h.2⟩
 k:=fun q xs h=>by
  rcases h with ⟨o',h⟩ | h
  ·exact .inl ⟨o',by rw [aM<|aQ h hp];exact h⟩
  ·exact .inr h
 m:=fun _ _ h=>h
 x:=fun q o' u e=>by rw [aM (aQ e hp)];exact e
 y:=fun q fs e=>by rw [aM (aQ e hp)];exact e
 o:=fun q u z e=>⟨z,by rw [aM (aQ e hp)];exact e⟩
theorem Fv.laid {p:Addr}{o:HO}(R:Fv K μ H h)(hp:H p=FN):Fv K μ (G8 H p o) h where
 inj:=R.inj
 dom:=R.dom
 trk:=fun n q e=>by
  have:=R.trk n q e
  have ne:q≠p:=fun z=>by subst z;rw [hp] at this;exact this
  rw [aM ne];exact this
 cel:=fun n c e=>by
  obtain ⟨q,e1,x⟩:=R.cel n c e;have:=R.trk n q e1
  have ne:q≠p:=fun z=>by subst z;rw [hp] at this;exact this
  exact ⟨q,e1,x.ext (Ex.laid hp).ext (aM ne)⟩
 hd:=fun q z=>by
  obtain ⟨⟨xs,e⟩,g⟩:=R.hd q z;exact ⟨⟨xs,by rw [aM<|aQ e hp];exact e⟩,g⟩
theorem Aa.tupNew {p:Addr}(hp:H p=FN)(r:aL K H μ ws xs):Aa K (G8 H p (.tup xs)) μ (.tup ws) (.ref p):=by
 rw [Aa];exact ⟨p,xs,rfl,J4.of cj,(Ex.laid hp).ext.s r⟩
theorem Aa.lstNew {p:Addr}(R:Fv K μ H h)(hp:H p=FN)(r:aL K H μ ws xs):Aa K (G8 H p (.lst xs)) μ (.lst ws) (.ref p):=by
 rw [Aa];refine ⟨p,xs,rfl,⟨cj,fun n e=>?_,fun z=>?_⟩,(Ex.laid hp).ext.s r⟩
 ·have:=R.trk n p e
  rw [hp] at this;exact this
 ·obtain ⟨⟨xs,e⟩,_⟩:=R.hd p z;rw [hp] at e;cases e
def Mu.put (μ : Mu)(n:Nat)(p:Addr):Mu:=⟨fun m=>if m=n then Dn p else μ.f m,μ.hid⟩
theorem Mu.put_same {n:Nat}{p:Addr}:(μ.put n p).f n=Dn p:=by show (if n=n then Dn p else μ.f n)=_;rw [if_pos rfl]
theorem Mu.put_ne {m n:Nat}{p:Addr}(e:m≠n):(μ.put n p).f m = μ.f m:=by show (if m=n then Dn p else μ.f m)=_;rw [if_neg e]
def Gh.new (h:Gh)(c:Cell):Gh:=⟨h.nx+1,fun m=>if m=h.nx then Dn c else h.c m⟩
def Gh.set (h:Gh)(n:Nat)(c:Cell):Gh:=⟨h.nx,fun m=>if m=n then Dn c else h.c m⟩
theorem Fv.dead (R:Fv K μ H h){n:Nat}(hn:h.nx<=n):μ.f n=FN:=by
 cases e:μ.f n with
 | none=>rfl
 | some p=>exact absurd (R.dom n p e) (by lia)
theorem Ex.newCell {p:Addr}{o:HO}(R:Fv K μ H h)(hp:H p=FN):Ex K H μ (G8 H p o) (μ.put h.nx p) where
 t:=fun q xs z=>(Ex.laid (μ:=μ) hp).t q xs z
 l:=fun q xs z=>by
  have nq:=aQ z.1 hp;refine ⟨by rw [aM nq];exact z.1,fun n e=>?_,z.2.2⟩;by_cases hn:n=h.nx
  ·subst hn;rw [Mu.put_same] at e;exact nq (Hz e).symm
  ·rw [Mu.put_ne hn] at e;exact z.2.1 n e
 k:=fun q xs z=>(Ex.laid (μ:=μ) hp).k q xs z
 m:=fun n q e=>by
  have hn:n≠h.nx:=fun z=>by subst z;rw [R.dead (Gi _)] at e;cases e
  rw [Mu.put_ne hn];exact e
 x:=fun q o' u e=>by rw [aM (aQ e hp)];exact e
 y:=fun q fs e=>by rw [aM (aQ e hp)];exact e
 o:=fun q u z e=>⟨z,by rw [aM (aQ e hp)];exact e⟩
theorem Fv.newCell {p:Addr}{o:HO}{c:Cell}(R:Fv K μ H h)(hp:H p=FN)(mo:aaj (Dn o))(ck:vJ K (G8 H p o) (μ.put h.nx p) p c):Fv K (μ.put h.nx p) (G8 H p o) (h.new c) where
 inj:=fun m n q em en=>by
  by_cases hm:m=h.nx
  ·by_cases hn:n=h.nx
   ·rw [hm,hn]
   ·rw [hm,Mu.put_same] at em;rw [Mu.put_ne hn] at en;have e:p=q:=Hz em;subst e;have:=R.trk n _ en
    rw [hp] at this;exact this.elim
  ·rw [Mu.put_ne hm] at em;by_cases hn:n=h.nx
   ·rw [hn,Mu.put_same] at en;have e:p=q:=Hz en;subst e;have:=R.trk m _ em
    rw [hp] at this;exact this.elim
   ·rw [Mu.put_ne hn] at en;exact R.inj m n q em en
 dom:=fun n q e=>by
  show n<h.nx+1;by_cases hn:n=h.nx
  ·lia
  ·rw [Mu.put_ne hn] at e;have:=R.dom n q e
   lia
 trk:=fun n q e=>by
  by_cases hn:n=h.nx
  ·rw [hn,Mu.put_same] at e;have e:p=q:=Hz e;subst e;rw [cj];exact mo
  ·rw [Mu.put_ne hn] at e;have:=R.trk n q e
   have ne:q≠p:=fun z=>by subst z;rw [hp] at this;exact this
   rw [aM ne];exact this
 cel:=fun n d e=>by
  have e:(if n=h.nx then Dn c else h.c n)=Dn d:=e;by_cases hn:n=h.nx
  ·rw [if_pos hn] at e;have e:c=d:=Hz e;subst e;exact ⟨p,by rw [hn,Mu.put_same],ck⟩
  ·rw [if_neg hn] at e;obtain ⟨q,e1,x⟩:=R.cel n d e;have:=R.trk n q e1
   have ne:q≠p:=fun z=>by subst z;rw [hp] at this;exact this
   exact ⟨q,by rw [Mu.put_ne hn];exact e1,x.ext (Ex.newCell R hp).ext (aM ne)⟩
 hd:=fun q z=>by
  obtain ⟨⟨xs,e⟩,g⟩:=R.hd q z;have ne:=aQ e hp;refine ⟨⟨xs,by rw [aM ne];exact e⟩,fun n en=>?_⟩;by_cases hn:n=h.nx
  ·rw [hn,Mu.put_same] at en;exact ne (Hz en).symm
  ·rw [Mu.put_ne hn] at en;exact g n en
theorem Rd.kept {p q:Addr}{o u:HO}(mo:aaj (H p))(r:Rd H q u)(hn:q≠p):Rd (G8 H p o) q u:=by
 unfold Rd;rw [aM hn];exact r
theorem Ex.write {n:Nat}{p:Addr}{o:HO}(R:Fv K μ H h)(hn:μ.f n=Dn p):Ex K H μ (G8 H p o) μ where
 t:=fun q xs z=>by
  rcases z with z | z
  ·refine .inl<|z.kept (R.trk n p hn) fun e=>?_
   subst e;have:=R.trk n q hn
   rcases z with r | ⟨_,r⟩ <;> rw [r] at this <;> exact this
  ·exact .inr z
 l:=fun q xs z=>⟨by rw [aM (fun e=>z.2.1 n (by rw [e];exact hn))];exact z.1,z.2⟩
 k:=fun q xs z=>by
  rcases z with ⟨o',z⟩ | z
  ·refine .inl ⟨o',?_⟩;rw [aM (fun e=>?_)]
   ·exact z
   ·subst e;have:=R.trk n q hn
    rw [z] at this;exact this
  ·exact .inr z
 m:=fun _ _ e=>e
 x:=fun q o' u e=>by
  rw [aM (fun y=>?_)]
  ·exact e
  ·subst y;have:=R.trk n q hn
   rw [e] at this;exact this
 y:=fun q fs e=>by
  rw [aM (fun y=>?_)]
  ·exact e
  ·subst y;have:=R.trk n q hn
   rw [e] at this;exact this
 o:=fun q u z e=>⟨z,by rw [aM (fun y=>(R.hd q z).2 n (by rw [y];exact hn))];exact e⟩
theorem Fv.write {n:Nat}{p:Addr}{o:HO}{c:Cell}(R:Fv K μ H h)(hn:μ.f n=Dn p)(mo:aaj (Dn o))(ck:vJ K (G8 H p o) μ p c):Fv K μ (G8 H p o) (h.set n c) where
 inj:=R.inj
 dom:=R.dom
 trk:=fun m q e=>by
  by_cases z:q=p
  ·subst z;rw [cj];exact mo
  ·rw [aM z];exact R.trk m q e
 cel:=fun m d e=>by
  have e:(if m=n then Dn c else h.c m)=Dn d:=e;by_cases hm:m=n
  ·rw [if_pos hm] at e;have e:c=d:=Hz e;subst e;exact ⟨p,by rw [hm];exact hn,ck⟩
  ·rw [if_neg hm] at e;obtain ⟨q,e1,x⟩:=R.cel m d e;have ne:q≠p:=fun z=>by subst z;exact hm (R.inj m n q e1 hn)
   exact ⟨q,e1,x.ext (Ex.write R hn).ext (aM ne)⟩
 hd:=fun q z=>by
  obtain ⟨⟨xs,e⟩,g⟩:=R.hd q z;exact ⟨⟨xs,by rw [aM<|fun y=>g n (by rw [y];exact hn)];exact e⟩,g⟩
mutual
def Lo (k:Nat):W->Prop
 | .tup ws=>K3 k ws
 | .lst ws=>K3 k ws
 | .kls ws=>K3 k ws
 | .exa _ ws=>K3 k ws
 | .loc n=>n<k
 | _=>True
def K3 (k:Nat):List W->Prop
 | []=>True
 | w::ws=>Lo k w/\K3 k ws
end
mutual
theorem Aa.lo {k:Nat}(hd:∀ n p,μ.f n=Dn p->n<k):∀ {w:W} {v:V},Aa K H μ w v->Lo k w
 | .non,_,_=>by rw [Lo] <;> first | trivial | (intros;contradiction)
 | .bl _,_,_=>by rw [Lo] <;> first | trivial | (intros;contradiction)
 | .int _,_,_=>by rw [Lo] <;> first | trivial | (intros;contradiction)
 | .str _,_,_=>by rw [Lo] <;> first | trivial | (intros;contradiction)
 | .ty _,_,_=>by rw [Lo] <;> first | trivial | (intros;contradiction)
 | .exc _,_,_=>by rw [Lo] <;> first | trivial | (intros;contradiction)
 | .fnv _ _,_,_=>by rw [Lo] <;> first | trivial | (intros;contradiction)
 | .exa _ ws,_,h=>by
  rw [Aa] at h;obtain ⟨_,_,_,_,_,_,_,_,_,_,_,_,hr⟩:=h;rw [Lo];exact aL.lo hd hr
 | .tup ws,_,h=>by
  rw [Aa] at h;obtain ⟨p,xs,_,_,hr⟩:=h;rw [Lo];exact aL.lo hd hr
 | .lst ws,_,h=>by
  rw [Aa] at h;obtain ⟨p,xs,_,_,hr⟩:=h;rw [Lo];exact aL.lo hd hr
 | .kls ws,_,h=>by
  rw [Aa] at h;obtain ⟨p,xs,_,_,hr⟩:=h;rw [Lo];exact aL.lo hd hr
 | .loc n,_,h=>by
  rw [Aa] at h;obtain ⟨p,_,hm⟩:=h;rw [Lo];exact hd n p hm
theorem aL.lo {k:Nat}(hd:∀ n p,μ.f n=Dn p->n<k):∀ {ws:List W} {xs:List V},aL K H μ ws xs->K3 k ws
 | [],_,_=>by rw [K3];trivial
 | w::ws,_,h=>by
  rw [aL] at h;obtain ⟨v,vs,_,r,h⟩:=h;rw [K3];exact ⟨Aa.lo hd r,aL.lo hd h⟩
end
def Mu.cut (μ : Mu)(k:Nat):Mu:=⟨fun n=>if n<k then μ.f n else FN,μ.hid⟩
theorem Mu.cut_some {k n:Nat}{p:Addr}(e:(μ.cut k).f n=Dn p):n<k/\μ.f n=Dn p:=by
 have e:(if n<k then μ.f n else FN)=Dn p:=e;by_cases hn:n<k
 ·rw [if_pos hn] at e;exact ⟨hn,e⟩
 ·rw [if_neg hn] at e;cases e
mutual
theorem Aa.cut {k:Nat}:∀ {w:W} {v:V},Aa K H μ w v->Lo k w->Aa K H (μ.cut k) w v
 | .non,_,h,_=>by rw [Aa] at h |-;exact h
 | .bl _,_,h,_=>by rw [Aa] at h |-;exact h
 | .int _,_,h,_=>by rw [Aa] at h |-;exact h
 | .str _,_,h,_=>by rw [Aa] at h |-;exact h
 | .ty _,_,h,_=>by rw [Aa] at h |-;exact h
 | .exc _,_,h,_=>by rw [Aa] at h |-;exact h
 | .fnv _ _,_,h,_=>by rw [Aa] at h |-;exact h
 | .exa _ ws,_,h,l=>by
  rw [Aa] at h |-
  rw [Lo] at l;obtain ⟨p,o,u,dd,ns,xs,e1,hm,hx,hd,e2,e3,hr⟩:=h;exact ⟨p,o,u,dd,ns,xs,e1,hm,hx,hd,e2,e3,aL.cut hr l⟩
 | .tup ws,_,h,l=>by
  rw [Aa] at h |-
  rw [Lo] at l;obtain ⟨p,xs,e1,hs,hr⟩:=h;exact ⟨p,xs,e1,hs,aL.cut hr l⟩
 | .lst ws,_,h,l=>by
  rw [Aa] at h |-
  rw [Lo] at l;obtain ⟨p,xs,e1,hs,hr⟩:=h;exact ⟨p,xs,e1,⟨hs.1,fun n e=>hs.2.1 n (Mu.cut_some e).2,hs.2.2⟩,aL.cut hr l⟩
 | .kls ws,_,h,l=>by
  rw [Aa] at h |-
  rw [Lo] at l;obtain ⟨p,xs,e1,hs,hr⟩:=h;exact ⟨p,xs,e1,hs,aL.cut hr l⟩
 | .loc n,_,h,l=>by
  rw [Aa] at h |-
  rw [Lo] at l;obtain ⟨p,e1,hm⟩:=h;refine ⟨p,e1,?_⟩;show (if n<k then μ.f n else FN)=Dn p;rw [if_pos l];exact hm
theorem aL.cut {k:Nat}:∀ {ws:List W} {xs:List V},aL K H μ ws xs->K3 k ws->aL K H (μ.cut k) ws xs
 | [],_,h,_=>by rw [aL] at h |-;exact h
 | w::ws,_,h,l=>by
  rw [aL] at h |-
  rw [K3] at l;obtain ⟨v,vs,e1,r,h⟩:=h;exact ⟨v,vs,e1,Aa.cut r l.1,aL.cut h l.2⟩
end
end
section
variable {K:Ad}{H H' H1 H2:Hp}{μ μ' μ1 μ2:Mu}{h h':Gh}{w:W}{ws:List W}{v:V}{xs ys:List V}{p:Addr}
def Mu.hide (μ : Mu)(p:Addr):Mu:=⟨μ.f,fun q=>q=p\/μ.hid q⟩
def Mu.unhide (μ : Mu)(p:Addr):Mu:=⟨μ.f,fun q=>q≠p/\μ.hid q⟩
structure VG (p:Addr) (K:Ad) (H:Hp) (μ : Mu) (H':Hp) (μ':Mu):Prop where
 r:∀ w v,Aa K H μ w v->Aa K H' μ' w v
 o:∀ q u,q≠p->μ.hid q->H q=Dn u->μ'.hid q/\H' q=Dn u
theorem Ie.x (a:Ie K H μ H1 μ1)(hp:¬ μ.hid p)(b:VG p K H1 μ1 H2 μ2):Ie K H μ H2 μ2:=
 ⟨fun w v z=>b.r w v (a.r w v z),fun q u z e=>let ⟨z1,e1⟩:=a.o q u z e;b.o q u (fun y=>hp (by rw [<-y];exact z)) z1 e1⟩
theorem Ie.hide {o:HO}(hp:H p=FN):Ie K H μ (G8 H p o) (μ.hide p):=Ex.ext {
 t:=fun q xs z=>(Ex.laid (μ:=μ) hp).t q xs z
 l:=fun q xs z=>by
  have nq:=aQ z.1 hp;refine ⟨by rw [aM nq];exact z.1,z.2.1,fun y=>?_⟩;rcases y with y | y
  ·exact nq y
  ·exact z.2.2 y
 k:=fun q xs z=>(Ex.laid (μ:=μ) hp).k q xs z
 m:=fun _ _ e=>e
 x:=fun q o' u e=>by rw [aM (aQ e hp)];exact e
 y:=fun q fs e=>by rw [aM (aQ e hp)];exact e
 o:=fun q u z e=>⟨.inr z,by rw [aM (aQ e hp)];exact e⟩ }
theorem Fv.nohid (R:Fv K μ H h)(hp:H p=FN):¬ μ.hid p:=fun z=>by
 obtain ⟨⟨xs,e⟩,_⟩:=R.hd p z;rw [hp] at e;cases e
theorem Fv.hide (R:Fv K μ H h)(hp:H p=FN):Fv K (μ.hide p) (G8 H p (.lst xs)) h where
 inj:=R.inj
 dom:=R.dom
 trk:=(R.laid hp).trk
 cel:=fun n c e=>by
  obtain ⟨q,e1,x⟩:=R.cel n c e;have:=R.trk n q e1
  have ne:q≠p:=fun z=>by subst z;rw [hp] at this;exact this
  exact ⟨q,e1,x.ext (Ie.hide hp)<|aM ne⟩
 hd:=fun q z=>by
  rcases z with z | z
  ·subst z;refine ⟨⟨xs,cj⟩,fun n e=>?_⟩;have:=R.trk n q e
   rw [hp] at this;exact this
  ·exact (R.laid (o:=.lst xs) hp).hd q z
theorem Ex0.grow (R:Fv K μ H h)(hp:μ.hid p):Ex0 K H μ (G8 H p (.lst ys)) μ where
 t:=fun q xs z=>by
  rcases z with z | z
  ·refine .inl ?_;unfold Rd;rw [aM (fun y=>?_)]
   ·exact z
   ·subst y;obtain ⟨⟨xs',e⟩,_⟩:=R.hd q hp;rcases z with r | ⟨_,r⟩ <;> rw [e] at r <;> cases r
  ·exact .inr z
 l:=fun q xs z=>⟨by rw [aM (fun y=>z.2.2 (by rw [y];exact hp))];exact z.1,z.2⟩
 k:=fun q xs z=>by
  rcases z with ⟨o',z⟩ | z
  ·refine .inl ⟨o',?_⟩;rw [aM (fun y=>?_)]
   ·exact z
   ·subst y;obtain ⟨⟨xs',e⟩,_⟩:=R.hd q hp;rw [e] at z;cases z
  ·exact .inr z
 m:=fun _ _ e=>e
 x:=fun q o' u e=>by
  rw [aM (fun y=>?_)]
  ·exact e
  ·subst y;obtain ⟨⟨xs',e'⟩,_⟩:=R.hd q hp;rw [e'] at e;cases e
 y:=fun q fs e=>by
  rw [aM (fun y=>?_)]
  ·exact e
  ·subst y;obtain ⟨⟨xs',e'⟩,_⟩:=R.hd q hp;rw [e'] at e;cases e
theorem VG.grow (R:Fv K μ H h)(hp:μ.hid p):VG p K H μ (G8 H p (.lst ys)) μ:=
 ⟨fun _ _ z=>Aa.ex (Ex0.grow R hp) z,fun q u ne z e=>⟨z,by rw [aM ne];exact e⟩⟩
theorem Fv.grow (R:Fv K μ H h)(hp:μ.hid p):Fv K μ (G8 H p (.lst ys)) h where
 inj:=R.inj
 dom:=R.dom
 trk:=fun n q e=>by
  have ne:q≠p:=fun z=>(R.hd p hp).2 n (by rw [<-z];exact e)
  rw [aM ne];exact R.trk n q e
 cel:=fun n c e=>by
  obtain ⟨q,e1,x⟩:=R.cel n c e;have ne:q≠p:=fun z=>(R.hd p hp).2 n (by rw [<-z];exact e1)
  refine ⟨q,e1,?_⟩;cases c with
  | lst ws=>obtain ⟨xs,a,b⟩:=x;exact ⟨xs,(aM ne).trans a,aL.ex (Ex0.grow R hp) b⟩
  | obj C fs=>obtain ⟨dx,fvs,a,b⟩:=x;exact ⟨dx,fvs,(aM ne).trans a,Paired.mapP b fun _ _ z=>⟨z.1,Aa.ex (Ex0.grow R hp) z.2⟩⟩
  | dct kvs=>obtain ⟨kvv,a,b⟩:=x;exact ⟨kvv,(aM ne).trans a,Paired.mapP b fun _ _ z=>⟨z.1,Aa.ex (Ex0.grow R hp) z.2⟩⟩
  | dtt kvs=>obtain ⟨xs,vs,a,b,c,d,f⟩:=x;exact ⟨xs,vs,(aM ne).trans a,b,c,aL.ex (Ex0.grow R hp) d,aL.ex (Ex0.grow R hp) f⟩
 hd:=fun q z=>by
  by_cases e:q=p
  ·subst e;exact ⟨⟨ys,cj⟩,(R.hd q hp).2⟩
  ·rw [aM e];exact R.hd q z
theorem Ex0.unhide:Ex0 K H μ H (μ.unhide p) where
 t:=fun _ _ z=>z
 l:=fun q xs z=>⟨z.1,z.2.1,fun y=>z.2.2 y.2⟩
 k:=fun _ _ z=>z
 m:=fun _ _ e=>e
 x:=fun _ _ _ e=>e
 y:=fun _ _ e=>e
theorem VG.unhide:VG p K H μ H (μ.unhide p):=⟨fun _ _ z=>Aa.ex Ex0.unhide z,fun q u ne z e=>⟨⟨ne,z⟩,e⟩⟩
theorem Fv.unhide (R:Fv K μ H h):Fv K (μ.unhide p) H h where
 inj:=R.inj
 dom:=R.dom
 trk:=R.trk
 cel:=fun n c e=>by
  obtain ⟨q,e1,x⟩:=R.cel n c e;refine ⟨q,e1,?_⟩;cases c with
  | lst ws=>obtain ⟨xs,a,b⟩:=x;exact ⟨xs,a,aL.ex Ex0.unhide b⟩
  | obj C fs=>obtain ⟨dx,fvs,a,b⟩:=x;exact ⟨dx,fvs,a,Paired.mapP b fun _ _ z=>⟨z.1,Aa.ex Ex0.unhide z.2⟩⟩
  | dct kvs=>obtain ⟨kvv,a,b⟩:=x;exact ⟨kvv,a,Paired.mapP b fun _ _ z=>⟨z.1,Aa.ex Ex0.unhide z.2⟩⟩
  | dtt kvs=>obtain ⟨xs,vs,a,b,c,d,f⟩:=x;exact ⟨xs,vs,a,b,c,aL.ex Ex0.unhide d,aL.ex Ex0.unhide f⟩
 hd:=fun q z=>R.hd q z.2
theorem Aa.built (R:Fv K μ H h)(hp:μ.hid p)(e:H p=Dn (.lst xs))(r:aL K H μ ws xs):Aa K H (μ.unhide p) (.lst ws) (.ref p):=by
 rw [Aa];exact ⟨p,xs,rfl,⟨e,(R.hd p hp).2,fun z=>z.1 rfl⟩,aL.ex Ex0.unhide r⟩
end
abbrev Sw:=List (Option W)
abbrev WK:=W->Gh->Prop
abbrev ME:=Sw->Gh->WK->Prop
abbrev MT:=Sw->Gh->(Bool->Gh->Prop)->Prop
abbrev MA:=Sw->Gh->(List W->Gh->Prop)->Prop
structure bT where
 nx:Sw->Gh->Prop
 rt:WK
 bk:Sw->Gh->Prop:=fun _ _=>False
 ct:Sw->Gh->Prop:=fun _ _=>False
abbrev MS:=bT->Sw->Gh->Prop
abbrev MG:=W->Sw->Gh->(Sw->Gh->Prop)->Prop
abbrev Np:=List W->Sw->Gh->(Sw->Gh->Prop)->Prop
structure Xw where
 cls:Str
 fs:List (Str×W)
abbrev BK:=Xw->Gh->Prop
abbrev kI:=List W->Gh->WK->BK->Prop
def EF:BK:=fun _ _=>False
structure Slots (K:Ad) (H:Hp) (μ : Mu) (σw:Sw) (σ : St):Prop where
 len:σw.length = σ.length
 get:∀ (i:Nat) (w:W),σw[i]?=Dn (Dn w)->∃ v,σ[i]?=Dn (Dn v)/\Aa K H μ w v
inductive DQ (K:Ad) (H:Hp) (μ : Mu) (Q:WK) (v:V) (H':Hp):Prop where
 | mk (μ':Mu) (w:W) (h':Gh) (e:Ie K H μ H' μ') (R:Fv K μ' H' h') (r:Aa K H' μ' w v) (q:Q w h'):DQ K H μ Q v H'
inductive DB (K:Ad) (H:Hp) (μ : Mu) (Q:Bool->Gh->Prop) (b:Bool) (H':Hp):Prop where
 | mk (μ':Mu) (h':Gh) (e:Ie K H μ H' μ') (R:Fv K μ' H' h') (q:Q b h'):DB K H μ Q b H'
inductive DA (K:Ad) (H:Hp) (μ : Mu) (Q:List W->Gh->Prop) (vs:List V) (H':Hp):Prop where
 | mk (μ':Mu) (ws:List W) (h':Gh) (e:Ie K H μ H' μ') (R:Fv K μ' H' h') (r:aL K H' μ' ws vs) (q:Q ws h'):DA K H μ Q vs H'
inductive DN (K:Ad) (H:Hp) (μ : Mu) (N:Sw->Gh->Prop) (σ':St) (H':Hp):Prop where
 | mk (μ':Mu) (σw':Sw) (h':Gh) (e:Ie K H μ H' μ') (R:Fv K μ' H' h') (S:Slots K H' μ' σw' σ') (q:N σw' h'):DN K H μ N σ' H'
section
variable {K:Ad}{H H' H1 H2:Hp}{μ μ' μ1 μ2:Mu}{h h' h1:Gh}{w:W}{v:V}{σ : St}{σw:Sw}
theorem Slots.ext (S:Slots K H μ σw σ)(e:Ie K H μ H' μ'):Slots K H' μ' σw σ:=⟨S.len,fun i w q=>let ⟨v,a,b⟩:=S.get i w q;⟨v,a,e.r _ _ b⟩⟩
theorem Slots.set (S:Slots K H μ σw σ)(r:Aa K H μ w v)(i:Nat):Slots K H μ (σw.set i (Dn w)) (σ.set i (Dn v)):=by
 refine ⟨by rw [List.length_set,List.length_set,S.len],fun j u q=>?_⟩;rw [List.getElem?_set] at q |-
 by_cases hij:i=j
 ·rw [if_pos hij] at q |-
  by_cases hl:i < σw.length
  ·rw [if_pos hl] at q;rw [if_pos (by rw [<-S.len];exact hl)];have e:w=u:=by injection q with q;injection q
   subst e;exact ⟨v,rfl,r⟩
  ·rw [if_neg hl] at q;cases q
 ·rw [if_neg hij] at q |-
  exact S.get j u q
theorem DQ.trans {Q:WK}(e:Ie K H μ H1 μ1)(q:DQ K H1 μ1 Q v H'):DQ K H μ Q v H':=let ⟨μ',w,h',a,b,c,d⟩:=q;⟨μ',w,h',e.trans a,b,c,d⟩
theorem DB.trans {Q:Bool->Gh->Prop}{b:Bool}(e:Ie K H μ H1 μ1)(q:DB K H1 μ1 Q b H'):DB K H μ Q b H':=let ⟨μ',h',a,b,c⟩:=q;⟨μ',h',e.trans a,b,c⟩
theorem DN.trans {N:Sw->Gh->Prop}{σ':St}(e:Ie K H μ H1 μ1)(q:DN K H1 μ1 N σ' H'):DN K H μ N σ' H':=let ⟨μ',w,h',a,b,c,d⟩:=q;⟨μ',w,h',e.trans a,b,c,d⟩
end
inductive tD (K:Ad) (m:ME) (σ : St) (H:Hp) (Q:VK):Prop where
 | mk (μ : Mu) (h:Gh) (σw:Sw) (Qw:WK) (R:Fv K μ H h) (S:Slots K H μ σw σ) (x:m σw h Qw) (k:∀ v H',DQ K H μ Qw v H'->Q v H'):tD K m σ H Q
inductive tDT (K:Ad) (m:MT) (σ : St) (H:Hp) (Q:Bool->Hp->Prop):Prop where
 | mk (μ : Mu) (h:Gh) (σw:Sw) (Qw:Bool->Gh->Prop) (R:Fv K μ H h) (S:Slots K H μ σw σ) (x:m σw h Qw) (k:∀ b H',DB K H μ Qw b H'->Q b H'):tDT K m σ H Q
inductive tDA (K:Ad) (m:MA) (σ : St) (H:Hp) (Q:List V->Hp->Prop):Prop where
 | mk (μ : Mu) (h:Gh) (σw:Sw) (Qw:List W->Gh->Prop) (R:Fv K μ H h) (S:Slots K H μ σw σ) (x:m σw h Qw) (k:∀ vs H',DA K H μ Qw vs H'->Q vs H'):tDA K m σ H Q
inductive tDG (K:Ad) (g:MG) (v:V) (σ : St) (H:Hp) (N:St->Hp->Prop):Prop where
 | mk (μ : Mu) (h:Gh) (σw:Sw) (w:W) (Nw:Sw->Gh->Prop) (R:Fv K μ H h) (S:Slots K H μ σw σ) (r:Aa K H μ w v) (x:g w σw h Nw) (k:∀ σ' H',DN K H μ Nw σ' H'->N σ' H'):tDG K g v σ H N
inductive acr (K:Ad) (g:Np) (vs:List V) (σ : St) (H:Hp) (N:St->Hp->Prop):Prop where
 | mk (μ : Mu) (h:Gh) (σw:Sw) (ws:List W) (Nw:Sw->Gh->Prop) (R:Fv K μ H h) (S:Slots K H μ σw σ) (r:aL K H μ ws vs) (x:g ws σw h Nw) (k:∀ σ' H',DN K H μ Nw σ' H'->N σ' H'):acr K g vs σ H N
structure Ei (K:Ad) (H:Hp) (μ : Mu) (Dw:bT) (D:Ends):Prop where
 nx:∀ σ' H',DN K H μ Dw.nx σ' H'->D.nx σ' H'
 rt:∀ v H',DQ K H μ Dw.rt v H'->D.rt v H'
 bk:∀ σ' H',DN K H μ Dw.bk σ' H'->D.bk σ' H'
 ct:∀ σ' H',DN K H μ Dw.ct σ' H'->D.ct σ' H'
inductive tDS (K:Ad) (m:MS) (D:Ends) (σ : St) (H:Hp):Prop where
 | mk (μ : Mu) (h:Gh) (σw:Sw) (Dw:bT) (R:Fv K μ H h) (S:Slots K H μ σw σ) (x:m Dw σw h) (k:Ei K H μ Dw D):tDS K m D σ H
theorem Ei.trans {K:Ad}{H H1:Hp}{μ μ1:Mu}{Dw:bT}{D:Ends}(k:Ei K H μ Dw D)(e:Ie K H μ H1 μ1):Ei K H1 μ1 Dw D:=
 ⟨fun _ _ q=>k.nx _ _ (q.trans e),fun _ _ q=>k.rt _ _ (q.trans e),fun _ _ q=>k.bk _ _ (q.trans e),fun _ _ q=>k.ct _ _ (q.trans e)⟩
section
variable {X:Cx}{e:Expr}{es:List Expr}{st:Stmt}{sts:List Stmt}
theorem PE.of {t t':TE}(h:PE X e t)(k:∀ σ H Q,t' σ H Q->t σ H Q):PE X e t':=fun pins s σ H Q I q=>h pins s σ H Q I (k σ H Q q)
theorem PT.of {t t':TT}(h:PT X e t)(k:∀ σ H Q,t' σ H Q->t σ H Q):PT X e t':=fun pins s σ H Q I q=>h pins s σ H Q I (k σ H Q q)
theorem PW.of {t t':TT}(h:PW X e t)(k:∀ σ H Q,t' σ H Q->t σ H Q):PW X e t':=fun wh pins s σ H Q I q=>h wh pins s σ H Q I (k σ H Q q)
theorem PA.of {t t':TA}(h:PA X es t)(k:∀ σ H Q,t' σ H Q->t σ H Q):PA X es t':=fun pos pins s σ H Q I q=>h pos pins s σ H Q I (k σ H Q q)
theorem PG.of {t t':TG}(h:PG X e t)(k:∀ v σ H Q,t' v σ H Q->t v σ H Q):PG X e t':=fun pins s σ H v u Q I r q=>h pins s σ H v u Q I r (k v σ H Q q)
theorem RV.of {t t':Ou}(h:RV X es t)(k:∀ v σ H Q,t' v σ H Q->t v σ H Q):RV X es t':=fun pins s σ H v u Q I r q=>h pins s σ H v u Q I r (k v σ H Q q)
theorem PS.of {t t':TS}(h:PS X st t)(k:∀ D σ H,t' D σ H->t D σ H):PS X st t':=fun pins s σ H D I q=>h pins s σ H D I (k D σ H q)
theorem Mf.of {t t':TS}(h:Mf X sts t)(k:∀ D σ H,t' D σ H->t D σ H):Mf X sts t':=fun pins s σ H D I q=>h pins s σ H D I (k D σ H q)
end
abbrev DE (X:Cx)(e:Expr)(m:ME):Prop:=PE X e (tD X.K m)
abbrev DT (X:Cx)(e:Expr)(m:MT):Prop:=PT X e (tDT X.K m)
abbrev DWt (X:Cx)(e:Expr)(m:MT):Prop:=PW X e (tDT X.K m)
abbrev Jv (X:Cx)(es:List Expr)(m:MA):Prop:=PA X es (tDA X.K m)
abbrev DG (X:Cx)(e:Expr)(m:MG):Prop:=PG X e (tDG X.K m)
abbrev aai (X:Cx)(es:List Expr)(m:Np):Prop:=RV X es (acr X.K m)
abbrev DS (X:Cx)(st:Stmt)(m:MS):Prop:=PS X st (tDS X.K m)
abbrev R0 (X:Cx)(st:List Stmt)(m:MS):Prop:=Mf X st (tDS X.K m)
section
variable {X:Cx}{e a b c:Expr}{ma mb mc:ME}{pos:Pos}
def ak (i:Nat):ME:=fun σ h Q=>match σ[i]? with
 | some (Dn w)=>Q w h
 | _=>False
def mC (w:W):ME:=fun _ h Q=>Q w h
theorem dv (i:Nat)(he:PE X e (Yg i)):DE X e (ak i):=he.of fun σ H Q ⟨μ,h,σw,Qw,R,S,m,k⟩=>by
 unfold ak at m;cases q:σw[i]? with
 | none=>rw [q] at m;exact m.elim
 | some o=>
  rw [q] at m;cases o with
  | none=>exact m.elim
  | some w=>
   obtain ⟨v,h1,h2⟩:=S.get i w q;exact ⟨v,h1,k _ _ ⟨μ,w,h,.refl,R,h2,m⟩⟩
theorem dc {w:W}{v:V}(he:PE X e (tC v))(r:∀ H μ,Aa X.K H μ w v):DE X e (mC w):=he.of fun σ H Q ⟨μ,h,σw,Qw,R,S,m,k⟩=>k _ _ ⟨μ,w,h,.refl,R,r H μ,m⟩
theorem aA {i:Int}{j pos}:DE X (.Constant (.int i) j pos) (mC (.int i)):=dc YX fun _ _=>by rw [Aa]
theorem QM {i:Bool}{j pos}:DE X (.Constant (.bool i) j pos) (mC (.bl i)):=dc abb fun _ _=>by rw [Aa]
theorem iG {j pos}:DE X (.Constant .none j pos) (mC .non):=dc Y6 fun _ _=>by rw [Aa]
theorem pO {i:Str}{j pos}:DE X (.Constant (.str i) j pos) (mC (.str i)):=dc ZX fun _ _=>by rw [Aa]
abbrev M2:=W->W->Gh->WK->Prop
def Mk (r:M2)(ma mb:ME):ME:=fun σ h Q=>ma σ h fun x h1=>mb σ h1 fun y h2=>r x y h2 Q
def aap (K:Ad)(r:R2)(mr:M2):Prop:=∀ {H:Hp} {μ : Mu} {h:Gh} {x y:V} {wx wy:W} {Qw:WK} {Q:VK},Fv K μ H h->Aa K H μ wx x->Aa K H μ wy y->mr wx wy h Qw ->
 (∀ v H',DQ K H μ Qw v H'->Q v H')->r x y H Q
theorem two {K:Ad}{σ : St}{H:Hp}{Q:VK}{mr:M2}{R2':V->V->Hp->Prop}(h:tD K (Mk mr ma mb) σ H Q)
  (k:∀ {H2:Hp} {μ2:Mu} {h2:Gh} {x y:V} {wx wy:W} {Qw:WK},Fv K μ2 H2 h2->Aa K H2 μ2 wx x->Aa K H2 μ2 wy y->mr wx wy h2 Qw->(∀ v H',DQ K H2 μ2 Qw v H'->Q v H')->R2' x y H2) :
  tD K ma σ H fun x H1=>tD K mb σ H1 fun y H2=>R2' x y H2:=by
 obtain ⟨μ,g,σw,Qw,R,S,m,q⟩:=h;refine ⟨μ,g,σw,_,R,S,m,fun x H1 ⟨μ1,wx,h1,e1,R1,r1,m1⟩=>?_⟩;refine ⟨μ1,h1,σw,_,R1,S.ext e1,m1,fun y H2 ⟨μ2,wy,h2,e2,R2,r2,m2⟩=>?_⟩;exact k R2 (e2.r _ _ r1) r2 m2 fun v H' z=>q _ _<|(z.trans e2).trans e1
def LR (X:Cx)(f:JI->JI->Sem JI)(mr:M2):Prop:=∃ r,JC X f r/\aap X.K r mr
theorem aW {op:Operator}{mr:M2}(ho:LR X (ML op) mr)(ha:DE X a ma)(hb:DE X b mb):DE X (.BinOp a op b pos) (Mk mr ma mb):=by
 obtain ⟨r,o,s⟩:=ho;exact (aaz o ha hb).of fun σ H Q h=>two h fun R r1 r2 m k=>s R r1 r2 m k
theorem abS {op:CmpOp}{mr:M2}(ho:LR X (Jc op) mr)(ha:DE X a ma)(hb:DE X b mb)(hm:S6 op b=false):DE X (.Compare a [op] [b] pos) (Mk mr ma mb):=by
 obtain ⟨r,o,s⟩:=ho;exact (afd o ha hb hm).of fun σ H Q h=>two h fun R r1 r2 m k=>s R r1 r2 m k
def aR (m:ME):MT:=fun σ h Q=>m σ h fun w h1=>match w with
 | .bl c=>Q c h1
 | _=>False
theorem Ho {K:Ad}{σ : St}{H:Hp}{m:ME}{Q:Bool->Hp->Prop}(h:tDT K (aR m) σ H Q):tD K m σ H fun x H'=>∃ k,x=.bl k/\Q k H':=by
 obtain ⟨μ,g,σw,Qw,R,S,mm,q⟩:=h;refine ⟨μ,g,σw,_,R,S,mm,fun v H' ⟨μ1,w,h1,e1,R1,r1,m1⟩=>?_⟩;cases w with
 | bl c=>rw [Aa] at r1;exact ⟨c,r1,q _ _ ⟨μ1,h1,e1,R1,m1⟩⟩
 | _=>exact m1.elim
theorem Xp {op:CmpOp}{mr:M2}(ho:LR X (Jc op) mr)(ha:DE X a ma)(hb:DE X b mb)(hm:S6 op b=false):DT X (.Compare a [op] [b] pos) (aR (Mk mr ma mb)):=by
 obtain ⟨r,o,s⟩:=ho;exact (agm o ha hb hm).of fun σ H Q h=>two (Ho h) fun R r1 r2 m k=>s R r1 r2 m k
def Hy (c:Bool)(a b:Prop):Prop:=match c with
 | true=>a
 | false=>b
def br (c:Bool)(a b:Prop):Prop:=(c=true->a)/\(c=false->b)
theorem Am {c:Bool}{a b:Prop}(e:c=true)(x:a):br c a b:=⟨fun _=>x,fun z=>by rw [e] at z;cases z⟩
theorem kY {c:Bool}{a b:Prop}(e:c=false)(x:b):br c a b:=⟨fun z=>(by rw [e] at z;cases z),fun _=>x⟩
theorem jK {c:Prop} [Decidable c] {a b:Prop} (x:c->a) (y:¬ c->b):br (decide c) a b:=⟨fun e=>x (of_decide_eq_true e),fun e=>y (of_decide_eq_false e)⟩
def HW (t u:MT):MT:=fun σ h Q=>t σ h fun c h1=>br c (u σ h1 Q) (Q false h1)
def Mq (t u:MT):MT:=fun σ h Q=>t σ h fun c h1=>br c (Q true h1) (u σ h1 Q)
def Fo (t:MT):MT:=fun σ h Q=>t σ h fun c h1=>Q (!c) h1
variable {tA tB':MT}{rest:List Expr}
theorem jO (ha:DT X a tA):DWt X (.BoolOp .And [a] pos) tA:=Vj ha
theorem qw (ha:DT X a tA):DWt X (.BoolOp .Or [a] pos) tA:=WD ha
theorem mL (ha:DT X a tA)(hb:DWt X (.BoolOp .And (b::rest) pos) tB'):DWt X (.BoolOp .And (a::b::rest) pos) (HW tA tB'):=(YS ha hb).of fun σ H Q ⟨μ,g,σw,Qw,R,S,m,q⟩=>by
 refine ⟨μ,g,σw,_,R,S,m,fun c H1 ⟨μ1,h1,e1,R1,m1⟩=>?_⟩;cases c with
 | true=>
  rw [if_pos rfl];exact ⟨μ1,h1,σw,_,R1,S.ext e1,m1.1 rfl,fun b H' z=>q _ _<|z.trans e1⟩
 | false=>
  rw [if_neg Ly];exact q _ _ ⟨μ1,h1,e1,R1,m1.2 rfl⟩
theorem oH (ha:DT X a tA)(hb:DWt X (.BoolOp .Or (b::rest) pos) tB'):DWt X (.BoolOp .Or (a::b::rest) pos) (Mq tA tB'):=(abJ ha hb).of fun σ H Q ⟨μ,g,σw,Qw,R,S,m,q⟩=>by
 refine ⟨μ,g,σw,_,R,S,m,fun c H1 ⟨μ1,h1,e1,R1,m1⟩=>?_⟩;cases c with
 | true=>
  rw [if_pos rfl];exact q _ _ ⟨μ1,h1,e1,R1,m1.1 rfl⟩
 | false=>
  rw [if_neg Ly];exact ⟨μ1,h1,σw,_,R1,S.ext e1,m1.2 rfl,fun b H' z=>q _ _<|z.trans e1⟩
theorem jD (ha:DT X a tA):DT X (.UnaryOp .Not a pos) (Fo tA):=(XQ ha).of fun σ H Q ⟨μ,g,σw,Qw,R,S,m,q⟩=>
 ⟨μ,g,σw,_,R,S,m,fun c H1 ⟨μ1,h1,e1,R1,m1⟩=>q _ _ ⟨μ1,h1,e1,R1,m1⟩⟩
def Kl (a b:ME):ME:=fun σ h Q=>a σ h fun x h1=>match x with
 | .bl true=>b σ h1 Q
 | .bl false=>Q (.bl false) h1
 | _=>False
def VB (a b:ME):ME:=fun σ h Q=>a σ h fun x h1=>match x with
 | .bl false=>b σ h1 Q
 | .bl true=>Q (.bl true) h1
 | _=>False
def aa4 (a:ME):ME:=fun σ h Q=>a σ h fun x h1=>match x with
 | .bl c=>Q (.bl (!c)) h1
 | _=>False
theorem Uq {op}(h:DE X a ma):DE X (.BoolOp op [a] pos) ma:=VR h
theorem Uo (ha:DE X a ma)(hb:DE X (.BoolOp .And (b::rest) pos) mb):DE X (.BoolOp .And (a::b::rest) pos) (Kl ma mb):=(ZL ha hb).of fun σ H Q ⟨μ,g,σw,Qw,R,S,m,q⟩=>by
 refine ⟨μ,g,σw,_,R,S,m,fun v H1 ⟨μ1,w,h1,e1,R1,r1,m1⟩=>?_⟩;cases w with
 | bl c=>
  rw [Aa] at r1;refine ⟨c,r1,?_⟩;cases c with
  | true=>rw [if_pos rfl];exact ⟨μ1,h1,σw,_,R1,S.ext e1,m1,fun b H' z=>q _ _ (z.trans e1)⟩
  | false=>rw [if_neg Ly];exact q _ _ ⟨μ1,.bl false,h1,e1,R1,by rw [Aa],m1⟩
 | _=>exact m1.elim
theorem ady (ha:DE X a ma)(hb:DE X (.BoolOp .Or (b::rest) pos) mb):DE X (.BoolOp .Or (a::b::rest) pos) (VB ma mb):=(aaX ha hb).of fun σ H Q ⟨μ,g,σw,Qw,R,S,m,q⟩=>by
 refine ⟨μ,g,σw,_,R,S,m,fun v H1 ⟨μ1,w,h1,e1,R1,r1,m1⟩=>?_⟩;cases w with
 | bl c=>
  rw [Aa] at r1;refine ⟨c,r1,?_⟩;cases c with
  | true=>rw [if_pos rfl];exact q _ _ ⟨μ1,.bl true,h1,e1,R1,by rw [Aa],m1⟩
  | false=>rw [if_neg Ly];exact ⟨μ1,h1,σw,_,R1,S.ext e1,m1,fun b H' z=>q _ _ (z.trans e1)⟩
 | _=>exact m1.elim
def mIf (t:MT)(a b:ME):ME:=fun σ h Q=>t σ h fun c h1=>br c (a σ h1 Q) (b σ h1 Q)
theorem acf (hc:DT X c tA)(ha:DE X a ma)(hb:DE X b mb):DE X (.IfExp c a b pos) (mIf tA ma mb):=(zbl hc ha hb).of fun σ H Q ⟨μ,g,σw,Qw,R,S,m,q⟩=>by
 refine ⟨μ,g,σw,_,R,S,m,fun c H1 ⟨μ1,h1,e1,R1,m1⟩=>?_⟩;cases c with
 | true=>
  rw [if_pos rfl];exact ⟨μ1,h1,σw,_,R1,S.ext e1,m1.1 rfl,fun b H' z=>q _ _<|z.trans e1⟩
 | false=>
  rw [if_neg Ly];exact ⟨μ1,h1,σw,_,R1,S.ext e1,m1.2 rfl,fun b H' z=>q _ _<|z.trans e1⟩
def mUn (r:W->Gh->WK->Prop)(a:ME):ME:=fun σ h Q=>a σ h fun x h1=>r x h1 Q
def Z9:W->Gh->WK->Prop:=fun x h Q=>match x with
 | .int i=>Q (.int (-i)) h
 | _=>False
theorem Xq (ha:DE X a ma):DE X (.UnaryOp .USub a pos) (mUn Z9 ma):=(abN Wn ha).of fun σ H Q ⟨μ,g,σw,Qw,R,S,m,q⟩=>by
 refine ⟨μ,g,σw,_,R,S,m,fun v H1 ⟨μ1,w,h1,e1,R1,r1,m1⟩=>?_⟩;cases w with
 | int i=>rw [Aa] at r1;exact ⟨i,r1,q _ _ ⟨μ1,.int (-i),h1,e1,R1,by rw [Aa],m1⟩⟩
 | _=>exact m1.elim
def aF:MA:=fun _ h Q=>Q [] h
def aj (a:ME)(r:MA):MA:=fun σ h Q=>a σ h fun x h1=>r σ h1 fun xs h2=>Q (x::xs) h2
variable {es:List Expr}{mr:MA}
theorem qC:Jv X [] aF:=ZS.of fun σ H Q ⟨μ,g,σw,Qw,R,S,m,q⟩=>q _ _ ⟨μ,[],g,.refl,R,.nil,m⟩
theorem agJ (ha:DE X e ma)(hr:Jv X es mr)(hs:Fx (e::es) X.env=(false,eval e X.env)::Fx es X.env:=by rfl):Jv X (e::es) (aj ma mr):=(zbG ha hr hs).of fun σ H Q ⟨μ,g,σw,Qw,R,S,m,q⟩=>by
 refine ⟨μ,g,σw,_,R,S,m,fun v H1 ⟨μ1,w,h1,e1,R1,r1,m1⟩=>?_⟩;refine ⟨μ1,h1,σw,_,R1,S.ext e1,m1,fun vs H2 ⟨μ2,ws,h2,e2,R2,r2,m2⟩=>?_⟩;exact q _ _ ⟨μ2,w::ws,h2,e1.trans e2,R2,.cons (e2.r _ _ r1) r2,m2⟩
def gJ (n:Nat)(P:Prop):Prop:=Hy (Ny n 1000) P (n<=Gn/\P)
theorem gJ.ok {n:Nat}{P:Prop}(h:gJ n P):n<=Gn/\P:=by
 unfold gJ at h;cases e:Ny n 1000 with
 | true=>rw [e] at h;exact ⟨Ii (Nat.le_of_ble_eq_true e) (by decide),h⟩
 | false=>rw [e] at h;exact h
theorem gJ.mk {n:Nat}{P:Prop}(hn:n<=Gn)(h:P):gJ n P:=by
 unfold gJ;cases e:Ny n 1000 with
 | true=>exact h
 | false=>exact ⟨hn,h⟩
def qj (t:MA):ME:=fun σ h Q=>t σ h fun ws h1=>gJ ws.length (Q (.tup ws) h1)
def yW (t:MA):ME:=fun σ h Q=>t σ h fun ws h1=>gJ ws.length (Q (.lst ws) h1)
def uw (t:MA):ME:=fun σ h Q=>t σ h fun ws h1=>gJ ws.length (Q (.loc h1.nx) (h1.new (.lst ws)))
theorem gB {x1}(h:Jv X es mr):DE X (.Tuple es x1 pos) (qj mr):=(X4 h).of fun σ H Q ⟨μ,g,σw,Qw,R,S,m,q⟩=>
 ⟨μ,g,σw,_,R,S,m,fun vs H1 ⟨μ1,ws,h1,e1,R1,r1,sz⟩=>⟨by rw [<-r1.len];exact sz.ok.1,fun p hp=>q _ _ ⟨μ1,.tup ws,h1,e1.trans (Ex.laid hp).ext,R1.laid hp,.tupNew hp r1,sz.ok.2⟩⟩⟩
theorem lW (h:Jv X es mr):DE X (.List es pos) (yW mr):=(O8 h).of fun σ H Q ⟨μ,g,σw,Qw,R,S,m,q⟩=>
 ⟨μ,g,σw,_,R,S,m,fun vs H1 ⟨μ1,ws,h1,e1,R1,r1,sz⟩=>⟨by rw [<-r1.len];exact sz.ok.1,fun p hp=>q _ _ ⟨μ1,.lst ws,h1,e1.trans (Ex.laid hp).ext,R1.laid hp,.lstNew R1 hp r1,sz.ok.2⟩⟩⟩
theorem PN {K:Ad}{H:Hp}{μ : Mu}{h:Gh}{p:Addr}{ws:List W}{xs:List V}(R:Fv K μ H h)(hp:H p=FN)(r:aL K H μ ws xs) :
  Fv K (μ.put h.nx p) (G8 H p (.lst xs)) (h.new (.lst ws)):=R.newCell hp trivial ⟨xs,cj,(Ex.newCell R hp).ext.s r⟩
theorem sV (h:Jv X es mr):DE X (.List es pos) (uw mr):=(O8 h).of fun σ H Q ⟨μ,g,σw,Qw,R,S,m,q⟩=>
 ⟨μ,g,σw,_,R,S,m,fun vs H1 ⟨μ1,ws,h1,e1,R1,r1,sz⟩=>⟨by rw [<-r1.len];exact sz.ok.1,fun p hp=>q _ _ ⟨μ1.put h1.nx p,.loc h1.nx,h1.new (.lst ws),e1.trans (Ex.newCell R1 hp).ext,PN R1 hp r1,by rw [Aa];exact ⟨p,rfl,Mu.put_same⟩,sz.ok.2⟩⟩⟩
inductive lift (K:Ad) (ms:kI) (vs:List V) (H:Hp) (Q:VK) (E:XK):Prop where
 | mk (μ : Mu) (h:Gh) (ws:List W) (Qw:WK) (R:Fv K μ H h) (r:aL K H μ ws vs) (x:ms ws h Qw EF) (k:∀ v H',DQ K H μ Qw v H'->Q v H'):lift K ms vs H Q E
def aD (ms:kI)(E:BK)(ma:MA):ME:=fun σ h Q=>ma σ h fun ws h1=>ms ws h1 Q E
theorem call_of {K:Ad}{σ : St}{H:Hp}{Q:VK}{E:XK}{ms:kI}{ma:MA}(h:tD K (aD ms EF ma) σ H Q):TF (lift K ms) [] E (tDA K ma) σ H Q:=by
 obtain ⟨μ,g,σw,Qw,R,S,m,q⟩:=h;refine ⟨μ,g,σw,_,R,S,m,fun vs H1 ⟨μ1,ws,h1,e1,R1,r1,m1⟩=>?_⟩;show lift K ms (vs++[]) H1 Q E;rw [Ub];exact ⟨μ1,h1,ws,Qw,R1,r1,m1,fun v H' z=>q _ _<|z.trans e1⟩
theorem XH {k:Nat}{f:Addr}{fd:Le}{ps:List Str}{ms:kI}{x:Str}{p:Pos}(F:qJ X.prog X.w X.K X.mg X.base M4 k f fd ps (lift X.K ms))(hr:mK k X.A)(hg:Gl X x)(hm:X.mg x=Dn (.ref f))(hk:Nk X.K (.ref f)=true)
  (hb:Binds X.K fd ps []) (ha:Jv X (e::es) mr) (hdb:(x==("__debug__" : Str))=false:=by decide) (he:Fx (e::es) X.env=(false,eval e X.env)::Fx es X.env:=by rfl) (hpl:(K5 pos (Fx es X.env)).any (·.1)=false:=by rfl) :
  DE X (.Call (.Name x p) (e::es) [] pos) (aD ms EF mr):=(aeY F hr hg hm hk hb .nil Rj ha hdb he hpl).of fun _ _ _ h=>call_of h
theorem afq {k:Nat}{f:Addr}{fd:Le}{ps:List Str}{ms:kI}{x:Str}{p:Pos}(F:qJ X.prog X.w X.K X.mg X.base M4 k f fd ps (lift X.K ms))(hr:mK k X.A)(hg:Gl X x)(hm:X.mg x=Dn (.ref f))(hk:Nk X.K (.ref f)=true)
  (hb:Binds X.K fd ps []) (hdb:(x==("__debug__" : Str))=false:=by decide):DE X (.Call (.Name x p) [] [] pos) (aD ms EF aF):=(aeB F hr hg hm hk hb .nil Rj hdb).of fun σ H Q ⟨μ,g,σw,Qw,R,S,m,q⟩=>
 ⟨μ,g,[],Qw,R,.nil,m,q⟩
def aaf (h:Gh)(w:W):Option Bool:=match w with
 | .non=>Dn false
 | .bl b=>Dn b
 | .int i=>Dn (i != 0)
 | .tup ws=>Dn (!ws.isEmpty)
 | .lst ws=>Dn (!ws.isEmpty)
 | .kls ws=>Dn (!ws.isEmpty)
 | .loc n=>(match h.c n with
  | some (.lst ws)=>Dn (!ws.isEmpty)
  | _=>FN)
 | _=>FN
def sJ (m:ME):MT:=fun σ h Q=>m σ h fun w h1=>match aaf h1 w with
 | some b=>Q b h1
 | none=>False
theorem aL.emp {K:Ad}{H:Hp}{μ : Mu}{ws:List W}{xs:List V}(r:aL K H μ ws xs):ws.isEmpty=xs.isEmpty:=by
 have:=r.len
 cases ws <;> cases xs <;> first | rfl | cases this
theorem c7 (he:DE X e ma)(h:∀ whole,isTrue e X.env whole=(do let v <-whole;standAt e.pos;holding [v] (truthy v)):=by intro _;rfl):DT X e (sJ ma):=(zbm he h).of fun σ H Q ⟨μ,g,σw,Qw,R,S,m,q⟩=>by
 refine ⟨μ,g,σw,_,R,S,m,fun v H1 ⟨μ1,w,h1,e1,R1,r1,m1⟩=>?_⟩;split at m1
 ·rename_i b eb;refine ⟨b,?_,q _ _ ⟨μ1,h1,e1,R1,m1⟩⟩;cases w with
  | non=>rw [Aa] at r1;subst r1;cases eb;rfl
  | bl c=>rw [Aa] at r1;subst r1;cases eb;rfl
  | int c=>rw [Aa] at r1;subst r1;cases eb;rfl
  | tup ws=>
   rw [Aa] at r1;obtain ⟨p,xs,ev,hs,rs⟩:=r1;subst ev;cases eb;exact .inr<|.inl ⟨xs,hs,by rw [rs.emp]⟩
  | lst ws=>
   rw [Aa] at r1;obtain ⟨p,xs,ev,hs,rs⟩:=r1;subst ev;cases eb;exact .inl ⟨xs,hs.sq,by rw [rs.emp]⟩
  | kls ws=>
   rw [Aa] at r1;obtain ⟨p,xs,ev,hs,rs⟩:=r1;subst ev;cases eb;exact .inl ⟨xs,hs.sq,by rw [rs.emp]⟩
  | loc n=>
   rw [Aa] at r1;obtain ⟨p,ev,hm⟩:=r1;subst ev;unfold aaf at eb;dsimp only at eb;cases ec:h1.c n with
   | none=>rw [ec] at eb;cases eb
   | some cl=>
    rw [ec] at eb;cases cl with
    | lst ws=>
     cases eb;obtain ⟨p',hm',xs,hx,rs⟩:=R1.cel n _ ec;have ep:p'=p:=by rw [hm] at hm';exact (Hz hm').symm
     subst ep;exact .inl ⟨xs,.of hx,by rw [rs.emp]⟩
    | _=>cases eb
  | _=>cases eb
 ·exact m1.elim
abbrev MC:=List W->Gh->WK->Prop
def Ge (r:MC)(ma:MA):ME:=fun σ h Q=>ma σ h fun ws h1=>r ws h1 Q
def acG (K:Ad)(r:List V->Hp->VK->Prop)(mr:MC):Prop:=∀ {H:Hp} {μ : Mu} {h:Gh} {vs:List V} {ws:List W} {Qw:WK} {Q:VK},Fv K μ H h->aL K H μ ws vs->mr ws h Qw->(∀ v H',DQ K H μ Qw v H'->Q v H')->r vs H Q
def lq (X:Cx)(f:JI)(mr:MC):Prop:=∃ r,jc X f r/\acG X.K r mr
theorem Xg {K:Ad}{σ : St}{H:Hp}{Q:VK}{r:List V->Hp->VK->Prop}{mc:MC}{ma:MA}(s:acG K r mc)(h:tD K (Ge mc ma) σ H Q):tCB r (tDA K ma) σ H Q:=by
 obtain ⟨μ,g,σw,Qw,R,S,m,q⟩:=h;exact ⟨μ,g,σw,_,R,S,m,fun vs H1 ⟨μ1,ws,h1,e1,R1,r1,m1⟩=>s R1 r1 m1 fun v H' z=>q _ _<|z.trans e1⟩
theorem agx {x:Str}{p:Pos}{id:String}{mc:MC}(hc:lq X (.builtin id) mc)(hg:Gl X x)(hm:X.mg x=FN)(hv:RD x=Dn (.builtin id))(ha:Jv X (e::es) mr)(hn:x ≠ "__name__":=by decide)(hdb:(x==("__debug__" : Str))=false:=by decide)
  (he:Fx (e::es) X.env=(false,eval e X.env)::Fx es X.env:=by rfl) (hpl:(K5 pos (Fx es X.env)).any (·.1)=false:=by rfl):DE X (.Call (.Name x p) (e::es) [] pos) (Ge mc mr):=by
 obtain ⟨r,c,s⟩:=hc;exact (zbx c hg hm hv ha hn hdb he hpl).of fun _ _ _ h=>Xg s h
theorem aeS {x:Str}{p:Pos}{T:String}{mc:MC}(hc:lq X (.type T) mc)(hg:Gl X x)(hm:X.mg x=FN)(hv:RD x=Dn (.type T))(ha:Jv X (e::es) mr)(hn:x ≠ "__name__":=by decide)(hdb:(x==("__debug__" : Str))=false:=by decide)
  (he:Fx (e::es) X.env=(false,eval e X.env)::Fx es X.env:=by rfl) (hpl:(K5 pos (Fx es X.env)).any (·.1)=false:=by rfl):DE X (.Call (.Name x p) (e::es) [] pos) (Ge mc mr):=by
 obtain ⟨r,c,s⟩:=hc;exact (zaU c hg hm hv ha hn hdb he hpl).of fun _ _ _ h=>Xg s h
end
section
variable {X:Cx}{e a b c tg:Expr}{ma mb mc:ME}{pos:Pos}{es:List Expr}
def FX (i:Nat):MG:=fun w σ h N=>N (σ.set i (Dn w)) h
theorem afI {i:Nat}(hg:PG X e (GP i)):DG X e (FX i):=hg.of fun v σ H N ⟨μ,h,σw,w,Nw,R,S,r,m,k⟩=>k _ _ ⟨μ,σw.set i (Dn w),h,.refl,R,S.set r i,m⟩
def Od:Np:=fun ws σ h N=>match ws with
 | []=>N σ h
 | _=>False
def fB (g:MG)(r:Np):Np:=fun ws σ h N=>match ws with
 | w::ws'=>g w σ h fun σ1 h1=>r ws' σ1 h1 N
 | []=>False
theorem lO:aai X [] Od:=Lb.of fun vs σ H N ⟨μ,h,σw,ws,Nw,R,S,r,m,k⟩=>by
 cases ws with
 | nil=>rw [aL] at r;exact ⟨r,k _ _ ⟨μ,σw,h,.refl,R,S,m⟩⟩
 | cons w ws=>exact m.elim
theorem bC {g:MG}{u:Np}(h1:DG X e g)(h2:aai X es u)(hs:(La (e::es) X.env).map (·.2)=assign e X.env::(La es X.env).map (·.2):=by rfl):aai X (e::es) (fB g u):=(vR h1 h2 hs).of fun vs σ H N ⟨μ,h,σw,ws,Nw,R,S,r,m,k⟩=>by
 cases ws with
 | nil=>exact m.elim
 | cons w ws=>
  rw [aL] at r;obtain ⟨v,vr,ev,r1,r2⟩:=r;refine ⟨v,vr,ev,μ,h,σw,w,_,R,S,r1,m,fun σ1 H1 ⟨μ1,σw1,h1,e1,R1,S1,m1⟩=>?_⟩;exact ⟨μ1,h1,σw1,ws,_,R1,S1,e1.s r2,m1,fun σ2 H2 z=>k _ _<|z.trans e1⟩
def ace (n:Nat)(g:Np):MG:=fun w σ h N=>match w with
 | .tup ws=>Hy (Ls ws.length n) (g ws σ h N) False
 | _=>False
abbrev Z4:=W->W->W->Gh->(Gh->Prop)->Prop
def QW (K:Ad)(t:YC)(ms:Z4):Prop:=∀ {H:Hp} {μ : Mu} {h:Gh} {o i v:V} {wo wi w:W} {Nw:Gh->Prop} {N:Hp->Prop},Fv K μ H h->Aa K H μ wo o->Aa K H μ wi i->Aa K H μ w v->ms wo wi w h Nw ->
 (∀ H',(∃ μ' h',Ie K H μ H' μ'/\Fv K μ' H' h'/\Nw h')->N H')->t o i v H N
def Xc (mo mi:ME)(ms:Z4):MG:=fun w σ h N=>mo σ h fun o h1=>mi σ h1 fun i h2=>ms o i w h2 fun h3=>N σ h3
theorem Qx {o i:Expr}{mo mi:ME}{t:YC}{ms:Z4}(ho:DE X o mo)(hi:DE X i mi)(hs:abM X t)(hm:QW X.K t ms)
  (ha:∀ v,assign (.Subscript o i pos) X.env v=(do
   let ov <-holding [v] (eval o X.env)
   let iv <-holding [v,ov] (eval i X.env)
   standAt pos
   holding [v,ov,iv] (setItem ov iv v)
   release [v,ov,iv] []):=by intro _;rfl):DG X (.Subscript o i pos) (Xc mo mi ms):=
 (ZJ ho hi hs ha).of fun v σ H N ⟨μ,h,σw,w,Nw,R,S,r,m,k⟩=>by
  refine ⟨μ,h,σw,_,R,S,m,fun o H1 ⟨μ1,wo,h1,e1,R1,r1,m1⟩=>?_⟩;refine ⟨μ1,h1,σw,_,R1,S.ext e1,m1,fun i H2 ⟨μ2,wi,h2,e2,R2,r2,m2⟩=>?_⟩;refine hm R2 (e2.r _ _ r1) r2 (e2.r _ _<|e1.r _ _ r) m2 fun H3 ⟨μ3,h3,e3,R3,m3⟩=>?_;exact k _ _ ⟨μ3,σw,h3,(e1.trans e2).trans e3,R3,S.ext<|(e1.trans e2).trans e3,m3⟩
def G3:Z4:=fun o i w h N=>match o,i with
 | .loc n,.int k=>(match h.c n with
  | some (.lst ws)=>(match Nu ws.length k with
   | some j=>N (h.set n (.lst (ws.set j w)))
   | none=>False)
  | _=>False)
 | _,_=>False
theorem Fv.lstAt {K:Ad}{μ : Mu}{H:Hp}{h:Gh}{n:Nat}{ws:List W}(R:Fv K μ H h)(e:h.c n=Dn (.lst ws)):∃ p xs,μ.f n=Dn p/\H p=Dn (.lst xs)/\aL K H μ ws xs:=by
 obtain ⟨p,e1,xs,e2,r⟩:=R.cel n _ e;exact ⟨p,xs,e1,e2,r⟩
theorem DR {K:Ad}:QW K Zv G3:=by
 intro H μ h o i v wo wi w Nw N R ro ri r m k;cases wo with
 | loc n=>
  cases wi with
  | int z=>
   rw [Aa] at ro;rw [Aa] at ri;obtain ⟨p,eo,hp⟩:=ro;unfold G3 at m;dsimp only at m;cases ec:h.c n with
   | none=>rw [ec] at m;exact m.elim
   | some cl=>
    rw [ec] at m;cases cl with
    | lst ws=>
     dsimp only at m;obtain ⟨p',xs,hp',hx,rs⟩:=R.lstAt ec;have ep:p'=p:=by rw [hp] at hp';exact (Hz hp').symm
     subst ep;cases ej:Nu ws.length z with
     | none=>rw [ej] at m;exact m.elim
     | some j=>
      rw [ej] at m;refine ⟨p',xs,z,j,eo,ri,hx,by rw [<-rs.len];exact ej,k _ ⟨μ,_,(Ex.write R hp).ext,R.write hp trivial ?_,m⟩⟩;exact ⟨_,cj,aL.set ((Ex.write R hp).ext.r _ _ r) j<|(Ex.write R hp).ext.s rs⟩
    | _=>exact m.elim
  | _=>exact m.elim
 | _=>exact m.elim
variable {st:Stmt}{rest body:List Stmt}{m1 m2:MS}{t:MT}
def bw:MS:=fun D σ h=>D.nx σ h
def aP (m u:MS):MS:=fun D σ h=>m { D with nx:=u D } σ h
theorem aJ:R0 X [] bw:=afP.of fun D σ H ⟨μ,h,σw,Dw,R,S,m,k⟩=>k.nx _ _ ⟨μ,σw,h,.refl,R,S,m⟩
theorem aq (h1:DS X st m1):R0 X [st] m1:=zbC h1
theorem ao (h1:DS X st m1)(h2:R0 X rest m2):R0 X (st::rest) (aP m1 m2):=(zbv h1 h2).of fun D σ H ⟨μ,h,σw,Dw,R,S,m,k⟩=>by
 refine ⟨μ,h,σw,_,R,S,m,?_,k.rt,k.bk,k.ct⟩;intro σ' H' ⟨μ1,σw1,h1,e1,R1,S1,m1⟩;exact ⟨μ1,h1,σw1,Dw,R1,S1,m1,k.trans e1⟩
def mZ (m:ME):MS:=fun D σ h=>m σ h fun _ h1=>D.nx σ h1
theorem fW (he:DE X e ma)(hs:swapsWith e FN pos.line X.env=pure false:=by rfl):DS X (.Expr e pos) (mZ ma):=(agr he hs).of fun D σ H ⟨μ,h,σw,Dw,R,S,m,k⟩=>
 ⟨μ,h,σw,_,R,S,m,fun v H1 ⟨μ1,w,h1,e1,R1,_,m1⟩=>k.nx _ _ ⟨μ1,σw,h1,e1,R1,S.ext e1,m1⟩⟩
def bx (m:ME):MS:=fun D σ h=>m σ h D.rt
theorem aG (he:DE X e ma):DS X (.Return (Dn e) pos) (bx ma):=(Zr he).of fun D σ H ⟨μ,h,σw,Dw,R,S,m,k⟩=>⟨μ,h,σw,_,R,S,m,k.rt⟩
def dO (t:MT)(a b:MS):MS:=fun D σ h=>t σ h fun c h1=>br c (a D σ h1) (b D σ h1)
theorem bH {a b:List Stmt}(hc:DT X c t)(ha:R0 X a m1)(hb:R0 X b m2):DS X (.If c a b pos) (dO t m1 m2):=(abe hc ha hb).of fun D σ H ⟨μ,h,σw,Dw,R,S,m,k⟩=>by
 refine ⟨μ,h,σw,_,R,S,m,fun b H1 ⟨μ1,h1,e1,R1,q⟩=>?_⟩;cases b with
 | true=>rw [if_pos rfl];exact ⟨μ1,h1,σw,Dw,R1,S.ext e1,q.1 rfl,k.trans e1⟩
 | false=>rw [if_neg Ly];exact ⟨μ1,h1,σw,Dw,R1,S.ext e1,q.2 rfl,k.trans e1⟩
def tH (x:Str)(E:BK):MS:=fun _ _ h=>E ⟨x,[]⟩ h
theorem mY {x:Str}:DS X st (tH x EF):=zbd.of fun _ _ _ ⟨_,_,_,_,_,_,m,_⟩=>m.elim
def aX (m:ME)(g:MG):MS:=fun D σ h=>m σ h fun w h1=>g w σ h1 D.nx
theorem Y8 {K:Ad}{σ : St}{H:Hp}{D:Ends}{m:ME}{g:MG}(q:tDS K (aX m g) D σ H):Ys (tD K m) (tDG K g) D σ H:=by
 obtain ⟨μ,h,σw,Dw,R,S,m,k⟩:=q;exact ⟨μ,h,σw,_,R,S,m,fun v H1 ⟨μ1,w,h1,e1,R1,r1,m1⟩=>⟨μ1,h1,σw,w,_,R1,S.ext e1,r1,m1,fun σ' H' z=>k.nx _ _<|z.trans e1⟩⟩
theorem pQ {g:MG}(he:DE X e ma)(hg:DG X tg g)(hs:swapsWithSole [tg] e pos.line X.env=pure false:=by rfl)(hw:swappedStores [tg] e X.env=pure FN:=by rfl)
  (h1:(La [tg] X.env).map (·.2)=[assign tg X.env]:=by rfl):DS X (.Assign [tg] e pos) (aX ma g):=(Yo he hg hs hw h1).of fun _ _ _ q=>Y8 q
theorem Qd {K:Ad}{σ : St}{H:Hp}{D:Ends}{m:ME}{t:TE}{i:Nat}(ht:∀ σ H Q,tD K m σ H Q->t σ H Q)(q:tDS K (aX m (FX i)) D σ H):Ys t (GP i) D σ H:=by
 obtain ⟨μ,h,σw,Dw,R,S,m,k⟩:=q;exact ht _ _ _ ⟨μ,h,σw,_,R,S,m,fun v H1 ⟨μ1,w,h1,e1,R1,r1,m1⟩=>k.nx _ _ ⟨μ1,σw.set i<|some w,h1,e1,R1,(S.ext e1).set r1 i,m1⟩⟩
theorem Zt {i:Nat}{x:Str}{pos':Pos}(hN:X.N.Nodup)(hi:X.N[i]?=Dn x)(hx:Loc X.env.scope x)(he:DE X e ma)(hs:swapsWith e (Dn (.Name x pos')) pos.line X.env=pure false:=by rfl)
  (hf:X.fn x=true\/X.env.scope.names.lookup x=Dn .local:=by first | exact .inl rfl | exact .inr rfl | assumption) :
  DS X (.Assign [.Name x pos'] e pos) (aX ma (FX i)):=(V8 hN hi hx he hs hf).of fun _ _ _ q=>Qd (fun _ _ _ z=>z) q
def aax (i j:Nat)(ta:MA):MS:=fun D σ h=>ta σ h fun ws h1=>match ws with
 | [v,w]=>D.nx ((σ.set i (Dn v)).set j (Dn w)) h1
 | _=>False
theorem ahl {i j:Nat}{ta:MA}(hp:PS X st (acX i j (tDA X.K ta))):DS X st (aax i j ta):=hp.of fun D σ H ⟨μ,h,σw,Dw,R,S,m,k⟩=>by
 refine ⟨μ,h,σw,_,R,S,m,fun vs H1 ⟨μ1,ws,h1,e1,R1,r1,m1⟩=>?_⟩;split at m1
 ·rename_i a b;rw [aL] at r1;obtain ⟨v,vr,ev,ra,r2⟩:=r1;rw [aL] at r2;obtain ⟨v',vr',ev',rb,r3⟩:=r2;rw [aL] at r3;subst r3;subst ev';subst ev;exact ⟨v,v',rfl,k.nx _ _ ⟨μ1,_,h1,e1,R1,((S.ext e1).set ra i).set rb j,m1⟩⟩
 ·exact m1.elim
def DX (t:MT)(b:MS):MS:=fun D σ h=>∃ Wm:Nat->Sw->Gh->Prop,(∃ m,Wm m σ h)/\∀ m σ h,Wm m σ h ->
 t σ h fun c h1=>br c (b { D with nx:=fun σ' h'=>∃ m',m'<m/\Wm m' σ' h',ct:=fun σ' h'=>∃ m',m'<m/\Wm m' σ' h',bk:=D.nx } σ h1) (D.nx σ h1)
theorem Fb {body:List Stmt}{pos:Pos}(hp:Uz (FP X.prog X.w) X.A X.env X.xe)(hc:DT X c t)(hb:R0 X body m1):DS X (.While c body [] pos) (DX t m1):=(ahi hp hc hb).of fun D σ H ⟨μ,h,σw,Dw,R,S,m,k⟩=>by
 obtain ⟨Wm,⟨m0,w0⟩,turn⟩:=m;refine ⟨fun n σ' H'=>DN X.K H μ (Wm n) σ' H',⟨m0,μ,σw,h,.refl,R,S,w0⟩,fun n σ1 H1 ⟨μ1,σw1,h1,e1,R1,S1,w1⟩=>?_⟩;refine ⟨μ1,h1,σw1,_,R1,S1,turn n σw1 h1 w1,fun b H2 ⟨μ2,h2,e2,R2,q⟩=>?_⟩;have e12:=e1.trans e2;cases b with
 | true=>
  dsimp only;rw [if_pos rfl];refine ⟨fun σ' H'=>∃ m',m'<n/\DN X.K H μ (Wm m') σ' H',fun _ _ z=>z,μ2,h2,σw1,_,R2,S1.ext e2,q.1 rfl,?_⟩;have again:∀ (σ':St) (H':Hp),DN X.K H2 μ2 (fun σ' h'=>∃ m',m'<n/\Wm m' σ' h') σ' H'->∃ m',m'<n/\DN X.K H μ (Wm m') σ' H':=fun σ' H' ⟨μ3,σw3,h3,e3,R3,S3,m',hm,w3⟩=>
   ⟨m',hm,μ3,σw3,h3,e12.trans e3,R3,S3,w3⟩
  exact ⟨again,fun v H' z=>k.rt _ _<|z.trans e12,fun σ' H' z=>k.nx _ _<|z.trans e12,again⟩
 | false=>
  dsimp only;rw [if_neg Ly];exact k.nx _ _ ⟨μ2,σw1,h2,e12,R2,S1.ext e2,q.2 rfl⟩
structure Src where
 ws:List W
 cell:Option (Nat×List W)
def Src.chk (s:Src)(h:Gh):Prop:=match s.cell with
 | none=>True
 | some n=>h.c n.1=Dn (.lst n.2)
abbrev MI:=Sw->Gh->(Src->Gh->Prop)->Prop
def VJ (K:Ad)(J:It)(src:Src)(H:Hp)(μ : Mu):Prop:=∀ {H2:Hp} {μ2:Mu} {h2:Gh} {i:Nat},Ie K H μ H2 μ2->Fv K μ2 H2 h2->src.chk h2 ->
 (∀ w,src.ws[i]?=Dn w->J.go i H2/\∀ x H3,J.yld i H2 x H3->∃ μ3,Ie K H2 μ2 H3 μ3/\Fv K μ3 H3 h2/\Aa K H3 μ3 w x)/\(src.ws.length<=i->J.stop i H2)
inductive DI (K:Ad) (H:Hp) (μ : Mu) (Rw:Src->Gh->Prop) (J:It) (H':Hp):Prop where
 | mk (μ':Mu) (src:Src) (h':Gh) (e:Ie K H μ H' μ') (R:Fv K μ' H' h') (o:VJ K J src H' μ') (q:Rw src h'):DI K H μ Rw J H'
inductive tDI (K:Ad) (mi:MI) (σ : St) (H:Hp) (R:It->Hp->Prop):Prop where
 | mk (μ : Mu) (h:Gh) (σw:Sw) (Rw:Src->Gh->Prop) (q:Fv K μ H h) (S:Slots K H μ σw σ) (x:mi σw h Rw) (k:∀ J H',DI K H μ Rw J H'->R J H'):tDI K mi σ H R
abbrev Ob (X:Cx)(tg iter:Expr)(mi:MI):Prop:=PI X tg iter (tDI X.K mi)
theorem PI.of {iter:Expr}{t t':TI}(h:PI X tg iter t)(k:∀ σ H R,t' σ H R->t σ H R):PI X tg iter t':=fun pins s σ H R I q=>h pins s σ H R I (k σ H R q)
def dH (h:Gh):W->Option (List W)
 | .lst ws=>Dn ws
 | .kls ws=>Dn ws
 | .loc n=>(match h.c n with
  | some (.lst ws)=>Dn ws
  | _=>FN)
 | _=>FN
def view (h:Gh):W->Option (List W)
 | .tup ws=>Dn ws
 | .lst ws=>Dn ws
 | .kls ws=>Dn ws
 | .loc n=>dH h (.loc n)
 | _=>FN
def uJ (h:Gh):W->Option Src
 | .tup ws=>Dn ⟨ws,FN⟩
 | .lst ws=>Dn ⟨ws,FN⟩
 | .kls ws=>Dn ⟨ws,FN⟩
 | .loc n=>(match h.c n with
  | some (.lst ws)=>Dn ⟨ws,Dn (n,ws)⟩
  | _=>FN)
 | _=>FN
theorem agi {K:Ad}{H:Hp}{μ : Mu}{p:Addr}{ws:List W}(r:Aa K H μ (.lst ws) (.ref p)):VJ K (Itl K p) ⟨ws,FN⟩ H μ:=by
 intro H2 μ2 h2 i e R2 _;have r2:=e.r _ _ r;rw [Aa] at r2;obtain ⟨q,xs,eq,hf,rs⟩:=r2;cases eq;refine ⟨fun w ew=>?_,fun hl=>⟨xs,hf.sq,by rw [<-rs.len];exact hl⟩⟩;obtain ⟨v,ev,rv⟩:=rs.get ew;refine ⟨⟨xs,v,hf.sq,ev⟩,fun x H3 ⟨e3,y⟩=>?_⟩;subst e3;have:=y xs hf.sq
 rw [ev] at this;cases this;exact ⟨μ2,.refl,R2,rv⟩
theorem aga {K:Ad}{H:Hp}{μ : Mu}{p:Addr}{ws:List W}(r:Aa K H μ (.kls ws) (.ref p)):VJ K (Itl K p) ⟨ws,FN⟩ H μ:=by
 intro H2 μ2 h2 i e R2 _;have r2:=e.r _ _ r;rw [Aa] at r2;obtain ⟨q,xs,eq,hf,rs⟩:=r2;cases eq;refine ⟨fun w ew=>?_,fun hl=>⟨xs,hf.sq,by rw [<-rs.len];exact hl⟩⟩;obtain ⟨v,ev,rv⟩:=rs.get ew;refine ⟨⟨xs,v,hf.sq,ev⟩,fun x H3 ⟨e3,y⟩=>?_⟩;subst e3;have:=y xs hf.sq
 rw [ev] at this;cases this;exact ⟨μ2,.refl,R2,rv⟩
theorem afg {K:Ad}{H:Hp}{μ : Mu}{p:Addr}{n:Nat}{ws:List W}(r:Aa K H μ (.loc n) (.ref p)):VJ K (Itl K p) ⟨ws,Dn (n,ws)⟩ H μ:=by
 intro H2 μ2 h2 i e R2 ck;have r2:=e.r _ _ r;rw [Aa] at r2;obtain ⟨q,eq,hm⟩:=r2;cases eq;obtain ⟨p',xs,hm',hx,rs⟩:=R2.lstAt (show h2.c n=Dn (.lst ws) from ck);have ep:p'=p:=by rw [hm] at hm';exact (Hz hm').symm
 subst ep;refine ⟨fun w ew=>?_,fun hl=>⟨xs,.of hx,by rw [<-rs.len];exact hl⟩⟩;obtain ⟨v,ev,rv⟩:=rs.get ew;refine ⟨⟨xs,v,.of hx,ev⟩,fun x H3 ⟨e3,y⟩=>?_⟩;subst e3;have:=y xs (.of hx)
 rw [ev] at this;cases this;exact ⟨μ2,.refl,R2,rv⟩
theorem aht {K:Ad}{H:Hp}{μ : Mu}{p:Addr}{ws:List W}(r:Aa K H μ (.tup ws) (.ref p)):VJ K (Itt K p) ⟨ws,FN⟩ H μ:=by
 intro H2 μ2 h2 i e R2 _;have r2:=e.r _ _ r;rw [Aa] at r2;obtain ⟨q,xs,eq,hf,rs⟩:=r2;cases eq;refine ⟨fun w ew=>?_,fun hl=>⟨xs,hf,by rw [<-rs.len];exact hl⟩⟩;obtain ⟨v,ev,rv⟩:=rs.get ew;refine ⟨⟨xs,v,hf,ev⟩,fun x H3 ⟨e3,y⟩=>?_⟩;subst e3;have:=y xs hf
 rw [ev] at this;cases this;exact ⟨μ2,.refl,R2,rv⟩
def ade (K:Ad)(tl:TE):TI:=fun σ H R=>tl σ H fun x H1=>(∃ a,x=.ref a/\(∃ xs,Io K H1 a xs)/\R (Itl K a) H1)\/(∃ a,x=.ref a/\(∃ xs,J4 K H1 a xs)/\R (Itt K a) H1)
theorem ZR {l:Expr}{tl:TE}(hl:PE X l tl):PI X tg l (ade X.K tl):=by
 intro pins s σ H R I h;refine G6 (hl pins s σ H _ I h) fun v s1 ⟨x,H1,I1,r1,q1⟩=>?_;rcases q1 with ⟨a,e,⟨xs,hq⟩,q⟩ | ⟨a,e,⟨xs,hq⟩,q⟩
 ·subst e;cases r1;obtain ⟨its,rv,p,hz⟩:=I1.list hq;refine Tw p.isList ?_;refine ⟨s1.heap.objs.size,[s1.heap.objs.size],_,_,H1,rfl,I1.kept (t':=s1.toks) fun b o e=>HD _ e,aeG a _,⟨_,KJ _ rfl,rfl,rfl⟩,fun b hb=>?_,q⟩;have e:b=s1.heap.objs.size:=by simpa using hb
  subst e;exact I1.fpOk (Gi _)<|I1.hok.fresh<|Gi _
 ·subst e;cases r1;obtain ⟨its,rv,p,hz⟩:=I1.tuple hq;refine wpAny_pyIter_tuple (show s1.heap.IsTuple a its.toArray from p) ?_;refine ⟨s1.heap.objs.size,[s1.heap.objs.size],_,_,H1,rfl,I1.kept (t':=s1.toks) fun b o e=>HD _ e,aer a _,⟨_,KJ _ rfl,rfl,rfl⟩,fun b hb=>?_,q⟩;have e:b=s1.heap.objs.size:=by simpa using hb
  subst e;exact I1.fpOk (Gi _)<|I1.hok.fresh<|Gi _
def Gu (m:ME):MI:=fun σ h R=>m σ h fun w h1=>match uJ h1 w with
 | some s=>R s h1
 | none=>False
theorem bO {l:Expr}(hl:DE X l ma):Ob X tg l (Gu ma):=PI.of (ZR hl) fun σ H Q ⟨μ,h,σw,Rw,R,S,m,k⟩=>by
 refine ⟨μ,h,σw,_,R,S,m,fun v H1 ⟨μ1,w,h1,e1,R1,r1,m1⟩=>?_⟩;cases w with
 | tup ws=>
  have r1':=r1;rw [Aa] at r1;obtain ⟨p,xs,ev,hs,_⟩:=r1;subst ev;exact .inr ⟨p,rfl,⟨xs,hs⟩,k _ _ ⟨μ1,⟨ws,FN⟩,h1,e1,R1,aht r1',m1⟩⟩
 | lst ws=>
  have r1':=r1;rw [Aa] at r1;obtain ⟨p,xs,ev,hs,_⟩:=r1;subst ev;exact .inl ⟨p,rfl,⟨xs,hs.sq⟩,k _ _ ⟨μ1,⟨ws,FN⟩,h1,e1,R1,agi r1',m1⟩⟩
 | kls ws=>
  have r1':=r1;rw [Aa] at r1;obtain ⟨p,xs,ev,hs,_⟩:=r1;subst ev;exact .inl ⟨p,rfl,⟨xs,hs.sq⟩,k _ _ ⟨μ1,⟨ws,FN⟩,h1,e1,R1,aga r1',m1⟩⟩
 | loc n=>
  have r1':=r1;rw [Aa] at r1;obtain ⟨p,ev,hm⟩:=r1;subst ev;unfold uJ at m1;dsimp only at m1;cases ec:h1.c n with
  | none=>rw [ec] at m1;exact m1.elim
  | some cl=>
   rw [ec] at m1;cases cl with
   | lst ws=>
    obtain ⟨p',xs,hm',hx,rs⟩:=R1.lstAt ec;have ep:p'=p:=by rw [hm] at hm';exact (Hz hm').symm
    subst ep;exact .inl ⟨p',rfl,⟨xs,.of hx⟩,k _ _ ⟨μ1,⟨ws,Dn (n,ws)⟩,h1,e1,R1,afg r1',m1⟩⟩
   | _=>exact m1.elim
 | _=>exact m1.elim
def Al (lo:Int)(n:Nat):List W:=(M5 n).map fun (k:Nat)=>.int (lo+(k:Int))
theorem Qy {K:Ad}{H:Hp}{μ : Mu}{lo:Int}{n:Nat}:VJ K (Itr lo n) ⟨Al lo n,FN⟩ H μ:=by
 intro H2 μ2 h2 i e R2 _;refine ⟨fun w ew=>?_,fun hl=>?_⟩
 ·have hi:i<n:=by
   have:=(NT.mp ew).1
   simpa [Al] using this
  have ew':w=.int (lo+(i:Int)):=by
   unfold Al at ew;rw [LK,List.getElem?_range hi] at ew;exact (Hz ew).symm
  subst ew';refine ⟨hi,fun x H3 ⟨e3,y⟩=>?_⟩;subst e3;exact ⟨μ2,.refl,R2,by rw [Aa];exact y⟩
 ·have:n<=i:=by simpa [Al] using hl
  exact this
def yq (j:Int)(P:Prop):Prop:=Hy (decide (-1000<=j)&&decide (j<=1000)) P ((-(2^62)<=j/\j<2^62)/\P)
theorem yq.ok {j:Int}{P:Prop}(h:yq j P):(-(2^62)<=j/\j<2^62)/\P:=by
 unfold yq at h;cases e:(decide (-1000<=j)&&decide (j<=1000)) with
 | true=>
  rw [e] at h;rw [MN,decide_eq_true_iff,decide_eq_true_iff] at e;exact ⟨⟨by lia,by lia⟩,h⟩
 | false=>rw [e] at h;exact h
theorem yq.mk {j:Int}{P:Prop}(h1:-(2^62)<=j)(h2:j<2^62)(h:P):yq j P:=by
 unfold yq;cases e:(decide (-1000<=j)&&decide (j<=1000)) with
 | true=>exact h
 | false=>exact ⟨⟨h1,h2⟩,h⟩
def dR (ma:MA):MI:=fun σ h R=>ma σ h fun ws h1=>match ws with
 | [.int j]=>yq j (R ⟨Al 0 j.toNat,FN⟩ h1)
 | _=>False
def JW (ma:MA):MI:=fun σ h R=>ma σ h fun ws h1=>match ws with
 | [.int i,.int j]=>yq i (yq j (R ⟨Al i (j - i).toNat,FN⟩ h1))
 | _=>False
theorem zaR {a:Expr}{mr:MA}{p pos:Pos}(hg:Gl X "range")(hm:X.mg "range" = FN)(ha:Jv X [a] mr)(hs:Fx [a] X.env=[(false,eval a X.env)]:=by rfl):Ob X tg (.Call (.Name "range" p) [a] [] pos) (dR mr):=
 PI.of (zaW hg hm ha hs) fun σ H Q ⟨μ,h,σw,Rw,R,S,m,k⟩=>by
  refine ⟨μ,h,σw,_,R,S,m,fun vs H1 ⟨μ1,ws,h1,e1,R1,r1,m1⟩=>?_⟩;split at m1
  ·rename_i j;rw [aL] at r1;obtain ⟨v,vr,ev,ra,r1⟩:=r1;rw [aL] at r1;rw [Aa] at ra;subst ev r1 ra;exact ⟨j,rfl,m1.ok.1.1,m1.ok.1.2,k _ _ ⟨μ1,_,h1,e1,R1,Qy,m1.ok.2⟩⟩
  ·exact m1.elim
theorem aeL {a b:Expr}{mr:MA}{p pos:Pos}(hg:Gl X "range")(hm:X.mg "range" = FN)(ha:Jv X [a,b] mr)(hs:Fx [a,b] X.env=[(false,eval a X.env),(false,eval b X.env)]:=by rfl)(hs2:Fx [b] X.env=[(false,eval b X.env)]:=by rfl) :
  Ob X tg (.Call (.Name "range" p) [a,b] [] pos) (JW mr):=
 PI.of (aed hg hm ha hs hs2) fun σ H Q ⟨μ,h,σw,Rw,R,S,m,k⟩=>by
  refine ⟨μ,h,σw,_,R,S,m,fun vs H1 ⟨μ1,ws,h1,e1,R1,r1,m1⟩=>?_⟩;split at m1
  ·rename_i i j;rw [aL] at r1;obtain ⟨v,vr,ev,ra,r1⟩:=r1;rw [aL] at r1;obtain ⟨v',vr',ev',rb,r1⟩:=r1;rw [aL] at r1;rw [Aa] at ra rb;subst ev ev' r1 ra rb;exact ⟨i,j,rfl,⟨m1.ok.1.1,m1.ok.1.2,m1.ok.2.ok.1.1,m1.ok.2.ok.1.2⟩,k _ _ ⟨μ1,_,h1,e1,R1,Qy,m1.ok.2.ok.2⟩⟩
  ·exact m1.elim
def Src.go (s:Src)(h:Gh)(P:Prop):Prop:=match s.cell with
 | none=>P
 | some n=>h.c n.1=Dn (.lst n.2)/\P
theorem Src.go_ok {s:Src}{h:Gh}{P:Prop}(x:s.go h P):s.chk h/\P:=by
 unfold Src.go at x;unfold Src.chk;cases e:s.cell with
 | none=>rw [e] at x;exact ⟨trivial,x⟩
 | some n=>rw [e] at x;exact x
def eO (s:Src)(g:MG)(b:MS)(D:bT):List W->Sw->Gh->Prop
 | [],σ,h=>s.go h (D.nx σ h)
 | w::r,σ,h=>s.go h (g w σ h fun σ1 h1=>b { D with nx:=eO s g b D r,ct:=eO s g b D r,bk:=D.nx } σ1 h1)
def oF (mi:MI)(g:MG)(b:MS):MS:=fun D σ h=>mi σ h fun s h1=>eO s g b D s.ws σ h1
theorem cW {iter:Expr}{body:List Stmt}{mi:MI}{g:MG}{mb0:MS}{pos:Pos}(hp:Uz (FP X.prog X.w) X.A X.env X.xe)(hc:X.calm=true)(hi:Ob X tg iter mi)(hg:DG X tg g)(hb:R0 X body mb0)
  (hs:∀ x,SM iter X.env x=pure x:=by intro _;rfl):DS X (.For tg iter body [] pos) (oF mi g mb0):=(Yp hp hc hi hg hb hs).of fun D σ H ⟨μ,h,σw,Dw,R,S,m,k⟩=>by
 refine ⟨μ,h,σw,_,R,S,m,fun J H1 ⟨μ1,src,h1,e1,R1,ok,m1⟩=>?_⟩;refine ⟨fun i n σ' H'=>n=src.ws.length - i/\i<=src.ws.length/\DN X.K H1 μ1 (eO src g mb0 Dw<|src.ws.drop i) σ' H',⟨src.ws.length,by simp,Rn _,μ1,σw,h1,.refl,R1,S.ext e1,by rw [U6];exact m1⟩,?_⟩;rintro i n σ2 H2 ⟨hn,hle,μ2,σw2,h2,e2,R2,S2,m2⟩;by_cases hlt:i<src.ws.length
 ·rw [List.drop_eq_getElem_cons hlt] at m2;obtain ⟨ck,m2⟩:=Src.go_ok m2;obtain ⟨hgo,hy⟩:=(ok e2 R2 ck).1 src.ws[i] (JQ hlt);refine .inr ⟨hgo,fun σ' H'=>DN X.K H2 μ2 (eO src g mb0 Dw<|src.ws.drop<|i+1) σ' H',fun σ' H' z=>⟨src.ws.length - (i+1),by lia,rfl,hlt,z.trans e2⟩,fun x H3 y=>?_⟩;obtain ⟨μ3,e3,R3,rx⟩:=hy x H3 y;refine ⟨μ3,h2,σw2,src.ws[i],_,R3,S2.ext e3,rx,m2,fun σ4 H4 ⟨μ4,σw4,h4,e4,R4,S4,m4⟩=>?_⟩;have e24:=e3.trans e4;have e14:=(e1.trans e2).trans e24;exact ⟨μ4,h4,σw4,_,R4,S4,m4,fun σ' H' z=>z.trans e24,fun v H' z=>k.rt _ _<|z.trans e14,fun σ' H' z=>k.nx _ _<|z.trans e14,fun σ' H' z=>z.trans e24⟩
 ·have ei:i=src.ws.length:=by lia
  subst ei;rw [List.drop_length] at m2;obtain ⟨ck,m2⟩:=Src.go_ok m2;exact .inl ⟨(ok e2 R2 ck).2 (Gi _),k.nx _ _ ⟨μ2,σw2,h2,e1.trans e2,R2,S2,m2⟩⟩
def qI (ix:List Nat)(σ : Sw):Sw:=ix.map fun i=>(σ[i]?).getD FN
theorem Slots.blk {K:Ad}{H:Hp}{μ : Mu}{σw:Sw}{σ : St}{ix:List Nat}(S:Slots K H μ σw σ):∀ {ws:List W} {vs:List V},aL K H μ ws vs->Slots K H μ (ws.map Dn++qI ix σw) (vs.map Dn++Jx ix σ):=by
 intro ws vs r;have hl:=r.len;refine ⟨by simp [qI,Jx,hl],fun i u q=>?_⟩;by_cases hi:i<ws.length
 ·rw [SJ (by simpa using hi),LK] at q;have q':ws[i]?=Dn u:=by
   cases e:ws[i]? with
   | none=>rw [e] at q;cases q
   | some a=>rw [e] at q;simpa using q
  obtain ⟨v,hv,rv⟩:=r.get q';refine ⟨v,?_,rv⟩;rw [SJ (by rw [Gg];lia),LK,hv];rfl
 ·rw [Rq (by simpa using hi),Gg] at q;rw [Rq (by rw [Gg];lia),Gg,<-hl];generalize i - ws.length=i at q |-
  unfold qI at q;unfold Jx;rw [LK] at q |-
  cases e:ix[i]? with
  | none=>rw [e] at q;cases q
  | some j=>
   rw [e] at q;cases e2:σw[j]? with
   | none=>simp [e2] at q
   | some o=>
    have eo:o=Dn u:=by simpa [e2] using q
    subst eo;obtain ⟨v',h1,h2⟩:=S.get j u e2;exact ⟨v',by simp [h1],h2⟩
def fH:MT:=fun _ h Q=>Q true h
def oE (s:Src)(own:W->Option (List W))(ix:List Nat)(tt:MT)(te:ME)(σ : Sw)(Q:WK):List W->List W->Gh->Prop
 | [],acc,h=>s.go h (Q (.lst acc) h)
 | w::r,acc,h=>s.go h (match own w with
  | some vs=>tt (vs.map Dn++qI ix σ) h fun c h1=>Hy c (te (vs.map Dn++qI ix σ) h1 fun v h2=>oE s own ix tt te σ Q r (acc++[v]) h2) (oE s own ix tt te σ Q r acc h1)
  | none=>False)
def GQ (own:W->Option (List W))(ix:List Nat)(mi:MI)(tt:MT)(te:ME):ME:=fun σ h Q=>mi σ h fun s h1=>gJ s.ws.length (oE s own ix tt te σ Q s.ws [] h1)
def Jb (K:Ad)(n:Nat)(own:V->Hp->List V->Prop)(ow:W->Option (List W)):Prop:=∀ {H:Hp} {μ : Mu} {w:W} {v:V} {ws:List W},Aa K H μ w v->ow w=Dn ws->∃ vs,own v H vs/\vs.length=n/\aL K H μ ws vs
def Gs (w:W):Option (List W):=Dn [w]
def owT (n:Nat)(w:W):Option (List W):=match w with
 | .tup ws=>(match Ls ws.length n with
  | true=>Dn ws
  | false=>FN)
 | _=>FN
def ov1:V->Hp->List V->Prop:=fun v _ vs=>vs=[v]
def ovT (K:Ad):V->Hp->List V->Prop:=fun v H vs=>∃ a,v=.ref a/\J4 K H a vs
theorem uM {K:Ad}:Jb K 1 ov1 Gs:=by
 intro H μ w v ws r e;cases (show Dn [w]=Dn ws from e)
 exact ⟨[v],rfl,rfl,.one r⟩
theorem Zx {K:Ad}{n:Nat}:Jb K n (ovT K) (owT n):=by
 intro H μ w v ws r e;cases w with
 | tup us=>
  unfold owT at e;dsimp only at e;cases en:Ls us.length n with
  | false=>rw [en] at e;cases e
  | true=>
   rw [en] at e;cases (show Dn us=Dn ws from e)
   rw [Aa] at r;obtain ⟨p,xs,ev,hs,rs⟩:=r;exact ⟨xs,⟨p,ev,hs⟩,by rw [<-rs.len];exact UG en,rs⟩
 | _=>cases e
abbrev Y9 (X:Cx)(ifs:List Expr)(m:MT):Prop:=VH X ifs (tDT X.K m)
theorem jR:Y9 X [] fH:=fun pins s σ H Q I ⟨μ,h,σw,Qw,R,S,m,k⟩=>afS pins s σ H Q I (k _ _ ⟨μ,h,.refl,R,m⟩)
theorem oW (h:DT X c t):Y9 X [c] t:=Vv h
theorem Zy {K:Ad}{σ : St}{H:Hp}{Q:VK}{n:Nat}{own:V->Hp->List V->Prop}{ow:W->Option (List W)}{ix:List Nat}{mi:MI}{tt:MT}{te:ME}(oo:Jb K n own ow)(q:tD K (GQ ow ix mi tt te) σ H Q):tLC n own ix (tDI K mi) (tDT K tt) (tD K te) σ H Q:=by
 obtain ⟨μ,h,σw,Qw,R,S,m,k⟩:=q;refine ⟨μ,h,σw,_,R,S,m,fun J H1 ⟨μ1,src,h1,e1,R1,ok,hz0⟩=>?_⟩;obtain ⟨hz,m1⟩:=hz0.ok;intro D hD;have nD:=R1.nohid hD;have hD1:Ie K H1 μ1 (G8 H1 D (.lst [])) (μ1.hide D):=Ie.hide hD;refine ⟨fun i n ys H'=>n=src.ws.length - i/\i<=src.ws.length/\ys.length<=i/\H' D=Dn (.lst ys)/\∃ μ' acc h',Ie K H1 μ1 H' μ'/\Fv K μ' H' h'/\μ'.hid D/\aL K H' μ' acc ys/\oE src ow ix tt te σw Qw (src.ws.drop i) acc h',
  ⟨src.ws.length,by simp,Rn _,Gi _,cj,μ1.hide D,[],h1,hD1,R1.hide hD,.inl rfl,.nil,by rw [U6];exact m1⟩,?_⟩
 rintro i n' ys H2 ⟨hn,hle,hys,hH2,μ2,acc,h2,e2,R2,hid2,ra,m2⟩ _;by_cases hlt:i<src.ws.length
 ·rw [List.drop_eq_getElem_cons hlt] at m2;obtain ⟨ck,m2⟩:=Src.go_ok m2;obtain ⟨hgo,hy⟩:=(ok e2 R2 ck).1 src.ws[i] (JQ hlt);refine .inr ⟨hgo,by lia,fun x H3 y=>?_⟩;obtain ⟨μ3,e3,R3,rx⟩:=hy x H3 y;have e13:=e2.trans e3;cases eo:ow src.ws[i] with
  | none=>rw [eo] at m2;exact m2.elim
  | some us=>
   rw [eo] at m2;obtain ⟨vs,hov,hvl,rvs⟩:=oo rx eo;have S3:=(S.ext (e1.trans e13)).blk (ix:=ix) rvs;refine ⟨vs,hov,hvl,μ3,h2,_,_,R3,S3,m2,fun b H4 ⟨μ4,h4,e4,R4,m4⟩=>?_⟩;have e24:=e3.trans e4;obtain ⟨hid4,hH4⟩:=e24.o D _ hid2 hH2;cases b with
   | false=>
    dsimp only;rw [if_neg Ly];exact ⟨hH4,src.ws.length - (i+1),by lia,rfl,hlt,by lia,hH4,μ4,acc,h4,e2.trans e24,R4,hid4,e24.s ra,m4⟩
   | true=>
    dsimp only;rw [if_pos rfl];refine ⟨μ4,h4,_,_,R4,S3.ext e4,m4,fun v H5 ⟨μ5,w5,h5,e5,R5,r5,m5⟩=>?_⟩;have e25:=e24.trans e5;obtain ⟨hid5,hH5⟩:=e25.o D _ hid2 hH2;have g:=VG.grow (ys:=ys++[v]) R5 hid5;have rs:aL K (G8 H5 D (.lst (ys++[v]))) μ5 (acc++[w5]) (ys++[v]):=aL.ex (Ex0.grow R5 hid5) (aL.append (e25.s ra) (aL.one r5));exact ⟨hH5,src.ws.length - (i+1),by lia,rfl,hlt,by rw [Lq];simp;lia,cj,μ5,acc++[w5],h5,(e2.trans e25).x nD g,R5.grow hid5,hid5,rs,m5⟩
 ·have ei:i=src.ws.length:=by lia
  subst ei;rw [List.drop_length] at m2;obtain ⟨ck,m2⟩:=Src.go_ok m2;exact .inl ⟨(ok e2 R2 ck).2 (Gi _),k _ _ ⟨μ2.unhide D,.lst acc,h2,e1.trans<|e2.x nD .unhide,R2.unhide,Aa.built R2 hid2 hH2 ra,m2⟩⟩
variable {scope:Scope}{x:Str}{xs:List Str}{ix:List Nat}{elt iter:Expr}{ifs:List Expr}{px:Pos}{mi:MI}{tt:MT}{te:ME}
theorem uT (B:j7 X scope [x] ix)(C:Addr)(s:AP)(H:Hp)(fp:List Addr):PG (blk X scope (jC X [x] ix) C s H fp) (.Name x px) (Rb 1 ov1):=by
 obtain ⟨o1,o2⟩:=JF B (y:=x) (by simp);intro pins s' σ H' v u Q I r ⟨vs,hv,hl,q⟩;cases hv;refine wF (X:=blk X scope (jC X [x] ix) C s H fp) (i:=0) B.nd rfl o1 o2 pins s' σ H' v u Q I r ?_;have hlen:σ.length=(jC X [x] ix).length:=I.len;cases σ with
 | nil=>simp at hlen
 | cons o σ=>exact q
theorem Yu {y:Str}{py pt:Pos}{kt:Nat}(hc:X.calm=true)(B:j7 X scope [x,y] ix)(C:Addr)(s:AP)(H:Hp)(fp:List Addr)
  (h1:∀ env,(La [.Name x px,.Name y py] env).map (·.2)=assign (.Name x px) env::(La [.Name y py] env).map (·.2):=by intro _;rfl)
  (h2:∀ env,(La [.Name y py] env).map (·.2)=assign (.Name y py) env::(La [] env).map (·.2):=by intro _;rfl)
  (h3:∀ env,(La [.Name x px,.Name y py] env).length=2:=by intro _;rfl) (h4:∀ env,(La [.Name x px,.Name y py] env).findIdx? (·.1)=FN:=by intro _;rfl) :
  PG (blk X scope (jC X [x,y] ix) C s H fp) (.Tuple [.Name x px,.Name y py] kt pt) (Rb 2 (ovT X.K)):=by
 obtain ⟨o1,u1⟩:=JF B (y:=x) (by simp);obtain ⟨o2,u2⟩:=JF B (y:=y) (by simp);intro pins s' σ H' v u Q I r ⟨vs,⟨a,ea,ha⟩,hl,q⟩;have hlen:σ.length=(jC X [x,y] ix).length:=I.len;refine Yt (X:=blk X scope (jC X [x,y] ix) C s H fp) (n:=2) hc (vR (wF (i:=0) B.nd rfl o1 u1) (vR (wF (i:=1) B.nd rfl o2 u2) Lb<|h2 _)<|h1 _) (h3 _) (h4 _) pins s' σ H' v u Q I r ?_;refine ⟨a,vs,ea,ha,hl,?_⟩;match vs,hl,q with
 | [v1,v2],_,q=>
  match σ,hlen,q with
  | [],hlen,_=>simp at hlen
  | [_],hlen,_=>simp at hlen
  | _::_::σ,_,q=>exact ⟨v1,[v2],rfl,v2,[],rfl,rfl,q⟩
theorem acT {own:V->Hp->List V->Prop}{ow:W->Option (List W)}(ix:List Nat)(hc:X.calm=true)(B:j7 X scope xs ix)(oo:Jb X.K xs.length own ow)(hg:∀ C s H fp,PG (blk X scope (jC X xs ix) C s H fp) tg (Rb xs.length own))(hi:Ob X tg iter mi)
  (ht:∀ C s H fp,Y9 (blk X scope (jC X xs ix) C s H fp) ifs tt) (he:∀ C s H fp,DE (blk X scope (jC X xs ix) C s H fp) elt te)
  (hs:∀ v,SM iter X.env v=pure v:=by intro _;rfl):DE X (.ListComp elt [⟨tg,iter,ifs,0⟩] scope pos) (GQ ow ix mi tt te):=(abR ix hc B hg hi ht he hs).of fun _ _ _ q=>Zy oo q
theorem uR {own:V->Hp->List V->Prop}{ow:W->Option (List W)}(ix:List Nat){i:Nat}{y:Str}{py spos:Pos}(hN:X.N.Nodup)(hi':X.N[i]?=Dn y)(hy:Loc X.env.scope y)(hc:X.calm=true)(B:j7 X scope xs ix)(oo:Jb X.K xs.length own ow)
  (hg:∀ C s H fp,PG (blk X scope (jC X xs ix) C s H fp) tg (Rb xs.length own)) (hi:Ob X tg iter mi)
  (ht:∀ C s H fp,Y9 (blk X scope (jC X xs ix) C s H fp) ifs tt) (he:∀ C s H fp,DE (blk X scope (jC X xs ix) C s H fp) elt te)
  (hsw:swapsWith (.ListComp elt [⟨tg,iter,ifs,0⟩] scope pos) (Dn (.Name y py)) spos.line X.env=pure true:=by rfl)
  (hf:X.fn y=true\/X.env.scope.names.lookup y=Dn .local:=by first | exact .inl rfl | exact .inr rfl | assumption)
  (hs:∀ v,SM iter X.env v=pure v:=by intro _;rfl):DS X (.Assign [.Name y py] (.ListComp elt [⟨tg,iter,ifs,0⟩] scope pos) spos) (aX (GQ ow ix mi tt te) (FX i)):=
 (abY ix hN hi' hy hc B hg hi ht he hsw hf hs).of fun _ _ _ q=>Qd (fun _ _ _ z=>Zy oo z) q
theorem aa0 {κ : Type}{K:Ad}{H0 H:Hp}{μ0 μ : Mu}{k:Nat}(hd:∀ n p,μ0.f n=Dn p->n<k):∀ {fs:List (κ×W)} {f0 fv:List (κ×V)},Wx K H0 μ0 fs f0->Wx K H μ fs fv->Wx K H (μ.cut k) fs fv
 | [],_,_,_,.nil=>.nil
 | _::_,_,_,.cons a b,.cons c d=>.cons ⟨c.1,Aa.cut c.2 (Aa.lo hd a.2)⟩ (aa0 hd b d)
def xZ (pure:Bool)(h:Gh)(w:W)(h':Gh)(Q:WK):Prop:=match pure with
 | false=>Q w h'
 | true=>(∀ n c,n<h.nx->h.c n=Dn c->h'.c n=Dn c)/\((Lo h.nx w/\Q w h)\/∃ n ws,w=.loc n/\h.nx<=n/\h'.c n=Dn (.lst ws)/\K3 h.nx ws/\Q (.lst ws) h)
def FW (n N:Nat)(pure:Bool)(body:BK->MS):kI:=fun ws h Q E=>Hy (Ls ws.length n)
 (body E { nx:=fun _ h'=>xZ pure h .non h' Q,rt:=fun w h'=>xZ pure h w h' Q } (ws.map Dn++Ot (N - ws.length) FN) h) False
theorem Qa {n N:Nat}{pure:Bool}{body:BK->MS}{ws:List W}{h:Gh}{Q:WK}{E:BK}(x:FW n N pure body ws h Q E):ws.length=n /\
  body E { nx:=fun _ h'=>xZ pure h .non h' Q,rt:=fun w h'=>xZ pure h w h' Q } (ws.map Dn++Ot (N - ws.length) FN) h:=by
 unfold FW at x;cases e:Ls ws.length n with
 | true=>rw [e] at x;exact ⟨UG e,x⟩
 | false=>rw [e] at x;exact (show False from x).elim
theorem Fv.cut {K:Ad}{H H':Hp}{μ μ':Mu}{h h':Gh}(R:Fv K μ H h)(R':Fv K μ' H' h')(e:Ie K H μ H' μ')(hc:∀ n c,h.c n=Dn c->h'.c n=Dn c):Fv K (μ'.cut h.nx) H' h where
 inj:=fun m n p a b=>R'.inj m n p (Mu.cut_some a).2 (Mu.cut_some b).2
 dom:=fun n p a=>(Mu.cut_some a).1
 trk:=fun n p a=>R'.trk n p (Mu.cut_some a).2
 cel:=fun n c a=>by
  obtain ⟨p0,m0,x0⟩:=R.cel n c a;obtain ⟨p,m,x⟩:=R'.cel n c (hc n c a);have hn:=R.dom n p0 m0;refine ⟨p,by show (if n<h.nx then μ'.f n else FN)=Dn p;rw [if_pos hn];exact m,?_⟩;cases c with
  | lst ws=>
   obtain ⟨xs0,_,r0⟩:=x0;obtain ⟨xs,hx,r⟩:=x;exact ⟨xs,hx,aL.cut r<|aL.lo R.dom r0⟩
  | obj C fs=>
   obtain ⟨dx0,f0,_,r0⟩:=x0;obtain ⟨dx,fv,hx,r⟩:=x;exact ⟨dx,fv,hx,aa0 R.dom r0 r⟩
  | dct kvs=>
   obtain ⟨f0,_,r0⟩:=x0;obtain ⟨fv,hx,r⟩:=x;exact ⟨fv,hx,aa0 R.dom r0 r⟩
  | dtt kvs=>
   obtain ⟨_,_,_,_,_,d0,f0⟩:=x0;obtain ⟨xs,vs,a,b,c,d,f⟩:=x;exact ⟨xs,vs,a,b,c,aL.cut d<|aL.lo R.dom d0,aL.cut f<|aL.lo R.dom f0⟩
 hd:=fun p z=>⟨(R'.hd p z).1,fun n a=>(R'.hd p z).2 n (Mu.cut_some a).2⟩
theorem Ie.cut {K:Ad}{H H':Hp}{μ μ':Mu}{h:Gh}(R:Fv K μ H h)(e:Ie K H μ H' μ'):Ie K H μ H' (μ'.cut h.nx):=
 ⟨fun w v r=>Aa.cut (e.r w v r) (Aa.lo R.dom r),fun p u z a=>e.o p u z a⟩
theorem KN {K:Ad}{H H':Hp}{μ μ':Mu}{h h':Gh}{w:W}{v:V}{Q:WK}{pure:Bool}(R:Fv K μ H h)(e:Ie K H μ H' μ')(R':Fv K μ' H' h')(r:Aa K H' μ' w v)(x:xZ pure h w h' Q):DQ K H μ Q v H':=by
 cases pure with
 | false=>exact ⟨μ',w,h',e,R',r,x⟩
 | true=>
  obtain ⟨hc0,⟨lo,q⟩ | ⟨n,ws,ew,hn,ec,lo,q⟩⟩:=x;all_goals have hc:∀ n c,h.c n=Dn c->h'.c n=Dn c:=fun n c a=>hc0 n c (let ⟨p,m,_⟩:=R.cel n c a;R.dom n p m) a
  ·exact ⟨μ'.cut h.nx,w,h,e.cut R,R.cut R' e hc,Aa.cut r lo,q⟩
  ·subst ew;refine ⟨μ'.cut h.nx,.lst ws,h,e.cut R,R.cut R' e hc,?_,q⟩;rw [Aa] at r;rw [Aa];obtain ⟨p,ev,hm⟩:=r;obtain ⟨p',xs,hm',hx,rs⟩:=R'.lstAt ec;have ep:p'=p:=by rw [hm] at hm';exact (Hz hm').symm
   subst ep;refine ⟨p',xs,ev,⟨hx,fun m a=>?_,fun z=>(R'.hd p' z).2 n hm⟩,aL.cut rs lo⟩;obtain ⟨a1,a2⟩:=Mu.cut_some a;have:=R'.inj m n p' a2 hm
   lia
theorem afa {K:Ad}{H:Hp}{μ : Mu}{N:List Str}:∀ {ws:List W} {vs:List V},aL K H μ ws vs->Slots K H μ (ws.map Dn++Ot (N.length - ws.length) FN) (start N vs):=by
 intro ws vs r;have hl:=r.len;refine ⟨by simp [start,hl],fun i w q=>?_⟩;by_cases hi:i<ws.length
 ·rw [SJ (by simpa using hi),LK] at q;have q':ws[i]?=Dn w:=by
   cases e:ws[i]? with
   | none=>rw [e] at q;cases q
   | some a=>rw [e] at q;simpa using q
  obtain ⟨v,hv,rv⟩:=r.get q';refine ⟨v,?_,rv⟩;unfold start;rw [SJ (by rw [Gg];lia),LK,hv];rfl
 ·rw [Rq (by simpa using hi),Uw] at q;split at q <;> cases q
theorem acw {P:FQ}{w:Cm}{K:Ad}{mg:Str->Option JI}{base:Heap}{x qual:Str}{st:Stmt}{f:Addr}{fd:Le}{N ps:List Str}{k:Nat}{pure:Bool}{body:BK->MS}(F:Rx K x qual st f fd)(S:pB N ps (bU st))
  (hb:∀ (cdv:JI) (A:FT) (outer:List Env) (s:AP) (H:Hp) (E:XK),mK k (A.deeper (envOfC qual (bU st) s.heap.objs.size f cdv)) ->
   R0 (Mr M4 P w K mg base N qual (bU st) f cdv A outer s H E).nox (je st) (body EF)):qJ P w K mg base M4 (k+1) f fd ps (lift K (FW ps.length N.length pure body)):=by
 refine F.ok S (fun vs H Q E ⟨μ,h,ws,Qw,R,r,m,k⟩=>by rw [<-r.len];exact (Qa m).1)<|fun cdv A outer s H vs Q E hr ⟨μ,h,ws,Qw,R,r,m0,k⟩=>?_
 obtain ⟨hl,m⟩:=Qa m0;refine ⟨_,hb cdv A outer s H E hr,μ,h,_,_,R,afa r,m,?_,?_,?_,?_⟩
 ·rintro σ' H' ⟨μ1,σw1,h1,e1,R1,S1,m1⟩;exact k _ _<|KN (w:=.non) R e1 R1 (by rw [Aa]) m1
 ·rintro v H' ⟨μ1,w1,h1,e1,R1,r1,m1⟩;exact k _ _<|KN R e1 R1 r1 m1
 ·rintro σ' H' ⟨μ1,σw1,h1,e1,R1,S1,m1⟩;exact m1.elim
 ·rintro σ' H' ⟨μ1,σw1,h1,e1,R1,S1,m1⟩;exact m1.elim
end
section
variable {X:Cx}{K:Ad}
theorem DQ.int {H:Hp}{μ : Mu}{h:Gh}{i:Int}{Q:WK}(R:Fv K μ H h)(q:Q (.int i) h):DQ K H μ Q (.int i) H:=⟨μ,.int i,h,.refl,R,by rw [Aa],q⟩
theorem DQ.bl {H:Hp}{μ : Mu}{h:Gh}{i:Bool}{Q:WK}(R:Fv K μ H h)(q:Q (.bl i) h):DQ K H μ Q (.bl i) H:=⟨μ,.bl i,h,.refl,R,by rw [Aa],q⟩
def zae (C:Int->Int->Prop)(g:Int->Int->Int):M2:=fun x y h Q=>match x,y with
 | .int i,.int j=>C i j/\Q (.int (g i j)) h
 | _,_=>False
def jG:M2:=fun x y h Q=>match x,y with
 | .int i,.int j=>Q (.int (i - j)) h
 | _,_=>False
theorem dU:LR X (ML .Sub) jG:=⟨_,Xz,by
 intro H μ h x y wx wy Qw Q R rx ry m k;unfold jG at m;split at m
 ·rw [Aa] at rx ry;exact ⟨_,_,rx,ry,k _ _<|.int R m⟩
 ·exact m.elim⟩
def cG:M2:=fun x y h Q=>match x,y with
 | .int i,.int j=>cY i j/\Q (.int (i*j)) h
 | _,_=>False
theorem bI:LR X (ML .Mult) cG:=⟨_,agc,by
 intro H μ h x y wx wy Qw Q R rx ry m k;unfold cG at m;split at m
 ·rw [Aa] at rx ry;exact ⟨_,_,rx,ry,m.1,k _ _<|.int R m.2⟩
 ·exact m.elim⟩
def zK:M2:=fun x y h Q=>match x,y with
 | .int i,.int j=>Ej i j/\Q (.int (i.fdiv j)) h
 | _,_=>False
theorem Br:LR X (ML .FloorDiv) zK:=⟨_,agl,by
 intro H μ h x y wx wy Qw Q R rx ry m k;unfold zK at m;split at m
 ·rw [Aa] at rx ry;exact ⟨_,_,rx,ry,m.1,k _ _<|.int R m.2⟩
 ·exact m.elim⟩
def qP:M2:=fun x y h Q=>match x,y with
 | .int i,.int j=>j≠0/\Q (.int (i.fmod j)) h
 | _,_=>False
theorem oV:LR X (ML .Mod) qP:=⟨_,Vp,by
 intro H μ h x y wx wy Qw Q R rx ry m k;unfold qP at m;split at m
 ·rw [Aa] at rx ry;exact ⟨_,_,rx,ry,m.1,k _ _<|.int R m.2⟩
 ·exact m.elim⟩
def Mx:M2:=fun x y h Q=>match x,y with
 | .int i,.int j=>ab2 i j/\Q (.int (i^j.toNat)) h
 | _,_=>False
theorem Gv:LR X (ML .Pow) Mx:=⟨_,V9,by
 intro H μ h x y wx wy Qw Q R rx ry m k;unfold Mx at m;split at m
 ·rw [Aa] at rx ry;exact ⟨_,_,rx,ry,m.1,k _ _<|.int R m.2⟩
 ·exact m.elim⟩
def kLt:M2:=fun x y h Q=>match x,y with
 | .int i,.int j=>Q (.bl (decide (i<j))) h
 | _,_=>False
theorem Ur:LR X (Jc .Lt) kLt:=⟨_,aaC,by
 intro H μ h x y wx wy Qw Q R rx ry m k;unfold kLt at m;split at m
 ·rw [Aa] at rx ry;exact ⟨_,_,rx,ry,k _ _<|.bl R m⟩
 ·exact m.elim⟩
def kLe:M2:=fun x y h Q=>match x,y with
 | .int i,.int j=>Q (.bl (decide (i<=j))) h
 | _,_=>False
theorem adg:LR X (Jc .LtE) kLe:=⟨_,aaM,by
 intro H μ h x y wx wy Qw Q R rx ry m k;unfold kLe at m;split at m
 ·rw [Aa] at rx ry;exact ⟨_,_,rx,ry,k _ _<|.bl R m⟩
 ·exact m.elim⟩
def Nt:M2:=fun x y h Q=>match x,y with
 | .int i,.int j=>Q (.bl (decide (j<i))) h
 | _,_=>False
theorem Q9:LR X (Jc .Gt) Nt:=⟨_,abE,by
 intro H μ h x y wx wy Qw Q R rx ry m k;unfold Nt at m;split at m
 ·rw [Aa] at rx ry;exact ⟨_,_,rx,ry,k _ _<|.bl R m⟩
 ·exact m.elim⟩
theorem aL.ne_nil {H:Hp}{μ : Mu}{ws:List W}{xs:List V}(r:aL K H μ ws xs):xs=[]↔ws=[]:=by
 have:=r.len
 constructor
 ·intro e;subst e;exact List.eq_nil_of_length_eq_zero this
 ·intro e;subst e;exact List.eq_nil_of_length_eq_zero this.symm
def Bf:M2:=fun x y h Q=>match y with
 | .int i=>(match view h x with
  | some ws=>(match Ji ws i with
   | some w=>Q w h
   | none=>False)
  | none=>False)
 | _=>False
theorem aL.at {H:Hp}{μ : Mu}{ws:List W}{xs:List V}{i:Int}{w:W}(r:aL K H μ ws xs)(e:Ji ws i=Dn w):∃ v,Ji xs i=Dn v/\Aa K H μ w v:=by
 unfold Ji at e |-
 rw [<-r.len];cases q:Nu ws.length i with
 | none=>rw [q] at e;cases e
 | some j=>rw [q] at e;exact r.get e
theorem cF {H:Hp}{μ : Mu}{h:Gh}{w:W}{v:V}{ws:List W}(R:Fv K μ H h)(r:Aa K H μ w v)(e:dH h w=Dn ws):∃ p xs,v=.ref p/\Io K H p xs/\aL K H μ ws xs:=by
 cases w with
 | lst us=>
  rw [Aa] at r;obtain ⟨p,xs,ev,hs,rs⟩:=r;cases (show Dn us=Dn ws from e)
  exact ⟨p,xs,ev,hs.sq,rs⟩
 | kls us=>
  rw [Aa] at r;obtain ⟨p,xs,ev,hs,rs⟩:=r;cases (show Dn us=Dn ws from e)
  exact ⟨p,xs,ev,hs.sq,rs⟩
 | loc n=>
  rw [Aa] at r;obtain ⟨p,ev,hm⟩:=r;unfold dH at e;dsimp only at e;cases ec:h.c n with
  | none=>rw [ec] at e;cases e
  | some cl=>
   rw [ec] at e;cases cl with
   | lst us=>
    cases (show Dn us=Dn ws from e)
    obtain ⟨p',xs,hm',hx,rs⟩:=R.lstAt ec;have ep:p'=p:=by rw [hm] at hm';exact (Hz hm').symm
    subst ep;exact ⟨p',xs,ev,.of hx,rs⟩
   | _=>cases e
 | _=>cases e
theorem rZ {H:Hp}{μ : Mu}{h:Gh}{w:W}{v:V}{ws:List W}(R:Fv K μ H h)(r:Aa K H μ w v)(e:view h w=Dn ws):∃ p xs,v=.ref p/\(Io K H p xs\/J4 K H p xs)/\aL K H μ ws xs:=by
 cases w with
 | tup us=>
  rw [Aa] at r;obtain ⟨p,xs,ev,hs,rs⟩:=r;cases (show Dn us=Dn ws from e)
  exact ⟨p,xs,ev,.inr hs,rs⟩
 | lst us=>
  obtain ⟨p,xs,ev,hs,rs⟩:=cF (ws:=ws) R r e;exact ⟨p,xs,ev,.inl hs,rs⟩
 | kls us=>
  obtain ⟨p,xs,ev,hs,rs⟩:=cF (ws:=ws) R r e;exact ⟨p,xs,ev,.inl hs,rs⟩
 | loc n=>
  obtain ⟨p,xs,ev,hs,rs⟩:=cF (ws:=ws) R r e;exact ⟨p,xs,ev,.inl hs,rs⟩
 | _=>cases e
theorem Y0:aap K (rIx K) Bf:=by
 intro H μ h x y wx wy Qw Q R rx ry m k;unfold Bf at m;split at m
 ·rename_i i;split at m
  ·rename_i ws ev;split at m
   ·rename_i w ew;obtain ⟨p,xs,ex,hs,rs⟩:=rZ R rx ev;obtain ⟨v,hv,rv⟩:=rs.at ew;rw [Aa] at ry;have fin:=k _ _ ⟨μ,w,h,.refl,R,rv,m⟩;rcases hs with hs | hs
    ·exact .inl ⟨p,xs,i,v,ex,ry,hs,hv,fin⟩
    ·exact .inr<|.inl ⟨p,xs,i,v,ex,ry,hs,hv,fin⟩
   ·exact m.elim
  ·exact m.elim
 ·exact m.elim
theorem adi {a b:Expr}{ma mb:ME}{pos:Pos}(ha:DE X a ma)(hb:DE X b mb)(hs:Aq b):DE X (.Subscript a b pos) (Mk Bf ma mb):=(aa7 Zz ha hb hs).of fun σ H Q h=>two h fun R r1 r2 m k=>Y0 R r1 r2 m k
abbrev MO:=Sw->Gh->(Option Int->Gh->Prop)->Prop
def tDO (K:Ad)(m:MO):TO:=fun σ H Q=>∃ μ h σw Qw,Fv K μ H h/\Slots K H μ σw σ/\m σw h Qw/\∀ o H',(∃ μ' h',Ie K H μ H' μ'/\Fv K μ' H' h'/\Qw o h')->Q o H'
abbrev DO (X:Cx)(e:Option Expr)(m:MO):Prop:=PO X e (tDO X.K m)
theorem PO.of {e:Option Expr}{t t':TO}(h:PO X e t)(k:∀ σ H Q,t' σ H Q->t σ H Q):PO X e t':=by
 unfold PO at h |-
 intros
 apply h <;> first | assumption | (apply k;assumption)
def cZ:MO:=fun _ h Q=>Q FN h
def cH (m:ME):MO:=fun σ h Q=>m σ h fun w h1=>match w with
 | .int i=>Q (Dn i) h1
 | _=>False
theorem eX:DO X FN cZ:=PO.of afC fun σ H Q ⟨μ,h,σw,Qw,R,S,m,k⟩=>k _ _ ⟨μ,h,.refl,R,m⟩
theorem bF {e:Expr}{ma:ME}(he:DE X e ma):DO X (Dn e) (cH ma):=PO.of (afZ he) fun σ H Q ⟨μ,h,σw,Qw,R,S,m,k⟩=>by
 refine ⟨μ,h,σw,_,R,S,m,fun v H1 ⟨μ1,w,h1,e1,R1,r1,m1⟩=>?_⟩;split at m1
 ·rw [Aa] at r1;exact ⟨_,r1,k _ _ ⟨μ1,h1,e1,R1,m1⟩⟩
 ·exact m1.elim
def Ak (xs:List W)(lo hi:Option Int):List W:=(xs.drop (HT.sIx xs.length 0 lo)).take (HT.sIx xs.length xs.length hi - HT.sIx xs.length 0 lo)
def kSl (x:W)(lo hi:Option Int)(h:Gh)(Q:WK):Prop:=match x with
 | .tup ws=>¬ (HT.sIx ws.length 0 lo=0/\HT.sIx ws.length ws.length hi=ws.length)/\Q (.tup (Ak ws lo hi)) h
 | x=>(match dH h x with
  | some ws=>Q (.lst (Ak ws lo hi)) h
  | none=>False)
def K9 (r:W->Option Int->Option Int->Gh->WK->Prop)(m:ME)(l u:MO):ME:=fun σ h Q=>m σ h fun x h1=>l σ h1 fun lo h2=>u σ h2 fun hi h3=>r x lo hi h3 Q
theorem aL.cutv {H:Hp}{μ : Mu}{ws:List W}{xs:List V}(r:aL K H μ ws xs)(lo hi:Option Int):aL K H μ (Ak ws lo hi) (M7 xs lo hi):=by
 unfold Ak M7;rw [<-r.len];exact (r.drop _).take _
end
mutual
def FJ:W->W->Bool
 | .non,.non=>true
 | .bl a,.bl b=>a==b
 | .bl a,.int b=>(if a then 1 else 0)==b
 | .int a,.bl b=>a==(if b then 1 else 0)
 | .int a,.int b=>a==b
 | .str a,.str b=>a==b
 | .tup a,.tup b=>mJ a b
 | .lst a,.lst b=>mJ a b
 | _,_=>false
def mJ:List W->List W->Bool
 | [],[]=>true
 | a::as,b::bs=>FJ a b&&mJ as bs
 | _,_=>false
end
def Ft:Nat->W->Bool
 | _,.non=>true
 | _,.bl _=>true
 | _,.int _=>true
 | _,.str _=>true
 | n+1,.tup ws=>ws.all (Ft n)
 | n+1,.lst ws=>ws.all (Ft n)
 | _,_=>false
mutual
def Dt (K:Ad)(H:Hp):W->V->Prop
 | .non,v=>v=.non
 | .bl b,v=>v=.bl b
 | .int i,v=>v=.int i
 | .str x,v=>v=.str x
 | .tup ws,v=>∃ p xs,v=.ref p/\J4 K H p xs/\Ip K H ws xs
 | .lst ws,v=>∃ p xs,v=.ref p/\Io K H p xs/\Ip K H ws xs
 | .ty _,_=>False
 | .kls _,_=>False
 | .loc _,_=>False
 | .exc _,_=>False
 | .exa _ _,_=>False
 | .fnv _ _,_=>False
def Ip (K:Ad)(H:Hp):List W->List V->Prop
 | [],xs=>xs=[]
 | w::ws,xs=>∃ v vs,xs=v::vs/\Dt K H w v/\Ip K H ws vs
end
section
variable {X:Cx}{K:Ad}{H:Hp}{μ : Mu}{h:Gh}
theorem Ip.len:∀ {ws:List W} {xs:List V},Ip K H ws xs->ws.length=xs.length
 | [],xs,h=>by
  have e:xs=[]:=by rw [Ip] at h;exact h
  rw [e];rfl
 | w::ws,xs,h=>by
  rw [Ip] at h;obtain ⟨v,vs,e,_,h⟩:=h;rw [e,RN,RN,Ip.len h]
theorem Ip.get:∀ {ws:List W} {xs:List V} {i:Nat} {w:W},Ip K H ws xs->ws[i]?=Dn w->∃ v,xs[i]?=Dn v/\Dt K H w v
 | [],_,_,_,_,e=>by simp at e
 | a::ws,xs,0,w,h,e=>by
  rw [Ip] at h;obtain ⟨v,vs,e1,r,_⟩:=h;simp at e;subst e;subst e1;exact ⟨v,rfl,r⟩
 | a::ws,xs,i+1,w,h,e=>by
  rw [Ip] at h;obtain ⟨v,vs,e1,_,h⟩:=h;subst e1;obtain ⟨u,h1,h2⟩:=Ip.get (i:=i) (w:=w) h (by simpa using e);exact ⟨u,by simpa using h1,h2⟩
theorem vI {n:Nat}(one:∀ {w:W} {v:V},Aa K H μ w v->Ft n w=true->Dt K H w v):∀ {ws:List W} {xs:List V},aL K H μ ws xs->ws.all (Ft n)=true->Ip K H ws xs
 | [],_,h,_=>by rw [aL] at h;rw [Ip];exact h
 | w::ws,_,h,p=>by
  rw [aL] at h;rw [Ip];obtain ⟨v,vs,e,r,h⟩:=h;rw [Tj,MN] at p;exact ⟨v,vs,e,one r p.1,vI one h p.2⟩
theorem Gx:∀ (n:Nat) {w:W} {v:V},Aa K H μ w v->Ft n w=true->Dt K H w v:=by
 intro n;induction n with
 | zero=>
  intro w v r p;cases w with
  | non=>rw [Aa] at r;rw [Dt];exact r
  | bl _=>rw [Aa] at r;rw [Dt];exact r
  | int _=>rw [Aa] at r;rw [Dt];exact r
  | str _=>rw [Aa] at r;rw [Dt];exact r
  | _=>simp [Ft] at p
 | succ n ih=>
  intro w v r p;cases w with
  | non=>rw [Aa] at r;rw [Dt];exact r
  | bl _=>rw [Aa] at r;rw [Dt];exact r
  | int _=>rw [Aa] at r;rw [Dt];exact r
  | str _=>rw [Aa] at r;rw [Dt];exact r
  | tup ws=>
   rw [Aa] at r;rw [Dt];obtain ⟨p',xs,e,hs,rs⟩:=r;exact ⟨p',xs,e,hs,vI ih rs<|by simpa [Ft] using p⟩
  | lst ws=>
   rw [Aa] at r;rw [Dt];obtain ⟨p',xs,e,hs,rs⟩:=r;exact ⟨p',xs,e,hs.sq,vI ih rs<|by simpa [Ft] using p⟩
  | _=>simp [Ft] at p
theorem xM:∀ {a b:List W},a.length≠b.length->mJ a b=false
 | [],[],h=>absurd rfl h
 | [],_::_,_=>by simp [mJ]
 | _::_,[],_=>by simp [mJ]
 | a::as,b::bs,h=>by
  rw [mJ,xM (a:=as) (b:=bs) (by simpa using h),Bool.and_false]
def XF (a b:List W)(j:Nat):Bool:=FJ (a.getD j .non) (b.getD j .non)
theorem wR:∀ {a b:List W},a.length=b.length->(M5 a.length).all (XF a b)=mJ a b
 | [],[],_=>by simp [mJ]
 | [],_::_,h=>by simp at h
 | _::_,[],h=>by simp at h
 | a::as,b::bs,h=>by
  rw [mJ,<-wR (a:=as) (b:=bs) (by simpa using h),RN,List.range_succ_eq_map,Tj,List.all_map];rfl
mutual
theorem CT {pins:List (Addr×Obj)}{s:AP}{σ : St}(I:Ac X pins σ H s):∀ {w u:W} {v:V},Dt X.K H w v->Dt X.K H u v->FJ w u=true
 | .non,u,v,h,g=>by rw [Dt] at h;subst h;cases u <;> rw [Dt] at g <;> first | rfl | exact g.elim | (obtain ⟨_,_,g,_⟩:=g;cases g;done) | (cases g;done)
 | .bl b,u,v,h,g=>by rw [Dt] at h;subst h;cases u <;> rw [Dt] at g <;> first | (injection g with g;simp [FJ,g];done) | exact g.elim | (obtain ⟨_,_,g,_⟩:=g;cases g;done) | (cases g;done)
 | .int b,u,v,h,g=>by rw [Dt] at h;subst h;cases u <;> rw [Dt] at g <;> first | (injection g with g;simp [FJ,g];done) | exact g.elim | (obtain ⟨_,_,g,_⟩:=g;cases g;done) | (cases g;done)
 | .str b,u,v,h,g=>by rw [Dt] at h;subst h;cases u <;> rw [Dt] at g <;> first | (injection g with g;simp [FJ,g];done) | exact g.elim | (obtain ⟨_,_,g,_⟩:=g;cases g;done) | (cases g;done)
 | .tup ws,u,v,h,g=>by
  rw [Dt] at h;obtain ⟨p,xs,e,hs,ds⟩:=h;subst e;cases u with
  | tup us=>
   rw [Dt] at g;obtain ⟨p',xs',e',hs',ds'⟩:=g;cases e'
   have:=I.tuple_inj hs hs'
   subst this;rw [FJ];exact tB I ds ds'
  | lst us=>
   rw [Dt] at g;obtain ⟨p',xs',e',hs',ds'⟩:=g;cases e'
   obtain ⟨_,_,t,_⟩:=I.tuple hs;obtain ⟨_,_,l,_⟩:=I.list hs';exact absurd rfl<|Uu l.isList<|show s.heap.IsTuple _ _ from t
  | ty _=>rw [Dt] at g;exact g.elim
  | loc _=>rw [Dt] at g;exact g.elim
  | kls _=>rw [Dt] at g;exact g.elim
  | _=>rw [Dt] at g;cases g
 | .lst ws,u,v,h,g=>by
  rw [Dt] at h;obtain ⟨p,xs,e,hs,ds⟩:=h;subst e;cases u with
  | lst us=>
   rw [Dt] at g;obtain ⟨p',xs',e',hs',ds'⟩:=g;cases e'
   have:=I.list_inj hs hs'
   subst this;rw [FJ];exact tB I ds ds'
  | tup us=>
   rw [Dt] at g;obtain ⟨p',xs',e',hs',ds'⟩:=g;cases e'
   obtain ⟨_,_,t,_⟩:=I.tuple hs';obtain ⟨_,_,l,_⟩:=I.list hs;exact absurd rfl<|Uu l.isList<|show s.heap.IsTuple _ _ from t
  | ty _=>rw [Dt] at g;exact g.elim
  | loc _=>rw [Dt] at g;exact g.elim
  | kls _=>rw [Dt] at g;exact g.elim
  | _=>rw [Dt] at g;cases g
 | .ty _,_,_,h,_=>by rw [Dt] at h;exact h.elim
 | .loc _,_,_,h,_=>by rw [Dt] at h;exact h.elim
 | .exc _,_,_,h,_=>by rw [Dt] at h;exact h.elim
 | .exa _ _,_,_,h,_=>by rw [Dt] at h;exact h.elim
 | .kls _,_,_,h,_=>by rw [Dt] at h;exact h.elim
theorem tB {pins:List (Addr×Obj)}{s:AP}{σ : St}(I:Ac X pins σ H s):∀ {ws us:List W} {vs:List V},Ip X.K H ws vs->Ip X.K H us vs->mJ ws us=true
 | [],us,vs,h,g=>by
  rw [Ip] at h;subst h;cases us with
  | nil=>rfl
  | cons _ _=>rw [Ip] at g;obtain ⟨_,_,g,_⟩:=g;cases g
 | w::ws,us,vs,h,g=>by
  rw [Ip] at h;obtain ⟨v,vs',e,h1,h2⟩:=h;subst e;cases us with
  | nil=>rw [Ip] at g;cases g
  | cons u us=>
   rw [Ip] at g;obtain ⟨v',vs'',e',g1,g2⟩:=g;cases e'
   rw [mJ,CT I h1 g1,tB I h2 g2];rfl
end
theorem in1_units {A:FT}:A.in1.units=A.units+1:=rfl
theorem ahn {n:Nat}{ws:List W}(h:Ft n (.lst ws)=true):∃ m,n=m+1/\ws.all (Ft m)=true:=by
 cases n with
 | zero=>simp [Ft] at h
 | succ m=>exact ⟨m,rfl,by simpa [Ft] using h⟩
theorem Ek {s:AP}{A:FT}{n:Nat}{ws us:List W}{xs ys:List V}{its jts:List JI}(d1:Ip K H ws xs)(d2:Ip K H us ys)(p1:ws.all (Ft n)=true)(p2:us.all (Ft n)=true)(r1:BL xs its)(r2:BL ys jts)
  (one:∀ {w u:W} {v x:V} {a b:JI},Dt K H w v->Dt K H u x->Ft n w=true->Ft n u=true->RelV v a->RelV x b->Ru A s a b (FJ w u)) :
  ∀ j (h1:j<its.toArray.size) (h2:j<jts.toArray.size),Ru A s its.toArray[j] jts.toArray[j] (XF ws us j):=by
 intro j h1 h2;have l1:j<ws.length:=by rw [d1.len,r1.length];simpa using h1
 have l2:j<us.length:=by rw [d2.len,r2.length];simpa using h2
 obtain ⟨v,ev,dv⟩:=d1.get (JQ l1);obtain ⟨x,ex,dx⟩:=d2.get (JQ l2);obtain ⟨a,ea,ra⟩:=r1.get ev;obtain ⟨b,eb,rb⟩:=r2.get ex;have ea':its.toArray[j]=a:=by simpa using (NT.mp ea).2
 have eb':jts.toArray[j]=b:=by simpa using (NT.mp eb).2
 have e:XF ws us j=FJ ws[j] us[j]:=by
  unfold XF;rw [Mz,Mz,JQ l1,JQ l2];rfl
 rw [ea',eb',e];exact one dv dx (MP.mp p1 _<|Tv l1) (MP.mp p2 _<|Tv l2) ra rb
theorem size_of {ws:List W}{xs:List V}{its:List JI}(d:Ip K H ws xs)(r:BL xs its):its.toArray.size=ws.length:=by
 rw [d.len,r.length];simp
theorem agk {ws us:List W}:((M5 (min ws.length us.length)).all (XF ws us)&&ws.length==us.length)=mJ ws us:=by
 by_cases e:ws.length=us.length
 ·rw [<-e,Nat.min_self,wR e];simp
 ·rw [xM e];have e2:(ws.length==us.length)=false:=beq_eq_false_iff_ne.mpr e;rw [e2,Bool.and_false]
inductive Kd (s:AP):W->JI->Prop where
 | non:Kd s .non .none
 | bl (b:Bool):Kd s (.bl b) (.bool b)
 | int (i:Int) (t:Tok):Kd s (.int i) (.int i t)
 | str (x:Str) (t:Tok):Kd s (.str x) (.str x t)
 | tup (ws:List W) {p:Addr} {its:Array JI} (q:s.heap.IsTuple p its):Kd s (.tup ws) (.ref p)
 | lst (ws:List W) {p:Addr} {its:Array JI} (q:s.heap.IsList p its):Kd s (.lst ws) (.ref p)
theorem zX {pins:List (Addr×Obj)}{s:AP}{σ : St}(I:Ac X pins σ H s){w:W}{v:V}{a:JI}(d:Dt X.K H w v)(r:RelV v a):Kd s w a:=by
 cases w with
 | non=>rw [Dt] at d;subst d;cases r;exact .non
 | bl b=>rw [Dt] at d;subst d;cases r;exact .bl b
 | int b=>rw [Dt] at d;subst d;obtain ⟨t,rfl⟩:=r;exact .int b t
 | str b=>rw [Dt] at d;subst d;obtain ⟨t,rfl⟩:=r;exact .str b t
 | tup ws=>rw [Dt] at d;obtain ⟨p,xs,e,hs,_⟩:=d;subst e;cases r;obtain ⟨its,_,q,_⟩:=I.tuple hs;exact .tup ws q
 | lst ws=>rw [Dt] at d;obtain ⟨p,xs,e,hs,_⟩:=d;subst e;cases r;obtain ⟨its,_,q,_⟩:=I.list hs;exact .lst ws q.isList
 | _=>rw [Dt] at d;exact d.elim
def sq1:W->Bool
 | .tup _=>true
 | .lst _=>true
 | _=>false
def rT:W->W->Bool
 | .tup _,.tup _=>true
 | .lst _,.lst _=>true
 | _,_=>false
def aao (w u:W):Bool:=!(sq1 w||sq1 u)
open SeqAt.EqAt in
theorem PL {s:AP}{A:FT}{w u:W}{a b:JI}(hu:A.units<Kq)(k1:Kd s w a)(k2:Kd s u b)(h:rT w u=false)(f:aao w u=false):Ru A s a b (FJ w u):=by
 cases k1 <;> cases k2 <;> try (first | (cases h;done) | (cases f;done))
 ·apply none_tuple <;> assumption
 ·apply none_list <;> assumption
 ·apply bool_tuple <;> assumption
 ·apply bool_list <;> assumption
 ·apply int_tuple <;> assumption
 ·apply int_list <;> assumption
 ·apply str_tuple <;> assumption
 ·apply str_list <;> assumption
 ·apply tuple_none <;> assumption
 ·apply tuple_bool <;> assumption
 ·apply tuple_int <;> assumption
 ·apply tuple_str <;> assumption
 ·apply tuple_list <;> assumption
 ·apply list_none <;> assumption
 ·apply list_bool <;> assumption
 ·apply list_int <;> assumption
 ·apply list_str <;> assumption
 ·apply list_tuple <;> assumption
open SeqAt.RcAt in
theorem Yx {s:AP}{A:FT}{w u:W}{a b:JI}(hu:A.units<Kq)(k1:Kd s w a)(k2:Kd s u b)(h:rT w u=false):SeqAt.RcAt A s a b (FJ w u):=by
 cases k1 <;> cases k2 <;> try (first | (cases h;done))
 ·apply none_none <;> assumption
 ·apply none_bool <;> assumption
 ·apply none_int <;> assumption
 ·apply none_str <;> assumption
 ·apply none_tuple <;> assumption
 ·apply none_list <;> assumption
 ·apply bool_none <;> assumption
 ·apply bool_bool <;> assumption
 ·apply bool_int <;> assumption
 ·apply bool_str <;> assumption
 ·apply bool_tuple <;> assumption
 ·apply bool_list <;> assumption
 ·apply int_none <;> assumption
 ·apply int_bool <;> assumption
 ·apply int_int <;> assumption
 ·apply int_str <;> assumption
 ·apply int_tuple <;> assumption
 ·apply int_list <;> assumption
 ·apply str_none <;> assumption
 ·apply str_bool <;> assumption
 ·apply str_int <;> assumption
 ·apply str_str <;> assumption
 ·apply str_tuple <;> assumption
 ·apply str_list <;> assumption
 ·apply tuple_none <;> assumption
 ·apply tuple_bool <;> assumption
 ·apply tuple_int <;> assumption
 ·apply tuple_str <;> assumption
 ·apply tuple_list <;> assumption
 ·apply list_none <;> assumption
 ·apply list_bool <;> assumption
 ·apply list_int <;> assumption
 ·apply list_str <;> assumption
 ·apply list_tuple <;> assumption
open SeqAt.RcNeAt in
theorem afU {s:AP}{A:FT}{w u:W}{a b:JI}(hu:A.units<Kq)(k1:Kd s w a)(k2:Kd s u b)(h:rT w u=false):SeqAt.RcNeAt A s a b (!FJ w u):=by
 cases k1 <;> cases k2 <;> try (first | (cases h;done))
 ·apply none_none <;> assumption
 ·apply none_bool <;> assumption
 ·apply none_int <;> assumption
 ·apply none_str <;> assumption
 ·apply none_tuple <;> assumption
 ·apply none_list <;> assumption
 ·apply bool_none <;> assumption
 ·apply bool_bool <;> assumption
 ·apply bool_int <;> assumption
 ·apply bool_str <;> assumption
 ·apply bool_tuple <;> assumption
 ·apply bool_list <;> assumption
 ·apply int_none <;> assumption
 ·apply int_bool <;> assumption
 ·apply int_int <;> assumption
 ·apply int_str <;> assumption
 ·apply int_tuple <;> assumption
 ·apply int_list <;> assumption
 ·apply str_none <;> assumption
 ·apply str_bool <;> assumption
 ·apply str_int <;> assumption
 ·apply str_str <;> assumption
 ·apply str_tuple <;> assumption
 ·apply str_list <;> assumption
 ·apply tuple_none <;> assumption
 ·apply tuple_bool <;> assumption
 ·apply tuple_int <;> assumption
 ·apply tuple_str <;> assumption
 ·apply tuple_list <;> assumption
 ·apply list_none <;> assumption
 ·apply list_bool <;> assumption
 ·apply list_int <;> assumption
 ·apply list_str <;> assumption
 ·apply list_tuple <;> assumption
theorem yt:∀ {w u:W},rT w u=true->(∃ ws us,w=.tup ws/\u=.tup us)\/∃ ws us,w=.lst ws/\u=.lst us
 | .tup ws,.tup us,_=>.inl ⟨ws,us,rfl,rfl⟩
 | .lst ws,.lst us,_=>.inr ⟨ws,us,rfl,rfl⟩
def wV:V->W
 | .bl b=>.bl b
 | .int b=>.int b
 | .str b=>.str b
 | _=>.non
theorem abf {v x:V}(h:pF v=true)(g:pF x=true):FJ (wV v) (wV x)=Oe v x:=by
 cases v <;> first | (cases h;done) | (cases x <;> first | (cases g;done) | rfl)
theorem Q5 {w:W}{v:V}(d:Dt K H w v)(h:sq1 w=false):pF v=true/\w=wV v:=by
 cases w with
 | tup _=>cases h
 | lst _=>cases h
 | non=>rw [Dt] at d;subst d;exact ⟨rfl,rfl⟩
 | bl _=>rw [Dt] at d;subst d;exact ⟨rfl,rfl⟩
 | int _=>rw [Dt] at d;subst d;exact ⟨rfl,rfl⟩
 | str _=>rw [Dt] at d;subst d;exact ⟨rfl,rfl⟩
 | _=>rw [Dt] at d;exact d.elim
theorem Pq {s:AP}{A:FT}{w u:W}{v x:V}{a b:JI}(dw:Dt K H w v)(du:Dt K H u x)(hf:aao w u=true)(ra:RelV v a)(rb:RelV x b):Ru A s a b (FJ w u):=by
 have hf:=Bool.or_eq_false_iff.mp (Eq.mp (Bool.not_eq_true' _) hf);have ⟨f1,e1⟩:=Q5 dw hf.1;have ⟨f2,e2⟩:=Q5 du hf.2;rw [e1,e2,abf f1 f2];exact P0 ra rb f1 f2
theorem PJ {pins:List (Addr×Obj)}{s:AP}{σ : St}(I:Ac X pins σ H s){n:Nat}{A:FT}{w u:W}{v x:V}{a b:JI}(ih:∀ {w u:W} {v x:V} {a b:JI},Dt X.K H w v->Dt X.K H u x->Ft n w=true->Ft n u=true->RelV v a->RelV x b->Ru A.in1 s a b (FJ w u))(hu:A.units<Kq)(h2:rT w u=true)(dw:Dt X.K H w v)(du:Dt X.K H u x)(pw:Ft (n+1) w=true)(pu:Ft (n+1) u=true)(ra:RelV v a)(rb:RelV x b):∃ p q,v=.ref p/\x=.ref q/\a=.ref p/\b=.ref q/\SeqAt.RcAt A s a b (FJ w u)/\SeqAt.RcNeAt A s a b (!FJ w u):=by
 rcases yt h2 with ⟨ws,us,rfl,rfl⟩ | ⟨ws,us,rfl,rfl⟩ <;> rw [Dt] at dw du <;> obtain ⟨p,xs1,rfl,hs1,ds1⟩:=dw <;> obtain ⟨q,xs2,rfl,hs2,ds2⟩:=du <;> cases ra <;> cases rb <;> refine ⟨p,q,rfl,rfl,rfl,rfl,?_⟩ <;> rw [FJ] <;> rw [Ft] at pw pu
 ·obtain ⟨its1,rv1,q1,_⟩:=I.tuple hs1;obtain ⟨its2,rv2,q2,_⟩:=I.tuple hs2;have it:=Ek ds1 ds2 pw pu rv1 rv2 ih;rw [<-agk,<-size_of ds1 rv1,<-size_of ds2 rv2];exact ⟨.tuples q1 q2 hu it,.tuples q1 q2 hu it⟩
 ·obtain ⟨its1,rv1,q1,_⟩:=I.list hs1;obtain ⟨its2,rv2,q2,_⟩:=I.list hs2;by_cases hl:ws.length=us.length
  ·have it:=Ek ds1 ds2 pw pu rv1 rv2 ih;have e:its1.toArray.size=its2.toArray.size:=by rw [size_of ds1 rv1,size_of ds2 rv2,hl]
   rw [<-wR hl,<-size_of ds1 rv1];exact ⟨.lists q1.isList q2.isList e hu it,.lists q1.isList q2.isList e hu it⟩
  ·rw [xM hl];have e:(its1.toArray.size != its2.toArray.size)=true:=by rw [size_of ds1 rv1,size_of ds2 rv2];exact bne_iff_ne.mpr hl
   exact ⟨.lists_lengths q1.isList q2.isList e hu,.lists_lengths q1.isList q2.isList e hu⟩
theorem Hl {w u:W}(h:rT w u=true):∀ {n:Nat},Ft n w=true->∃ m,n=m+1
 | 0,p=>by rcases yt h with ⟨_,_,rfl,_⟩ | ⟨_,_,rfl,_⟩ <;> cases p
 | m+1,_=>⟨m,rfl⟩
theorem Uk {pins:List (Addr×Obj)}{s:AP}{σ : St}(I:Ac X pins σ H s):∀ (n:Nat) {A:FT} {w u:W} {v x:V} {a b:JI},A.units+n<Kq->Dt X.K H w v->Dt X.K H u x->Ft n w=true->Ft n u=true->RelV v a->RelV x b->Ru A s a b (FJ w u):=by
 intro n;induction n with
 | zero=>
  intro A w u v x a b hu dw du pw pu ra rb;by_cases hf:aao w u=true
  ·exact Pq dw du hf ra rb
  by_cases h2:rT w u=true
  ·obtain ⟨m,e⟩:=Hl h2 pw;cases e
  ·exact PL hu (zX I dw ra) (zX I du rb) (Tt _ ▸ h2)<|Tt _ ▸ hf
 | succ n ih=>
  intro A w u v x a b hu dw du pw pu ra rb;by_cases hf:aao w u=true
  ·exact Pq dw du hf ra rb
  by_cases h2:rT w u=true
  ·have hu':=SQ (Nat.le_add_right _ _) hu;obtain ⟨p,q,rfl,rfl,rfl,rfl,z,_⟩:=PJ I (ih (A:=A.in1) (by rw [in1_units,Nat.add_assoc,Nat.add_comm 1];exact hu)) hu' h2 dw du pw pu ra rb;by_cases hp:p=q
   ·subst hp;rw [CT I dw du];exact SeqAt.EqAt.same _
   ·exact SeqAt.EqAt.of_refs hp z
  ·exact PL (SQ (Nat.le_add_right _ _) hu) (zX I dw ra) (zX I du rb) (Tt _ ▸ h2)<|Tt _ ▸ hf
theorem rcN {pins:List (Addr×Obj)}{s:AP}{σ : St}(I:Ac X pins σ H s){m:Nat}{A:FT}{w u:W}{v x:V}{a b:JI}{p:Prop}(hu:A.units+(m+1)<Kq)(hu':A.units<Kq)(h2:rT w u=true)(dw:Dt X.K H w v)(du:Dt X.K H u x)(pw:Ft (m+1) w=true)(pu:Ft (m+1) u=true)(ra:RelV v a)(rb:RelV x b)(f:SeqAt.RcAt A s a b (FJ w u)/\SeqAt.RcNeAt A s a b (!FJ w u)->p):p:=by
 obtain ⟨_,_,_,_,_,_,z⟩:=PJ I (Uk I m (A:=A.in1) (by rw [in1_units,Nat.add_assoc,Nat.add_comm 1];exact hu)) hu' h2 dw du pw pu ra rb;exact f z
theorem abW {pins:List (Addr×Obj)}{s:AP}{σ : St}(I:Ac X pins σ H s)(n:Nat){A:FT}{w u:W}{v x:V}{a b:JI}(hu:A.units+n<Kq)(dw:Dt X.K H w v)(du:Dt X.K H u x)(pw:Ft n w=true)(pu:Ft n u=true)(ra:RelV v a)(rb:RelV x b):SeqAt.RcAt A s a b (FJ w u):=by
 have hu':=SQ (Nat.le_add_right _ _) hu;by_cases h2:rT w u=true
 ·obtain ⟨m,rfl⟩:=Hl h2 pw;exact rcN I hu hu' h2 dw du pw pu ra rb (·.1)
 ·exact Yx hu' (zX I dw ra) (zX I du rb)<|Tt _ ▸ h2
theorem aeT {pins:List (Addr×Obj)}{s:AP}{σ : St}(I:Ac X pins σ H s)(n:Nat){A:FT}{w u:W}{v x:V}{a b:JI}(hu:A.units+n<Kq)(dw:Dt X.K H w v)(du:Dt X.K H u x)(pw:Ft n w=true)(pu:Ft n u=true)(ra:RelV v a)(rb:RelV x b):SeqAt.RcNeAt A s a b (!FJ w u):=by
 have hu':=SQ (Nat.le_add_right _ _) hu;by_cases h2:rT w u=true
 ·obtain ⟨m,rfl⟩:=Hl h2 pw;exact rcN I hu hu' h2 dw du pw pu ra rb (·.2)
 ·exact afU hu' (zX I dw ra) (zX I du rb)<|Tt _ ▸ h2
def Kr (h:Gh):W->Option W
 | .loc n=>(match h.c n with
  | some (.lst ws)=>Dn (.lst ws)
  | _=>FN)
 | w=>Dn w
theorem wG {w d:W}{v:V}{n:Nat}(R:Fv K μ H h)(r:Aa K H μ w v)(e:Kr h w=Dn d)(p:Ft n d=true):Dt K H d v:=by
 have other:Kr h w=Dn w->Dt K H d v:=fun z=>by
  rw [z] at e;cases e;exact Gx n r p
 cases w with
 | loc m=>
  unfold Kr at e;dsimp only at e;cases ec:h.c m with
  | none=>rw [ec] at e;cases e
  | some cl=>
   rw [ec] at e;cases cl with
   | lst us=>
    cases (show Dn (W.lst us)=Dn d from e)
    obtain ⟨p',xs,hm',hx,rs⟩:=R.lstAt ec;rw [Aa] at r;obtain ⟨q,ev,hm⟩:=r;have ep:p'=q:=by rw [hm] at hm';exact (Hz hm').symm
    subst ep;obtain ⟨k,rfl,p⟩:=ahn p;rw [Dt];exact ⟨p',xs,ev,.of hx,vI (Gx k) rs p⟩
   | _=>cases e
 | _=>exact other rfl
def acS (K:Ad)(neg:Bool):R2:=fun x y H Q=>∃ w u,Dt K H w x/\Dt K H u y/\Ft 30 w=true/\Ft 30 u=true/\Q (.bl (if neg then !FJ w u else FJ w u)) H
theorem X7 (hu:X.A.units+30<Kq):JC X (Jc .Eq) (acS X.K false):=by
 intro pins s σ H x y v u Q I rx ry ⟨w,w',d1,d2,p1,p2,q⟩;exact abW I 30 hu d1 d2 p1 p2 rx ry X.prog X.w X.xe _<|vK I q rfl
theorem Xb (hu:X.A.units+30<Kq):JC X (Jc .NotEq) (acS X.K true):=by
 intro pins s σ H x y v u Q I rx ry ⟨w,w',d1,d2,p1,p2,q⟩;exact aeT I 30 hu d1 d2 p1 p2 rx ry X.prog X.w X.xe _<|vK I q rfl
def Gz:M2:=fun x y h Q=>match Kr h x,Kr h y with
 | some a,Dn b=>Hy (Ft 30 a&&Ft 30 b) (Q (.bl (FJ a b)) h) False
 | _,_=>False
def Hg:M2:=fun x y h Q=>match Kr h x,Kr h y with
 | some a,Dn b=>Hy (Ft 30 a&&Ft 30 b) (Q (.bl (!FJ a b)) h) False
 | _,_=>False
theorem jy (hu:X.A.units+30<Kq):LR X (Jc .Eq) Gz:=⟨_,X7 hu,by
 intro H μ h x y wx wy Qw Q R rx ry m k;unfold Gz at m;split at m
 ·rename_i a b ea eb;cases hp:(Ft 30 a&&Ft 30 b) with
  | true=>
   rw [hp] at m;rw [MN] at hp;exact ⟨a,b,wG R rx ea hp.1,wG R ry eb hp.2,hp.1,hp.2,k _ _<|.bl R m⟩
  | false=>rw [hp] at m;exact (show False from m).elim
 ·exact m.elim⟩
theorem qW (hu:X.A.units+30<Kq):LR X (Jc .NotEq) Hg:=⟨_,Xb hu,by
 intro H μ h x y wx wy Qw Q R rx ry m k;unfold Hg at m;split at m
 ·rename_i a b ea eb;cases hp:(Ft 30 a&&Ft 30 b) with
  | true=>
   rw [hp] at m;rw [MN] at hp;exact ⟨a,b,wG R rx ea hp.1,wG R ry eb hp.2,hp.1,hp.2,k _ _<|.bl R m⟩
  | false=>rw [hp] at m;exact (show False from m).elim
 ·exact m.elim⟩
theorem adI {A:FT}{k:Nat}(hr:mK k A):A.units+30<Kq:=by have:=hr.units;lia
end
section
variable {X:Cx}{K:Ad}
theorem lu {H:Hp}{μ : Mu}{w:W}{vs:List V}(r:aL K H μ [w] vs):∃ v,vs=[v]/\Aa K H μ w v:=by
 rw [aL] at r;obtain ⟨v,vr,ev,ra,r⟩:=r;rw [aL] at r;subst r;exact ⟨v,ev,ra⟩
theorem O5 {H:Hp}{μ : Mu}{w u:W}{vs:List V}(r:aL K H μ [w,u] vs):∃ v x,vs=[v,x]/\Aa K H μ w v/\Aa K H μ u x:=by
 rw [aL] at r;obtain ⟨v,vr,ev,ra,r⟩:=r;obtain ⟨x,e,rb⟩:=lu r;subst e;exact ⟨v,x,ev,ra,rb⟩
theorem cY.of {i j:Int}{m n:Nat}(hi:Sm m i)(hj:Sm n j)(hm:m<=1000000)(hn:n<=1000000):cY i j:=⟨m,n,hm,hn,hi,hj⟩
theorem Sm.lit {i:Int}(h:Ny (i.natAbs+1) (2^64)=true):Sm 64 i:=by
 have:=Nat.le_of_ble_eq_true h
 unfold Sm;lia
def Gb:MC:=fun ws h Q=>match ws with
 | [w]=>(match view h w with
  | some xs=>Q (.int (xs.length:Int)) h
  | none=>False)
 | _=>False
theorem dZ:lq X (.builtin "len") Gb:=⟨_,aeb,by
 intro H μ h vs ws Qw Q R r m k;unfold Gb at m;split at m
 ·split at m
  ·rename_i w _ xs ev;obtain ⟨v,e,rv⟩:=lu r;obtain ⟨p,ys,ex,hs,rs⟩:=rZ R rv ev;subst e ex;exact ⟨p,ys,rfl,hs,by rw [<-rs.len];exact k _ _ (.int R m)⟩
  ·exact m.elim
 ·exact m.elim⟩
def Ln:MC:=fun ws h Q=>match ws with
 | [.int i]=>Q (.int (if i<0 then -i else i)) h
 | _=>False
theorem Ng:lq X (.builtin "abs") Ln:=⟨_,aeI,by
 intro H μ h vs ws Qw Q R r m k;unfold Ln at m;split at m
 ·obtain ⟨v,e,rv⟩:=lu r;rw [Aa] at rv;subst e rv;exact ⟨_,rfl,k _ _<|.int R m⟩
 ·exact m.elim⟩
def aar:MC:=fun ws h Q=>match ws with
 | [.int i,.int j]=>Q (.int (if j>i then j else i)) h
 | _=>False
theorem abj (hc:X.calm=true):lq X (.builtin "max") aar:=⟨_,yh hc,by
 intro H μ h vs ws Qw Q R r m k;unfold aar at m;split at m
 ·obtain ⟨v,x,e,rv,rx⟩:=O5 r;rw [Aa] at rv rx;subst e rv rx;exact ⟨_,_,rfl,k _ _<|.int R m⟩
 ·exact m.elim⟩
def aam:MC:=fun ws h Q=>match ws with
 | [.int i,.int j]=>Q (.int (if j<i then j else i)) h
 | _=>False
theorem aau (hc:X.calm=true):lq X (.builtin "min") aam:=⟨_,aek hc,by
 intro H μ h vs ws Qw Q R r m k;unfold aam at m;split at m
 ·obtain ⟨v,x,e,rv,rx⟩:=O5 r;rw [Aa] at rv rx;subst e rv rx;exact ⟨_,_,rfl,k _ _<|.int R m⟩
 ·exact m.elim⟩
def Ke:List W->Option (List Bool)
 | []=>Dn []
 | .bl b::ws=>(Ke ws).map (b::·)
 | _=>FN
theorem Ck {H:Hp}{μ : Mu}:∀ {ws:List W} {xs:List V} {bs:List Bool},aL K H μ ws xs->Ke ws=Dn bs->xs=bs.map V.bl
 | [],xs,bs,r,e=>by
  rw [aL] at r;cases (show Dn []=Dn bs from e)
  exact r
 | w::ws,xs,bs,r,e=>by
  rw [aL] at r;obtain ⟨v,vr,ev,ra,r⟩:=r;cases w with
  | bl b=>
   rw [Aa] at ra;rw [Ke] at e;cases q:Ke ws with
   | none=>rw [q] at e;cases e
   | some cs=>
    rw [q] at e;cases (show Dn (b::cs)=Dn bs from e)
    rw [ev,ra,Ck r q];rfl
  | _=>cases e
def Xy:MC:=fun ws h Q=>match ws with
 | [w]=>(match dH h w with
  | some us=>(match Ke us with
   | some bs=>Q (.bl (bs.all id)) h
   | none=>False)
  | none=>False)
 | _=>False
theorem aa5 (hc:X.calm=true):lq X (.builtin "all") Xy:=⟨_,zaL hc,by
 intro H μ h vs ws Qw Q R r m k;unfold Xy at m;split at m
 ·split at m
  ·split at m
   ·rename_i w _ us ev _ bs eb;obtain ⟨v,e,rv⟩:=lu r;obtain ⟨p,ys,ex,hs,rs⟩:=cF R rv ev;subst e ex;exact ⟨p,bs,rfl,by rw [<-Ck rs eb];exact hs,k _ _<|.bl R m⟩
   ·exact m.elim
  ·exact m.elim
 ·exact m.elim⟩
def aal (h:Gh)(w:W)(T:String):Option Bool:=match w with
 | .int _=>if T = "int" then Dn true else if T = "bool"\/T = "tuple"\/T = "list" then Dn false else FN
 | .bl _=>if T = "int"\/T = "bool" then Dn true else if T = "tuple"\/T = "list" then Dn false else FN
 | .str _=>if T = "int"\/T = "bool"\/T = "tuple"\/T = "list" then Dn false else FN
 | .non=>if T = "int"\/T = "bool"\/T = "tuple"\/T = "list" then Dn false else FN
 | .tup _=>if T = "tuple" then Dn true else if T = "int"\/T = "bool"\/T = "list" then Dn false else FN
 | w=>(match dH h w with
  | some _=>if T = "list" then Dn true else if T = "int"\/T = "bool"\/T = "tuple" then Dn false else FN
  | none=>FN)
theorem Vn {H:Hp}{μ : Mu}{h:Gh}{w:W}{v:V}{T:String}{b:Bool}(R:Fv K μ H h)(r:Aa K H μ w v)(e:aal h w T=Dn b):acD K H v T b:=by
 unfold aal at e;split at e
 ·rw [Aa] at r;subst r;split at e
  ·rename_i t;subst t;cases e;exact .inl ⟨rfl,rfl⟩
  ·split at e
   ·rename_i t;cases e;rcases t with t | t | t <;> subst t
    ·exact .inr<|.inl ⟨rfl,rfl⟩
    ·exact .inr<|.inr<|.inl ⟨rfl,rfl⟩
    ·exact .inr<|.inr<|.inr ⟨rfl,rfl⟩
   ·cases e
 ·rw [Aa] at r;subst r;split at e
  ·rename_i t;cases e;rcases t with t | t <;> subst t
   ·exact .inl ⟨rfl,rfl⟩
   ·exact .inr<|.inl ⟨rfl,rfl⟩
  ·split at e
   ·rename_i t;cases e;rcases t with t | t <;> subst t
    ·exact .inr<|.inr<|.inl ⟨rfl,rfl⟩
    ·exact .inr<|.inr<|.inr ⟨rfl,rfl⟩
   ·cases e
 ·rw [Aa] at r;subst r;split at e
  ·rename_i t;cases e;rcases t with t | t | t | t <;> subst t
   ·exact .inl ⟨rfl,rfl⟩
   ·exact .inr<|.inl ⟨rfl,rfl⟩
   ·exact .inr<|.inr<|.inl ⟨rfl,rfl⟩
   ·exact .inr<|.inr<|.inr ⟨rfl,rfl⟩
  ·cases e
 ·rw [Aa] at r;subst r;split at e
  ·rename_i t;cases e;rcases t with t | t | t | t <;> subst t
   ·exact .inl ⟨rfl,rfl⟩
   ·exact .inr<|.inl ⟨rfl,rfl⟩
   ·exact .inr<|.inr<|.inl ⟨rfl,rfl⟩
   ·exact .inr<|.inr<|.inr ⟨rfl,rfl⟩
  ·cases e
 ·rw [Aa] at r;obtain ⟨p,xs,ev,hs,_⟩:=r;subst ev;refine .inl ⟨xs,hs,?_⟩;split at e
  ·rename_i t;subst t;cases e;exact .inr (.inr (.inl ⟨rfl,rfl⟩))
  ·split at e
   ·rename_i t;cases e;rcases t with t | t | t <;> subst t
    ·exact .inl ⟨rfl,rfl⟩
    ·exact .inr<|.inl ⟨rfl,rfl⟩
    ·exact .inr<|.inr<|.inr ⟨rfl,rfl⟩
   ·cases e
 ·split at e
  ·rename_i ws ev;obtain ⟨p,xs,ex,hs,_⟩:=cF R r ev;subst ex;refine .inr ⟨xs,hs,?_⟩;split at e
   ·rename_i t;subst t;cases e;exact .inr (.inr (.inr ⟨rfl,rfl⟩))
   ·split at e
    ·rename_i t;cases e;rcases t with t | t | t <;> subst t
     ·exact .inl ⟨rfl,rfl⟩
     ·exact .inr<|.inl ⟨rfl,rfl⟩
     ·exact .inr<|.inr<|.inl ⟨rfl,rfl⟩
    ·cases e
  ·cases e
def Qp:MC:=fun ws h Q=>match ws with
 | [w,.ty T]=>(match aal h w T with
  | some b=>Q (.bl b) h
  | none=>False)
 | _=>False
theorem Lw:lq X (.builtin "isinstance") Qp:=⟨_,zbg,by
 intro H μ h vs ws Qw Q R r m k;unfold Qp at m;split at m
 ·split at m
  ·rename_i w T _ b eb;obtain ⟨v,x,e,rv,rx⟩:=O5 r;have hi:=Vn R rv eb;rw [Aa] at rx;subst e rx;exact ⟨v,T,b,rfl,hi,k _ _<|.bl R m⟩
  ·exact m.elim
 ·exact m.elim⟩
def vA:MC:=fun ws h Q=>match ws with
 | [.tup us]=>Q (.tup us) h
 | [w]=>(match dH h w with
  | some us=>Q (.tup us) h
  | none=>False)
 | _=>False
theorem Ba:lq X (.type "tuple") vA:=⟨_,wQ,by
 intro H μ h vs ws Qw Q R r m k;unfold vA at m;split at m
 ·obtain ⟨v,e,rv⟩:=lu r;have rv':=rv;rw [Aa] at rv;obtain ⟨p,xs,ex,hs,rs⟩:=rv;subst e ex;exact ⟨p,xs,rfl,.inr ⟨hs,k _ _ ⟨μ,_,h,.refl,R,rv',m⟩⟩⟩
 ·split at m
  ·rename_i w _ _ us ev;obtain ⟨v,e,rv⟩:=lu r;obtain ⟨p,ys,ex,hs,rs⟩:=cF R rv ev;subst e ex;exact ⟨p,ys,rfl,.inl ⟨hs,fun l hl=>k _ _ ⟨μ,_,h,(Ex.laid hl).ext,R.laid hl,.tupNew hl rs,m⟩⟩⟩
  ·exact m.elim
 ·exact m.elim⟩
def zB:MC:=fun ws h Q=>match ws with
 | [w]=>(match view h w with
  | some us=>Q (.lst us) h
  | none=>False)
 | _=>False
def CN:MC:=fun ws h Q=>match ws with
 | [w]=>(match view h w with
  | some us=>Q (.loc h.nx) (h.new (.lst us))
  | none=>False)
 | _=>False
theorem Ah:lq X (.type "list") zB:=⟨_,p7,by
 intro H μ h vs ws Qw Q R r m k;unfold zB at m;split at m
 ·split at m
  ·rename_i w _ xs ev;obtain ⟨v,e,rv⟩:=lu r;obtain ⟨p,ys,ex,hs,rs⟩:=rZ R rv ev;subst e ex;exact ⟨p,ys,rfl,hs,fun l hl=>k _ _ ⟨μ,_,h,(Ex.laid hl).ext,R.laid hl,.lstNew R hl rs,m⟩⟩
  ·exact m.elim
 ·exact m.elim⟩
theorem agh:lq X (.type "list") CN:=⟨_,p7,by
 intro H μ h vs ws Qw Q R r m k;unfold CN at m;split at m
 ·split at m
  ·rename_i w _ xs ev;obtain ⟨v,e,rv⟩:=lu r;obtain ⟨p,ys,ex,hs,rs⟩:=rZ R rv ev;subst e ex;exact ⟨p,ys,rfl,hs,fun l hl=>k _ _ ⟨μ.put h.nx l,.loc h.nx,h.new<|.lst xs,(Ex.newCell R hl).ext,PN R hl rs,by rw [Aa];exact ⟨l,rfl,Mu.put_same⟩,m⟩⟩
  ·exact m.elim
 ·exact m.elim⟩
abbrev MM:=W->List W->Gh->WK->Prop
def VN (K:Ad)(r:V->List V->Hp->VK->Prop)(mr:MM):Prop:=∀ {H:Hp} {μ : Mu} {h:Gh} {x:V} {vs:List V} {wx:W} {ws:List W} {Qw:WK} {Q:VK},Fv K μ H h->Aa K H μ wx x->aL K H μ ws vs->mr wx ws h Qw->(∀ v H',DQ K H μ Qw v H'->Q v H')->r x vs H Q
def Ce (h:Gh)(w:W)(P:Prop):Prop:=match w with
 | .loc n=>(match h.c n with
  | some (.lst _)=>P
  | _=>False)
 | _=>False
theorem qT {H:Hp}{μ : Mu}{h:Gh}{w:W}{v:V}{P:Prop}(R:Fv K μ H h)(r:Aa K H μ w v)(e:Ce h w P):tyV K "list" v H/\P:=by
 unfold Ce at e;split at e
 ·split at e
  ·rename_i n _ ws ec;rw [Aa] at r;obtain ⟨p,ev,hm⟩:=r;obtain ⟨p',xs,hm',hx,rs⟩:=R.lstAt ec;have ep:p'=p:=by rw [hm] at hm';exact (Hz hm').symm
   subst ep ev;exact ⟨.inl ⟨rfl,xs,.of hx⟩,e⟩
  ·exact e.elim
 ·exact e.elim
def GJ (r:MM)(mo:ME)(ma:MA):ME:=fun σ h Q=>mo σ h fun x h1=>Ce h1 x (ma σ h1 fun xs h2=>r x xs h2 Q)
def Vi (r:MM)(mo:ME):ME:=fun σ h Q=>mo σ h fun x h1=>Ce h1 x (r x [] h1 Q)
variable {o e:Expr}{es:List Expr}{mo:ME}{ma:MA}{name:Str}{apos cpos:Pos}{id:String}{r:V->List V->Hp->VK->Prop}{mr:MM}
theorem acj (slot:Slot "list" name id)(hty:typeOf (.builtin id)=pure (.type "method_descriptor"))(hm:MtR X id r)(hs:VN X.K r mr)(ho:DE X o mo)(ha:Jv X (e::es) ma)
  (hbase:S5 o name X.env (eval o X.env)=eval o X.env:=by rfl)
  (hfew:((K5 cpos (Fx (e::es) X.env)).all (fun x=>!x.1)&&(backToKw cpos (TQ [] X.env)).all (fun x=>x.1.isSome)
   && decide ((e::es).length+([]:List Nx).length+(if ([]:List Nx).isEmpty then 0 else 1)<30))=true:=by rfl)
  (hline:(apos.endLine==cpos.line)=true:=by rfl) (hst:Fx (e::es) X.env=(false,eval e X.env)::Fx es X.env:=by rfl) (hplain:(K5 cpos (Fx es X.env)).any (·.1)=false:=by rfl) :
  DE X (.Call (.Attribute o name apos) (e::es) [] cpos) (GJ mr mo ma):=(XD PySem.F.plainAttrs_list slot hty hm ho ha hbase hfew hline hst hplain).of fun σ H Q ⟨μ,h,σw,Qw,R,S,m,k⟩=>by
 refine ⟨μ,h,σw,_,R,S,m,fun v H1 ⟨μ1,w,h1,e1,R1,r1,il⟩=>⟨(qT R1 r1 il).1,?_⟩⟩;have m1:=(qT R1 r1 il).2;exact ⟨μ1,h1,σw,_,R1,S.ext e1,m1,fun vs H2 ⟨μ2,ws,h2,e2,R2,r2,m2⟩=>hs R2 (e2.r _ _ r1) r2 m2 fun v H' z=>k _ _<|(z.trans e2).trans e1⟩
theorem aay (slot:Slot "list" name id)(hty:typeOf (.builtin id)=pure (.type "method_descriptor"))(hm:MtR X id r)(hs:VN X.K r mr)(ho:DE X o mo)
  (hbase:S5 o name X.env (eval o X.env)=eval o X.env:=by rfl) (hline:(apos.endLine==cpos.line)=true:=by rfl) :
  DE X (.Call (.Attribute o name apos) [] [] cpos) (Vi mr mo):=(Xf PySem.F.plainAttrs_list slot hty hm ho hbase hline).of fun σ H Q ⟨μ,h,σw,Qw,R,S,m,k⟩=>by
 refine ⟨μ,h,σw,_,R,S,m,fun v H1 ⟨μ1,w,h1,e1,R1,r1,il⟩=>⟨(qT R1 r1 il).1,?_⟩⟩;have m1:=(qT R1 r1 il).2;exact hs R1 r1 .nil m1 fun v H' z=>k _ _<|z.trans e1
def fL:MM:=fun x ws h Q=>match x,ws with
 | .loc n,[w]=>(match h.c n with
  | some (.lst us)=>us.length<Gn/\Q .non (h.set n (.lst (us++[w])))
  | _=>False)
 | _,_=>False
theorem Li {H:Hp}{μ : Mu}{h:Gh}{n:Nat}{v:V}{us:List W}(R:Fv K μ H h)(r:Aa K H μ (.loc n) v)(ec:h.c n=Dn (.lst us)):∃ p xs,v=.ref p/\μ.f n=Dn p/\H p=Dn (.lst xs)/\aL K H μ us xs:=by
 rw [Aa] at r;obtain ⟨p,ev,hm⟩:=r;obtain ⟨p',xs,hm',hx,rs⟩:=R.lstAt ec;have ep:p'=p:=by rw [hm] at hm';exact (Hz hm').symm
 subst ep;exact ⟨p',xs,ev,hm,hx,rs⟩
theorem DQ.wrote {H:Hp}{μ : Mu}{h:Gh}{n:Nat}{p:Addr}{us:List W}{xs:List V}{Q:WK}{w:W}{v:V}(R:Fv K μ H h)(hm:μ.f n=Dn p)(rs:aL K H μ us xs)(rw':Aa K H μ w v)(q:Q w (h.set n (.lst us))):DQ K H μ Q v (G8 H p (.lst xs)):=
 ⟨μ,w,h.set n (.lst us),(Ex.write R hm).ext,R.write hm trivial ⟨xs,cj,(Ex.write R hm).ext.s rs⟩,(Ex.write R hm).ext.r _ _ rw',q⟩
theorem aev:VN K GX fL:=by
 intro H μ h x vs wx ws Qw Q R rx rs m k;unfold fL at m;split at m
 ·split at m
  ·rename_i n w _ us ec;obtain ⟨p,xs,ex,hm,hx,r1⟩:=Li R rx ec;obtain ⟨v,ev,rv⟩:=lu rs;exact ⟨p,xs,v,ex,ev,hx,by rw [<-r1.len];exact m.1,k _ _<|.wrote R hm (r1.append<|.one rv) (by rw [Aa]) m.2⟩
  ·exact m.elim
 ·exact m.elim
def aaq:MM:=fun x ws h Q=>match x,ws with
 | .loc n,[]=>(match h.c n with
  | some (.lst us)=>(match us[us.length - 1]? with
   | some w=>Q w (h.set n (.lst us.dropLast))
   | none=>False)
  | _=>False)
 | _,_=>False
theorem aL.dropLast {H:Hp}{μ : Mu}{ws:List W}{xs:List V}(r:aL K H μ ws xs):aL K H μ ws.dropLast xs.dropLast:=by
 rw [List.dropLast_eq_take,List.dropLast_eq_take,<-r.len];exact r.take _
theorem s_pop:VN K acA aaq:=by
 intro H μ h x vs wx ws Qw Q R rx rs m k;unfold aaq at m;split at m
 ·split at m
  ·split at m
   ·rename_i n _ us ec _ w ew;obtain ⟨p,xs,ex,hm,hx,r1⟩:=Li R rx ec;rw [aL] at rs;obtain ⟨v,ev,rv⟩:=r1.get ew;exact ⟨p,xs,v,ex,rs,hx,by rw [<-r1.len];exact ev,k _ _<|.wrote R hm r1.dropLast rv m⟩
   ·exact m.elim
  ·exact m.elim
 ·exact m.elim
theorem oA (ho:DE X o mo)(ha:Jv X [e] ma)
  (hbase:S5 o "append" X.env (eval o X.env)=eval o X.env:=by rfl)
  (hfew:((K5 cpos (Fx [e] X.env)).all (fun x=>!x.1)&&(backToKw cpos (TQ [] X.env)).all (fun x=>x.1.isSome)
   && decide (([e]:List Expr).length+([]:List Nx).length+(if ([]:List Nx).isEmpty then 0 else 1)<30))=true:=by rfl)
  (hline:(apos.endLine==cpos.line)=true:=by rfl) (hst:Fx [e] X.env=(false,eval e X.env)::Fx [] X.env:=by rfl) (hplain:(K5 cpos (Fx [] X.env)).any (·.1)=false:=by rfl) :
  DE X (.Call (.Attribute o "append" apos) [e] [] cpos) (GJ fL mo ma):=acj PySem.F.slot_list_append PySem.F.type_list_append zT aev ho ha hbase hfew hline hst hplain
theorem aaJ (ho:DE X o mo)(hbase:S5 o "pop" X.env (eval o X.env)=eval o X.env:=by rfl)(hline:(apos.endLine==cpos.line)=true:=by rfl) :
  DE X (.Call (.Attribute o "pop" apos) [] [] cpos) (Vi aaq mo):=aay PySem.F.slot_list_pop PySem.F.type_list_pop Yz s_pop ho hbase hline
end
section
variable {X:Cx}{K:Ad}
theorem YF:JC X (Jc .Is) (fun x y H Q=>∃ c b,x=.bl c/\y=.bl b/\Q (.bl (c==b)) H):=by
 intro pins s σ H x y v u Q I rx ry ⟨c,b,ex,ey,q⟩;subst ex ey;cases rx;cases ry;exact is_bool<|vK I q rfl
theorem afK:JC X (Jc .IsNot) (fun x y H Q=>∃ c b,x=.bl c/\y=.bl b/\Q (.bl (!(c==b))) H):=by
 intro pins s σ H x y v u Q I rx ry ⟨c,b,ex,ey,q⟩;subst ex ey;cases rx;cases ry;exact Fy<|vK I q (by cases c <;> cases b <;> rfl)
def Ss:W->Bool
 | .non=>true
 | _=>false
theorem J1 {H:Hp}{μ : Mu}{w:W}{v:V}(r:Aa K H μ w v):decide (v=.non)=Ss w:=by
 cases w with
 | non=>rw [Aa] at r;subst r;rfl
 | bl _=>rw [Aa] at r;subst r;rfl
 | int _=>rw [Aa] at r;subst r;rfl
 | str _=>rw [Aa] at r;subst r;rfl
 | ty _=>rw [Aa] at r;subst r;rfl
 | tup _=>rw [Aa] at r;obtain ⟨_,_,e,_⟩:=r;subst e;rfl
 | lst _=>rw [Aa] at r;obtain ⟨_,_,e,_⟩:=r;subst e;rfl
 | kls _=>rw [Aa] at r;obtain ⟨_,_,e,_⟩:=r;subst e;rfl
 | loc _=>rw [Aa] at r;obtain ⟨_,e,_⟩:=r;subst e;rfl
 | exc _=>rw [Aa] at r;obtain ⟨_,_,_,e,_⟩:=r;subst e;rfl
 | exa _ _=>rw [Aa] at r;obtain ⟨_,_,_,_,_,_,e,_⟩:=r;subst e;rfl
 | fnv _ _=>rw [Aa] at r;subst r;rfl
def RZ:M2:=fun x y h Q=>match x,y with
 | .bl c,.bl b=>Q (.bl (c==b)) h
 | w,.non=>Q (.bl (Ss w)) h
 | _,_=>False
def pC:M2:=fun x y h Q=>match x,y with
 | .bl c,.bl b=>Q (.bl (!(c==b))) h
 | w,.non=>Q (.bl (!Ss w)) h
 | _,_=>False
theorem aaS:LR X (Jc .Is) RZ:=⟨_,YF.or ZC,by
 intro H μ h x y wx wy Qw Q R rx ry m k;unfold RZ at m;split at m
 ·rw [Aa] at rx ry;exact .inl ⟨_,_,rx,ry,k _ _<|.bl R m⟩
 ·rw [<-J1 rx] at m;rw [Aa] at ry;exact .inr ⟨ry,k _ _<|.bl R m⟩
 ·exact m.elim⟩
theorem pX:LR X (Jc .IsNot) pC:=⟨_,afK.or zbH,by
 intro H μ h x y wx wy Qw Q R rx ry m k;unfold pC at m;split at m
 ·rw [Aa] at rx ry;exact .inl ⟨_,_,rx,ry,k _ _<|.bl R m⟩
 ·rw [<-J1 rx] at m;rw [Aa] at ry;exact .inr ⟨ry,k _ _<|.bl R m⟩
 ·exact m.elim⟩
theorem aeF (bs:List Bool):((M5 bs.length).any fun i=>(bs[i]?).getD true)=bs.any id:=by
 rw [Bool.eq_iff_iff,List.any_eq_true,List.any_eq_true];constructor
 ·rintro ⟨i,hi,e⟩;have hi':=Nj.mp hi;exact ⟨bs[i],Tv hi',by simpa [hi'] using e⟩
 ·rintro ⟨b,hb,e⟩;obtain ⟨i,hi,rfl⟩:=TJ.mp hb;exact ⟨i,Nj.mpr hi,by simpa [hi] using e⟩
theorem zba (hc:X.calm=true):jc X (.builtin "any") (fun xs H Q=>∃ (p:Addr) (bs:List Bool),xs=[.ref p]/\Io X.K H p (bs.map V.bl)/\Q (.bl (bs.any id)) H):=by
 intro pins s σ H xs us Q I r ⟨p,bs,e,hS,q⟩;subst e;obtain ⟨u,rfl,ru⟩:=vals1 r;cases ru;obtain ⟨its,rv,pl,hz⟩:=I.list hS;have hlen:its.length=bs.length:=by rw [<-rv.length,Gg]
 have hl:=pl.isList;have hlt:p<s.heap.objs.size:=by obtain ⟨_,e,_⟩:=hl;exact Gy e
 refine call_any_walk<|Tw hl ?_
 refine ⟨s.heap.objs.size,[s.heap.objs.size,p],[s.heap.objs.size],its.toArray.size,_,_,fun i=>(bs[i]?).getD true,rfl,Walks.list (A:=X.A.in1) (I.ok.hd hc) _ p (Jy hlt) its.toArray,
  ⟨⟨_,KJ _ rfl,rfl,rfl⟩,hl.push _⟩,fun i v s' Q' E' hP hQ=>?_,fun h' tk hk=>?_⟩
 ·obtain ⟨b,e,rfl⟩:=uD rv (by simpa using hP);simp only [e,Ud] at hQ;exact SN hQ
 ·have e:((M5 its.toArray.size).any fun i=>(bs[i]?).getD true)=bs.any id:=by
   rw [Iz,hlen];exact aeF bs
  rw [e];refine ⟨.bl<|bs.any id,H,I.kept (h':=h') (t':=tk)<|fun b x e=>?_,rfl,q⟩;exact hk b x (fun hm=>by rw [Lz.mp hm] at e;exact NK _ (Gy e))<|HD _ e
def SX:MC:=fun ws h Q=>match ws with
 | [w]=>(match dH h w with
  | some us=>(match Ke us with
   | some bs=>Q (.bl (bs.any id)) h
   | none=>False)
  | none=>False)
 | _=>False
theorem abA (hc:X.calm=true):lq X (.builtin "any") SX:=⟨_,zba hc,by
 intro H μ h vs ws Qw Q R r m k;unfold SX at m;split at m
 ·split at m
  ·split at m
   ·rename_i w _ us ev _ bs eb;obtain ⟨v,e,rv⟩:=lu r;obtain ⟨p,ys,ex,hs,rs⟩:=cF R rv ev;subst e ex;exact ⟨p,bs,rfl,by rw [<-Ck rs eb];exact hs,k _ _<|.bl R m⟩
   ·exact m.elim
  ·exact m.elim
 ·exact m.elim⟩
def uW:W->Bool
 | .non=>true
 | .bl _=>true
 | .int _=>true
 | .str _=>true
 | _=>false
theorem O9 {H:Hp}{μ : Mu}{w:W}{v:V}(r:Aa K H μ w v)(f:uW w=true):pF v=true:=by
 cases w <;> first | (rw [Aa] at r;subst r;rfl) | cases f
theorem JB {H:Hp}{μ : Mu}:∀ {ws:List W} {vs:List V},aL K H μ ws vs->ws.all uW=true->vs.all pF=true
 | [],_,r,_=>by rw [aL] at r;subst r;rfl
 | w::ws,_,r,f=>by
  rw [aL] at r;obtain ⟨v,vs,e,r1,r2⟩:=r;subst e;rw [Tj,MN] at f |-
  exact ⟨O9 r1 f.1,JB r2 f.2⟩
theorem ac0 {H:Hp}{μ : Mu}{w u:W}{v x:V}(r:Aa K H μ w v)(q:Aa K H μ u x)(f:uW w=true)(g:uW u=true):Oe v x=FJ w u:=by
 cases w <;> cases u <;> first
  | (rw [Aa] at r;rw [Aa] at q;subst r;subst q;rfl)
  | (cases f;done)
  | (cases g;done)
theorem Xr {H:Hp}{μ : Mu}{u:W}{x:V}(q:Aa K H μ u x)(g:uW u=true):∀ {ws:List W} {vs:List V},aL K H μ ws vs->ws.all uW=true->inV x vs=ws.any fun w=>FJ w u
 | [],_,r,_=>by rw [aL] at r;subst r;rfl
 | w::ws,_,r,f=>by
  rw [aL] at r;obtain ⟨v,vs,e,r1,r2⟩:=r;subst e;rw [Tj,MN] at f;have:=Xr q g r2 f.2
  unfold inV at this |-
  rw [T4,T4,this,ac0 r1 q f.1 g]
def aaK:M2:=fun x y h Q=>match view h y with
 | some ws=>Hy (uW x&&ws.all uW) (Q (.bl (!(ws.any fun w=>FJ w x))) h) False
 | none=>False
theorem abH:LR X (Jc .NotIn) aaK:=⟨_,z6,by
 intro H μ h x y wx wy Qw Q R rx ry m k;unfold aaK at m;split at m
 ·rename_i ws ev;obtain ⟨p,xs,ey,hs,rs⟩:=rZ R ry ev;cases hp:(uW wx&&ws.all uW) with
  | true=>
   rw [hp] at m;rw [MN] at hp;exact ⟨p,xs,ey,hs,O9 rx hp.1,JB rs hp.2,k _ _ (by rw [if_pos rfl,Xr rx hp.1 rs hp.2];exact .bl R m)⟩
  | false=>rw [hp] at m;exact (show False from m).elim
 ·exact m.elim⟩
theorem agB:JC X (ML .Add) (fun x y H Q=>∃ a b ys,x=.ref a/\y=.ref b/\J4 X.K H a []/\J4 X.K H b ys/\Q (.ref b) H):=by
 intro pins s σ H x y v u Q I rx ry ⟨a,b,ys,ex,ey,ha,hb,q⟩;subst ex ey;cases rx;cases ry;obtain ⟨its,r1,p1,_⟩:=I.tuple ha;obtain ⟨jts,r2,p2,_⟩:=I.tuple hb;cases r1;obtain ⟨⟨cls,dd,data,sl⟩,ho,hc,n,hd⟩:=id p1;obtain ⟨⟨cls2,dd2,data2,sl2⟩,ho2,hc2,n2,hd2⟩:=id p2;simp only at hc hd hc2 hd2;subst hc hd hc2 hd2;exact concat_meets ⟨_,ho,rfl⟩ ⟨_,ho2,rfl⟩ noFill_tuple_add seq_tuple_add PySem.F.slot_tuple_add PySem.F.entry_tuple_add (PySem.F.args_tuple_add_2 _ _)
  (tuple_addW0 a b _ _ n n2 dd dd2 sl sl2 (by simp)) ⟨ho,ho2,⟨.ref b,H,I,rfl,q⟩⟩
def Gj (h:Gh):W->Option (List W)
 | .lst ws=>Dn ws
 | .loc n=>(match h.c n with
  | some (.lst ws)=>Dn ws
  | _=>FN)
 | _=>FN
theorem Bb {H:Hp}{μ : Mu}{h:Gh}{w:W}{v:V}{ws:List W}(R:Fv K μ H h)(r:Aa K H μ w v)(e:Gj h w=Dn ws):∃ p xs,v=.ref p/\H p=Dn (.lst xs)/\aL K H μ ws xs:=by
 cases w with
 | lst us=>
  rw [Aa] at r;obtain ⟨p,xs,ev,hs,rs⟩:=r;cases (show Dn us=Dn ws from e)
  exact ⟨p,xs,ev,hs.1,rs⟩
 | loc n=>
  unfold Gj at e;dsimp only at e;cases ec:h.c n with
  | none=>rw [ec] at e;cases e
  | some cl=>
   rw [ec] at e;cases cl with
   | lst us=>
    cases (show Dn us=Dn ws from e)
    obtain ⟨p,xs,ev,_,hx,rs⟩:=Li R r ec;exact ⟨p,xs,ev,hx,rs⟩
   | _=>cases e
 | _=>cases e
def bJ:M2:=fun x y h Q=>match x,y with
 | .int i,.int j=>Q (.int (i+j)) h
 | .tup [],.tup b=>Q (.tup b) h
 | .tup (a0::a),.tup b=>gJ (a.length+1+b.length) (Q (.tup (a0::a++b)) h)
 | x,y=>(match Gj h x,Gj h y with
  | some a,Dn b=>gJ (a.length+b.length) (Q (.lst (a++b)) h)
  | _,_=>False)
theorem bR:LR X (ML .Add) bJ:=⟨_,(WM.or (agB.or ahp)).or W9,by
 intro H μ h x y wx wy Qw Q R rx ry m k;unfold bJ at m;split at m
 ·rw [Aa] at rx ry;exact .inl<|.inl ⟨_,_,rx,ry,k _ _<|.int R m⟩
 ·rename_i b;have ry':=ry;rw [Aa] at rx ry;obtain ⟨p,xs,ex,hx,r1⟩:=rx;obtain ⟨q,ys,ey,hy,r2⟩:=ry;rw [aL] at r1;subst r1;rw [ey] at ry';exact .inl<|.inr<|.inl ⟨p,q,ys,ex,ey,hx,hy,k _ _ ⟨μ,_,h,.refl,R,ry',m⟩⟩
 ·rename_i a0 a b;have rx':=rx;rw [Aa] at rx ry;obtain ⟨p,xs,ex,hx,r1⟩:=rx;obtain ⟨q,ys,ey,hy,r2⟩:=ry;have sz:=m.ok.1;refine .inl<|.inr<|.inr ⟨p,q,xs,ys,ex,ey,hx,hy,fun z=>(by have:=r1.ne_nil.mp z;cases this),by rw [<-r1.len,<-r2.len];exact sz,fun z=>?_,fun z l hl=>?_⟩
  ·have eb:b=[]:=r2.ne_nil.mp z;subst eb;refine k _ _ ⟨μ,.tup (a0::a++[]),h,.refl,R,?_,m.ok.2⟩;rw [Ub,<-ex];exact rx'
  ·exact k _ _ ⟨μ,_,h,(Ex.laid hl).ext,R.laid hl,.tupNew hl<|r1.append r2,m.ok.2⟩
 ·split at m
  ·rename_i a b ea eb;obtain ⟨p,xs,ex,hx,r1⟩:=Bb R rx ea;obtain ⟨q,ys,ey,hy,r2⟩:=Bb R ry eb;have sz:=m.ok.1;exact .inr ⟨p,q,xs,ys,ex,ey,hx,hy,by rw [<-r1.len,<-r2.len];exact sz,fun l hl=>k _ _ ⟨μ,_,h,(Ex.laid hl).ext,R.laid hl,.lstNew R hl<|r1.append r2,m.ok.2⟩⟩
  ·exact m.elim⟩
def iC:MM:=fun x ws h Q=>match x,ws with
 | .loc n,[w]=>(match h.c n,Gj h w with
  | some (.lst us),Dn zs=>gJ (us.length+zs.length) (Q .non (h.set n (.lst (us++zs))))
  | _,_=>False)
 | _,_=>False
theorem aeV:VN K Ir iC:=by
 intro H μ h x vs wx ws Qw Q R rx rs m k;unfold iC at m;split at m
 ·split at m
  ·rename_i n w _ _ us zs ec ez;obtain ⟨p,xs,ex,hm,hx,r1⟩:=Li R rx ec;obtain ⟨v,ev,rv⟩:=lu rs;obtain ⟨q,ys,ey,hy,r2⟩:=Bb R rv ez;subst ey;have sz:=m.ok.1;exact ⟨p,q,xs,ys,ex,ev,hx,hy,by rw [<-r1.len,<-r2.len];exact sz,k _ _<|.wrote R hm (r1.append r2) (by rw [Aa]) m.ok.2⟩
  ·exact m.elim
 ·exact m.elim
variable {o e:Expr}{mo:ME}{ma:MA}{apos cpos:Pos}
theorem DW (ho:DE X o mo)(ha:Jv X [e] ma)
  (hbase:S5 o "extend" X.env (eval o X.env)=eval o X.env:=by rfl)
  (hfew:((K5 cpos (Fx [e] X.env)).all (fun x=>!x.1)&&(backToKw cpos (TQ [] X.env)).all (fun x=>x.1.isSome)
   && decide (([e]:List Expr).length+([]:List Nx).length+(if ([]:List Nx).isEmpty then 0 else 1)<30))=true:=by rfl)
  (hline:(apos.endLine==cpos.line)=true:=by rfl) (hst:Fx [e] X.env=(false,eval e X.env)::Fx [] X.env:=by rfl) (hplain:(K5 cpos (Fx [] X.env)).any (·.1)=false:=by rfl) :
  DE X (.Call (.Attribute o "extend" apos) [e] [] cpos) (GJ iC mo ma):=acj PySem.F.slot_list_extend PySem.F.type_list_extend afj aeV ho ha hbase hfew hline hst hplain
end
def Oz (K:Ad):Sp:=fun vs H Q _=>∃ (a:Addr) (ns:List Int),vs=[.ref a]/\Io K H a (ns.map V.int)/\Only H/\ns.length<=63/\∀ H',Q (.bl true) H'
def g0:Gh:=⟨0,fun _=>FN⟩
def μ0:Mu:=⟨fun _=>FN,fun _=>False⟩
theorem adQ {K:Ad}{H:Hp}:Fv K μ0 H g0 where
 inj:=fun m n p h=>by cases (show (FN:Option Addr)=Dn p from h)
 dom:=fun n p h=>by cases (show (FN:Option Addr)=Dn p from h)
 trk:=fun n p h=>by cases (show (FN:Option Addr)=Dn p from h)
 cel:=fun n c h=>by cases (show (FN:Option Cell)=Dn c from h)
 hd:=fun p h=>Oh h
theorem yj {K:Ad}{H:Hp}{μ : Mu}:∀ ns:List Int,aL K H μ (ns.map W.int) (ns.map V.int)
 | []=>.nil
 | n::ns=>.cons (by rw [Aa]) (yj ns)
theorem Va {P:FQ}{w:Cm}{K:Ad}{mg:Str->Option JI}{base:Heap}{k:Nat}{f:Addr}{fd:Le}{ps:List Str}{ms:kI}
  (hm:∀ ns:List Int,ns.length<=63->ms [.kls (ns.map W.int)] g0 (fun w _=>w=.bl true) EF) (F:qJ P w K mg base M4 k f fd ps (lift K ms)):qJ P w K mg base M4 k f fd ps (Oz K):=
 F.imp fun vs H Q E ⟨a,ns,e,hS,hO,hl,q⟩=>by
  subst e;refine ⟨μ0,g0,[.kls<|ns.map W.int],_,adQ,.one ?_,hm ns hl,fun v H' ⟨μ',w',h',_,_,r,e⟩=>?_⟩
  ·rw [Aa];refine ⟨a,ns.map V.int,rfl,?_,yj ns⟩;rcases hS with (hS | hS) | hS
   ·rcases hO a with z | ⟨o,xs,z⟩ <;> rw [hS] at z <;> cases z
   ·exact .inl hS
   ·exact .inr hS
  ·subst e;rw [Aa] at r;subst r;exact q H'
inductive Sk where
 | l | t
def Sk.sq (k:Sk)(h:Heap)(a:Addr)(its:Array JI):Prop:=match k with
 | .l=>h.IsList a its
 | .t=>h.IsTuple a its
def Sk.it (k:Sk)(h:Heap)(i a:Addr)(n:Nat):Prop:=match k with
 | .l=>h.IsListIter i a n
 | .t=>h.IsTupleIter i a n
def Sk.nm:Sk->String
 | .l => "list_iterator"
 | .t => "tuple_iterator"
section
variable {P:FQ}{w:Cm}{A:FT}{E:JI->AP->Prop}{s:AP}{k k1 k2:Sk}
theorem Sk.it_at {h h':Heap}{i a:Addr}{n:Nat}(x:k.it h i a n)(e:∀ o,h.get? i=Dn o->h'.get? i=Dn o):k.it h' i a n:=by
 cases k with
 | l=>obtain ⟨o,ho,r⟩:=x;exact ⟨o,e o ho,r⟩
 | t=>obtain ⟨o,ho,r⟩:=x;exact ⟨o,e o ho,r⟩
theorem Sk.sq_at {h h':Heap}{a:Addr}{its:Array JI}(x:k.sq h a its)(e:∀ o,h.get? a=Dn o->h'.get? a=Dn o):k.sq h' a its:=by
 cases k with
 | l=>obtain ⟨o,ho,r⟩:=x;exact ⟨o,e o ho,r⟩
 | t=>obtain ⟨o,ho,r⟩:=x;exact ⟨o,e o ho,r⟩
theorem Sk.it_obj {h:Heap}{i a:Addr}{n:Nat}(x:k.it h i a n):∃ o,h.get? i=Dn o/\o.cls=.type k.nm/\o.data=.fields #[.ref a,.int n 0]:=by
 cases k with
 | l=>exact x
 | t=>exact x
theorem zbu {it t:Addr}{i:Nat}{its:Array JI}{x:JI}{Q:JI->AP->Prop}(hi:s.heap.IsTupleIter it t i)(ht:s.heap.IsTuple t its)(hx:its[i]?=Dn x)
  (q:∀ h',h'.IsTupleIter it t (i+1)->TK it s.heap h'->Q x { s with heap:=h' }):CR (FP P w) A (RQ (.ref it)) Q E s:=by
 obtain ⟨o,go,gc,gd⟩:=id hi;obtain ⟨ol,gol,_,nl,gdl⟩:=ht;unfold RQ;refine Aj (Rp (name:=Rh "__next__") hi.typeIs V0
  (RL V0 hi.typeIs PySem.F.entry_tuple_iterator_next ?_ (PySem.F.args_tuple_iterator_next_1 _)))
 show CR _ _ (field (.ref it) 0 >>= _) _ _ s;refine Aj<|Kv go gd (x:=.ref t) rfl ?_
 show CR _ _ (if (Value.ref t==Value.none)=true then _ else _) _ _ s;rw [if_neg (by exact Ly)];show CR _ _ (field (.ref it) 1 >>= _) _ _ s;refine Aj<|Kv go gd (x:=.int i 0) rfl ?_
 show CR _ _ (seqItems? (.ref t) >>= _) _ _ s;refine Aj<|Ry gol gdl ?_
 simp only [Int.toNat_natCast,hx];refine Aj<|U4 go gd (by simp)<|Fy ⟨x,rfl,Fy<|q _ ?_<|UJ ..⟩
 exact ⟨_,UL _ go<|Us<|T8 gd _,(Obj.cls_mapFields ..).trans gc,by rw [T8 gd];simp [Mj]⟩
theorem yM {it t:Addr}{i:Nat}{its:Array JI}{Q:JI->AP->Prop}(hh:A.handled=FN)(hi:s.heap.IsTupleIter it t i)(ht:s.heap.IsTuple t its)(hx:its[i]?=FN)
  (q:∀ h' e,TX it s.heap h'->(∃ o,h'.get? e=Dn o/\o.cls=.type "StopIteration")->E (.ref e) { s with heap:=h' }):CR (FP P w) A (RQ (.ref it)) Q E s:=by
 obtain ⟨o,go,gc,gd⟩:=id hi;obtain ⟨ol,gol,_,nl,gdl⟩:=ht;unfold RQ;refine Aj (Rp (name:=Rh "__next__") hi.typeIs V0
  (RL V0 hi.typeIs PySem.F.entry_tuple_iterator_next ?_ (PySem.F.args_tuple_iterator_next_1 _)))
 show CR _ _ (field (.ref it) 0 >>= _) _ _ s;refine Aj<|Kv go gd (x:=.ref t) rfl ?_
 show CR _ _ (if (Value.ref t==Value.none)=true then _ else _) _ _ s;rw [if_neg (by exact Ly)];show CR _ _ (field (.ref it) 1 >>= _) _ _ s;refine Aj<|Kv go gd (x:=.int i 0) rfl ?_
 show CR _ _ (seqItems? (.ref t) >>= _) _ _ s;refine Aj<|Ry gol gdl ?_
 simp only [Int.toNat_natCast,hx];refine Aj<|Sg<|Aj<|U4 go gd (by simp) ?_
 show CR _ _ (newExc (.type "StopIteration") [] >>= _) _ _ _;refine Aj ?_;simp only [newExc,newTuple];refine Aj<|O2 ?_<|by size_fits
 refine Aj (m:=U3 _ _)<|Rm (a:=Value.none) (by first | rfl | (simp only [U3];rfl)) ?_
 refine O2 ?_<|by size_fits
 simp only [raiseNew];refine Aj<|wpAny_handled ?_
 first | rw [show A.in1.handled=FN from hh] | rw [hh]
 refine Aj<|Fy<|wpAny_throw ?_
 exact q _ _ (((UJ ..).extBut.push _).push _) ⟨_,KJ _ rfl,rfl⟩
theorem Sk.next {it a:Addr}{i:Nat}{its:Array JI}{x:JI}{Q:JI->AP->Prop}(hi:k.it s.heap it a i)(hs:k.sq s.heap a its)(hx:its[i]?=Dn x)
  (q:∀ h',k.it h' it a (i+1)->TK it s.heap h'->Q x { s with heap:=h' }):CR (FP P w) A (RQ (.ref it)) Q E s:=by
 cases k with
 | l=>exact wpAny_nextOf_list_item hi hs hx q
 | t=>exact zbu hi hs hx q
theorem Sk.stop {it a:Addr}{i:Nat}{its:Array JI}{Q:JI->AP->Prop}(hh:A.handled=FN)(hi:k.it s.heap it a i)(hs:k.sq s.heap a its)(hx:its[i]?=FN)
  (q:∀ h' e,TX it s.heap h'->(∃ o,h'.get? e=Dn o/\o.cls=.type "StopIteration")->E (.ref e) { s with heap:=h' }):CR (FP P w) A (RQ (.ref it)) Q E s:=by
 cases k with
 | l=>exact wpAny_nextOf_list_end hh hi hs hx q
 | t=>exact yM hh hi hs hx q
theorem Sk.iter {a:Addr}{its:Array JI}{Q:JI->AP->Prop}(hs:k.sq s.heap a its)
  (q:Q (.ref s.heap.objs.size) { s with heap:=s.heap.push { cls:=.type k.nm,data:=.fields #[.ref a,.int 0 0] } }):CR (FP P w) A (pyIter (.ref a)) Q E s:=by
 cases k with
 | l=>exact Tw hs q
 | t=>exact wpAny_pyIter_tuple hs q
structure Zap (z TI TO i1 i2:Addr):Prop where
 a1:TI≠z
 a2:TO≠z
 a3:i1≠z
 a4:i2≠z
 a5:TI≠TO
 a6:TI≠i1
 a7:TI≠i2
 a8:TO≠i1
 a9:TO≠i2
 b1:i1≠i2
structure Off (a z TO i1 i2:Addr):Prop where
 z:a≠z
 o:a≠TO
 i:a≠i1
 j:a≠i2
theorem afb {z TI TO i1 i2 l1 l2:Addr}{n1 n2:Nat}{xs ys:Array JI}{x y a b:JI}{Q:Option JI->AP->Prop}(D:Zap z TI TO i1 i2)(o1:Off l1 z TO i1 i2)(o2:Off l2 z TO i1 i2)
  (gz:IsZip s.heap z TI TO .none) (gI:Mv s.heap TI (.ref i1) (.ref i2)) (gO:Mv s.heap TO a b) (g1:k1.it s.heap i1 l1 n1) (g2:k2.it s.heap i2 l2 n2) (gx:k1.sq s.heap l1 xs) (gy:k2.sq s.heap l2 ys)
  (hx:xs[n1]?=Dn x) (hy:ys[n2]?=Dn y)
  (q:∀ h',IsZip h' z TI TO (Mj s.heap.objs.size)->Mv h' TO x y->k1.it h' i1 l1 (n1+1)->k2.it h' i2 l2 (n2+1)->Mv h' s.heap.objs.size x y->h'.objs.size=s.heap.objs.size+1 ->
   (∀ c o,c≠z->c≠TO->c≠i1->c≠i2->s.heap.get? c=Dn o->h'.get? c=Dn o)->Q (Dn (.ref s.heap.objs.size)) { s with heap:=h' }) :
  CR (FP P w) A (Ni (.ref z)) Q E s:=by
 have gT:s.TypeIs (.ref z) "zip":=⟨_,gz,rfl⟩
 unfold Ni;refine Aj<|T3<|Rp (name:=Rh "__next__") gT Ut<|RL Ut gT PySem.F.entry_zip_next ?_<|PySem.F.args_zip_next_1 _
 show CR _ _ (field (.ref z) 2 >>= _) _ _ _;refine Aj<|Kv gz rfl (x:=.bool false) rfl ?_
 show CR _ _ (field (.ref z) 3 >>= _) _ _ _;refine Aj<|Kv gz rfl (x:=.ref TI) rfl ?_
 refine Aj<|Ry gI rfl ?_
 show CR _ _ (V1 (.ref z) >>= _) _ _ _;refine Aj ?_;unfold V1;refine Aj<|Kv gz rfl (x:=.none) rfl<|Fy ?_
 simp only [if_true];refine Aj<|Sg ?_
 refine Aj<|Kv gz rfl (x:=.ref TO) rfl ?_
 refine Aj<|Tc gz (by simp) fun h₁ z₁ s₁=>?_
 replace z₁ : IsZip h₁ z TI TO .ellipsis:=z₁;refine Aj ?_;simp only [List.zipIdx_cons,List.zipIdx_nil,List.forIn_cons,List.forIn_nil]
 -- the first one
 refine Aj<|Aj<|wpAny_onRaise ?_
 show CR _ _ (RQ (.ref i1) >>= _) _ _ _;refine Aj<|Sk.next (k:=k1) (s:={ s with heap:=h₁ }) (Sk.it_at g1 fun o e=>s₁.extBut _ o D.a3 e) (Sk.sq_at gx fun o e=>s₁.extBut _ o o1.z e) hx fun h₂ g1₂ s₂=>Fy ?_
 have gO₂ : Mv h₂ TO a b:=s₂.extBut _ _ D.a8 (s₁.extBut _ _ D.a2 gO);refine Aj<|Ry gO₂ rfl ?_
 refine Aj<|wpAny_updateSeq_pair gO₂ fun h₃ gO₃ s₃=>?_
 replace gO₃ : Mv h₃ TO x b:=gO₃;refine Aj<|wpAny_letGo<|Fy ?_
 -- the second one
 refine Aj<|Aj<|wpAny_onRaise ?_
 show CR _ _ (RQ (.ref i2) >>= _) _ _ _;refine Aj (Sk.next (k:=k2) (s:={ s with heap:=h₃ }) (Sk.it_at g2 fun o e=>s₃.extBut _ o D.a9.symm (s₂.extBut _ o D.b1.symm (s₁.extBut _ o D.a4 e)))
  (Sk.sq_at gy fun o e=>s₃.extBut _ o o2.o (s₂.extBut _ o o2.i (s₁.extBut _ o o2.z e))) hy fun h₄ g2₄ s₄=>Fy ?_)
 have gO₄ : Mv h₄ TO x b:=s₄.extBut _ _ D.a9 gO₃;refine Aj<|Ry gO₄ rfl ?_
 refine Aj<|wpAny_updateSeq_pair gO₄ fun h₅ gO₅ s₅=>?_
 replace gO₅ : Mv h₅ TO x y:=gO₅;refine Aj<|wpAny_letGo<|Fy<|Fy ?_
 -- the pair is handed out
 refine Aj<|Ry gO₅ rfl ?_
 refine Aj<|wpAny_newTuple ?_
 have size:h₅.objs.size=s.heap.objs.size:=by rw [s₅.1,s₄.1,s₃.1,s₂.1,s₁.1]
 have z₅ : IsZip h₅ z TI TO .ellipsis:=s₅.extBut _ _ D.a2.symm (s₄.extBut _ _ D.a4.symm (s₃.extBut _ _ D.a2.symm (s₂.extBut _ _ D.a3.symm z₁)));have all₅ : ∀ c o,c≠z->c≠TO->c≠i1->c≠i2->s.heap.get? c=Dn o->h₅.get? c=Dn o:=fun c o c1 c2 c3 c4 e=>s₅.extBut _ _ c2 (s₄.extBut _ _ c4 (s₃.extBut _ _ c2 (s₂.extBut _ _ c3 (s₁.extBut _ _ c1 e))))
 have g1₅ : k1.it h₅ i1 l1 (n1+1):=Sk.it_at g1₂ fun o e=>s₅.extBut _ o D.a8.symm (s₄.extBut _ o D.b1 (s₃.extBut _ o D.a8.symm e))
 have g2₅ : k2.it h₅ i2 l2 (n2+1):=Sk.it_at g2₄ fun o e=>s₅.extBut _ o D.a9.symm e
 have zlt:z<h₅.objs.size:=Gy z₅;show CR _ _ (Builtin.SmallTypes.ownedTupleHandOut (.ref z) (.ref h₅.objs.size) >>= _) _ _ _;refine Aj ?_;unfold Builtin.SmallTypes.ownedTupleHandOut;have z₆ : IsZip (h₅.push { cls:=.type "tuple",data:=.seq #[x,y] }) z TI TO .ellipsis:=HD _ z₅;refine Aj<|Tc z₆ (by simp) fun h₇ z₇ s₇=>?_
 replace z₇ : IsZip h₇ z TI TO (Mj h₅.objs.size):=z₇;refine Tc z₇ (by simp) fun h₈ z₈ s₈=>?_;replace z₈ : IsZip h₈ z TI TO (Mj h₅.objs.size):=z₈;have up:∀ c o,c≠z->h₅.get? c=Dn o->h₈.get? c=Dn o:=fun c o c1 e=>s₈.extBut _ _ c1 (s₇.extBut _ _ c1 (HD _ e))
 have T₈ : Mv h₈ h₅.objs.size x y:=s₈.extBut _ _ (RK zlt) (s₇.extBut _ _ (RK zlt) (KJ _ rfl));have size8:h₈.objs.size=h₅.objs.size+1:=by rw [s₈.1,s₇.1,Om]
 rw [size] at z₈ T₈ size8;refine Fy ⟨_,rfl,Fy ?_⟩;show Q (Dn (.ref h₅.objs.size)) _;rw [size];exact q h₈ z₈ (up _ _ D.a2 gO₅) (Sk.it_at g1₅ fun o e=>up _ o D.a3 e) (Sk.it_at g2₅ fun o e=>up _ o D.a4 e) T₈ size8 fun c o c1 c2 c3 c4 e=>up c o c1<|all₅ c o c1 c2 c3 c4 e
theorem afm {z TI TO i1 i2 l1 l2:Addr}{n1 n2:Nat}{xs ys:Array JI}{a b:JI}{Q:Option JI->AP->Prop}(hh:A.handled=FN)(D:Zap z TI TO i1 i2)(o1:Off l1 z TO i1 i2)(o2:Off l2 z TO i1 i2)
  (gz:IsZip s.heap z TI TO .none) (gI:Mv s.heap TI (.ref i1) (.ref i2)) (gO:Mv s.heap TO a b) (g1:k1.it s.heap i1 l1 n1) (g2:k2.it s.heap i2 l2 n2) (gx:k1.sq s.heap l1 xs) (gy:k2.sq s.heap l2 ys)
  (hend:xs[n1]?=FN\/ys[n2]?=FN)
  (q:∀ h',(∀ c o,c≠z->c≠TO->c≠i1->c≠i2->s.heap.get? c=Dn o->h'.get? c=Dn o)->Q FN { s with heap:=h' }):CR (FP P w) A (Ni (.ref z)) Q E s:=by
 have gT:s.TypeIs (.ref z) "zip":=⟨_,gz,rfl⟩
 have fin:∀ (h':Heap) (e:Addr),(∀ c o,c≠z->c≠TO->c≠i1->c≠i2->s.heap.get? c=Dn o->h'.get? c=Dn o)->(∃ o,h'.get? e=Dn o/\o.cls=.type "StopIteration") ->
   CR (FP P w) A (do if <-isInstance (.ref e) (.type "StopIteration") then pure FN else throw (.ref e)) Q E { s with heap:=h' }:=fun h' e all ⟨o,ho,hc⟩=>
  Aj (wpAny_isInstance (T := "StopIteration") (b:=true) ⟨o,ho,hc⟩ isSubtype_stop (Fy (q _ all)))
 unfold Ni;refine Aj<|T3<|Rp (name:=Rh "__next__") gT Ut<|RL Ut gT PySem.F.entry_zip_next ?_<|PySem.F.args_zip_next_1 _
 show CR _ _ (field (.ref z) 2 >>= _) _ _ _;refine Aj<|Kv gz rfl (x:=.bool false) rfl ?_
 show CR _ _ (field (.ref z) 3 >>= _) _ _ _;refine Aj<|Kv gz rfl (x:=.ref TI) rfl ?_
 refine Aj<|Ry gI rfl ?_
 show CR _ _ (V1 (.ref z) >>= _) _ _ _;refine Aj ?_;unfold V1;refine Aj<|Kv gz rfl (x:=.none) rfl<|Fy ?_
 simp only [if_true];refine Aj<|Sg ?_
 refine Aj<|Kv gz rfl (x:=.ref TO) rfl ?_
 refine Aj<|Tc gz (by simp) fun h₁ z₁ s₁=>?_
 replace z₁ : IsZip h₁ z TI TO .ellipsis:=z₁;refine Aj ?_;simp only [List.zipIdx_cons,List.zipIdx_nil,List.forIn_cons,List.forIn_nil];refine Aj<|Aj<|wpAny_onRaise ?_
 show CR _ _ (RQ (.ref i1) >>= _) _ _ _;have g1₁ : k1.it h₁ i1 l1 n1:=Sk.it_at g1 fun o e=>s₁.extBut _ o D.a3 e
 have gx₁ : k1.sq h₁ l1 xs:=Sk.sq_at gx fun o e=>s₁.extBut _ o o1.z e
 cases hx:xs[n1]? with
 | none=>
  refine Aj<|Sk.stop (k:=k1) (s:={ s with heap:=h₁ }) hh g1₁ gx₁ hx fun h₂ e s₂ he=>?_
  obtain ⟨oe,hoe,hce⟩:=he;have z₂ : IsZip h₂ z TI TO .ellipsis:=s₂ _ _ D.a3.symm z₁;have ez:e≠z:=fun y=>by subst y;rw [z₂] at hoe;cases hoe;simp at hce
  refine Tc z₂ (by simp) fun h₃ _ s₃=>fin h₃ e (fun c o c1 _ c3 _ y=>s₃.extBut _ _ c1<|s₂ _ _ c3<|s₁.extBut _ _ c1 y) ⟨oe,s₃.extBut _ _ ez hoe,hce⟩
 | some x=>
  have hy:ys[n2]?=FN:=by
   rcases hend with h | h
   ·rw [hx] at h;cases h
   ·exact h
  refine Aj<|Sk.next (k:=k1) (s:={ s with heap:=h₁ }) g1₁ gx₁ hx fun h₂ g1₂ s₂=>Fy ?_
  have gO₂ : Mv h₂ TO a b:=s₂.extBut _ _ D.a8 (s₁.extBut _ _ D.a2 gO);refine Aj<|Ry gO₂ rfl ?_
  refine Aj<|wpAny_updateSeq_pair gO₂ fun h₃ gO₃ s₃=>?_
  refine Aj<|wpAny_letGo<|Fy ?_
  refine Aj<|Aj<|wpAny_onRaise ?_
  show CR _ _ (RQ (.ref i2) >>= _) _ _ _;refine Aj (Sk.stop (k:=k2) (s:={ s with heap:=h₃ }) hh (Sk.it_at g2 fun o e=>s₃.extBut _ o D.a9.symm (s₂.extBut _ o D.b1.symm (s₁.extBut _ o D.a4 e)))
   (Sk.sq_at gy fun o e=>s₃.extBut _ o o2.o (s₂.extBut _ o o2.i (s₁.extBut _ o o2.z e))) hy fun h₄ e s₄ he=>?_)
  obtain ⟨oe,hoe,hce⟩:=he;have z₄ : IsZip h₄ z TI TO .ellipsis:=s₄ _ _ D.a4.symm (s₃.extBut _ _ D.a2.symm (s₂.extBut _ _ D.a3.symm z₁));have ez:e≠z:=fun y=>by subst y;rw [z₄] at hoe;cases hoe;simp at hce
  refine Tc z₄ (by simp) fun h₅ _ s₅=>fin h₅ e (fun c o c1 c2 c3 c4 y=>s₅.extBut _ _ c1<|s₄ _ _ c4<|s₃.extBut _ _ c2<|s₂.extBut _ _ c3<|s₁.extBut _ _ c1 y) ⟨oe,s₅.extBut _ _ ez hoe,hce⟩
abbrev zh1 (k1:Sk)(h:Heap)(l1:Addr):Heap:=h.push { cls:=.type k1.nm,data:=.fields #[.ref l1,.int 0 0] }
abbrev zh2 (k1 k2:Sk)(h:Heap)(l1 l2:Addr):Heap:=(zh1 k1 h l1).push { cls:=.type k2.nm,data:=.fields #[.ref l2,.int 0 0] }
abbrev zh3 (k1 k2:Sk)(h:Heap)(l1 l2:Addr):Heap:=(zh2 k1 k2 h l1 l2).push { cls:=.type "tuple",data:=.seq #[.ref h.objs.size,.ref (zh1 k1 h l1).objs.size] }
abbrev zh4 (k1 k2:Sk)(h:Heap)(l1 l2:Addr):Heap:=(zh3 k1 k2 h l1 l2).push { cls:=.type "tuple",data:=.seq #[.none,.none] }
abbrev zh5 (k1 k2:Sk)(h:Heap)(l1 l2:Addr):Heap:=(zh4 k1 k2 h l1 l2).push { cls:=.type "zip",data:=.fields #[.none,.bool false,.bool false,.ref (zh2 k1 k2 h l1 l2).objs.size,.ref (zh3 k1 k2 h l1 l2).objs.size] }
theorem agL (l1 l2:Addr)(xs ys:Array JI):Meets (RP.«zip.__new__» ⟨[.type "zip",.ref l1,.ref l2],[]⟩) (fun _ R s=>k1.sq s.heap l1 xs/\k2.sq s.heap l2 ys /\
   R (.ok (.ret (.ref (zh4 k1 k2 s.heap l1 l2).objs.size))) { s with heap:=zh5 k1 k2 s.heap l1 l2 }):=
 .of_wp fun prog w A R s h=>by
  obtain ⟨hp,g,d,tk,os⟩:=s;obtain ⟨gl1,gl2,h⟩:=h;have hsub:=sub_zip;have L1:k1.sq (Shared.heap ⟨hp,g,d,tk,os⟩) l1 xs:=gl1;have L2':k2.sq (Shared.heap ⟨hp.push { cls:=.type k1.nm,data:=.fields #[.ref l1,.int 0 0] },g,d,tk,os⟩) l2 ys:=Sk.sq_at gl2 fun o e=>HD _ e
  wp_walk using Sk.iter L1,Sk.iter L2'
  exact ⟨_,rfl,h⟩
theorem zbq {l1 l2:Addr}{xs ys:Array JI}{Q:JI->AP->Prop}(gl1:k1.sq s.heap l1 xs)(gl2:k2.sq s.heap l2 ys)
  (q:∀ h',IsZip h' (s.heap.objs.size+4) (s.heap.objs.size+2) (s.heap.objs.size+3) .none->Mv h' (s.heap.objs.size+2) (.ref s.heap.objs.size) (.ref (s.heap.objs.size+1)) ->
   Mv h' (s.heap.objs.size+3) .none .none->k1.it h' s.heap.objs.size l1 0->k2.it h' (s.heap.objs.size+1) l2 0->h'.objs.size=s.heap.objs.size+5 ->
   (∀ c o,s.heap.get? c=Dn o->h'.get? c=Dn o)->Q (.ref (s.heap.objs.size+4)) { s with heap:=h' }):CR (FP P w) A (call (.type "zip") [.ref l1,.ref l2]) Q E s:=by
 refine callType_new PySem.F.called_zip (by decide) (PySem.F.typeCall_zip_2 _ _) (PySem.F.newCall_zip_2 _ _) (fun obj=>PySem.F.args_object_init_3 obj _ _) PySem.F.entry_zip_new (agL (k1:=k1) (k2:=k2) l1 l2 xs ys) ⟨gl1,gl2,?_⟩;have e1:(zh1 k1 s.heap l1).objs.size=s.heap.objs.size+1:=Om ..;have e2:(zh2 k1 k2 s.heap l1 l2).objs.size=s.heap.objs.size+2:=by rw [Om,e1]
 have e3:(zh3 k1 k2 s.heap l1 l2).objs.size=s.heap.objs.size+3:=by rw [Om,e2]
 have e4:(zh4 k1 k2 s.heap l1 l2).objs.size=s.heap.objs.size+4:=by rw [Om,e3]
 have e5:(zh5 k1 k2 s.heap l1 l2).objs.size=s.heap.objs.size+5:=by rw [Om,e4]
 have f5:(zh5 k1 k2 s.heap l1 l2).get? (zh4 k1 k2 s.heap l1 l2).objs.size=Dn _:=KJ _ rfl;have f4:(zh5 k1 k2 s.heap l1 l2).get? (zh3 k1 k2 s.heap l1 l2).objs.size=Dn _:=HD _ (KJ _ rfl);have f3:(zh5 k1 k2 s.heap l1 l2).get? (zh2 k1 k2 s.heap l1 l2).objs.size=Dn _:=HD _ (HD _ (KJ _ rfl));have f2:(zh5 k1 k2 s.heap l1 l2).get? (zh1 k1 s.heap l1).objs.size=Dn _:=HD _ (HD _ (HD _ (KJ _ rfl)));have f1:(zh5 k1 k2 s.heap l1 l2).get? s.heap.objs.size=Dn _:=HD _ (HD _ (HD _ (HD _ (KJ _ rfl))));show _/\_;rw [e2,e3,e4] at f5;rw [e1,e2] at f3;rw [e3] at f4;rw [e1] at f2;rw [e4];refine ⟨⟨_,f5,rfl⟩,q _ f5 f3 f4 ?_ ?_ e5 fun c o x=>HD _<|HD _<|HD _<|HD _<|HD _ x⟩
 ·cases k1 with
  | l=>exact ⟨_,f1,rfl,rfl⟩
  | t=>exact ⟨_,f1,rfl,rfl⟩
 ·cases k2 with
  | l=>exact ⟨_,f2,rfl,rfl⟩
  | t=>exact ⟨_,f2,rfl,rfl⟩
end
section
variable {X:Cx}{pins:List (Addr×Obj)}{σ : St}{H:Hp}{s:AP}{h':Heap}
theorem Ac.turnedL {t':Nat}{ch:List Addr}(I:Ac X pins σ H s)(k:∀ b o,b∉ch->s.heap.get? b=Dn o->h'.get? b=Dn o)(hf:∀ b∈ch,GC X pins H b):Ac X pins σ H { s with heap:=h',toks:=t' }:=by
 have nit:∀ b u,H b=Dn u->b∉ch:=fun b u e z=>by rw [(hf b z).1] at e;cases e
 refine I.step (g':=s.gens) (d':=s.drawn) (ch:=ch) (fun b hb=>?_) (fun b o _ _ hc e _=>k b o hc e) (fun b o _ _ hc e _=>⟨o.slots,k b o hc e⟩) (fun _ _ _ _ n=>n)
  (fun b o hc e=>⟨o,k b o hc e⟩) (fun _ _ e=>e) (fun _ _ _ e=>e) (fun b ps e=>⟨#[],by rw [e];simp⟩) (fun m hm=>?_) (fun b u e=>?_) I.bare
 ·obtain ⟨_,f1,_,f3,f4,f5⟩:=hf b hb;exact ⟨f3,f1,f4,f5⟩
 ·obtain ⟨o,es,ep,ho,r⟩:=hm;exact ⟨o,es,ep,k _ o (fun z=>(hf _ z).2.1 rfl) ho,r⟩
 ·refine (I.hok b u e).stay (fun c v hc q=>k c v ?_ q) (fun _ q=>q) fun _ _ q=>q;rcases hc with z | z
  ·rw [z];exact nit b u e
  ·exact nit c _ z
end
def Sk.v (k:Sk)(K:Ad)(H:Hp)(a:Addr)(xs:List V):Prop:=match k with
 | .l=>Io K H a xs
 | .t=>J4 K H a xs
theorem Ac.sk {X:Cx}{pins:List (Addr×Obj)}{σ : St}{H:Hp}{s:AP}{k:Sk}{a:Addr}{xs:List V}(I:Ac X pins σ H s)(h:k.v X.K H a xs):∃ its:List JI,BL xs its/\k.sq s.heap a its.toArray:=by
 cases k with
 | l=>obtain ⟨its,r,p,_⟩:=I.list h;exact ⟨its,r,p.isList⟩
 | t=>obtain ⟨its,r,p,_⟩:=I.tuple h;exact ⟨its,r,p⟩
theorem Ac.sk_inj {X:Cx}{pins:List (Addr×Obj)}{σ : St}{H:Hp}{s:AP}{k:Sk}{a:Addr}{xs ys:List V}(I:Ac X pins σ H s)(h:k.v X.K H a xs)(g:k.v X.K H a ys):xs=ys:=by
 cases k with
 | l=>exact I.list_inj h g
 | t=>exact I.tuple_inj h g
def Itz (K:Ad)(k1 k2:Sk)(l1 l2:Addr):It:=
  ⟨fun i H=>∃ xs ys x y,k1.v K H l1 xs/\k2.v K H l2 ys/\xs[i]?=Dn x/\ys[i]?=Dn y,
   fun i H v H'=>∃ p x y,H p=FN/\v=.ref p/\H'=G8 H p (.tup [x,y])/\(∀ xs,k1.v K H l1 xs->xs[i]?=Dn x)/\∀ ys,k2.v K H l2 ys->ys[i]?=Dn y,
   fun i H=>∃ xs ys,k1.v K H l1 xs/\k2.v K H l2 ys/\(xs.length<=i\/ys.length<=i),true⟩
def aa3 (k1 k2:Sk)(z TI TO i1 i2 l1 l2:Addr)(n:Nat)(h:Heap):Prop:=IsZip h z TI TO .none/\Mv h TI (.ref i1) (.ref i2)/\(∃ a b,Mv h TO a b)/\k1.it h i1 l1 n/\k2.it h i2 l2 n
theorem afD {P:FQ}{w:Cm}{K:Ad}{elts:List Expr}{kt:Nat}{pos:Pos}{k1 k2:Sk}{z TI TO i1 i2 l1 l2:Addr}(D:Zap z TI TO i1 i2)(o1:Off l1 z TO i1 i2)(o2:Off l2 z TO i1 i2) :
  Turn P w K (.Tuple elts kt pos) (Itz K k1 k2 l1 l2) [z,TI,TO,i1,i2] z (aa3 k1 k2 z TI TO i1 i2 l1 l2) where
 mem:=by simp
 obj:=fun i h st b hb=>by
  obtain ⟨gz,gI,⟨a,b',gO⟩,g1,g2⟩:=st;simp only [J9,Ml,or_false] at hb;rcases hb with rfl | rfl | rfl | rfl | rfl
  ·exact ⟨_,gz,fun v y=>by cases y⟩
  ·exact ⟨_,gI,fun v y=>by cases y⟩
  ·exact ⟨_,gO,fun v y=>by cases y⟩
  ·obtain ⟨o,e,_,d⟩:=Sk.it_obj g1;exact ⟨o,e,fun v y=>by rw [d] at y;cases y⟩
  ·obtain ⟨o,e,_,d⟩:=Sk.it_obj g2;exact ⟨o,e,fun v y=>by rw [d] at y;cases y⟩
 keep:=fun i h h' st k=>by
  obtain ⟨gz,gI,⟨a,b,gO⟩,g1,g2⟩:=st;exact ⟨k z (by simp) _ gz,k TI (by simp) _ gI,⟨a,b,k TO (by simp) _ gO⟩,Sk.it_at g1 fun o e=>k i1 (by simp) o e,Sk.it_at g2 fun o e=>k i2 (by simp) o e⟩
 item:=by
  intro X hP hw hK hc i pins s σ H E I hf st hg;subst hP hw hK;obtain ⟨gz,gI,⟨a,b,gO⟩,g1,g2⟩:=st;obtain ⟨xs,ys,x,y,hx,hy,ex,ey⟩:=hg;obtain ⟨its,r1,p1⟩:=I.sk hx;obtain ⟨jts,r2,p2⟩:=I.sk hy;obtain ⟨u,hu,ru⟩:=r1.get ex;obtain ⟨v,hv,rv⟩:=r2.get ey;refine afb D o1 o2 gz gI gO g1 g2 p1 p2 (x:=u) (y:=v) (by simpa using hu) (by simpa using hv) fun h1 z1 O1 g1' g2' T1 size1 all1=>⟨_,rfl,?_⟩;have pz:s.heap.objs.size≠z:=RK (Gy gz);have lt:∀ b∈[z,TI,TO,i1,i2],s.heap.objs.size≠b:=fun b hb=>by
   simp only [J9,Ml,or_false] at hb;rcases hb with rfl | rfl | rfl | rfl | rfl
   ·exact pz
   ·exact RK<|Gy gI
   ·exact RK<|Gy gO
   ·obtain ⟨o,e,_⟩:=Sk.it_obj g1;exact RK (Gy e)
   ·obtain ⟨o,e,_⟩:=Sk.it_obj g2;exact RK (Gy e)
  have all:∀ c o,c∉[z,TI,TO,i1,i2]->s.heap.get? c=Dn o->h1.get? c=Dn o:=fun c o hc e=>
   all1 c o (fun q=>hc (by simp [q])) (fun q=>hc (by simp [q])) (fun q=>hc (by simp [q])) (fun q=>hc (by simp [q])) e
  refine wpAny_letOwnedTupleGo_zip (s:={ s with heap:=h1 }) z1 fun h2 z2 sb=>?_;have fr:H s.heap.objs.size=FN:=I.hok.fresh (Gi _);have I1:Ac X pins σ (G8 H s.heap.objs.size (.tup [x,y])) { s with heap:=s.heap.push { cls:=.type "tuple",data:=.seq #[u,v] } }:=
   I.laid (t':=s.toks) (fun b o e=>HD _ e) (Gi _) ⟨(by show 2<=Gn;decide),[u,v],.cons ru (.cons rv .nil),⟨_,KJ _ rfl,rfl,⟨_,rfl⟩,rfl⟩⟩
  have hf1:∀ b∈[z,TI,TO,i1,i2],GC X pins (G8 H s.heap.objs.size (.tup [x,y])) b:=fun b hb=>⟨by rw [aM (MK (lt b hb))];exact (hf b hb).1,(hf b hb).2⟩
  have I2:Ac X pins σ (G8 H s.heap.objs.size (.tup [x,y])) { s with heap:=h2 }:=by
   refine Ac.turnedL (s:={ s with heap:=s.heap.push { cls:=.type "tuple",data:=.seq #[u,v] } }) (h':=h2) (t':=s.toks) (ch:=[z,TI,TO,i1,i2]) I1 (fun b o hb e=>?_) hf1;have bz:b≠z:=fun q=>hb (by simp [q])
   rcases Heap.get?_push_cases e with ⟨rfl,rfl⟩ | e'
   ·exact sb.extBut _ _ bz T1
   ·exact sb.extBut _ _ bz<|all b o hb e'
  refine ⟨.ref s.heap.objs.size,_,I2,rfl,⟨s.heap.objs.size,x,y,fr,rfl,rfl,fun xs' q=>by rw [I.sk_inj q hx];exact ex,fun ys' q=>by rw [I.sk_inj q hy];exact ey⟩,?_,fun b hb=>(hf1 b hb).1⟩;exact ⟨z2,sb.extBut _ _ D.a1<|all1 _ _ D.a1 D.a5 D.a6 D.a7 gI,⟨u,v,sb.extBut _ _ D.a2 O1⟩,Sk.it_at g1' fun o e=>sb.extBut _ o D.a3 e,Sk.it_at g2' fun o e=>sb.extBut _ o D.a4 e⟩
 done:=by
  intro X hP hw hK hc i pins s σ H E I hf st hg;subst hP hw hK;obtain ⟨gz,gI,⟨a,b,gO⟩,g1,g2⟩:=st;obtain ⟨xs,ys,hx,hy,hend⟩:=hg;obtain ⟨its,r1,p1⟩:=I.sk hx;obtain ⟨jts,r2,p2⟩:=I.sk hy;have l1:=r1.length;have l2:=r2.length;refine afm (I.ok.hd<|hc rfl) D o1 o2 gz gI gO g1 g2 p1 p2 (hend.imp (fun q=>by simp;lia) fun q=>by simp;lia) fun h1 all1=>⟨rfl,I.turnedL (t':=s.toks) (ch:=[z,TI,TO,i1,i2]) (fun c o hc e=>?_) hf⟩;exact all1 c o (fun q=>hc<|by simp [q]) (fun q=>hc<|by simp [q]) (fun q=>hc<|by simp [q]) (fun q=>hc<|by simp [q]) e
 self:=fun _ _ _ _ _ st h=>wpAny_pyIter_zip st.1 h
section
variable {X:Cx}{K:Ad}
def sqk (K:Ad)(H:Hp)(x:V)(k:Sk)(a:Addr):Prop:=x=.ref a/\∃ xs,k.v K H a xs
def adh (K:Ad)(ta:TA):TI:=fun σ H R=>ta σ H fun vs H1=>∃ x y k1 k2 a b,vs=[x,y]/\sqk K H1 x k1 a/\sqk K H1 y k2 b/\R (Itz K k1 k2 a b) H1
theorem Sk.sq_lt {k:Sk}{h:Heap}{a:Addr}{its:Array JI}(x:k.sq h a its):a<h.objs.size:=by
 cases k with
 | l=>obtain ⟨o,e,_⟩:=x;exact Gy e
 | t=>obtain ⟨o,e,_⟩:=x;exact Gy e
theorem nR {a b:Nat}(h:a≠b):(show Addr from a)≠(show Addr from b):=h
theorem V4 (n:Nat):Zap (n+4) (n+2) (n+3) n (n+1) where
 a1:=nR (show n+2≠n+4 by lia)
 a2:=nR (show n+3≠n+4 by lia)
 a3:=nR (show n≠n+4 by lia)
 a4:=nR (show n+1≠n+4 by lia)
 a5:=nR (show n+2≠n+3 by lia)
 a6:=nR (show n+2≠n by lia)
 a7:=nR (show n+2≠n+1 by lia)
 a8:=nR (show n+3≠n by lia)
 a9:=nR (show n+3≠n+1 by lia)
 b1:=nR (show n≠n+1 by lia)
theorem Qj {a n:Nat}(h:a<n):Off a (n+4) (n+3) n (n+1) where
 z:=nR (show a≠n+4 by lia)
 o:=nR (show a≠n+3 by lia)
 i:=nR (show a≠n by lia)
 j:=nR (show a≠n+1 by lia)
theorem abq {n c:Nat}(h:c∈([n+4,n+2,n+3,n,n+1]:List Nat)):n<=c:=by
 simp only [J9,Ml,or_false] at h;lia
theorem WL {e1 e2:Expr}{ta:TA}{p pos tpos:Pos}{elts:List Expr}{kt:Nat}(hg:Gl X "zip")(hm:X.mg "zip" = FN)(ha:PA X [e1,e2] ta)
  (hs:Fx [e1,e2] X.env=(false,eval e1 X.env)::Fx [e2] X.env:=by rfl) (hpl:(K5 pos (Fx [e2] X.env)).any (·.1)=false:=by rfl) :
  PI X (.Tuple elts kt tpos) (.Call (.Name "zip" p) [e1,e2] [] pos) (adh X.K ta):=by
 intro pins s σ H R I h;refine T6<|tL I hg hm boot_zip ?_ (by decide)<|by decide
 refine Uh (G6 (ha pos pins s σ H _ I h) fun us s1 ⟨vs,H1,I1,r1,q1⟩=>?_) hs hpl;obtain ⟨x,y,k1,k2,a,b,ev,⟨ex,xs,hx⟩,⟨ey,ys,hy⟩,q⟩:=q1;subst ev ex ey;obtain ⟨u1,u2,eu,ru1,ru2⟩:=vals2 r1;subst eu;cases ru1;cases ru2;obtain ⟨its,r1,p1⟩:=I1.sk hx;obtain ⟨jts,r2,p2⟩:=I1.sk hy;have la:=Sk.sq_lt p1;have lb:=Sk.sq_lt p2;refine zbq p1 p2 fun h' gz gI gO g1 g2 size all=>?_;refine wpAny_pyIter_zip gz ?_;have I2:Ac X pins σ H1 { s1 with heap:=h' }:=I1.kept (t':=s1.toks) all;generalize hn:s1.heap.objs.size=n at gz gI gO g1 g2 size la lb |-
 refine ⟨n+4,[n+4,n+2,n+3,n,n+1],_,_,H1,rfl,I2,afD (V4 n) (Qj la)<|Qj lb,⟨gz,gI,⟨_,_,gO⟩,g1,g2⟩,fun c hc=>?_,q⟩;have hc':n<=c:=abq hc;exact I1.fpOk (by rw [hn];exact hc')<|I1.hok.fresh (by rw [hn];exact hc')
def rm:List W->List W->List W
 | a::as,b::bs=>.tup [a,b]::rm as bs
 | _,_=>[]
theorem Cu:∀ {as bs:List W} {i:Nat} {w:W},(rm as bs)[i]?=Dn w->∃ a b,as[i]?=Dn a/\bs[i]?=Dn b/\w=.tup [a,b]
 | [],_,_,_,e=>by simp [rm] at e
 | _::_,[],_,_,e=>by simp [rm] at e
 | a::as,b::bs,0,w,e=>by
  have e:Dn (W.tup [a,b])=Dn w:=e;exact ⟨a,b,rfl,rfl,(Hz e).symm⟩
 | a::as,b::bs,i+1,w,e=>by
  obtain ⟨x,y,h1,h2,h3⟩:=Cu (as:=as) (bs:=bs) (i:=i) (w:=w) (by simpa [rm] using e);exact ⟨x,y,by simpa using h1,by simpa using h2,h3⟩
theorem CG:∀ {as bs:List W},(rm as bs).length=min as.length bs.length
 | [],bs=>by simp [rm]
 | _::_,[]=>by simp [rm]
 | a::as,b::bs=>by rw [rm,RN,CG,RN,RN];lia
def uq:W->Option (List W)
 | .tup ws=>Dn ws
 | .lst ws=>Dn ws
 | .kls ws=>Dn ws
 | _=>FN
theorem Es {H:Hp}{μ : Mu}{w:W}{v:V}{ws:List W}(r:Aa K H μ w v)(e:uq w=Dn ws):∃ k a,v=.ref a/\∀ {H2:Hp} {μ2:Mu},Ie K H μ H2 μ2->∃ xs,Sk.v k K H2 a xs/\aL K H2 μ2 ws xs:=by
 cases w with
 | tup us=>
  cases (show Dn us=Dn ws from e)
  have r0:=r;rw [Aa] at r;obtain ⟨p,xs,ev,hs,rs⟩:=r;subst ev;refine ⟨.t,p,rfl,fun {H2 μ2} x=>?_⟩;have r2:=x.r _ _ r0;rw [Aa] at r2;obtain ⟨q,ys,ev,hs,rs⟩:=r2;cases ev;exact ⟨ys,hs,rs⟩
 | lst us=>
  cases (show Dn us=Dn ws from e)
  have r0:=r;rw [Aa] at r;obtain ⟨p,xs,ev,hs,rs⟩:=r;subst ev;refine ⟨.l,p,rfl,fun {H2 μ2} x=>?_⟩;have r2:=x.r _ _ r0;rw [Aa] at r2;obtain ⟨q,ys,ev,hs,rs⟩:=r2;cases ev;exact ⟨ys,hs.sq,rs⟩
 | kls us=>
  cases (show Dn us=Dn ws from e)
  have r0:=r;rw [Aa] at r;obtain ⟨p,xs,ev,hs,rs⟩:=r;subst ev;refine ⟨.l,p,rfl,fun {H2 μ2} x=>?_⟩;have r2:=x.r _ _ r0;rw [Aa] at r2;obtain ⟨q,ys,ev,hs,rs⟩:=r2;cases ev;exact ⟨ys,hs.sq,rs⟩
 | _=>cases e
def Pz (h:Gh)(x y:W):Option Src:=match uq x,uq y with
 | some as,Dn bs=>Dn ⟨rm as bs,FN⟩
 | none,Dn bs=>(match x with
  | .loc n=>(match h.c n with
   | some (.lst as)=>Dn ⟨rm as bs,Dn (n,as)⟩
   | _=>FN)
  | _=>FN)
 | _,_=>FN
theorem aeZ {H:Hp}{μ : Mu}{h:Gh}{w:W}{v:V}{ws:List W}{o:Option (Nat×List W)}(R:Fv K μ H h)(r:Aa K H μ w v)(e:(uq w=Dn ws/\o=FN)\/∃ n,w=.loc n/\h.c n=Dn (.lst ws)/\o=Dn (n,ws)) :
  ∃ k a,v=.ref a/\∀ {H2:Hp} {μ2:Mu} {h2:Gh},Ie K H μ H2 μ2->Fv K μ2 H2 h2->Src.chk ⟨ws,o⟩ h2->∃ xs,Sk.v k K H2 a xs/\aL K H2 μ2 ws xs:=by
 rcases e with ⟨e,rfl⟩ | ⟨n,rfl,ec,rfl⟩
 ·obtain ⟨k,a,ev,f⟩:=Es r e;exact ⟨k,a,ev,fun x _ _=>f x⟩
 ·have r0:=r;rw [Aa] at r;obtain ⟨p,ev,hm⟩:=r;subst ev;refine ⟨.l,p,rfl,fun {H2 μ2 h2} x R2 ck=>?_⟩;have r2:=x.r _ _ r0;rw [Aa] at r2;obtain ⟨q,eq,hm2⟩:=r2;cases eq;obtain ⟨p',xs,hm',hx,rs⟩:=R2.lstAt (show h2.c n=Dn (.lst ws) from ck);have ep:p'=p:=by rw [hm2] at hm';exact (Hz hm').symm
  subst ep;exact ⟨xs,.of hx,rs⟩
theorem afL {h:Gh}{x y:W}{s:Src}(e:Pz h x y=Dn s):∃ as bs o,s=⟨rm as bs,o⟩/\((uq x=Dn as/\o=FN)\/∃ n,x=.loc n/\h.c n=Dn (.lst as)/\o=Dn (n,as))/\uq y=Dn bs:=by
 unfold Pz at e;split at e
 ·rename_i as bs ea eb;exact ⟨as,bs,FN,(Hz e).symm,.inl ⟨ea,rfl⟩,eb⟩
 ·rename_i bs ea eb;split at e
  ·split at e
   ·rename_i n _ as ec;exact ⟨as,bs,_,(Hz e).symm,.inr ⟨n,rfl,ec,rfl⟩,eb⟩
   ·cases e
  ·cases e
 ·cases e
def aad (ma:MA):MI:=fun σ h R=>ma σ h fun ws h1=>match ws with
 | [x,y]=>(match Pz h1 x y with
  | some s=>R s h1
  | none=>False)
 | _=>False
theorem QG {e1 e2:Expr}{mr:MA}{p pos tpos:Pos}{elts:List Expr}{kt:Nat}(hg:Gl X "zip")(hm:X.mg "zip" = FN)(ha:Jv X [e1,e2] mr)
  (hs:Fx [e1,e2] X.env=(false,eval e1 X.env)::Fx [e2] X.env:=by rfl) (hpl:(K5 pos (Fx [e2] X.env)).any (·.1)=false:=by rfl) :
  Ob X (.Tuple elts kt tpos) (.Call (.Name "zip" p) [e1,e2] [] pos) (aad mr):=PI.of (WL hg hm ha hs hpl) fun σ H Q ⟨μ,h,σw,Rw,R,S,m,k⟩=>by
 refine ⟨μ,h,σw,_,R,S,m,fun vs H1 ⟨μ1,ws,h1,e1,R1,r1,m1⟩=>?_⟩;split at m1
 ·split at m1
  ·rename_i x y _ s es;obtain ⟨as,bs,o,rfl,ea,eb⟩:=afL es;obtain ⟨v,u,ev,rv,ru⟩:=O5 r1;obtain ⟨ka,a,e3,fa⟩:=aeZ R1 rv ea;obtain ⟨kb,b,e4,fb⟩:=Es ru eb;have ck1:Src.chk ⟨as,o⟩ h1:=by
    rcases ea with ⟨_,rfl⟩ | ⟨n,_,ec,rfl⟩
    ·exact trivial
    ·exact ec
   obtain ⟨xs,hxs,_⟩:=fa .refl R1 ck1;obtain ⟨ys,hys,_⟩:=fb .refl;refine ⟨v,u,ka,kb,a,b,ev,⟨e3,xs,hxs⟩,⟨e4,ys,hys⟩,k _ _ ⟨μ1,⟨rm as bs,o⟩,h1,e1,R1,?_,m1⟩⟩;intro H2 μ2 h2 i e2 R2 ck;obtain ⟨xs2,hxs2,rxs⟩:=fa e2 R2 ck;obtain ⟨ys2,hys2,rys⟩:=fb e2;refine ⟨fun w ew=>?_,fun hl=>⟨xs2,ys2,hxs2,hys2,?_⟩⟩
   ·obtain ⟨p1,p2,ep1,ep2,rfl⟩:=Cu ew;obtain ⟨q1,eq1,rq1⟩:=rxs.get ep1;obtain ⟨q2,eq2,rq2⟩:=rys.get ep2;refine ⟨⟨xs2,ys2,q1,q2,hxs2,hys2,eq1,eq2⟩,fun x' H3 ⟨pa,x1,x2,hp,ex',eH3,f1,f2⟩=>?_⟩;have g1:=f1 xs2 hxs2;have g2:=f2 ys2 hys2;rw [eq1] at g1;rw [eq2] at g2;cases g1;cases g2;subst ex' eH3;exact ⟨μ2,(Ex.laid hp).ext,R2.laid hp,.tupNew hp<|.cons rq1<|.one rq2⟩
   ·have l1:=rxs.len;have l2:=rys.len;have:min as.length bs.length<=i:=by rw [<-CG];exact hl
    lia
  ·exact m1.elim
 ·exact m1.elim
theorem wg:∀ {ns:List Int} {its:List JI} {i:Nat} {v:JI},BL (ns.map V.int) its->its[i]?=Dn v->∃ t,v=.int (ns.getD i 0) t
 | [],_,_,_,.nil,e=>by simp at e
 | n::ns,_,0,_,.cons r _,e=>by
  simp at e;subst e;exact r
 | _::ns,_,i+1,v,.cons _ t,e=>by
  obtain ⟨t',h⟩:=wg (i:=i) (v:=v) t (by simpa using e);exact ⟨t',by simpa using h⟩
theorem sW (ns:List Int):∀ k,k<=ns.length->preSum (fun i=>ns.getD i 0) k=(ns.take k).sum
 | 0,_=>by simp [preSum]
 | k+1,h=>by
  rw [preSum,sW ns k (by lia),M8,List.sum_append,JQ (by lia),Mz,JQ (by lia)];show _=_+(ns[k]+0);rw [Int.add_zero];rfl
theorem aeu (hc:X.calm=true):jc X (.builtin "sum") (fun xs H Q=>∃ (p:Addr) (ns:List Int),xs=[.ref p]/\Io X.K H p (ns.map V.int)/\Q (.int ns.sum) H):=by
 intro pins s σ H xs us Q I r ⟨p,ns,e,hS,q⟩;subst e;obtain ⟨u,rfl,ru⟩:=vals1 r;cases ru;obtain ⟨its,rv,pl,hz⟩:=I.list hS;have hlen:its.length=ns.length:=by rw [<-rv.length,Gg]
 have hl:=pl.isList;have hlt:p<s.heap.objs.size:=by obtain ⟨_,e,_⟩:=hl;exact Gy e
 refine call_sum_walkAnyS<|Tw hl ?_
 refine ⟨s.heap.objs.size,[s.heap.objs.size,p],[s.heap.objs.size],_,its.toArray.size,_,_,fun i=>ns.getD i 0,rfl,(Walks.list (A:=X.A.in1) (I.ok.hd hc) _ p (Jy hlt) its.toArray).toS,
  ⟨⟨_,KJ _ rfl,rfl,rfl⟩,hl.push _⟩,fun b hb=>?_,fun i v hP=>wg rv (by simpa using hP),fun s' t' hm=>?_⟩
 ·rw [Om];simp only [J9,Ml,or_false] at hb;rcases hb with rfl | rfl
  ·exact Nat.lt_succ_self _
  ·exact Nat.lt_succ_of_lt hlt
 ·have e:preSum (fun i=>ns.getD i 0) its.toArray.size=ns.sum:=by rw [Iz,hlen,sW ns _ (Gi _),Mp]
  rw [e];obtain ⟨hh,gg,dd,tt,oo⟩:=s';have hg:gg=s.gens:=hm.gens;have hd:dd=s.drawn:=hm.drawn;have ho:oo=s.os:=hm.os;subst hg hd ho;refine ⟨.int ns.sum,H,I.kept (h':=hh) (t':=tt)<|fun b x e=>?_,⟨t',rfl⟩,q⟩;exact hm.heap b x (fun hm=>by rw [Lz.mp hm] at e;exact NK _ (Gy e))<|HD _ e
def Gp:List W->Option (List Int)
 | []=>Dn []
 | .int i::ws=>(Gp ws).map (i::·)
 | _=>FN
theorem Cv {H:Hp}{μ : Mu}:∀ {ws:List W} {xs:List V} {ns:List Int},aL K H μ ws xs->Gp ws=Dn ns->xs=ns.map V.int
 | [],xs,ns,r,e=>by
  rw [aL] at r;cases (show Dn []=Dn ns from e)
  exact r
 | w::ws,xs,ns,r,e=>by
  rw [aL] at r;obtain ⟨v,vr,ev,ra,r⟩:=r;cases w with
  | int b=>
   rw [Aa] at ra;rw [Gp] at e;cases q:Gp ws with
   | none=>rw [q] at e;cases e
   | some cs=>
    rw [q] at e;cases (show Dn (b::cs)=Dn ns from e)
    rw [ev,ra,Cv r q];rfl
  | _=>cases e
def VP:MC:=fun ws h Q=>match ws with
 | [w]=>(match dH h w with
  | some us=>(match Gp us with
   | some ns=>Q (.int ns.sum) h
   | none=>False)
  | none=>False)
 | _=>False
theorem Ws (hc:X.calm=true):lq X (.builtin "sum") VP:=⟨_,aeu hc,by
 intro H μ h vs ws Qw Q R r m k;unfold VP at m;split at m
 ·split at m
  ·split at m
   ·rename_i w _ us ev _ ns eb;obtain ⟨v,e,rv⟩:=lu r;obtain ⟨p,ys,ex,hs,rs⟩:=cF R rv ev;subst e ex;exact ⟨p,ns,rfl,by rw [<-Cv rs eb];exact hs,k _ _<|.int R m⟩
   ·exact m.elim
  ·exact m.elim
 ·exact m.elim⟩
end
theorem Dg:Manifest.owners.lookup (String.ofList ['d','e','s','r','e','v','e','r'].reverse)=Dn Manifest.sig_reversed:=by kernel_rfl
theorem QD:mroOf (.type "reversed")=pure [.type "reversed",.type "object"]:=by
 rw [mroOf_type]
 kernel_rfl
theorem YT:typeLookup (.type "reversed") "__new__" = pure (Dn (.builtin "reversed.__new__")):=by
 rw [U5,U9]
 kernel_rfl
theorem eF:Slot "reversed" "__next__" "reversed.__next__":=
  .of (owner := "reversed") (n := "__next__")
    (by rw [U5,U9]
        kernel_rfl)
    (by decide +kernel) (by decide +kernel)
    (by decide +kernel)
    (by first
        | exact .inl (by decide +kernel)
        | exact .inr (by decide +kernel))
    (by rw [Tn]
        kernel_rfl)
theorem nP:entryFor table "reversed.__next__" = Dn RP.«reversed.__next__»:=entryFor_of_tree (by kernel_rfl)
theorem qz (a:JI):argsOk "reversed.__next__" ⟨[a],[]⟩:=by
 unfold argsOk;rw [signature?_of (id := "reversed.__next__") (n:=['_','_','t','x','e','n','_','_']) (o:=['d','e','s','r','e','v','e','r']) (by kernel_rfl) Dg]
 kernel_rfl
theorem qy:Slot "reversed" "__iter__" "reversed.__iter__":=
  .of (owner := "reversed") (n := "__iter__")
    (by rw [U5,U9]
        kernel_rfl)
    (by decide +kernel) (by decide +kernel)
    (by decide +kernel)
    (by first
        | exact .inl (by decide +kernel)
        | exact .inr (by decide +kernel))
    (by rw [Tn]
        kernel_rfl)
theorem zq (a:JI):argsOk "reversed.__iter__" ⟨[a],[]⟩:=by
 unfold argsOk;rw [signature?_of (id := "reversed.__iter__") (n:=['_','_','r','e','t','i','_','_']) (o:=['d','e','s','r','e','v','e','r']) (by kernel_rfl) Dg]
 kernel_rfl
theorem wA:entryFor table "reversed.__iter__" = Dn RP.«dict_keyiterator.__iter__»:=
  entryFor_alias (id' := "dict_keyiterator.__iter__") (by kernel_rfl)
    (by first
        | rfl
        | decide +kernel
        | (unfold String.splitOn;simp +decide [String.splitOnAux]))
    (by decide +kernel) (by kernel_rfl)
theorem zam (a:JI):checkTypeCall "reversed" ⟨[a],[]⟩=pure ():=by kernel_rfl
theorem zaC (a:JI):checkBuiltinCall "reversed.__new__" ⟨[.type "reversed",a],[]⟩=pure ():=by kernel_rfl
theorem zj:entryFor table "reversed.__new__" = Dn RP.«reversed.__new__»:=entryFor_of_tree (by kernel_rfl)
theorem Xe:isSubtype (.type "reversed") (.type "reversed")=pure true:=by
 rw [Tn]
 kernel_rfl
theorem zal:typeLookup (.type "tuple") "__reversed__" = pure FN:=by
 rw [U5,U9]
 kernel_rfl
theorem zak:isSubtype (.type "tuple") (.type "dict")=pure false:=by
 rw [Tn]
 kernel_rfl
def Rv (l:Addr)(i:Int):Obj:={ cls:=.type "reversed",data:=.fields #[.ref l,Mj i] }
def Iu (h:Heap)(a l:Addr)(i:Int):Prop:=∃ o,h.get? a=Dn o/\o.cls=.type "reversed"/\o.data=.fields #[.ref l,Mj i]
section
variable {P:FQ}{w:Cm}{A:FT}{E:JI->AP->Prop}{s:AP}
theorem Iu.typeIs {a l:Addr}{i:Int}(x:Iu s.heap a l i):s.TypeIs (.ref a) "reversed":=let ⟨o,g,c,_⟩:=x;⟨o,g,c⟩
theorem Iu.at {h h':Heap}{a l:Addr}{i:Int}(x:Iu h a l i)(e:∀ o,h.get? a=Dn o->h'.get? a=Dn o):Iu h' a l i:=let ⟨o,g,r⟩:=x;⟨o,e _ g,r⟩
theorem afO (a:JI):Builtin.SmallTypes.newClass "reversed" ⟨[.type "reversed",a],[]⟩=pure (.type "reversed",[a]):=by
 unfold Builtin.SmallTypes.newClass;simp only [isType,Xe,pure_bind,Bool.not_true,Te];rfl
theorem afN:Slot "reversed" "__init__" "object.__init__":=
  .of (owner := "object") (n := "__init__")
    (by rw [U5,U9]
        kernel_rfl)
    (by decide +kernel) (by decide +kernel)
    (by decide +kernel)
    (by first
        | exact .inl (by decide +kernel)
        | exact .inr (by decide +kernel))
    (by rw [Tn]
        kernel_rfl)
theorem aeh:TypeCalled "reversed" "reversed.__new__" "object.__init__":=
  ⟨by decide +kernel,by decide +kernel,⟨_,_,QD⟩,madeBy_type QD YT (by decide +kernel),by decide +kernel,
    by rw [Tn]
       kernel_rfl,afN⟩
theorem ahd (l:Addr)(xs:Array JI):Meets (RP.«reversed.__new__» ⟨[.type "reversed",.ref l],[]⟩) (fun _ R s=>IsTup s.heap l xs/\(xs.size:Int)<2^63 /\
   R (.ok (.ret (.ref s.heap.objs.size))) { s with heap:=s.heap.push (Rv l ((xs.size:Int) - 1)),toks:=s.toks+1+1 }):=by
 refine .of_wp fun prog w A R s ⟨ht,hfit,q⟩=>?_;unfold RP.«reversed.__new__»;refine Aj<|Rm (afO _) ?_
 try dsimp only
 refine Aj<|Rm (a:=()) (by rfl) ?_
 refine Aj<|Rm (a:=()) (by rfl) ?_
 try dsimp only
 refine Aj<|wpAny_specialOf ht.typeIs zal ?_
 try dsimp only
 refine Aj ?_;refine Aj<|wpAny_isInstance (U := "dict") (b:=false) ht.typeIs zak ?_
 rw [if_neg Ly];refine Aj<|wpAny_specialOf ht.typeIs Sd.lookup ?_
 show CR _ _ (if (_:Bool)=true then pure true else _) _ _ _;rw [if_pos (by decide +kernel)];refine Fy ?_;rw [if_neg (by decide)];refine Aj<|len_tuple ht hfit ?_
 refine Aj<|Rm (a:=Dn (xs.size:Int)) (by rfl) ?_
 try dsimp only
 refine Aj ?_;show CR _ _ (newObj (.type "reversed") (.fields #[.ref l,Mj ((xs.size:Int) - 1)])) _ _ _;exact O2 (Fy ⟨_,rfl,q⟩)<|by size_fits
theorem aex {l:Addr}{xs:Array JI}{Q:JI->AP->Prop}(ht:IsTup s.heap l xs)(hfit:(xs.size:Int)<2^63)
  (q:Q (.ref s.heap.objs.size) { s with heap:=s.heap.push (Rv l ((xs.size:Int) - 1)),toks:=s.toks+1+1 }):CR (FP P w) A (call (.type "reversed") [.ref l]) Q E s:=by
 refine callType_new aeh (by decide) (zam _) (zaC _) (fun obj=>PySem.F.args_object_init_2 obj _) zj (ahd l xs) ⟨ht,hfit,?_⟩;exact ⟨⟨_,KJ _ rfl,rfl⟩,q⟩
theorem zbe {it l:Addr}{i:Nat}{xs:Array JI}{x:JI}{Q:Option JI->AP->Prop}(hi:Iu s.heap it l (i:Int))(ht:IsTup s.heap l xs)(hfit:(xs.size:Int)<2^63)(hx:xs[i]?=Dn x)
  (q:∀ h',Iu h' it l ((i:Int) - 1)->TK it s.heap h'->Q (Dn x) { s with heap:=h',toks:=s.toks+1 }):CR (FP P w) A (Ni (.ref it)) Q E s:=by
 obtain ⟨o,go,gc,gd⟩:=id hi;have hlt:i<xs.size:=(Array.getElem?_eq_some_iff.mp hx).1;unfold Ni;refine Aj (T3 (Rp (name:=Rh "__next__") hi.typeIs eF
  (RL eF hi.typeIs nP ?_ (qz _))))
 unfold RP.«reversed.__next__»;refine Aj<|Rm (a:=(Value.ref it,([]:List JI))) (by rfl) ?_
 try dsimp only
 refine Aj<|Kv go gd (x:=.ref l) rfl ?_
 refine Aj<|Kv go gd (x:=Mj (i:Int)) rfl ?_
 show CR _ _ (if (i:Int)<0 then _ else _) _ _ s;rw [if_neg (by lia)];refine Aj<|wpAny_specialOf ht.typeIs Sd.lookup ?_
 rw [if_neg (by decide)];refine Aj<|wpAny_mkInt ?_
 refine Aj<|T3<|getItem_tuple (s:={ s with toks:=s.toks+1 }) ht (by lia) (by lia) (j:=i) ?_ hx ?_
 ·have e:=seqIndex_of (k:=(i:Int)) (n:=xs.size) (by lia) (by lia);rw [Int.toNat_natCast] at e;exact e
 try dsimp only
 refine Aj<|Kv go gd (x:=Mj (i:Int)) rfl ?_
 refine Aj<|U4 go gd (by simp) ?_
 refine Fy ⟨x,rfl,Fy<|q _ ?_<|UJ ..⟩;exact ⟨_,UL _ go<|Us<|T8 gd _,(Obj.cls_mapFields ..).trans gc,by rw [T8 gd];simp⟩
theorem yu {it l:Addr}{Q:Option JI->AP->Prop}(hh:A.handled=FN)(hi:Iu s.heap it l (-1))
  (q:∀ h',TX it s.heap h'->Q FN { s with heap:=h' }):CR (FP P w) A (Ni (.ref it)) Q E s:=by
 obtain ⟨o,go,gc,gd⟩:=id hi;unfold Ni;refine Aj (T3 (Rp (name:=Rh "__next__") hi.typeIs eF
  (RL eF hi.typeIs nP ?_ (qz _))))
 unfold RP.«reversed.__next__»;refine Aj<|Rm (a:=(Value.ref it,([]:List JI))) (by rfl) ?_
 try dsimp only
 refine Aj<|Kv go gd (x:=.ref l) rfl ?_
 refine Aj<|Kv go gd (x:=Mj (-1)) rfl ?_
 show CR _ _ (if (-1:Int)<0 then _ else _) _ _ s;rw [if_pos (by decide)];refine Aj<|Sg ?_
 refine Aj ?_;refine Aj<|U4 go gd (by simp) ?_
 have g1:=UL (fun o=>o.mapFields fun x=>x.setIfInBounds 1 (Mj (-1))) go (Us (T8 gd _));refine U4 g1 (T8 gd _) (by simp) ?_;refine Aj ?_;show CR _ _ (newExc (.type "StopIteration") [] >>= fun e0=>raiseNew e0) _ _ _;refine Aj ?_;simp only [newExc,newTuple,raiseNew];refine Aj (O2 (by
  refine Aj (m:=U3 _ _)<|Rm (a:=Value.none) (by rfl)<|O2 ?_<|by size_fits
  refine Aj (wpAny_handled (by
   first
    | rw [show A.in1.handled=FN from hh]
    | rw [hh]
   refine Aj<|Fy<|wpAny_throw ?_
   refine Aj<|wpAny_isInstance (T := "StopIteration") (b:=true) ⟨_,KJ _ rfl,rfl⟩ isSubtype_stop<|Fy<|q _ ?_
   intro b ob hb eb;exact HD _ (HD _ ((UJ ..).extBut b ob hb ((UJ ..).extBut b ob hb eb))))) ) (by size_fits))
theorem Em {it l:Addr}{i:Int}{Q:JI->AP->Prop}(hi:Iu s.heap it l i)(q:Q (.ref it) s):CR (FP P w) A (pyIter (.ref it)) Q E s:=by
 refine wpAny_pyIter_slot hi.typeIs qy<|RL qy hi.typeIs wA ?_<|zq _
 show CR _ _ (ret (.ref it)) _ _ s;exact Fy ⟨_,rfl, "reversed",_,hi.typeIs,eF.lookup,q⟩
end
def Itv (K:Ad)(n:Nat)(l:Addr):It:=
  ⟨fun i H=>i<n/\∃ xs x,J4 K H l xs/\xs.length=n/\xs[n - 1 - i]?=Dn x,
   fun i H v H'=>H'=H/\∀ xs,J4 K H l xs->xs[n - 1 - i]?=Dn v,
   fun i _=>n<=i,true⟩
def adF (n:Nat)(it l:Addr)(i:Nat)(h:Heap):Prop:=i<=n/\Iu h it l ((n:Int) - 1 - (i:Int))
theorem zbp {P:FQ}{w:Cm}{K:Ad}{tg:Expr}{n:Nat}{it l:Addr}(hne:l≠it):Turn P w K tg (Itv K n l) [it] it (adF n it l) where
 mem:=by simp
 obj:=fun i h st b hb=>by
  obtain ⟨_,o,g,_,d⟩:=st;rw [Lz] at hb;subst hb;exact ⟨o,g,fun v y=>by rw [d] at y;cases y⟩
 keep:=fun i h h' st k=>⟨st.1,st.2.at fun o e=>k it (by simp) o e⟩
 item:=by
  intro X hP hw hK hc i pins s σ H E I hf st hg;subst hP hw hK;obtain ⟨hin,xs,x,hx,hlen,ex⟩:=hg;obtain ⟨its,r,pl,hz⟩:=I.tuple hx;obtain ⟨u,hu,ru⟩:=r.get ex;have hl:=r.length;have e1:(n:Int) - 1 - (i:Int)=((n - 1 - i:Nat):Int):=by lia
  have hi:=st.2;rw [e1] at hi;have hn:=qp;refine zbe hi pl (by simp only [Iz];lia) (x:=u) (by simpa using hu) fun h1 g1 sb=>⟨u,rfl,?_⟩;have e2:((n - 1 - i:Nat):Int) - 1=(n:Int) - 1 - ((i+1:Nat):Int):=by lia
  rw [e2] at g1;obtain ⟨o,go,gc,gd⟩:=id g1;refine Hi (s:={ s with heap:=h1,toks:=s.toks+1 }) go gc gd (by decide) ⟨x,H,I.turnedL (t':=s.toks+1) (ch:=[it]) (fun b o hb e=>sb.extBut b o (fun q=>hb<|by simp [q]) e) hf,ru,⟨rfl,fun ys hy=>?_⟩,⟨hin,g1⟩,fun b hb=>(hf b hb).1⟩;rw [I.tuple_inj hy hx];exact ex
 done:=by
  intro X hP hw hK hc i pins s σ H E I hf st hg;subst hP hw hK;have hi:=st.2;have e1:(n:Int) - 1 - (i:Int) = -1:=by
   have:=st.1
   have:n<=i:=hg
   lia
  rw [e1] at hi;exact yu (I.ok.hd<|hc rfl) hi fun h1 eb=>⟨rfl,I.turnedL (t':=s.toks) (ch:=[it]) (fun b o hb e=>eb b o (fun q=>hb<|by simp [q]) e) hf⟩
 self:=fun _ _ _ _ _ st h=>Em st.2 h
section
variable {X:Cx}{K:Ad}
end
section
variable {X:Cx}
def abO (i j k:Nat)(ta:MA):MS:=fun D σ h=>ta σ h fun ws h1=>match ws with
 | [a,b,c]=>D.nx (((σ.set i (Dn a)).set j (Dn b)).set k (Dn c)) h1
 | _=>False
end
def Itw (K:Ad)(n:Nat)(l:Addr):It:=
  ⟨fun i H=>i<n/\∃ xs x,Io K H l xs/\xs.length=n/\xs[n - 1 - i]?=Dn x,
   fun i H v H'=>H'=H/\∀ xs,Io K H l xs->xs[n - 1 - i]?=Dn v,
   fun i _=>n<=i,true⟩
def adf (n:Nat)(it l:Addr)(i:Nat)(h:Heap):Prop:=i<=n/\h.IsRevIter it l ((n:Int) - 1 - (i:Int))
theorem zaX {P:FQ}{w:Cm}{K:Ad}{tg:Expr}{n:Nat}{it l:Addr}(hne:l≠it):Turn P w K tg (Itw K n l) [it] it (adf n it l) where
 mem:=by simp
 obj:=fun i h st b hb=>by
  obtain ⟨_,o,g,_,d⟩:=st;rw [Lz] at hb;subst hb;exact ⟨o,g,fun v y=>by rw [d] at y;cases y⟩
 keep:=fun i h h' st k=>⟨st.1,st.2.at fun o e=>k it (by simp) o e⟩
 item:=by
  intro X hP hw hK hc i pins s σ H E I hf st hg;subst hP hw hK;obtain ⟨hin,xs,x,hx,hlen,ex⟩:=hg;obtain ⟨its,r,pl,hz⟩:=I.list hx;obtain ⟨u,hu,ru⟩:=r.get ex;have hl:=r.length;have e1:(n:Int) - 1 - (i:Int)=((n - 1 - i:Nat):Int):=by lia
  have hi:=st.2;rw [e1] at hi;refine wpAny_pyNext_rev_item hi pl.isList (x:=u) (by simpa using hu) fun h1 g1 sb=>⟨u,rfl,?_⟩;have e2:((n - 1 - i:Nat):Int) - 1=(n:Int) - 1 - ((i+1:Nat):Int):=by lia
  rw [e2] at g1;obtain ⟨o,go,gc,gd⟩:=id g1;refine Hi (s:={ s with heap:=h1 }) go gc gd (by decide) ⟨x,H,I.turnedL (t':=s.toks) (ch:=[it]) (fun b o hb e=>sb.extBut b o (fun q=>hb<|by simp [q]) e) hf,ru,⟨rfl,fun ys hy=>?_⟩,⟨hin,g1⟩,fun b hb=>(hf b hb).1⟩;rw [I.list_inj hy hx];exact ex
 done:=by
  intro X hP hw hK hc i pins s σ H E I hf st hg;subst hP hw hK;have hi:=st.2;have e1:(n:Int) - 1 - (i:Int) = -1:=by
   have:=st.1
   have:n<=i:=hg
   lia
  rw [e1] at hi;exact wpAny_pyNext_rev_end (I.ok.hd<|hc rfl) hi fun h1 eb=>⟨rfl,I.turnedL (t':=s.toks) (ch:=[it]) (fun b o hb e=>eb b o (fun q=>hb<|by simp [q]) e) hf⟩
 self:=fun _ _ _ _ _ st h=>wpAny_pyIter_revIter st.2 h
section
variable {X:Cx}{K:Ad}
def aaU (K:Ad)(ta:TA):TI:=fun σ H R=>ta σ H fun vs H1=>∃ a xs,vs=[.ref a]/\((J4 K H1 a xs/\R (Itv K xs.length a) H1)\/(Io K H1 a xs/\R (Itw K xs.length a) H1))
theorem agF {tg e1:Expr}{ta:TA}{p pos:Pos}(hg:Gl X "reversed")(hm:X.mg "reversed" = FN)(ha:PA X [e1] ta)
  (hs:Fx [e1] X.env=(false,eval e1 X.env)::Fx [] X.env:=by rfl) (hpl:(K5 pos (Fx [] X.env)).any (·.1)=false:=by rfl) :
  PI X tg (.Call (.Name "reversed" p) [e1] [] pos) (aaU X.K ta):=by
 intro pins s σ H R I h;refine T6<|tL I hg hm boot_reversed ?_ (by decide)<|by decide
 refine Uh (G6 (ha pos pins s σ H _ I h) fun us s1 ⟨vs,H1,I1,r1,q1⟩=>?_) hs hpl;obtain ⟨a,xs,ev,hx⟩:=q1;subst ev;obtain ⟨u1,eu,ru1⟩:=vals1 r1;subst eu;cases ru1;rcases hx with ⟨hx,q⟩ | ⟨hx,q⟩
 ·obtain ⟨its,r,pl,hz⟩:=I1.tuple hx;have hl:=r.length;have hn:=qp;refine aex pl (by simp only [Iz];lia) ?_;have gi:Iu (s1.heap.push (Rv a ((its.toArray.size:Int) - 1))) s1.heap.objs.size a ((xs.length:Int) - 1 - ((0:Nat):Int)):=by
   refine ⟨_,KJ _ rfl,rfl,?_⟩;show Data.fields #[.ref a,Mj ((its.toArray.size:Int) - 1)]=_;rw [Iz,<-hl];simp
  have la:a<s1.heap.objs.size:=by obtain ⟨_,e,_⟩:=pl;exact Gy e
  refine Em gi ?_;refine ⟨_,[s1.heap.objs.size],_,_,H1,rfl,I1.kept (t':=s1.toks+1+1)<|fun b o e=>HD _ e,zbp<|Jy la,⟨Rn _,gi⟩,fun c hc=>?_,q⟩;rw [Lz] at hc;subst hc;exact I1.fpOk (Gi _)<|I1.hok.fresh<|Gi _
 ·obtain ⟨its,r,pl,hz⟩:=I1.list hx;have hl:=r.length;refine call_reversed_list pl.isList ?_;have gi:(s1.heap.push (revObj a ((its.toArray.size:Int) - 1))).IsRevIter s1.heap.objs.size a ((xs.length:Int) - 1 - ((0:Nat):Int)):=by
   refine ⟨_,KJ _ rfl,rfl,?_⟩;show Data.fields #[.ref a,Mj ((its.toArray.size:Int) - 1)]=_;rw [Iz,<-hl];simp
  have la:a<s1.heap.objs.size:=by obtain ⟨_,e,_⟩:=pl.isList;exact Gy e
  refine wpAny_pyIter_revIter gi ?_;refine ⟨_,[s1.heap.objs.size],_,_,H1,rfl,I1.kept (t':=s1.toks)<|fun b o e=>HD _ e,zaX<|Jy la,⟨Rn _,gi⟩,fun c hc=>?_,q⟩;rw [Lz] at hc;subst hc;exact I1.fpOk (Gi _)<|I1.hok.fresh<|Gi _
def YM (ma:MA):MI:=fun σ h R=>ma σ h fun ws h1=>match ws with
 | [.tup us]=>R ⟨us.reverse,FN⟩ h1
 | [.lst us]=>R ⟨us.reverse,FN⟩ h1
 | _=>False
theorem Vh {tg e1:Expr}{mr:MA}{p pos:Pos}(hg:Gl X "reversed")(hm:X.mg "reversed" = FN)(ha:Jv X [e1] mr)
  (hs:Fx [e1] X.env=(false,eval e1 X.env)::Fx [] X.env:=by rfl) (hpl:(K5 pos (Fx [] X.env)).any (·.1)=false:=by rfl) :
  Ob X tg (.Call (.Name "reversed" p) [e1] [] pos) (YM mr):=PI.of (agF hg hm ha hs hpl) fun σ H Q ⟨μ,h,σw,Rw,R,S,m,k⟩=>by
 refine ⟨μ,h,σw,_,R,S,m,fun vs H1 ⟨μ1,ws,h1,e1,R1,r1,m1⟩=>?_⟩;split at m1
 ·rename_i us;obtain ⟨v,ev,rv⟩:=lu r1;have rv0:=rv;rw [Aa] at rv;obtain ⟨a,xs,ea,hx,rs⟩:=rv;subst ev ea;have hl:=rs.len;refine ⟨a,xs,rfl,.inl ⟨hx,k _ _ ⟨μ1,⟨us.reverse,FN⟩,h1,e1,R1,?_,m1⟩⟩⟩;intro H2 μ2 h2 i e2 R2 _;have r2:=e2.r _ _ rv0;rw [Aa] at r2;obtain ⟨b,ys,eb,hy,ry⟩:=r2;cases eb;have hl2:=ry.len;refine ⟨fun w ew=>?_,fun hle=>?_⟩
  ·have hi:i<us.length:=by
    have:=(NT.mp ew).1
    simpa using this
   rw [List.getElem?_reverse hi] at ew;obtain ⟨v,hv,rv⟩:=ry.get ew;refine ⟨⟨by lia,ys,v,hy,by lia,by rw [show xs.length - 1 - i=us.length - 1 - i by lia];exact hv⟩,fun x H3 ⟨e3,y⟩=>?_⟩;subst e3;have:=y ys hy
   rw [show xs.length - 1 - i=us.length - 1 - i by lia,hv] at this;cases this;exact ⟨μ2,.refl,R2,rv⟩
  ·have:us.length<=i:=by simpa using hle
   show xs.length<=i;lia
 ·rename_i us;obtain ⟨v,ev,rv⟩:=lu r1;have rv0:=rv;rw [Aa] at rv;obtain ⟨a,xs,ea,hx,rs⟩:=rv;subst ev ea;have hl:=rs.len;refine ⟨a,xs,rfl,.inr ⟨hx.sq,k _ _ ⟨μ1,⟨us.reverse,FN⟩,h1,e1,R1,?_,m1⟩⟩⟩;intro H2 μ2 h2 i e2 R2 _;have r2:=e2.r _ _ rv0;rw [Aa] at r2;obtain ⟨b,ys,eb,hy,ry⟩:=r2;cases eb;have hl2:=ry.len;refine ⟨fun w ew=>?_,fun hle=>?_⟩
  ·have hi:i<us.length:=by
    have:=(NT.mp ew).1
    simpa using this
   rw [List.getElem?_reverse hi] at ew;obtain ⟨v,hv,rv⟩:=ry.get ew;refine ⟨⟨by lia,ys,v,hy.sq,by lia,by rw [show xs.length - 1 - i=us.length - 1 - i by lia];exact hv⟩,fun x H3 ⟨e3,y⟩=>?_⟩;subst e3;have:=y ys hy.sq
   rw [show xs.length - 1 - i=us.length - 1 - i by lia,hv] at this;cases this;exact ⟨μ2,.refl,R2,rv⟩
  ·have:us.length<=i:=by simpa using hle
   show xs.length<=i;lia
 ·exact m1.elim
end
theorem Ld {K:Ad}{H:Hp}{μ : Mu}:aL K H μ [] []:=by rw [aL]
theorem lB {K:Ad}{H:Hp}{μ : Mu}{w:W}{v:V}{ws:List W}{vs:List V}(h:Aa K H μ w v)(t:aL K H μ ws vs):aL K H μ (w::ws) (v::vs):=by rw [aL];exact ⟨v,vs,rfl,h,t⟩
theorem GD {K:Ad}{H:Hp}{μ : Mu}{i:Int}:Aa K H μ (.int i) (.int i):=by rw [Aa]
theorem mV {K:Ad}{a:Addr}{sl:Array (Option JI)}{its:Array JI}{n:Nat}{xs:List V}{ws:List W}(h:K.lookup a=Dn ⟨.type "tuple",FN,.seq its n,sl⟩)(hz:its.size<=Gn)(hv:BL xs its.toList)(hr:∀ H μ,aL K H μ ws xs):∀ H μ,Aa K H μ (.tup ws) (.ref a):=by
 intro H μ;rw [Aa];exact ⟨a,xs,rfl,.inr ⟨_,its,n,h,rfl,rfl,hz,hv,rfl⟩,hr H μ⟩
theorem GF {i:Int}{t}:RelV (.int i) (.int i t):=⟨t,rfl⟩
theorem aac {a:Addr}:RelV (.ref a) (.ref a):=rfl
section
variable {prog:FQ}{w:Cm}{A:FT}{E:JI->AP->Prop}{s:AP}
theorem Ae {it t:Addr}{items:Array JI}(hne:t≠it):∀ (n i:Nat) (s:AP) (Q:List JI->AP->Prop),s.heap.IsListIter it t i->s.heap.IsList t items->i+n<=items.size ->
  (∀ h',h'.IsListIter it t (i+n)->TK it s.heap h'->Q ((items.toList.drop i).take n) { s with heap:=h' })->CR (FP prog w) A (draw (.ref it) n) Q E s
 | 0,i,s,Q,hit,_,_,hQ=>by
  show CR _ _ (pure []) Q E s;exact Fy<|by simpa using hQ s.heap hit (Heap.SameBut.refl ..)
 | n+1,i,s,Q,hit,ht,hle,hQ=>by
  have hlt:i<items.size:=by lia
  show CR _ _ (Ni (.ref it) >>= _) Q E s;refine Aj<|wpAny_pyNext_list_item hit ht (x:=items[i]) (by simp [hlt]) fun h1 hit1 hs1=>?_
  refine Aj<|Oj<|Ae hne n (i+1) _ _ hit1 (ht.at fun o e=>hs1.extBut _ o hne e) (by lia) fun h2 hit2 hs2=>Fy ?_
  have hd:items.toList.drop i=items[i]::items.toList.drop (i+1):=by simp [List.drop_eq_getElem_cons,hlt]
  have:=hQ h2 (by rw [show i+(n+1)=i+1+n by lia];exact hit2) (hs1.trans hs2)
  rw [hd,List.take_succ_cons] at this;exact this
theorem qL {t:Addr}{items:Array JI}{Q:List JI->AP->Prop}(hh:A.handled=FN)(ht:s.heap.IsList t items)
  (hQ:∀ h',TX s.heap.objs.size s.heap h'->Q items.toList { s with heap:=h' }):CR (FP prog w) A (unpackItems (.ref t) items.size FN) Q E s:=by
 have hlt:t≠s.heap.objs.size:=by obtain ⟨o,ho,_⟩:=ht;exact Jy (Gy ho)
 unfold unpackItems;refine Aj ?_
 ·unfold notIterableAtAll;refine Aj<|wpAny_specialOf ht.typeIs slot_list_iter.lookup ?_
  refine Fy ?_;simp only [Te,if_false];refine Aj<|Oj<|Tw ht ?_
  refine Aj<|Oj<|Ae hlt items.size 0 _ _ ⟨_,KJ _ rfl,rfl,rfl⟩ (ht.at fun o e=>HD _ e) (by lia) fun h1 hit1 hs1=>?_
  have hall:List.take items.size (List.drop 0 items.toList)=items.toList:=by
   rw [U6];exact List.take_of_length_le (by simp)
  rw [hall];rw [if_neg (by simp)];have ht1:h1.IsList t items:=ht.at fun o e=>hs1.extBut _ o hlt (HD _ e)
  refine Aj<|Oj<|wpAny_pyNext_list_end hh hit1 ht1 (by simp) fun h2 he2=>?_
  simp only [Option.isSome_none,Te,if_false];refine Fy<|hQ h2 fun b o hb e=>he2 b o hb<|hs1.extBut b o hb<|HD _ e
theorem oY {env:Env}{elts:List Expr}{x1}{pos:Pos}{t:Addr}{items:Array JI}{Q:Unit->AP->Prop}(hh:A.handled=FN)(ht:s.heap.IsList t items)
  (hn:(La elts env).length=items.size) (hstar:(La elts env).findIdx? (·.1)=FN)
  (h:∀ h',TX s.heap.objs.size s.heap h'->CR (FP prog w) A (assignInOrder ((La elts env).map (·.2)) items.toList) Q E { s with heap:=h' }) :
  CR (FP prog w) A (assign (.Tuple elts x1 pos) env (.ref t)) Q E s:=by
 rw [assign_Tuple];refine Aj<|wpAny_standAt ?_
 unfold unpack;rw [hn,hstar];exact Aj<|Oj<|qL hh ht h
end
section
variable {X:Cx}{pos:Pos}
def aav (K:Ad)(n:Nat)(t:Ou):TG:=fun v σ H Q=>∃ a xs,v=.ref a/\(J4 K H a xs\/Io K H a xs)/\xs.length=n/\t xs σ H Q
theorem afX {es:List Expr}{k:Nat}{t:Ou}{n:Nat}(hc:X.calm=true)(h:RV X es t)
  (hn:(La es X.env).length=n:=by rfl) (hst:(La es X.env).findIdx? (·.1)=FN:=by rfl):PG X (.Tuple es k pos) (aav X.K n t):=by
 intro pins s σ H v u Q I r hw;obtain ⟨a,xs,e1,hq,hl,hw⟩:=hw;subst e1;cases r;rcases hq with hq | hq
 ·obtain ⟨its,rv,ht,hz⟩:=I.tuple hq;refine assign_Tuple_tuple (I.ok.hd hc) ht (by simp [hn,<-hl,rv.length]) hst fun h' hx=>?_;have I1:Ac X pins σ H { s with heap:=h' }:=I.kept (t':=s.toks) fun b o e=>hx b o (Jy (Gy e)) e
  exact h pins _ σ H xs _ Q I1 (by simpa using rv) hw
 ·obtain ⟨its,rv,ht,hz⟩:=I.list hq;refine oY (I.ok.hd hc) ht.isList (by simp [hn,<-hl,rv.length]) hst fun h' hx=>?_;have I1:Ac X pins σ H { s with heap:=h' }:=I.kept (t':=s.toks) fun b o e=>hx b o (Jy (Gy e)) e
  exact h pins _ σ H xs _ Q I1 (by simpa using rv) hw
def qK (n:Nat)(g:Np):MG:=fun w σ h N=>match w with
 | .tup ws=>Hy (Ls ws.length n) (g ws σ h N) False
 | .lst ws=>Hy (Ls ws.length n) (g ws σ h N) False
 | .loc j=>(match h.c j with
  | some (.lst ws)=>Hy (Ls ws.length n) (g ws σ h N) False
  | _=>False)
 | _=>False
theorem lZ {es:List Expr}{k:Nat}{g:Np}{n:Nat}(hc:X.calm=true)(h:aai X es g)(hn:(La es X.env).length=n:=by rfl)(hst:(La es X.env).findIdx? (·.1)=FN:=by rfl):DG X (.Tuple es k pos) (qK n g):=
 (afX (n:=n) hc h hn hst).of fun v σ H N ⟨μ,h,σw,w,Nw,R,S,r,m,k⟩=>by
  cases w with
  | tup ws=>
   rw [Aa] at r;obtain ⟨p,xs,e1,hs,hr⟩:=r;have m:Hy (Ls ws.length n) (g ws σw h Nw) False:=m;cases en:Ls ws.length n with
   | true=>rw [en] at m;exact ⟨p,xs,e1,.inl hs,by rw [<-hr.len];exact UG en,μ,h,σw,ws,Nw,R,S,hr,m,k⟩
   | false=>rw [en] at m;exact (show False from m).elim
  | lst ws=>
   rw [Aa] at r;obtain ⟨p,xs,e1,hs,hr⟩:=r;have m:Hy (Ls ws.length n) (g ws σw h Nw) False:=m;cases en:Ls ws.length n with
   | true=>rw [en] at m;exact ⟨p,xs,e1,.inr hs.sq,by rw [<-hr.len];exact UG en,μ,h,σw,ws,Nw,R,S,hr,m,k⟩
   | false=>rw [en] at m;exact (show False from m).elim
  | loc j=>
   have m:(match h.c j with
    | some (.lst ws)=>Hy (Ls ws.length n) (g ws σw h Nw) False
    | _=>False):=m
   split at m
   ·rename_i ws ec;obtain ⟨p,xs,e1,hs,hr⟩:=cF R r (show dH h (.loc j)=Dn ws by simp only [dH,ec]);cases en:Ls ws.length n with
    | true=>rw [en] at m;exact ⟨p,xs,e1,.inr hs,by rw [<-hr.len];exact UG en,μ,h,σw,ws,Nw,R,S,hr,m,k⟩
    | false=>rw [en] at m;exact (show False from m).elim
   ·exact m.elim
  | _=>exact m.elim
end
section
variable {K:Ad}{H:Hp}{μ : Mu}{h:Gh}{p:Addr}{ws:List W}{xs:List V}
end
def acu (Q:WK):WK:=fun w h=>match w with
 | .lst ws=>Q (.loc h.nx) (h.new (.lst ws))
 | _=>False
def adX (own:W->Option (List W))(ix:List Nat)(mi:MI)(tt:MT)(te:ME):ME:=fun σ h Q=>GQ own ix mi tt te σ h (acu Q)
section
variable {X:Cx}{tg iter elt:Expr}{ifs:List Expr}{pos:Pos}{scope:Scope}{xs:List Str}{mi:MI}{tt:MT}{te:ME}
end
def G7:Expr->Bool
 | .Starred _ _=>true
 | _=>false
theorem cC {e:Expr}{es:List Expr}{env:Env}(h:G7 e=false):Fx (e::es) env=(false,eval e env)::Fx es env:=by
 cases e <;> first | rfl | cases h
theorem Pr {e:Expr}{env:Env}(h:G7 e=false):Fx [e] env=[(false,eval e env)]:=(cC h).trans rfl
def noStar:List Expr->Bool
 | []=>true
 | e::r=>!G7 e&&noStar r
theorem fZ {pos:Pos}{env:Env}:∀ {es:List Expr},noStar es=true->(K5 pos (Fx es env)).any (·.1)=false
 | [],_=>rfl
 | e::r,h=>by
  rw [noStar,MN,Bool.not_eq_true'] at h;rw [cC h.1];show (false||(K5 pos (Fx r env)).any (·.1))=false;rw [fZ h.2];rfl
theorem yP {cpos:Pos}{e:Expr}{env:Env}(h:G7 e=false):((K5 cpos (Fx [e] env)).all (fun x=>!x.1)&&(backToKw cpos (TQ [] env)).all (fun x=>x.1.isSome)
   && decide (([e]:List Expr).length+([]:List Nx).length+(if ([]:List Nx).isEmpty then 0 else 1)<30))=true:=by
 rw [Pr h];rfl
section
variable {prog:FQ}{w:Cm}{A:FT}{E:JI->AP->Prop}{s:AP}
open HT in
theorem mz {t sl:Addr}{items:Array JI}{vl vu:JI}{lo hi:Option Int}{Q:JI->AP->Prop}(ht:IsTup s.heap t items)(hs:s.heap.IsSliceOf sl vl vu .none)(pl:IsPart vl lo)(pu:IsPart vu hi)
  (h0:sIx items.size 0 lo=0) (h1:sIx items.size items.size hi=items.size) (h:Q (.ref t) s):CR (FP prog w) A (getItem (.ref t) (.ref sl)) Q E s:=by
 obtain ⟨os,hos,hcs,hds⟩:=id hs;have hTs:s.TypeIs (.ref sl) "slice":=⟨os,hos,hcs⟩
 unfold getItem;try with_reducible refine Oj ?_
 first | refine Aj (Fy ?_) | skip
 refine Aj<|wpAny_sequenceKey ht.typeIs (by decide) ?_
 refine Aj (Rp (name:=Rh "__getitem__") ht.typeIs Sd
  (RL Sd ht.typeIs entry_tuple_getitem ?_ (args_tuple_getitem _ _)))
 show CR _ _ (Builtin.Tuple.tupleItemsOf (.ref t) >>= _) _ _ s;refine Aj<|tupleItemsOf_ ht ?_
 refine Aj<|wpAny_typeOf hTs ?_
 rw [if_pos (by decide)];refine Aj<|jE hs pl pu ?_
 have hyes:((((sIx items.size 0 lo:Nat):Int)==0&&(1:Int)==1&&(sIx items.size items.size hi - sIx items.size 0 lo)==items.size)=true):=by
  rw [h0,h1];simp
 show CR _ _ (if (((sIx items.size 0 lo:Nat):Int)==0&&(1:Int)==1&&(sIx items.size items.size hi - sIx items.size 0 lo)==items.size)=true then _ else _) _ _ s;rw [if_pos hyes];unfold Builtin.Tuple.tupleIsExact;refine Aj<|Aj<|wpAny_typeOf ht.typeIs<|Fy ?_
 rw [if_pos (by decide)];refine Aj<|Sg ?_
 first
  | exact Fy ⟨_,rfl,Fy h⟩
  | exact Aj (Fy (Fy ⟨_,rfl,Fy h⟩))
end
section
variable {X:Cx}
def adL (K:Ad):V->Option Int->Option Int->Hp->VK->Prop:=fun x lo hi H Q=>∃ a xs,x=.ref a/\J4 K H a xs /\
 HT.sIx xs.length 0 lo=0/\HT.sIx xs.length xs.length hi=xs.length/\Q x H
theorem zbn:Ov X (adL X.K):=by
 intro pins s σ H x v vl vu lo hi sl Q I rx hs pl pu h;obtain ⟨a,xs,rfl,hx,h0,h1,q⟩:=h;cases rx;obtain ⟨its,r,ht,hz⟩:=I.tuple hx;have hlen:its.toArray.size=xs.length:=by rw [Iz];exact r.length.symm
 refine ⟨"tuple",_,Sd.lookup,ht.typeIs,?_⟩;refine mz ht hs pl pu (by rw [hlen];exact h0) (by rw [hlen];exact h1) ?_;exact ⟨.ref a,H,I,rfl,q⟩
def pU (x:W)(lo hi:Option Int)(h:Gh)(Q:WK):Prop:=match x with
 | .tup ws=>Q (.tup (Ak ws lo hi)) h
 | x=>(match dH h x with
  | some ws=>Q (.lst (Ak ws lo hi)) h
  | none=>False)
theorem iQ {e:Expr}{lo hi:Option Expr}{ma:ME}{ml mh:MO}{p2 pos:Pos}(he:DE X e ma)(hl:DO X lo ml)(hu:DO X hi mh):DE X (.Subscript e (.Slice lo hi FN p2) pos) (K9 pU ma ml mh):=
 (afk (Ov.or (Ov.or zbI Yd) zbn) he hl hu).of fun σ H Q ⟨μ,h,σw,Qw,R,S,m,k⟩=>by
  refine ⟨μ,h,σw,_,R,S,m,fun x H1 ⟨μ1,wx,h1,e1,R1,r1,m1⟩=>?_⟩;refine ⟨μ1,h1,σw,_,R1,S.ext e1,m1,fun lo H2 ⟨μ2,h2,e2,R2,m2⟩=>?_⟩;refine ⟨μ2,h2,σw,_,R2,(S.ext e1).ext e2,m2,fun hi H3 ⟨μ3,h3,e3,R3,m3⟩=>?_⟩;have e13:=(e1.trans e2).trans e3;have r3:=e3.r _ _ (e2.r _ _ r1);have oth:∀ wy,Aa X.K H3 μ3 wy x->(match dH h3 wy with
    | some ws=>Qw (.lst (Ak ws lo hi)) h3
    | none=>False)->∃ p xs,x=.ref p/\Io X.K H3 p xs/\∀ l,H3 l=FN->Q (.ref l) (G8 H3 l (.lst (M7 xs lo hi))):=by
   intro wy ry my;split at my
   ·rename_i ws ev;obtain ⟨p,xs,ex,hs,rs⟩:=cF R3 ry ev;exact ⟨p,xs,ex,hs,fun l hl=>k _ _ ⟨μ3,_,h3,e13.trans (Ex.laid hl).ext,R3.laid hl,.lstNew R3 hl<|rs.cutv lo hi,my⟩⟩
   ·exact my.elim
  cases wx with
  | tup ws=>
   have m3:Qw (.tup (Ak ws lo hi)) h3:=m3;have r30:=r3;rw [Aa] at r3;obtain ⟨p,xs,ex,hx,rs⟩:=r3;have hl:=rs.len;by_cases hw:HT.sIx xs.length 0 lo=0/\HT.sIx xs.length xs.length hi=xs.length
   ·have ec:Ak ws lo hi=ws:=by
     unfold Ak;rw [hl,hw.1,hw.2,U6,Nat.sub_zero,<-hl,Mp]
    rw [ec] at m3;exact .inr ⟨p,xs,ex,hx,hw.1,hw.2,k _ _ ⟨μ3,.tup ws,h3,e13,R3,r30,m3⟩⟩
   ·exact .inl<|.inr ⟨p,xs,ex,hx,hw,fun q hq=>k _ _ ⟨μ3,.tup<|Ak ws lo hi,h3,e13.trans (Ex.laid hq).ext,R3.laid hq,.tupNew hq<|rs.cutv lo hi,m3⟩⟩
  | _=>exact .inl (.inl (oth _ r3 m3))
def adS:MC:=fun ws h Q=>match ws with
 | [.int i]=>Q (.int i) h
 | [.bl b]=>Q (.int (if b then 1 else 0)) h
 | _=>False
def acQ:MM:=fun x ws h Q=>match ws with
 | [.int k]=>(match dH h x with
  | some us=>∃ (ns:List Int) (j:Nat),us=ns.map W.int/\ns[j]?=Dn k/\(∀ m,m<j->ns[m]?≠Dn k)/\Q (.int j) h
  | none=>False)
 | _=>False
theorem u0 {K:Ad}{H:Hp}{μ : Mu}:∀ {ns:List Int} {xs:List V},aL K H μ (ns.map W.int) xs->xs=ns.map V.int
 | [],xs,r=>by rw [TY,aL] at r;exact r
 | n::ns,xs,r=>by
  rw [LQ,aL] at r;obtain ⟨v,vs,e,rv,r⟩:=r;rw [Aa] at rv;rw [e,rv,u0 r];rfl
def vH (h:Gh)(w:W)(P:Prop):Prop:=match dH h w with
 | some _=>P
 | none=>False
theorem Ab {K:Ad}{H:Hp}{μ : Mu}{h:Gh}{w:W}{v:V}{P:Prop}(R:Fv K μ H h)(r:Aa K H μ w v)(e:vH h w P):tyV K "list" v H/\P:=by
 unfold vH at e;split at e
 ·rename_i us ev;obtain ⟨p,xs,ex,hs,_⟩:=cF R r ev;subst ex;exact ⟨.inl ⟨rfl,xs,hs⟩,e⟩
 ·exact e.elim
def aaA (r:MM)(mo:ME)(ma:MA):ME:=fun σ h Q=>mo σ h fun x h1=>vH h1 x (ma σ h1 fun xs h2=>r x xs h2 Q)
def adk (mo:ME):ME:=fun σ h Q=>mo σ h fun x h1=>match x with
 | .int i=>Q (.int (Builtin.Int.intBits i:Nat)) h1
 | _=>False
theorem zaK (hc:X.calm=true):jc X (.builtin "max") (fun xs H Q=>∃ (p:Addr) (ns:List Int),xs=[.ref p]/\Io X.K H p (ns.map V.int)/\0<ns.length/\∀ M,M∈ns->(∀ a,a∈ns->a<=M)->Q (.int M) H):=by
 intro pins s σ H xs us Q I r ⟨p,ns,e,hS,hne,q⟩;subst e;obtain ⟨u,rfl,ru⟩:=vals1 r;cases ru;obtain ⟨its,rv,pl,hz⟩:=I.list hS;have hlen:its.length=ns.length:=by rw [<-rv.length,Gg]
 have all:AllInts its.toArray:=fun v hv=>by
  obtain ⟨i,hi,e⟩:=Array.mem_iff_getElem.mp hv;obtain ⟨t,e2⟩:=wg (i:=i) (v:=v) rv (by rw [<-e];simp at hi |-);exact ⟨_,t,e2⟩
 obtain ⟨ys,ey⟩:=all.items;have hl:=pl.isList;rw [ey] at hl;have hys:ys.size=ns.length:=by
  have:=congrArg Array.size ey
  simp [intItems] at this;lia
 have num:∀ i,i<ns.length->numAt ys i=ns.getD i 0:=fun i hi=>by
  obtain ⟨t,e2⟩:=wg (i:=i) (v:=its[i]'(by lia)) rv (JQ (by lia));have e3:(intItems ys)[i]?=Dn (its[i]'(by lia)):=by rw [<-ey];simp
  obtain ⟨t',e4⟩:=intItems_at e3;rw [e2] at e4;injection e4 with e5 _
  exact e5.symm
 refine max_intList (I.ok.hd hc) hl (by lia) fun v h' tk hv hk=>?_;obtain ⟨t,rfl⟩:=intItems_at hv;obtain ⟨h1,h2⟩:=argBest_gt (numAt ys) (ys.size - 1);refine ⟨.int _,H,I.kept (h':=h') (t':=tk) hk,⟨t,rfl⟩,q _ ?_ fun a ha=>?_⟩
 ·rw [num _ (by lia),Mz,JQ (by lia)];exact Tv _
 ·obtain ⟨j,hj,e⟩:=TJ.mp ha;have:=h2 j (by lia)
  rw [num j hj,Mz,JQ hj] at this;rw [<-e];exact this
def Vu:MC:=fun ws h Q=>match ws with
 | [.int i,.int j]=>Q (.int (if j>i then j else i)) h
 | [w]=>(match dH h w with
  | some us=>∃ ns:List Int,us=ns.map W.int/\0<ns.length/\∀ M,M∈ns->(∀ a,a∈ns->a<=M)->Q (.int M) h
  | none=>False)
 | _=>False
theorem afF (hc:X.calm=true):lq X (.builtin "max") Vu:=⟨_,jc.or (yh hc) (zaK hc),by
 intro H μ h vs ws Qw Q R r m k;unfold Vu at m;split at m
 ·rename_i i j;rw [aL] at r;obtain ⟨v,vs',e,rv,r⟩:=r;rw [aL] at r;obtain ⟨v2,vs2,e2,rv2,r⟩:=r;rw [aL] at r;rw [Aa] at rv rv2;subst e e2 rv rv2 r;exact .inl ⟨i,j,rfl,k _ _<|.int R m⟩
 ·split at m
  ·rename_i w us ev;obtain ⟨v,e,rv⟩:=lu r;obtain ⟨p,ys,ex,hs,rs⟩:=cF R rv ev;obtain ⟨ns,eu,hne,m⟩:=m;subst e ex;rw [eu] at rs;have:=u0 rs
   subst this;exact .inr ⟨p,ns,rfl,hs,hne,fun M hM ha=>k _ _<|.int R<|m M hM ha⟩
  ·exact m.elim
 ·exact m.elim⟩
end
def XO (h:Heap)(P:Addr->Prop)(e C:Addr)(od:Option Addr):Prop:=P e/\∃ (oe:Obj) (vs:Array JI),h.get? e=Dn oe/\oe.cls=.ref C/\oe.dict=od/\oe.data=.fields vs/\vs.size<=1000/\vs[2]?=Dn .none /\
 (vs[1]?=Dn .none\/∃ (T:Addr) (oT:Obj) (ts:Array JI),vs[1]?=Dn (.ref T)/\T≠e/\P T/\h.get? T=Dn oT/\oT.data=.fields ts/\3<ts.size)
def XN (h:Heap)(P:Addr->Prop)(e C:Addr)(od:Option Addr):Prop:=P e/\∃ (oe:Obj) (vs:Array JI),h.get? e=Dn oe/\oe.cls=.ref C/\oe.dict=od/\oe.data=.fields vs/\vs.size<=1000/\vs[2]?=Dn .none /\
 ∃ (T:Addr) (oT:Obj) (ts:Array JI),vs[1]?=Dn (.ref T)/\T≠e/\P T/\h.get? T=Dn oT/\oT.data=.fields ts/\3<ts.size
structure Stp (P:Addr->Prop) (fs:List Addr) (h h':Heap):Prop where
 keep:∀ b o,¬ P b->b∉fs->h.get? b=Dn o->h'.get? b=Dn o
 slot:∀ b o,¬ P b->h.get? b=Dn o->∃ sl,h'.get? b=Dn { o with slots:=sl }
 there:∀ b o,h.get? b=Dn o->∃ o',h'.get? b=Dn o'
section
variable {M:Model}{A:FT}{E:JI->AP->Prop}{s:AP}{P:Addr->Prop}{e C:Addr}{od:Option Addr}
end
section
variable {X:Cx}{pins:List (Addr×Obj)}{σ : St}{H H':Hp}{s s':AP}{b e C:Addr}{od:Option Addr}
structure New (X:Cx) (pins:List (Addr×Obj)) (H:Hp) (b:Addr):Prop where
 h:H b=FN
 s:b∈X.ex\/X.s₀.heap.get? b=FN
 l:b≠X.env.locals
 c:∀ x c,X.env.cells.lookup x=Dn c->c≠b
 p:∀ p∈X.pn++pins,p.1≠b
 f:b∉X.fs
structure zac (X:Cx) (pins:List (Addr×Obj)) (σ : St) (H:Hp) (s:AP) (e C:Addr) (od:Option Addr):Prop where
 inv:Ac X pins σ H s
 xo:XO s.heap (New X pins H) e C od
structure zab (X:Cx) (pins:List (Addr×Obj)) (σ : St) (H:Hp) (s:AP) (e C:Addr) (od:Option Addr):Prop where
 inv:Ac X pins σ H s
 xn:XN s.heap (New X pins H) e C od
end
section
variable {X:Cx}{pins:List (Addr×Obj)}{σ : St}{H:Hp}{s:AP}{C:Addr}{x:Str}{np cpos pos:Pos}{e:Expr}{es:List Expr}{t:TA}
end
section
variable {X:Cx}{Γ : St->Prop}{e c:Expr}{es:List Expr}{mr:MA}{pos:Pos}{st:Stmt}{rest:List Stmt}
end
section
variable {X:Cx}{pins pins':List (Addr×Obj)}{σ : St}{H:Hp}{s:AP}{xe:JI->AP->Prop}{a C:Addr}{o:Obj}{u:HO}
end
section
variable {prog:FQ}{w:Cm}{A:FT}{E:JI->AP->Prop}{s:AP}{K:Ad}{x D:Addr}{ox:Obj}
end
def Oc (n d:Str):Bool:=n==d||d == "EaselError"
section
variable {K:Ad}{C D:Addr}{n d:Str}
def adl (K:Ad)(v:V)(f:Str->Bool):Prop:=∀ (u:JI),RelV v u->∀ (C:Addr) (n:Str),aaQ K C n=true->PySem.W.kitOne K (.ref C) u=Dn (f n)
end
def bT.lost (D:bT):bT:={ D with nx:=fun σ h=>D.nx (σ.map fun _=>FN) h,bk:=fun σ h=>D.bk (σ.map fun _=>FN) h,ct:=fun σ h=>D.ct (σ.map fun _=>FN) h }
def aae (x:Xw):W:=match x.fs with
 | []=>.exc x.cls
 | f::fs=>.exa x.cls ((f::fs).map (·.2))
def ac8 (i:Nat)(d:Str)(mb:BK->MS)(mh:MS):MS:=fun D σ h=>mb (fun x h'=>Hy (Oc x.cls d) (mh D.lost (σ.set i (Dn (aae x))) h') False) D σ h
section
variable {X:Cx}{body:List Stmt}{b₀ : Stmt}{suite:List Stmt}{y d:Str}{np hpos pos:Pos}{i:Nat}{D:Addr}{mb:BK->MS}{mh:MS}
end
section
variable {X:Cx}{a:Expr}{ma:ME}{pos p:Pos}
def adq (f:Str->Bool)(m:ME):ME:=fun σ h Q=>m σ h fun w h1=>match w with
 | .exc n=>Q (.bl (f n)) h1
 | .exa n _=>Q (.bl (f n)) h1
 | _=>False
inductive PCs (X:Cx):List Expr->List V->(Str->Bool)->Prop
 | nil:PCs X [] [] (fun _=>false)
 | cons {e:Expr} {es:List Expr} {v:V} {vs:List V} {f g:Str->Bool}:PE X e (tC v)->adl X.K v f->PCs X es vs g->Fx (e::es) X.env=(false,eval e X.env)::Fx es X.env->PCs X (e::es) (v::vs) (fun n=>f n||g n)
end
section
variable {X:Cx}{tg elt:Expr}{ifs:List Expr}{scope:Scope}{xs:List Str}{tt:MT}{te:ME}{pos p ppos:Pos}
end
section
variable {prog:FQ}{w:Cm}{A:FT}{E:JI->AP->Prop}{s:AP}
end
section
variable {X:Cx}
end
section
variable {X:Cx}{K:Ad}{o e:Expr}{mo:ME}{ma:MA}{apos cpos:Pos}
def aci:MM:=fun x ws h Q=>match x,ws with
 | .loc n,[]=>(match h.c n with
  | some (.lst _)=>Q .non (h.set n (.lst []))
  | _=>False)
 | _,_=>False
variable {H:Hp}{pins:List (Addr×Obj)}{s:AP}{σ : St}
mutual
theorem Bq (I:Ac X pins σ H s):∀ {w u:W} {v:V},Dt X.K H w v->Dt X.K H u v->w=u
 | .non,u,v,h,g=>by rw [Dt] at h;subst h;cases u <;> rw [Dt] at g <;> first | rfl | exact g.elim | (obtain ⟨_,_,g,_⟩:=g;cases g;done) | (cases g;done)
 | .bl b,u,v,h,g=>by rw [Dt] at h;subst h;cases u <;> rw [Dt] at g <;> first | (injection g with g;rw [g];done) | exact g.elim | (obtain ⟨_,_,g,_⟩:=g;cases g;done) | (cases g;done)
 | .int b,u,v,h,g=>by rw [Dt] at h;subst h;cases u <;> rw [Dt] at g <;> first | (injection g with g;rw [g];done) | exact g.elim | (obtain ⟨_,_,g,_⟩:=g;cases g;done) | (cases g;done)
 | .str b,u,v,h,g=>by rw [Dt] at h;subst h;cases u <;> rw [Dt] at g <;> first | (injection g with g;rw [g];done) | exact g.elim | (obtain ⟨_,_,g,_⟩:=g;cases g;done) | (cases g;done)
 | .tup ws,u,v,h,g=>by
  rw [Dt] at h;obtain ⟨p,xs,e,hs,ds⟩:=h;subst e;cases u with
  | tup us=>
   rw [Dt] at g;obtain ⟨p',xs',e',hs',ds'⟩:=g;cases e'
   have:=I.tuple_inj hs hs'
   subst this;rw [wk I ds ds']
  | lst us=>
   rw [Dt] at g;obtain ⟨p',xs',e',hs',ds'⟩:=g;cases e'
   obtain ⟨_,_,t,_⟩:=I.tuple hs;obtain ⟨_,_,l,_⟩:=I.list hs';exact absurd rfl<|Uu l.isList<|show s.heap.IsTuple _ _ from t
  | ty _=>rw [Dt] at g;exact g.elim
  | loc _=>rw [Dt] at g;exact g.elim
  | kls _=>rw [Dt] at g;exact g.elim
  | exc _=>rw [Dt] at g;exact g.elim
  | exa _ _=>rw [Dt] at g;exact g.elim
  | _=>rw [Dt] at g;cases g
 | .lst ws,u,v,h,g=>by
  rw [Dt] at h;obtain ⟨p,xs,e,hs,ds⟩:=h;subst e;cases u with
  | lst us=>
   rw [Dt] at g;obtain ⟨p',xs',e',hs',ds'⟩:=g;cases e'
   have:=I.list_inj hs hs'
   subst this;rw [wk I ds ds']
  | tup us=>
   rw [Dt] at g;obtain ⟨p',xs',e',hs',ds'⟩:=g;cases e'
   obtain ⟨_,_,t,_⟩:=I.tuple hs';obtain ⟨_,_,l,_⟩:=I.list hs;exact absurd rfl<|Uu l.isList<|show s.heap.IsTuple _ _ from t
  | ty _=>rw [Dt] at g;exact g.elim
  | loc _=>rw [Dt] at g;exact g.elim
  | kls _=>rw [Dt] at g;exact g.elim
  | exc _=>rw [Dt] at g;exact g.elim
  | exa _ _=>rw [Dt] at g;exact g.elim
  | _=>rw [Dt] at g;cases g
 | .ty _,_,_,h,_=>by rw [Dt] at h;exact h.elim
 | .kls _,_,_,h,_=>by rw [Dt] at h;exact h.elim
 | .loc _,_,_,h,_=>by rw [Dt] at h;exact h.elim
 | .exc _,_,_,h,_=>by rw [Dt] at h;exact h.elim
 | .exa _ _,_,_,h,_=>by rw [Dt] at h;exact h.elim
theorem wk (I:Ac X pins σ H s):∀ {ws us:List W} {vs:List V},Ip X.K H ws vs->Ip X.K H us vs->ws=us
 | [],us,vs,h,g=>by
  have e:vs=[]:=by rw [Ip] at h;exact h
  subst e;cases us with
  | nil=>rfl
  | cons u us=>rw [Ip] at g;obtain ⟨_,_,e,_⟩:=g;cases e
 | w::ws,us,vs,h,g=>by
  rw [Ip] at h;obtain ⟨v,vs',e,d,ds⟩:=h;subst e;cases us with
  | nil=>
   have e:v::vs'=[]:=by rw [Ip] at g;exact g
   cases e
  | cons u us=>
   rw [Ip] at g;obtain ⟨v2,vs2,e2,d2,ds2⟩:=g;cases e2;rw [Bq I d d2,wk I ds ds2]
end
theorem vp {α β : Type}{p:α->Bool}{q:β->Bool}:∀ {xs:List α} {ys:List β},xs.length=ys.length->(∀ a b,(a,b)∈xs.zip ys->p a=q b)->xs.countP p=ys.countP q
 | [],[],_,_=>rfl
 | [],_::_,h,_=>by cases h
 | _::_,[],h,_=>by cases h
 | a::xs,b::ys,h,e=>by
  rw [List.countP_cons,List.countP_cons,vp (Nat.succ.inj h) fun a' b' m=>e a' b' (by rw [Ti];exact Nh _ m),e a b (by rw [Ti];exact Nb)]
theorem uc:∀ {us:List W} {xs:List V} {its:List JI},Ip X.K H us xs->BL xs its->∀ a u,(a,u)∈its.zip us->∃ v,RelV v a/\Dt X.K H u v/\u∈us
 | [],_,its,_,_,a,u,m=>by rw [List.zip_nil_right] at m;exact absurd m (by simp)
 | w::us,xs,its,d,r,a,u,m=>by
  rw [Ip] at d;obtain ⟨v,vs,e,d1,ds⟩:=d;subst e;cases r with
  | cons r1 rs=>
   rw [Ti] at m;rcases J9.mp m with m | m
   ·cases m;exact ⟨v,r1,d1,Nb⟩
   ·obtain ⟨v',q1,q2,q3⟩:=uc ds rs a u m;exact ⟨v',q1,q2,Nh _ q3⟩
theorem oU {α β : Type}:∀ {xs:List α} {ys:List β},xs.length=ys.length->∀ a∈xs,∃ b,(a,b)∈xs.zip ys
 | [],_,_,a,m=>absurd m (by simp)
 | _::_,[],h,_,_=>by cases h
 | x::xs,y::ys,h,a,m=>by
  rw [Ti];rcases J9.mp m with rfl | m
  ·exact ⟨y,Nb⟩
  ·obtain ⟨b,q⟩:=oU (Nat.succ.inj h) a m;exact ⟨b,Nh _ q⟩
def Q0 (K:Ad):V->List V->Hp->VK->Prop:=fun x vs H Q=>∃ (l:Addr) (y:V) (xs:List V) (us:List W) (w:W),x=.ref l/\vs=[y]/\Io K H l xs/\Ip K H us xs/\Dt K H w y/\us.all (Ft 20)=true/\Ft 20 w=true/\Q (.int (us.countP fun u=>FJ u w)) H
theorem zbA (hu:X.A.units+30<Kq):MtR X "list.count" (Q0 X.K):=by
 intro pins s σ H x vs v us' Q I rx rv h;obtain ⟨l,y,xs,us,w,rfl,rfl,hx,hd,hw,pl1,pl2,q⟩:=h;cases rx;obtain ⟨b,rfl,rb⟩:=rv.one;obtain ⟨its,r,pl,hz⟩:=I.list hx;obtain ⟨⟨cl,dd,da,sl⟩,n,e,c1,c2,c3⟩:=pl;simp only at c1 c2 c3;subst c1 c2 c3;have hl:its.length=us.length:=by rw [<-r.length,hd.len]
 let ev:JI->Bool:=fun a=>@decide (∃ u,(a,u)∈its.zip us/\FJ u w=true) (Tz _)
 have hev:∀ a u,(a,u)∈its.zip us->ev a=FJ u w:=by
  intro a u m;cases c:FJ u w with
  | true=>exact (@decide_eq_true_iff _ (Tz _)).mpr ⟨u,m,c⟩
  | false=>
   refine (@decide_eq_false_iff_not _ (Tz _)).mpr fun ⟨u2,m2,c2⟩=>?_;obtain ⟨v1,r1,d1,_⟩:=uc hd r a u m;obtain ⟨v2,r2,d2,_⟩:=uc hd r a u2 m2;have ev:v1=v2:=r1.inj r2;subst ev;rw [Bq I d1 d2,c2] at c;cases c
 refine call_meets F.slot_list_count ⟨_,e,rfl⟩ F.entry_list_count (F.args_list_count_2 _ _) (SeqAt.list_countAt l its.toArray n FN sl b ev) ⟨e,?_,?_⟩
 ·intro a ha;have ha':a∈its:=by simpa using ha
  obtain ⟨u,m⟩:=oU hl a ha';obtain ⟨v,r1,d1,mu⟩:=uc hd r a u m;rw [hev a u m];exact Uk I 20 (by show X.A.in1.units+20<Kq;show X.A.units+1+20<Kq;lia) d1 hw (MP.mp pl1 u mu) pl2 r1 rb
 ·rw [show its.toArray.toList=its from rfl,vp hl hev];exact ⟨.int _,H,I.tok _,⟨_,rfl⟩,q⟩
def yx:MM:=fun x ws h Q=>match ws with
 | [w]=>(match dH h x with
  | some us=>Hy (Ft 20 w&&us.all (Ft 20)) (Q (.int (us.countP fun u=>FJ u w)) h) False
  | none=>False)
 | _=>False
theorem ahe:VN K (Q0 K) yx:=by
 intro H μ h x vs wx ws Qw Q R rx rs m k;unfold yx at m;split at m
 ·rename_i w;obtain ⟨v,ev,rv⟩:=lu rs;split at m
  ·rename_i us eu;obtain ⟨p,xs,ex,hs,rr⟩:=cF R rx eu;cases c:(Ft 20 w&&us.all (Ft 20)) with
   | true=>
    rw [c] at m;rw [MN] at c;exact ⟨p,v,xs,us,w,ex,ev,hs,vI (Gx 20) rr c.2,Gx 20 rv c.1,c.2,c.1,k _ _<|.int R m⟩
   | false=>rw [c] at m;exact (show False from m).elim
  ·exact m.elim
 ·exact m.elim
theorem zbK (hu:X.A.units+30<Kq)(ho:DE X o mo)(ha:Jv X [e] ma)
  (hbase:S5 o "count" X.env (eval o X.env)=eval o X.env:=by rfl)
  (hfew:((K5 cpos (Fx [e] X.env)).all (fun x=>!x.1)&&(backToKw cpos (TQ [] X.env)).all (fun x=>x.1.isSome)
   && decide (([e]:List Expr).length+([]:List Nx).length+(if ([]:List Nx).isEmpty then 0 else 1)<30))=true:=by rfl)
  (hline:(apos.endLine==cpos.line)=true:=by rfl) (hst:Fx [e] X.env=(false,eval e X.env)::Fx [] X.env:=by rfl) (hplain:(K5 cpos (Fx [] X.env)).any (·.1)=false:=by rfl) :
  DE X (.Call (.Attribute o "count" apos) [e] [] cpos) (aaA yx mo ma):=(XD PySem.F.plainAttrs_list PySem.F.slot_list_count PySem.F.type_list_count (zbA hu) ho ha hbase hfew hline hst hplain).of fun σ H Q ⟨μ,h,σw,Qw,R,S,m,k⟩=>by
 refine ⟨μ,h,σw,_,R,S,m,fun v H1 ⟨μ1,w,h1,e1,R1,r1,il⟩=>⟨(Ab R1 r1 il).1,?_⟩⟩;have m1:=(Ab R1 r1 il).2;exact ⟨μ1,h1,σw,_,R1,S.ext e1,m1,fun vs H2 ⟨μ2,ws,h2,e2,R2,r2,m2⟩=>ahe R2 (e2.r _ _ r1) r2 m2 fun v H' z=>k _ _<|(z.trans e2).trans e1⟩
end
section
variable {X:Cx}{elt iter tg:Expr}{ifs:List Expr}{scope:Scope}{pos:Pos}{xs:List Str}{mi:MI}{tt:MT}{te:ME}
end
section
variable {X:Cx}{Γ : St->Prop}{e:Expr}{es:List Expr}{pos:Pos}
variable {mr:BK->MA}
end
section
variable {X:Cx}{K:Ad}{H:Hp}{pins:List (Addr×Obj)}{s:AP}{σ : St}
theorem Ik {α β : Type}{p:α->Bool}{q:β->Bool}:∀ {xs:List α} {ys:List β},xs.length=ys.length->(∀ a b,(a,b)∈xs.zip ys->p a=q b)->xs.any p=ys.any q
 | [],[],_,_=>rfl
 | [],_::_,h,_=>by cases h
 | _::_,[],h,_=>by cases h
 | a::xs,b::ys,h,e=>by
  rw [T4,T4,Ik (Nat.succ.inj h) fun a' b' m=>e a' b' (by rw [Ti];exact Nh _ m),e a b (by rw [Ti];exact Nb)]
theorem agR (I:Ac X pins σ H s){us:List W}{xs:List V}{its:List JI}{w:W}{y:V}{b:JI}(hd:Ip X.K H us xs)(r:BL xs its)(hw:Dt X.K H w y)(rb:RelV y b)(pl1:us.all (Ft 20)=true)(pl2:Ft 20 w=true){A:FT}(hu:A.units+20<Kq) :
  ∃ ev:JI->Bool,(∀ a,a∈its->Ru A s a b (ev a))/\its.any ev=us.any (fun u=>FJ u w):=by
 have hl:its.length=us.length:=by rw [<-r.length,hd.len]
 let ev:JI->Bool:=fun a=>@decide (∃ u,(a,u)∈its.zip us/\FJ u w=true) (Tz _)
 have hev:∀ a u,(a,u)∈its.zip us->ev a=FJ u w:=by
  intro a u m;cases c:FJ u w with
  | true=>exact (@decide_eq_true_iff _ (Tz _)).mpr ⟨u,m,c⟩
  | false=>
   refine (@decide_eq_false_iff_not _ (Tz _)).mpr fun ⟨u2,m2,c2⟩=>?_;obtain ⟨v1,r1,d1,_⟩:=uc hd r a u m;obtain ⟨v2,r2,d2,_⟩:=uc hd r a u2 m2;have ev:v1=v2:=r1.inj r2;subst ev;rw [Bq I d1 d2,c2] at c;cases c
 refine ⟨ev,fun a ha=>?_,Ik hl hev⟩;obtain ⟨u,m⟩:=oU hl a ha;obtain ⟨v,r1,d1,mu⟩:=uc hd r a u m;rw [hev a u m];exact Uk I 20 hu d1 hw (MP.mp pl1 u mu) pl2 r1 rb
def ada (K:Ad)(neg:Bool):R2:=fun x y H Q=>∃ p xs us w,y=.ref p/\Io K H p xs/\Ip K H us xs/\Dt K H w x/\us.all (Ft 20)=true/\Ft 20 w=true/\Q (.bl (if neg then !(us.any fun u=>FJ u w) else us.any fun u=>FJ u w)) H
theorem agQ (hu:X.A.units+30<Kq):JC X (Jc .NotIn) (ada X.K true):=by
 intro pins s σ H x y v u Q I rx ry h;obtain ⟨p,xs,us,w,rfl,hq,hd,hw,p1,p2,q⟩:=h;cases ry;obtain ⟨its,r,pl,hz⟩:=I.list hq;obtain ⟨ev,he,ea⟩:=agR I hd r hw rx p1 p2 (A:=X.A.in1) (by show X.A.units+1+20<Kq;lia);refine SeqAt.notIn_listAt ev pl.isList (fun w hw=>he w<|by simpa using hw) ⟨.bl _,H,I,rfl,?_⟩;rw [show its.toArray.any ev=its.any ev by simp,ea];exact q
def Ow:M2:=fun x y h Q=>match dH h y with
 | some us=>Hy (Ft 20 x&&us.all (Ft 20)) (Q (.bl (!(us.any fun u=>FJ u x))) h) False
 | none=>False
theorem Y7 (hu:X.A.units+30<Kq):LR X (Jc .NotIn) Ow:=⟨_,agQ hu,by
 intro H μ h x y wx wy Qw Q R rx ry m k;unfold Ow at m;split at m
 ·rename_i us eu;obtain ⟨p,xs,ex,hs,rr⟩:=cF R ry eu;cases c:(Ft 20 wx&&us.all (Ft 20)) with
  | true=>
   rw [c] at m;rw [MN] at c;exact ⟨p,xs,us,wx,ex,hs,vI (Gx 20) rr c.2,Gx 20 rx c.1,c.2,c.1,k _ _<|.bl R m⟩
  | false=>rw [c] at m;exact (show False from m).elim
 ·exact m.elim⟩
end
section
variable {X:Cx}{K:Ad}{H:Hp}{μ : Mu}{h:Gh}
end
section
variable {X:Cx}{K:Ad}{o e e':Expr}{mo:ME}{ma:MA}{apos cpos:Pos}
end
def RX (m:Nat):List Nat:=(M5 8).filter fun j=>m.testBit j
def rk (m j:Nat):Nat:=((M5 j).filter fun i=>m.testBit i).length
def pq (h:Int):Nat->Nat×Nat
 | 0=>(T5 h % 8,T5 h)
 | n+1=>SetTable.leap 7 (pq h n).1 (pq h n).2
def pb (h:Int)(n:Nat):SetTable.Probe:=⟨(pq h n).1,0,(pq h n).1,(pq h n).2,FN⟩
theorem Iw (h:Int):∀ n,(pq h n).2=T5 h / 32^n
 | 0=>by simp [pq]
 | n+1=>by
  show (pq h n).2 / 32=_;rw [Iw h n,Nat.div_div_eq_div_mul,Nat.pow_succ]
theorem zbL (h:Int)(n:Nat)(hn:13<=n):(pq h n).2=0:=by
 rw [Iw];apply Nat.div_eq_of_lt;have h1:T5 h<2^64:=by
  unfold T5;have a:=Int.emod_lt_of_pos h (show (0:Int)<2^64 by decide);have b:=Int.emod_nonneg h (show (2^64:Int)≠0 by decide);lia
 have h2:32^13<=32^n:=Nat.pow_le_pow_right (by decide) hn;have h3:(2:Nat)^64<32^13:=by decide
 lia
def lcg:Nat->Nat->Nat
 | i,0=>i
 | i,k+1=>(lcg i k*5+1) % 8
theorem Py (h:Int):∀ k,(pq h (13+k)).1=lcg (pq h 13).1 k
 | 0=>rfl
 | k+1=>by
  show ((pq h (13+k)).1*5+1+(pq h (13+k)).2 / 32) % (7+1)=_;rw [zbL h _ (by lia),Py h k];rfl
theorem least {P:Nat->Bool}:∀ (B:Nat),(∃ n,n<B/\P n=true)->∃ N,N<B/\P N=true/\∀ n,n<N->P n=false
 | 0,⟨n,h,_⟩=>absurd h (Nat.not_lt_zero _)
 | B+1,⟨n,h,e⟩=>by
  by_cases q:∃ n,n<B/\P n=true
  ·obtain ⟨N,a,b,c⟩:=least B q;exact ⟨N,by lia,b,c⟩
  ·refine ⟨n,h,e,fun i hi=>?_⟩;cases r:P i with
   | false=>rfl
   | true=>exact absurd ⟨i,by lia,r⟩ q
section
variable {prog:FQ}{w:Cm}{A:FT}{E:JI->AP->Prop}{s:AP}{m:Nat}{ka:Nat->List Int}{ad:Nat->Addr}{t:Ux}{a b:Addr}{k:List Int}
abbrev afG (prog:FQ)(w:Cm)(h:Heap)(k:List Int)(a:Addr):Prop:=IsTupleKey (intKind prog w) h k a
def hT (prog:FQ)(w:Cm)(k:List Int):Int:=tupleKeyHash (intKind prog w) k
def elL (prog:FQ)(w:Cm)(m:Nat)(ka:Nat->List Int)(ad:Nat->Addr):List (Int×JI):=(RX m).map fun j=>(hT prog w (ka j),Value.ref (ad j))
structure adH (prog:FQ) (w:Cm) (h:Heap) (m:Nat) (ka:Nat->List Int) (ad:Nat->Addr) (t:Ux):Prop where
 mask:t.mask=7
 place:t.place=(RX m).toArray
 dum:t.dummies = #[]
 m8:m<256
 few:(RX m).length<=4
 key:∀ j,j∈RX m->afG prog w h (ka j) (ad j)
 way:∀ j,j∈RX m->∃ n,(pq (hT prog w (ka j)) n).1=j/\∀ i,i<n->m.testBit (pq (hT prog w (ka j)) i).1=true
def ac2 (es:Array (Int×JI))(ep:Nat)(t:Ux):Obj:={ cls:=.type "set",dict:=FN,data:=.set es ep t }
def Wd (prog:FQ)(w:Cm)(h:Heap)(a:Addr)(m:Nat)(ka:Nat->List Int)(ad:Nat->Addr):Prop:=∃ ep t,h.get? a=Dn (ac2 (elL prog w m ka ad).toArray ep t)/\adH prog w h m ka ad t
end
section
variable {prog:FQ}{w:Cm}{A:FT}{E:JI->AP->Prop}{R:Result->AP->Prop}
structure adG (prog:FQ) (w:Cm) (z:Nat) (h:Heap) (S:Addr) (seen:List (List Int)) (m:Nat) (ka:Nat->List Int) (ad:Nat->Addr):Prop where
 set:Wd prog w h S m ka ad
 low:∀ j,j∈RX m->ad j<z
 mem:∀ k,k∈seen↔∃ j,j∈RX m/\ka j=k
 len:(RX m).length=seen.length
end
section
variable {prog:FQ}{w:Cm}{A:FT}{E:JI->AP->Prop}{s:AP}
end
section
variable {X:Cx}{K:Ad}
end
section
variable {κ : Type} [DecidableEq κ]
end
section
variable {P:FQ}{w:Cm}{H:Hp}{h:Heap}{a:Addr}
end
section
variable {X:Cx}{pins:List (Addr×Obj)}{σ : St}{H:Hp}{s:AP}{a:Addr}{y v:V}{u r:JI}{o:Option V}{A:FT}{E:JI->AP->Prop}
end
section
variable {X:Cx}{pins:List (Addr×Obj)}{σ : St}{H:Hp}{s:AP}{a:Addr}{kvs:List (Key×V)}{k:Key}{u:JI}{A:FT}{E:JI->AP->Prop}
end
section
variable {X:Cx}{o i e value:Expr}{pos pos' tpos:Pos}{td ty tv:TE}
end
section
variable {X:Cx}{pos:Pos}
end
section
variable {K:Ad}{H:Hp}{μ : Mu}{kvs:List (Key×W)}{kvv:List (Key×V)}{k:Key}{w:W}{v:V}
end
section
variable {X:Cx}{a b:Expr}{ma mb:ME}{pos:Pos}
inductive DDs (X:Cx):List (Option Expr)->List Expr->List (Key×ME)->Prop
 | nil:DDs X [] [] []
 | cons {x:Str} {j pos} {v:Expr} {m:ME} {ks:List (Option Expr)} {vs:List Expr} {r:List (Key×ME)} (h:DE X v m) (t:DDs X ks vs r):DDs X (Dn (.Constant (.str x) j pos)::ks) (v::vs) ((.inr x,m)::r)
end
inductive aaT (w:Cm) (K:Ad):List DictEntry->List (Key×W)->Prop
 | nil:aaT w K [] []
 | cons {x:Str} {t} {v:V} {u:JI} {d:W} {es:List DictEntry} {tbl:List (Key×W)} (r:RelV v u) (q:∀ H μ,Aa K H μ d v) (h:aaT w K es tbl):aaT w K (⟨PyData.keyHash w.params x,.str x t,u⟩::es) ((.inr x,d)::tbl)
section
variable {X:Cx}{b:Expr}{mb:ME}{pos p:Pos}{x:Str}{a:Addr}{tbl:List (Key×W)}
end
section
variable {X:Cx}{pos p p':Pos}{x:Str}{a:Addr}{tbl:List (Key×W)}
end
section
variable {X:Cx}
end
section
variable {X:Cx}{K:Ad}{H:Hp}{μ : Mu}{h:Gh}
end
section
variable {X:Cx}{a b c:Expr}{ma mb mc:ME}{pos:Pos}
def KR (r r':M2)(ma mb mc:ME):ME:=fun σ h Q=>ma σ h fun x h1=>mb σ h1 fun y h2=>r x y h2 fun z h3=>match z with
 | .bl true=>mc σ h3 fun u h4=>r' y u h4 Q
 | .bl false=>Q (.bl false) h3
 | _=>False
theorem ahs {K:Ad}{σ : St}{H:Hp}{Q:VK}{r r':R2}{mr mr':M2}(s:aap K r mr)(s':aap K r' mr')(h:tD K (KR mr mr' ma mb mc) σ H Q):Q6 r r' (tD K ma) (tD K mb) (tD K mc) σ H Q:=by
 obtain ⟨μ,g,σw,Qw,R,S,m,q⟩:=h;refine ⟨μ,g,σw,_,R,S,m,fun x H1 ⟨μ1,wx,h1,e1,R1,r1,m1⟩=>?_⟩;refine ⟨μ1,h1,σw,_,R1,S.ext e1,m1,fun y H2 ⟨μ2,wy,h2,e2,R2,r2,m2⟩=>?_⟩;refine s R2 (e2.r _ _ r1) r2 m2 fun z H3 ⟨μ3,wz,h3,e3,R3,r3,m3⟩=>?_;cases wz with
 | bl k=>
  rw [Aa] at r3;refine ⟨k,r3,?_⟩;cases k with
  | true=>
   rw [if_pos rfl];refine ⟨μ3,h3,σw,_,R3,((S.ext e1).ext e2).ext e3,m3,fun u H4 ⟨μ4,wu,h4,e4,R4,r4,m4⟩=>?_⟩;exact s' R4 (e4.r _ _<|e3.r _ _ r2) r4 m4 fun v H' z=>q _ _<|(((z.trans e4).trans e3).trans e2).trans e1
  | false=>
   rw [if_neg (by decide)];exact q _ _ ⟨μ3,.bl false,h3,(e1.trans e2).trans e3,R3,by rw [Aa],m3⟩
 | _=>exact (show False from m3).elim
theorem zbt {op op':CmpOp}{mr mr':M2}(ho:LR X (Jc op) mr)(ho':LR X (Jc op') mr')(ha:DE X a ma)(hb:DE X b mb)(hc:DE X c mc)(hm:lastMarks [op,op'] [b,c]=false):DT X (.Compare a [op,op'] [b,c] pos) (aR (KR mr mr' ma mb mc)):=by
 obtain ⟨r,o,s⟩:=ho;obtain ⟨r',o',s'⟩:=ho';exact (afz o o' ha hb hc hm).of fun σ H Q h=>ahs s s'<|Ho h
end
section
variable {K:Ad}{H:Hp}{μ : Mu}{fs:List (Str×W)}{fvs:List (Str×V)}{f:Str}{w:W}{v:V}
end
section
variable {X:Cx}{e o value:Expr}{es:List Expr}{ma mo mv:ME}{mr:MA}{f:Str}{C:Addr}{pos pos' apos:Pos}
end
section
variable {prog:FQ}{w:Cm}{A:FT}{E:JI->AP->Prop}{s:AP}
end
section
variable {X:Cx}
end
section
variable {X:Cx}{e:Expr}{me:ME}{x:Str}{a:Addr}{tbl:List (Key×W)}{p pos:Pos}
end
section
variable {X:Cx}{Γ : St->Prop}{C:Addr}{o e:Expr}{es:List Expr}{mo:ME}{mr:MA}{pos apos:Pos}
end
section
variable {X:Cx}{pins:List (Addr×Obj)}{σ : St}{H:Hp}{s:AP}{K:Ad}{μ : Mu}
end
section
variable {X:Cx}{a b o i:Expr}{ma mb:ME}{td ty:TE}{pos:Pos}
end
section
variable {prog:FQ}{w:Cm}{A:FT}{E:JI->AP->Prop}{s:AP}
end
section
variable {X:Cx}
end
def ps (h:Int):Nat->Nat×Nat
 | 0=>(T5 h % 32,T5 h)
 | n+1=>SetTable.leap 31 (ps h n).1 (ps h n).2
def liv (o:Array (Option Nat)):List (Nat×Nat):=(M5 32).filterMap fun j=>(o.getD j FN).map (j,·)
structure Lay (o:Array (Option Nat)) (k:Nat):Prop where
 sz:o.size=32
 len:(liv o).length=k
 low:∀ p,p∈liv o->p.2<k
section
variable {prog:FQ}{w:Cm}{A:FT}{E:JI->AP->Prop}{s:AP}{a:Addr}
end
section
variable {prog:FQ}{w:Cm}{A:FT}{E:JI->AP->Prop}{s:AP}{m:Nat}{ka:Nat->List Int}{ad:Nat->Addr}{t:Ux}{a b:Addr}{k:List Int}
end
section
variable {prog:FQ}{w:Cm}{A:FT}{E:JI->AP->Prop}{R:Result->AP->Prop}
end
section
variable {prog:FQ}{w:Cm}{A:FT}{E:JI->AP->Prop}{s:AP}
end
section
variable {X:Cx}{K:Ad}
end
section
variable {X:Cx}{K:Ad}{o e:Expr}{mo:ME}{apos cpos:Pos}
end
section
variable {prog:FQ}{w:Cm}{A:FT}{s:AP}{K:Ad}{x C:Addr}{R:Result->AP->Prop}
end
section
variable {prog:FQ}{w:Cm}{A:FT}{E:JI->AP->Prop}{s:AP}{K:Ad}{x dx C f:Addr}{mA:Str->Option JI}{name:Str}{v:JI}
end
section
variable {prog:FQ}{w:Cm}{A:FT}{E:JI->AP->Prop}{s:AP}{K:Ad}{x D:Addr}{ox:Obj}
end
section
variable {prog:FQ}{w:Cm}{A:FT}{E:JI->AP->Prop}{h:Heap}{g:Array GenState}{d:Drawn}{t:Nat}{os:OsState}
variable {nm q:Str}{C N:Addr}{bs bm bmB:List JI}{hdct:Bool}{sn:List Str}{sub:List JI}{ab:Bool}{col:Option Bool}{dd:Option Addr}{k0 k1 k2 k3 k5:Option JI}{B newId initId:String}{K:Ad}{f:Addr}
end
section
variable {prog:FQ}{w:Cm}{M:Model}{A:FT}{E:JI->AP->Prop}{s:AP}{env:Env}{K:Ad}{f:Addr}
variable {nm q:Str}{C N:Addr}{bs bm bmB:List JI}{hdct:Bool}{sn:List Str}{sub:List JI}{ab:Bool}{col:Option Bool}{dd:Option Addr}{k0 k1 k2 k3 k5:Option JI}{B newId initId:String}
end
section
variable {X:Cx}{o value:Expr}{f:Str}{C:Addr}{pos pos':Pos}{ta tv:TE}
end
section
variable {X:Cx}{pins:List (Addr×Obj)}{σ : St}{H:Hp}{s:AP}{e:Addr}
end
section
variable {X:Cx}{pins:List (Addr×Obj)}{σ : St}{H:Hp}{s:AP}{C fi:Addr}{x f:Str}{np cpos pos:Pos}{e:Expr}{t:TA}{k:Nat}{fd:Le}{ps:List Str}
end
section
variable {X:Cx}{Γ : St->Prop}{e:Expr}{pos:Pos}{ma:ME}
end
section
variable {X:Cx}{e:Expr}{f:Str}{pos:Pos}{ma:ME}
end
section
variable {X:Cx}
end
section
variable {X:Cx}{Γ : St->Prop}{tg:Expr}
end
section
variable {X:Cx}{K:Ad}
def enW:Nat->List W->List W
 | _,[]=>[]
 | i,a::as=>.tup [.int (i:Int),a]::enW (i+1) as
def enS (h:Gh)(x:W):Option Src:=match x with
 | .lst as=>Dn ⟨enW 0 as,FN⟩
 | .kls as=>Dn ⟨enW 0 as,FN⟩
 | .loc n=>(match h.c n with
  | some (.lst as)=>Dn ⟨enW 0 as,Dn (n,as)⟩
  | _=>FN)
 | _=>FN
end
section
variable {X:Cx}{mr:MA}{pos p:Pos}{e:Expr}{es:List Expr}{k:Nat}{fs:List (Addr×kI)}
theorem aaD {x:Str}{f:Addr}(i:Nat)(hg:Gl X x)(hm:X.mg x=Dn (.ref f))(hd:(x==("__debug__" : Str))=false:=by decide):DE X (.Name x p) (mC (.fnv f i)):=
 dc (Jg (v:=.ref f) hg hm rfl hd) fun _ _=>by rw [Aa]
inductive OJ (X:Cx) (k:Nat):List (Addr×kI)->Prop
 | nil:OJ X k []
 | cons {f:Addr} {fd:Le} {ps:List Str} {ms:kI} {fs:List (Addr×kI)} (F:qJ X.prog X.w X.K X.mg X.base M4 k f fd ps (lift X.K ms)) (hk:Nk X.K (.ref f)=true) (hb:Binds X.K fd ps []) (r:OJ X k fs):OJ X k ((f,ms)::fs)
theorem OJ.get:∀ {fs:List (Addr×kI)} {j:Nat} {f:Addr} {ms:kI},OJ X k fs->fs[j]?=Dn (f,ms) ->
  ∃ fd ps,qJ X.prog X.w X.K X.mg X.base M4 k f fd ps (lift X.K ms)/\Nk X.K (.ref f)=true/\Binds X.K fd ps []
 | [],_,_,_,_,e=>by simp at e
 | _::_,0,_,_,.cons F hk hb _,e=>by
  simp at e;obtain ⟨rfl,rfl⟩:=e;exact ⟨_,_,F,hk,hb⟩
 | _::_,j+1,_,_,.cons _ _ _ r,e=>OJ.get (j:=j) r (by simpa using e)
def vO (fs:List (Addr×kI))(i:Nat)(ma:MA):ME:=fun σ h Q=>match σ[i]? with
 | some (Dn (.fnv f j))=>(match fs[j]? with
  | some x=>f=x.1/\ma σ h fun ws h1=>x.2 ws h1 Q EF
  | none=>False)
 | _=>False
theorem agb {i:Nat}{x:Str}(F:OJ X k fs)(hr:mK k X.A)(hN:PE X (.Name x p) (Yg i))(ha:Jv X (e::es) mr)(he:Fx (e::es) X.env=(false,eval e X.env)::Fx es X.env:=by rfl)(hpl:(K5 pos (Fx es X.env)).any (·.1)=false:=by rfl) :
  DE X (.Call (.Name x p) (e::es) [] pos) (vO fs i mr):=by
 intro pins s σ H Q I ⟨μ,g,σw,Qw,R,S,m,q⟩;unfold vO at m;split at m
 ·rename_i f j es';obtain ⟨v,ev,rv⟩:=S.get i _ es';rw [Aa] at rv;subst rv;split at m
  ·rename_i y ey;obtain ⟨rfl,m⟩:=m;obtain ⟨fd,ps,F,hk,hb⟩:=F.get (f:=y.1) (ms:=y.2) ey;refine T6<|G6 (hN pins s σ H (fun v H1=>v=.ref y.1/\H1=H) I ⟨_,ev,rfl,rfl⟩) fun u s1 ⟨v,H1,I1,ru,e1,e2⟩=>?_
   subst e1 e2;obtain rfl:u=Value.ref y.1:=ru;refine PySem.W.callWith_K (h₀:=X.base) I1.ok.mod.kin hk (G6 (ha pos pins s1 σ H1 _ I1<|call_of (E:=E0) (ms:=y.2) ⟨μ,g,σw,Qw,R,S,m,q⟩) fun us s2 ⟨vs,H2,I2,r,q2⟩=>⟨I2.kIn,?_⟩) he hpl;exact Je F hr hb .nil Rj I2 r q2
  ·exact m.elim
 ·exact m.elim
end
def Cmp (P:FQ)(w:Cm)(A:FT)(s:AP)(kd:Ri)(rk:JI->Nat)(good:JI->Prop):Prop:=
 ∀ (E:JI->AP->Prop) (Q:Bool->AP->Prop) (x y:JI),good x->good y->Q (decide (rk x<rk y)) s->CR (FP P w) A (keyLt' kd x y) Q E s
section
variable {P:FQ}{w:Cm}{A:FT}{E:JI->AP->Prop}{s:AP}{kd:Ri}{rk:JI->Nat}{good:JI->Prop}
def Rk (rk:JI->Nat)(a:Array Ku)(i:Nat):Nat:=match a[i]? with
 | some p=>rk p.1
 | none=>0
def Hj (rk:JI->Nat)(a:Array Ku)(i j:Nat):Prop:=∀ p q,i<=p->p<q->q<j->Rk rk a p<Rk rk a q
structure Keys (rk:JI->Nat) (good:JI->Prop) (a:Array Ku):Prop where
 good:∀ p∈a.toList,good p.1
 nd:(a.toList.map fun p=>rk p.1).Nodup
structure SOk (kd:Ri) (rk:JI->Nat) (good:JI->Prop) (st:N8):Prop where
 kind:MH st=kd
 failed:failedOf st=FN
 keys:Keys rk good (arrOf st)
theorem w_lt (C:Cmp P w A s kd rk good){x y:Ku}{st:N8}{Q:Option Bool->N8->Prop}(hk:MH st=kd)(hx:good x.1)(hy:good y.1)(q:Q (Dn (decide (rk x.1<rk y.1))) st):wpS (FP P w) A E s (lt' x y) Q st:=by
 rw [lt'_eq];refine wpS_bind<|wpS_get ?_
 rw [hk];exact wpS_bind<|wpS_lift<|T3<|C _ _ _ _ hx hy ⟨rfl,wpS_pure q⟩
structure Within (a b:Array Ku) (lo hi:Nat):Prop where
 perm:b.Perm a
 out:∀ k,k<lo\/hi<=k->b[k]?=a[k]?
end
section
variable {P:FQ}{w:Cm}{A:FT}{E:JI->AP->Prop}{s:AP}{d it:Addr}{es:Array DictEntry}{ep i:Nat}
end
section
variable {P:FQ}{w:Cm}{A:FT}{E:JI->AP->Prop}{s:AP}{kd:Ri}{rk:JI->Nat}{good:JI->Prop}
structure adZ (B:Nat->Bool) (n:Nat) (st:N8) (x:Nat) (c:Option (Option Nat)×Nat×Nat) (st':N8):Prop where
 s:st'=st
 e:c.1=FN
 a:c.2.1<=c.2.2
 b:c.2.2<=n
 d:c.2.2 - c.2.1<=n - x
 lo:∀ i,i<c.2.1->B i=true
 hi:∀ i,c.2.2<=i->i<n->B i=false
structure ad0 (B:Nat->Bool) (v:Bool) (mx:Nat) (st:N8) (x:Nat) (c:Option (Option Nat)×Nat×Nat) (st':N8):Prop where
 s:st'=st
 e:c.1=FN
 a:c.2.1<c.2.2
 b:x<c.2.2
 d:c.2.1<mx
 h:B c.2.1=v
end
section
variable {rk:JI->Nat}
def SL (rk:JI->Nat)(l:List Ku):Prop:=l.Pairwise fun x y=>rk x.1<rk y.1
def Be (rk:JI->Nat)(xs ys:List Ku):Prop:=∀ x∈xs,∀ y∈ys,rk x.1<rk y.1
def afY (rk:JI->Nat)(A B out al bl:List Ku):Prop:=∃ a1 b1,A=a1++al/\B=b1++bl/\out.Perm (a1++b1)/\SL rk out/\Be rk out al/\Be rk out bl
def Mrg (rk:JI->Nat)(A B r:List Ku):Prop:=r.Perm (A++B)/\SL rk r
end
section
variable {P:FQ}{w:Cm}{A:FT}{E:JI->AP->Prop}{s:AP}{kd:Ri}{rk:JI->Nat}{good:JI->Prop}
def U7 (st st':N8):Prop:=arrOf st'=arrOf st/\MH st'=MH st/\failedOf st'=failedOf st/\pendingOf st'=pendingOf st
structure Two (rk:JI->Nat) (good:JI->Prop) (a b:Array Ku):Prop where
 sa:SL rk a.toList
 sb:SL rk b.toList
 ga:∀ p∈a.toList,good p.1
 gb:∀ p∈b.toList,good p.1
 ne:∀ x∈a.toList,∀ y∈b.toList,rk x.1≠rk y.1
structure zbb (rk:JI->Nat) (a b out:Array Ku) (ia ib:Nat):Prop where
 ml:afY rk a.toList b.toList out.toList (a.toList.drop ia) (b.toList.drop ib)
 ia:ia+1<a.size
 ib:ib<b.size
structure Go (rk:JI->Nat) (a b:Array Ku) (st:N8) (n:Nat) {β : Type} (c:Option (Array Ku)×Array Ku×Nat×Nat×β) (st':N8):Prop where
 sm:U7 st st'
 e:c.1=FN
 li:zbb rk a b c.2.1 c.2.2.1 c.2.2.2.1
 le:n<=c.2.2.1+c.2.2.2.1
structure zaa (rk:JI->Nat) (a b:Array Ku) (st:N8) {β : Type} (c:Option (Array Ku)×β) (st':N8):Prop where
 sm:U7 st st'
 r:∃ l,c.1=Dn l/\Mrg rk a.toList b.toList l.toList
end
section
variable {rk:JI->Nat}
def ahc (rk:JI->Nat)(A B o ah bh:List Ku):Prop:=∃ a2 b2,A=ah++a2/\B=bh++b2/\o.Perm (a2++b2)/\SL rk o/\Be rk ah o/\Be rk bh o
end
section
variable {P:FQ}{w:Cm}{A:FT}{E:JI->AP->Prop}{s:AP}{kd:Ri}{rk:JI->Nat}{good:JI->Prop}
structure zaG (rk:JI->Nat) (a b out:Array Ku) (na nb:Nat):Prop where
 mh:ahc rk a.toList b.toList out.toList.reverse (a.toList.take na) (b.toList.take nb)
 pa:0<na
 pb:1<nb
 la:na<=a.size
 lb:nb<=b.size
structure GoH (rk:JI->Nat) (a b:Array Ku) (st:N8) (n:Nat) {β : Type} (c:Option (Array Ku)×Nat×Nat×Array Ku×β) (st':N8):Prop where
 sm:U7 st st'
 e:c.1=FN
 li:zaG rk a b c.2.2.2.1 c.2.1 c.2.2.1
 le:c.2.1+c.2.2.1+n<=a.size+b.size
structure Runs (rk:JI->Nat) (a:Array Ku) (sa k sb n' e:Nat):Prop where
 h1:sa+k<=sb
 h2:sb+n'<=e
 h3:e<=a.size
 r1:Hj rk a sa sb
 r2:Hj rk a sb e
 lo:∀ p,sa<=p->p<sa+k->Rk rk a p<Rk rk a sb
 hi:∀ p,sb+n'<=p->p<e->Rk rk a (sb - 1)<Rk rk a p
def Cont (rk:JI->Nat)(a:Array Ku):List (Nat×Nat×Nat)->Nat->Nat->Prop
 | [],i,j=>i=j
 | (s,n,_)::r,i,j=>s=i/\0<n/\Hj rk a i (i+n)/\Cont rk a r (i+n) j
structure aec (kd:Ri) (rk:JI->Nat) (good:JI->Prop) (a0:Array Ku) (lo:Nat) (st:N8):Prop where
 ok:SOk kd rk good st
 perm:(arrOf st).Perm a0
 cont:Cont rk (arrOf st) (pendingOf st).toList 0 lo
end
section
variable {P:FQ}{w:Cm}{A:FT}{E:JI->AP->Prop}{s:AP}
def rankOf (ks:List (List Int))(k:List Int):Nat:=ks.countP fun l=>decide (l<k)
structure KyT (T:Heap->JI->List Int->Prop):Prop where
 fn:∀ {h:Heap} {v:JI} {k l:List Int},T h v k->T h v l->k=l
 of:∀ {h h':Heap} {v:JI} {k:List Int},T h v k->(∀ b o,o.cls=.type "tuple"->h.get? b=Dn o->h'.get? b=Dn o)->T h' v k
abbrev PdT (T:Heap->JI->List Int->Prop)(h:Heap):List (List Int)->List JI->Prop:=Sq fun k v=>T h v k
section
variable {T:Heap->JI->List Int->Prop}(F:KyT T)
include F
open Classical in
noncomputable def keyV (_:KyT T)(h:Heap)(v:JI):List Int:=if e:∃ k,T h v k then e.choose else []
noncomputable def rkV (F:KyT T)(h:Heap)(ks:List (List Int))(v:JI):Nat:=rankOf ks (keyV F h v)
end
structure SkT (P:FQ) (w:Cm) (A:FT) {T:Heap->JI->List Int->Prop} (F:KyT T) (kd:Ri) (ks:List (List Int)) (vs:List JI):Prop where
 kind:∀ {E:JI->AP->Prop} {s:AP} {Q:Ri->AP->Prop},2<=vs.length->PdT T s.heap ks vs->Q kd s->CR (FP P w) A (keyKind' vs.toArray) Q E s
 cmp:∀ {s:AP},PdT T s.heap ks vs->Cmp P w A s kd (rkV F s.heap ks) (·∈vs)
end
section
variable {X:Cx}{K:Ad}
end
section
variable {X:Cx}{o e1 e2:Expr}{mo:ME}{ma:MA}{apos cpos:Pos}
end
section
variable {X:Cx}{K:Ad}
variable {o e:Expr}{mo:ME}{ma:MA}{apos cpos:Pos}
end
section
variable {prog:FQ}{w:Cm}{A:FT}{R:Result->AP->Prop}{E:JI->AP->Prop}{L I:Addr}{ns:List Int}{its:List JI}
end
section
variable {X:Cx}
end
section
open AutoSeq1 (wpAny_loadPart')
end
section
variable {prog:FQ}{w:Cm}{A:FT}{E:JI->AP->Prop}{s:AP}
end
section
variable {X:Cx}{K:Ad}
end
section
variable {prog:FQ}{w:Cm}{A:FT}{R:Result->AP->Prop}{L I:Addr}{its:List JI}
end
section
variable {X:Cx}{K:Ad}
def aaW (h:Gh)(x y:W):Option Src:=match uq x,y with
 | some as,.loc n=>(match h.c n with
  | some (.lst bs)=>Dn ⟨rm as bs,Dn (n,bs)⟩
  | _=>FN)
 | _,_=>FN
end
section
variable {X:Cx}
end
section
variable {prog:FQ}{w:Cm}{A:FT}{E:JI->AP->Prop}{s:AP}
end
section
variable {X:Cx}{K:Ad}
end
section
variable {prog:FQ}{w:Cm}{A:FT}{E:JI->AP->Prop}{s:AP}{r l:Addr}{items:Array JI}
end
section
variable {X:Cx}
end
section
variable {P:FQ}{w:Cm}{A:FT}{E:JI->AP->Prop}{s:AP}
end
section
variable {X:Cx}{K:Ad}
end
section
variable {X:Cx}{o e1 e2:Expr}{mo:ME}{ma:MA}{apos cpos:Pos}
end
section
variable {prog:FQ}{w:Cm}{A:FT}{R:Result->AP->Prop}{E:JI->AP->Prop}{L I:Addr}{ns:List Int}{its:List JI}
end
section
variable {X:Cx}
end
section
variable {X:Cx}{a b o i:Expr}{ma mb:ME}{td ty:TE}{pos:Pos}
end
section
variable {P:FQ}{w:Cm}{A:FT}{E:JI->AP->Prop}{s:AP}
end
section
variable {X:Cx}
end
def Fk (P:FQ)(w:Cm)(K:Ad)(mg:Str->Option JI)(base:Heap)(k:Nat)(x:Str)(ms:kI):Prop:=∃ f fd ps,qJ P w K mg base M4 k f fd ps (lift K ms)/\mg x=Dn (.ref f)/\Nk K (.ref f)=true/\Binds K fd ps []
def At (K:Ad)(mg:Str->Option JI)(x:Str)(st:Stmt)(ps:List Str):Prop:=∃ f fd,Rx K x x st f fd/\mg x=Dn (.ref f)/\Binds K fd ps []
section
variable {X:Cx}{e e2 e3 e4:Expr}{es:List Expr}{mr:MA}{ma mb mc md:ME}{pos:Pos}{k:Nat}{zl:List Str}{x:Str}{p:Pos}
theorem vV (i:Nat)(hN:X.N[i]?=Dn x:=by with_unfolding_all rfl)(hv:Vis X.env.scope x:=by with_unfolding_all first | exact Or.inl rfl | exact Or.inr (Or.inl rfl) | exact Or.inr (Or.inr rfl))(hd:(x==("__debug__" : Str))=false:=by decide)(hcd:(x==("__classdict__" : Str))=false:=by decide):DE X (.Name x pos) (ak i):=dv i (pv i hN hv hd hcd)
theorem aC (h1:DE X e ma)(h2:Jv X es mr)(s:G7 e=false:=by with_unfolding_all rfl):Jv X (e::es) (aj ma mr):=agJ h1 h2 (cC s)
theorem a1 (h1:DE X e ma)(s:G7 e=false:=by with_unfolding_all rfl):Jv X [e] (aj ma aF):=aC h1 qC s
theorem a2 (h1:DE X e ma)(h2:DE X e2 mb)(s1:G7 e=false:=by with_unfolding_all rfl)(s2:G7 e2=false:=by with_unfolding_all rfl):Jv X [e,e2] (aj ma (aj mb aF)):=aC h1 (a1 h2 s2) s1
theorem a3 (h1:DE X e ma)(h2:DE X e2 mb)(h3:DE X e3 mc)(s1:G7 e=false:=by with_unfolding_all rfl)(s2:G7 e2=false:=by with_unfolding_all rfl)(s3:G7 e3=false:=by with_unfolding_all rfl):Jv X [e,e2,e3] (aj ma (aj mb (aj mc aF))):=aC h1 (a2 h2 h3 s2 s3) s1
theorem Af {j:Nat}{ms:kI}(F:Fk X.prog X.w X.K X.mg X.base j x ms)(ha:Jv X (e::es) mr)(hr:mK k X.A:=by with_unfolding_all assumption)(hk:j<=k:=by decide)(hg:Gl X x:=by with_unfolding_all rfl)(hdb:(x==("__debug__" : Str))=false:=by decide)(h1:G7 e=false:=by with_unfolding_all rfl)(h2:noStar es=true:=by with_unfolding_all rfl) :
  DE X (.Call (.Name x p) (e::es) [] pos) (aD ms EF mr):=by
 obtain ⟨f,fd,ps,a,b,c,d⟩:=F;exact XH (a.mono hk) hr hg b c d ha hdb (cC h1)<|fZ h2
theorem Hx {id:String}{mc:MC}(hc:lq X (.builtin id) mc)(hv:RD x=Dn (.builtin id))(ha:Jv X (e::es) mr)(z:∀ n∈zl,X.mg n=FN:=by with_unfolding_all assumption)(hz:x∈zl:=by decide)(hg:Gl X x:=by with_unfolding_all rfl)(hn:x ≠ "__name__":=by decide)(hdb:(x==("__debug__" : Str))=false:=by decide)
  (h1:G7 e=false:=by with_unfolding_all rfl) (h2:noStar es=true:=by with_unfolding_all rfl):DE X (.Call (.Name x p) (e::es) [] pos) (Ge mc mr):=agx hc hg (z _ hz) hv ha hn hdb (cC h1) (fZ h2)
theorem dct {T:String}{mc:MC}(hc:lq X (.type T) mc)(hv:RD x=Dn (.type T))(ha:Jv X (e::es) mr)(z:∀ n∈zl,X.mg n=FN:=by with_unfolding_all assumption)(hz:x∈zl:=by decide)(hg:Gl X x:=by with_unfolding_all rfl)(hn:x ≠ "__name__":=by decide)(hdb:(x==("__debug__" : Str))=false:=by decide)
  (h1:G7 e=false:=by with_unfolding_all rfl) (h2:noStar es=true:=by with_unfolding_all rfl):DE X (.Call (.Name x p) (e::es) [] pos) (Ge mc mr):=aeS hc hg (z _ hz) hv ha hn hdb (cC h1) (fZ h2)
theorem FZ (i:Nat){pos':Pos}(he:DE X e ma)(hN:X.N.Nodup:=by with_unfolding_all assumption)(hi:X.N[i]?=Dn x:=by with_unfolding_all rfl)(hx:Loc X.env.scope x:=by with_unfolding_all first | exact Or.inl rfl | exact Or.inr rfl)(hs:swapsWith e (Dn (.Name x pos')) pos.line X.env=pure false:=by with_unfolding_all rfl)
  (hf:X.fn x=true\/X.env.scope.names.lookup x=Dn .local:=by with_unfolding_all first | exact .inl rfl | exact .inr rfl):DS X (.Assign [.Name x pos'] e pos) (aX ma (FX i)):=Zt hN hi hx he hs hf
theorem IK (i:Nat)(hN:X.N.Nodup:=by with_unfolding_all assumption)(hi:X.N[i]?=Dn x:=by with_unfolding_all rfl)(hx:Loc X.env.scope x:=by with_unfolding_all first | exact Or.inl rfl | exact Or.inr rfl)(hf:X.fn x=true\/X.env.scope.names.lookup x=Dn .local:=by with_unfolding_all first | exact .inl rfl | exact .inr rfl):DG X (.Name x pos) (FX i):=afI (wF hN hi hx hf)
theorem Bt {a b:Expr}(ha:DE X a ma)(hb:DE X b mb)(hs:Aq b:=by with_unfolding_all (intro _ _;rfl)):DE X (.Subscript a b pos) (Mk Bf ma mb):=adi ha hb hs
theorem Gd {a b:Expr}{op:CmpOp}{m2:M2}(ho:LR X (Jc op) m2)(ha:DE X a ma)(hb:DE X b mb)(hm:S6 op b=false:=by with_unfolding_all first | exact Qv _ | rfl):DT X (.Compare a [op] [b] pos) (aR (Mk m2 ma mb)):=Xp ho ha hb hm
theorem KC {a b:Expr}{op:CmpOp}{m2:M2}(ho:LR X (Jc op) m2)(ha:DE X a ma)(hb:DE X b mb)(hm:S6 op b=false:=by with_unfolding_all first | exact Qv _ | rfl):DE X (.Compare a [op] [b] pos) (Mk m2 ma mb):=abS ho ha hb hm
theorem dl1 {scope:Scope}{iter elt:Expr}{ifs:List Expr}{mi:MI}{tt:MT}{te:ME}(ix:List Nat)(hi:Ob X (.Name x p) iter mi)(ht:∀ C s H fp,Y9 (blk X scope (jC X [x] ix) C s H fp) ifs tt)(he:∀ C s H fp,DE (blk X scope (jC X [x] ix) C s H fp) elt te)(B:j7 X scope [x] ix:=by with_unfolding_all exact cD rfl)(hc:X.calm=true:=by with_unfolding_all assumption)
  (hs:∀ v,SM iter X.env v=pure v:=by with_unfolding_all (intro _;rfl)):DE X (.ListComp elt [⟨.Name x p,iter,ifs,0⟩] scope pos) (GQ Gs ix mi tt te):=acT ix hc B uM (uT B) hi ht he hs
theorem Mi {scope:Scope}{iter elt:Expr}{mi:MI}{te:ME}(ix:List Nat)(hi:Ob X (.Name x p) iter mi)(he:∀ C s H fp,DE (blk X scope (jC X [x] ix) C s H fp) elt te)(B:j7 X scope [x] ix:=by with_unfolding_all exact cD rfl)(hc:X.calm=true:=by with_unfolding_all assumption)
  (hs:∀ v,SM iter X.env v=pure v:=by with_unfolding_all (intro _;rfl)):DE X (.ListComp elt [⟨.Name x p,iter,[],0⟩] scope pos) (GQ Gs ix mi fH te):=dl1 ix hi (fun _ _ _ _=>jR) he B hc hs
theorem qq (hr:mK k X.A:=by with_unfolding_all assumption):X.A.units+30<Kq:=adI hr
theorem hh (hc:X.calm=true:=by with_unfolding_all assumption):X.calm=true:=hc
theorem N6 {a:Expr}{tg:Expr}(ha:Jv X [a] mr)(z:∀ n∈zl,X.mg n=FN:=by with_unfolding_all assumption)(hz:("range" : Str)∈zl:=by decide)(hg:Gl X "range":=by with_unfolding_all rfl)(hs:G7 a=false:=by with_unfolding_all rfl):Ob X tg (.Call (.Name "range" p) [a] [] pos) (dR mr):=zaR hg (z _ hz) ha (Pr hs)
end
theorem fk {P:FQ}{w:Cm}{K:Ad}{mg:Str->Option JI}{base:Heap}{x:Str}{st:Stmt}{ps zl:List Str}(N:List Str){k:Nat}{pure:Bool}{body:BK->MS}(T:At K mg x st ps)(z:∀ n∈zl,mg n=FN)
  (hb:∀ (f:Addr) (cdv:JI) (A:FT) (outer:List Env) (s:AP) (H:Hp) (E:XK),mK k (A.deeper (envOfC x (bU st) s.heap.objs.size f cdv))->N.Nodup->(Mr M4 P w K mg base N x (bU st) f cdv A outer s H E).nox.calm=true->(∀ n∈zl,mg n=FN)->R0 (Mr M4 P w K mg base N x (bU st) f cdv A outer s H E).nox (je st) (body EF))
  (S:pB N ps (bU st):=by exact ⟨rfl,rfl,rfl,by decide +kernel,rfl,by decide +kernel,by decide +kernel⟩) (hk:9<=k:=by decide):Fk P w K mg base (k+1) x (FW ps.length N.length pure body):=by
 obtain ⟨f,fd,F,m,b⟩:=T;exact ⟨f,fd,ps,acw F S fun cdv A outer s H E hr=>hb f cdv A outer s H E hr S.nd (hr.calm hk) z,m,F.kp,b⟩
section
variable {X:Cx}{e:Expr}{ma:ME}
end
section
variable {X:Cx}{o e1:Expr}{mo:ME}{ma:MA}{apos cpos:Pos}
end
section
variable {X:Cx}
end
section
variable {prog:FQ}{w:Cm}{A:FT}{E:JI->AP->Prop}{s:AP}
end
section
variable {X:Cx}{K:Ad}
end
section
variable {X:Cx}{Γ : St->Prop}{c:Expr}{t:MT}
end
section
variable {X:Cx}
variable {o e:Expr}{es:List Expr}{mo:ME}{ma:MA}{name:Str}{apos cpos:Pos}{id:String}{r:V->List V->Hp->VK->Prop}{mr:MM}
end
def M9 (P:FQ)(w:Cm)(K:Ad)(mg:Str->Option JI)(base:Heap)(k:Nat)(x:Str)(ms:kI)(f:Addr):Prop:=∃ fd ps,qJ P w K mg base M4 k f fd ps (lift K ms)/\mg x=Dn (.ref f)/\Nk K (.ref f)=true/\Binds K fd ps []
theorem Fk.at {P:FQ}{w:Cm}{K:Ad}{mg:Str->Option JI}{base:Heap}{k:Nat}{x:Str}{ms:kI}(h:Fk P w K mg base k x ms):∃ f,M9 P w K mg base k x ms f:=let ⟨f,fd,ps,a,b,c,d⟩:=h;⟨f,fd,ps,a,b,c,d⟩
section
variable {X:Cx}{e:Expr}{es:List Expr}{mr:MA}{pos p:Pos}{k j:Nat}{x y:Str}{ms:kI}{f:Addr}{fs:List (Addr×kI)}
theorem vfc (F:M9 X.prog X.w X.K X.mg X.base j x ms f)(r:OJ X k fs)(hk:j<=k:=by decide):OJ X k ((f,ms)::fs):=let ⟨_,_,a,_,c,d⟩:=F;.cons (a.mono hk) c d r
theorem dfv (i:Nat)(F:M9 X.prog X.w X.K X.mg X.base j x ms f)(hg:Gl X x:=by with_unfolding_all rfl)(hd:(x==("__debug__" : Str))=false:=by decide):DE X (.Name x p) (mC (.fnv f i)):=let ⟨_,_,_,b,_,_⟩:=F;aaD i hg b hd
theorem dcv (i:Nat)(V:OJ X k fs)(hN:PE X (.Name y p) (Yg i))(ha:Jv X (e::es) mr)(hr:mK k X.A:=by with_unfolding_all assumption)(h1:G7 e=false:=by with_unfolding_all rfl)(h2:noStar es=true:=by with_unfolding_all rfl):DE X (.Call (.Name y p) (e::es) [] pos) (vO fs i mr):=agb V hr hN ha (cC h1) (fZ h2)
end
theorem Rf {X:Cx}{pos p:Pos}{k j:Nat}{x:Str}{ms:kI}(F:Fk X.prog X.w X.K X.mg X.base j x ms)(hr:mK k X.A:=by with_unfolding_all assumption)(hk:j<=k:=by decide)(hg:Gl X x:=by with_unfolding_all rfl)(hdb:(x==("__debug__" : Str))=false:=by decide):DE X (.Call (.Name x p) [] [] pos) (aD ms EF aF):=by
 obtain ⟨f,fd,ps,a,b,c,d⟩:=F;exact afq (a.mono hk) hr hg b c d hdb
end L2
namespace My
open PySem L2 PyProof.Rows
def tW:W:=(.tup [(.tup [(.int 1),(.int 0),(.int 0)]),(.tup [(.int 0),(.int 1),(.int 0)]),(.tup [(.int 0),(.int 0),(.int 1)]),(.tup [(.int 1),(.int 1),(.int 1)])])
def top (i:Nat):Stmt:=PySem.Challenge.pw_easelroom_k27_whole_a_map_or_what_shows.main.body.getD i (.Pass ⟨0,0,0,0⟩)
abbrev Uy:Stmt:=top 91
def oh (E:BK):MS:=
  (bx (ak 0))
def jq:kI:=FW 2 3 false fun E=>
  (aP (aX (Ge Ln (aj (ak 0) aF)) (FX 0))
  (aP (aX (Ge Ln (aj (ak 1) aF)) (FX 1))
  (aP (DX (aR (Mk Hg (ak 1) (mC (.int 0)))) (aP (aX (Mk qP (ak 0) (ak 1)) (FX 2))
  (aP (aX (ak 1) (FX 0))
  (aX (ak 2) (FX 1)))))
  (oh E))))
def jx:kI:=jq
def sZ (c_divisor_of_two:kI)(E:BK):MS:=
  (bx (ak 1))
def yV (c_divisor_of_two:kI):kI:=FW 1 3 false fun E=>
  (aP (aX (mC (.int 0)) (FX 1))
  (aP (oF (Gu (ak 0)) (FX 2) (aX (aD c_divisor_of_two E (aj (ak 2) (aj (ak 1) aF))) (FX 1)))
  (sZ c_divisor_of_two E)))
def zf:kI:=yV jx
def lG (E:BK):MS:=
  (bx (mC (.bl false)))
def pR:kI:=FW 1 2 false fun E=>
  (aP (oF (YM (aj (ak 0) aF)) (FX 1) (dO (aR (Mk Hg (ak 1) (mC (.int 0)))) (bx (Mk kLt (ak 1) (mC (.int 0)))) bw))
  (lG E))
def pZ:kI:=pR
def Ag (c_divisor c_ends_below:kI)(E:BK):MS:=
  (bx (Ge vA (aj (GQ Gs [1] (Gu (ak 0)) fH (Mk zK (ak 0) (ak 1))) aF)))
def aeN (c_divisor c_ends_below:kI)(E:BK):MS:=
  (aP (dO (sJ (aD c_ends_below E (aj (ak 0) aF))) (aX (mUn Z9 (ak 1)) (FX 1)) bw)
  (Ag c_divisor c_ends_below E))
def Hu (c_divisor c_ends_below:kI):kI:=FW 1 2 false fun E=>
  (aP (aX (aD c_divisor E (aj (ak 0) aF)) (FX 1))
  (aP (dO (aR (Mk Gz (ak 1) (mC (.int 0)))) (tH "Nothing" E) bw)
  (aeN c_divisor c_ends_below E)))
def jW:kI:=Hu zf pZ
def Vf:kI:=FW 2 2 false fun E=>
  (bx (Mk bJ (Mk bJ (Mk cG (Mk Bf (ak 0) (mC (.int 0))) (Mk Bf (ak 1) (mC (.int 0)))) (Mk cG (Mk Bf (ak 0) (mC (.int 1))) (Mk Bf (ak 1) (mC (.int 1))))) (Mk cG (Mk Bf (ak 0) (mC (.int 2))) (Mk Bf (ak 1) (mC (.int 2))))))
def Fw:kI:=Vf
def Bl:kI:=FW 2 2 false fun E=>
  (bx (qj (aj (Mk jG (Mk cG (Mk Bf (ak 0) (mC (.int 1))) (Mk Bf (ak 1) (mC (.int 2)))) (Mk cG (Mk Bf (ak 0) (mC (.int 2))) (Mk Bf (ak 1) (mC (.int 1))))) (aj (Mk jG (Mk cG (Mk Bf (ak 0) (mC (.int 2))) (Mk Bf (ak 1) (mC (.int 0)))) (Mk cG (Mk Bf (ak 0) (mC (.int 0))) (Mk Bf (ak 1) (mC (.int 2))))) (aj (Mk jG (Mk cG (Mk Bf (ak 0) (mC (.int 0))) (Mk Bf (ak 1) (mC (.int 1)))) (Mk cG (Mk Bf (ak 0) (mC (.int 1))) (Mk Bf (ak 1) (mC (.int 0))))) aF)))))
def oG:kI:=Bl
def Pb (c_dot c_cross:kI):kI:=FW 3 3 false fun E=>
  (bx (aD c_dot E (aj (aD c_cross E (aj (ak 0) (aj (ak 1) aF))) (aj (ak 2) aF))))
def QB:kI:=Pb Fw oG
def zV (c_dot:kI):kI:=FW 2 2 false fun E=>
  (bx (Mk Gz (aD c_dot E (aj (ak 0) (aj (ak 1) aF))) (mC (.int 0))))
def Ai:kI:=zV Fw
def wJ (c_dot c_cross:kI)(E:BK):MS:=
  (aP (aX (aD c_cross E (aj (Mk Bf (ak 0) (mC (.int 0))) (aj (Mk Bf (ak 1) (mC (.int 0))) aF))) (FX 2))
  (bx (Ge Xy (aj (GQ Gs [2] (Gu (ak 1)) fH (Mk Gz (aD c_dot E (aj (ak 1) (aj (ak 0) aF))) (mC (.int 0)))) aF))))
def ux (c_dot c_cross:kI):kI:=FW 1 3 false fun E=>
  (aP (aX (GQ Gs [0] (Gu (ak 0)) (aR (Mk Hg (ak 0) (Mk Bf (ak 1) (mC (.int 0))))) (ak 0)) (FX 1))
  (aP (dO (Fo (sJ (ak 1))) (bx (mC (.bl true))) bw)
  (wJ c_dot c_cross E)))
def rD:kI:=ux Fw oG
def zF (c_share_one:kI):kI:=FW 1 1 false fun E=>
  (bx (aD c_share_one E (aj (ak 0) aF)))
def gM:kI:=zF rD
def uE (c_plain c_cross:kI)(E:BK):MS:=
  (bx (aD c_plain E (aj (aD c_cross E (aj (ak 0) (aj (ak 1) aF))) aF)))
def n6 (c_plain c_cross:kI):kI:=FW 2 2 false fun E=>
  (aP (dO (aR (Mk Gz (ak 0) (ak 1))) (tH "Alike" E) bw)
  (uE c_plain c_cross E))
def nj:kI:=n6 jW oG
def QJ (c_plain_cross:kI):kI:=FW 2 2 false fun E=>
  (bx (aD c_plain_cross E (aj (ak 0) (aj (ak 1) aF))))
def Jr:kI:=QJ nj
def vC (E:BK):MS:=
  (bx (ak 2))
def vP:kI:=FW 2 7 true fun E=>
  (aP (aX (yW (aj (qj aF) aF)) (FX 2))
  (aP (oF (dR (aj (ak 1) aF)) (FX 3) (aP (aX (uw aF) (FX 4))
  (aP (oF (Gu (ak 2)) (FX 5) (aP (aX (mIf (aR (Mk Nt (ak 3) (mC (.int 0)))) (Mk bJ (Mk Bf (ak 5) (Mk jG (ak 3) (mC (.int 1)))) (mC (.int 1))) (mC (.int 0))) (FX 6))
  (mZ (GJ iC (ak 4) (aj (GQ Gs [5] (JW (aj (ak 6) (aj (ak 0) aF))) fH (Mk bJ (ak 1) (qj (aj (ak 0) aF)))) aF)))))
  (aX (ak 4) (FX 2)))))
  (vC E)))
def nQ:kI:=vP
def xJ:kI:=FW 2 2 false fun E=>
  (bx (GQ Gs [0] (Gu (ak 1)) fH (Mk Bf (ak 1) (ak 0))))
def iT:kI:=xJ
def xY:kI:=FW 1 1 false fun E=>
  (bx (yW (aj (K9 pU (ak 0) (cH (mC (.int 0))) (cH (mC (.int 3)))) (aj (K9 pU (ak 0) (cH (mC (.int 3))) (cH (mC (.int 6)))) (aj (K9 pU (ak 0) (cH (mC (.int 6))) (cH (mC (.int 9)))) aF)))))
def jJ:kI:=xY
def gR (c_dot c_rows_of:kI):kI:=FW 2 2 false fun E=>
  (bx (GQ Gs [1] (Gu (aD c_rows_of E (aj (ak 0) aF))) fH (aD c_dot E (aj (ak 0) (aj (ak 1) aF)))))
def cM:kI:=gR Fw jJ
def zO:kI:=FW 1 1 false fun E=>
  (bx (GQ Gs [0] (dR (aj (mC (.int 9)) aF)) fH (Mk Bf (ak 1) (Mk bJ (Mk cG (mC (.int 3)) (Mk qP (ak 0) (mC (.int 3)))) (Mk zK (ak 0) (mC (.int 3)))))))
def tG:kI:=zO
def jX (c_dot c_rows_of c_flipped:kI)(E:BK):MS:=
  (bx (ak 3))
def fJ (c_dot c_rows_of c_flipped:kI):kI:=FW 2 5 true fun E=>
  (aP (aX (aD c_rows_of E (aj (aD c_flipped E (aj (ak 1) aF)) aF)) (FX 2))
  (aP (aX (uw aF) (FX 3))
  (aP (oF (Gu (aD c_rows_of E (aj (ak 0) aF))) (FX 4) (mZ (GJ iC (ak 3) (aj (GQ Gs [4] (Gu (ak 2)) fH (aD c_dot E (aj (ak 1) (aj (ak 0) aF)))) aF))))
  (jX c_dot c_rows_of c_flipped E))))
def cV:kI:=fJ Fw jJ tG
def Ep (c_cross c_rows_of:kI):kI:=FW 1 2 false fun E=>
  (aP (aX (aD c_rows_of E (aj (ak 0) aF)) (FX 1))
  (bx (Mk bJ (Mk bJ (aD c_cross E (aj (Mk Bf (ak 1) (mC (.int 1))) (aj (Mk Bf (ak 1) (mC (.int 2))) aF))) (aD c_cross E (aj (Mk Bf (ak 1) (mC (.int 2))) (aj (Mk Bf (ak 1) (mC (.int 0))) aF)))) (aD c_cross E (aj (Mk Bf (ak 1) (mC (.int 0))) (aj (Mk Bf (ak 1) (mC (.int 1))) aF))))))
def qU:kI:=Ep oG jJ
def Vd (c_plain c_table_times_row:kI):kI:=FW 2 2 false fun E=>
  (bx (aD c_plain E (aj (aD c_table_times_row E (aj (ak 0) (aj (ak 1) aF))) aF)))
def O4:kI:=Vd jW cM
def Jz (c_plain c_table_times_table:kI):kI:=FW 2 2 false fun E=>
  (bx (aD c_plain E (aj (aD c_table_times_table E (aj (ak 1) (aj (ak 0) aF))) aF)))
def K1:kI:=Jz jW cV
def Qn (c_plain c_flipped c_turned:kI):kI:=FW 1 1 false fun E=>
  (bx (aD c_plain E (aj (aD c_flipped E (aj (aD c_turned E (aj (ak 0) aF)) aF)) aF)))
def Di:kI:=Qn jW tG qU
def Ar:kI:=FW 0 0 false fun E=>
  (bx (Ge zB (aj (mC tW) aF)))
def pP:kI:=Ar
def vG (c_turn:kI):kI:=FW 1 2 false fun E=>
  (aP (aX (yW (aj (aD c_turn E (aj (Mk Bf (ak 0) (mC (.int 0))) (aj (Mk Bf (ak 0) (mC (.int 1))) (aj (Mk Bf (ak 0) (mC (.int 2))) aF)))) (aj (aD c_turn E (aj (Mk Bf (ak 0) (mC (.int 0))) (aj (Mk Bf (ak 0) (mC (.int 1))) (aj (Mk Bf (ak 0) (mC (.int 3))) aF)))) (aj (aD c_turn E (aj (Mk Bf (ak 0) (mC (.int 0))) (aj (Mk Bf (ak 0) (mC (.int 2))) (aj (Mk Bf (ak 0) (mC (.int 3))) aF)))) (aj (aD c_turn E (aj (Mk Bf (ak 0) (mC (.int 1))) (aj (Mk Bf (ak 0) (mC (.int 2))) (aj (Mk Bf (ak 0) (mC (.int 3))) aF)))) aF))))) (FX 1))
  (bx (Mk aaK (mC (.int 0)) (ak 1))))
def kE:kI:=vG QB
def p8 (c_plain c_table_times_row c_turned:kI):kI:=FW 1 2 false fun E=>
  (aP (aX (aD c_table_times_row E (aj (aD c_turned E (aj (Mk bJ (Mk bJ (Mk Bf (ak 0) (mC (.int 0))) (Mk Bf (ak 0) (mC (.int 1)))) (Mk Bf (ak 0) (mC (.int 2)))) aF)) (aj (Mk Bf (ak 0) (mC (.int 3))) aF))) (FX 1))
  (bx (aD c_plain E (aj (GQ Gs [0,1] (dR (aj (mC (.int 9)) aF)) fH (Mk cG (Mk Bf (ak 2) (Mk qP (ak 0) (mC (.int 3)))) (Mk Bf (Mk Bf (ak 1) (Mk qP (ak 0) (mC (.int 3)))) (Mk zK (ak 0) (mC (.int 3)))))) aF))))
def qg:kI:=p8 jW cM qU
def jN (c_then c_back c_are_free c_from_tiles:kI)(E:BK):MS:=
  (bx (aD c_then E (aj (aD c_back E (aj (aD c_from_tiles E (aj (ak 0) aF)) aF)) (aj (aD c_from_tiles E (aj (ak 1) aF)) aF))))
def jl (c_then c_back c_are_free c_from_tiles:kI):kI:=FW 2 2 false fun E=>
  (aP (dO (Mq (Fo (sJ (aD c_are_free E (aj (ak 0) aF)))) (Fo (sJ (aD c_are_free E (aj (ak 1) aF))))) (tH "NotFree" E) bw)
  (jN c_then c_back c_are_free c_from_tiles E))
def cN:kI:=jl K1 Di kE qg
def fQ:kI:=FW 1 1 false fun E=>
  (dO (Mq (aR (Mk kLt (Ge Gb (aj (ak 0) aF)) (mC (.int 1)))) (aR (Mk Nt (Ge Gb (aj (ak 0) aF)) (mC (.int 12))))) (tH "NoPicture" E) bw)
def dD:kI:=fQ
def lH (c_rising c_picked c_are_free:kI)(E:BK):MS:=
  (bx (mC .non))
def jQ (c_rising c_picked c_are_free:kI):kI:=FW 1 2 false fun E=>
  (aP (oF (Gu (aD c_rising E (aj (Ge Gb (aj (ak 0) aF)) (aj (mC (.int 4)) aF)))) (FX 1) (dO (sJ (aD c_are_free E (aj (aD c_picked E (aj (ak 0) (aj (ak 1) aF))) aF))) (bx (ak 1)) bw))
  (lH c_rising c_picked c_are_free E))
def eG:kI:=jQ nQ iT kE
def jB (E:BK):MS:=
  (bx (ak 1))
def gA:kI:=FW 1 3 true fun E=>
  (aP (aX (uw aF) (FX 1))
  (aP (oF (Gu (ak 0)) (FX 2) (dO (aR (Mk Ow (ak 2) (ak 1))) (mZ (GJ fL (ak 1) (aj (ak 2) aF))) bw))
  (jB E)))
def gC:kI:=gA
def dY (c_on_line c_join c_rising c_picked:kI)(E:BK):MS:=
  (bx (mC .non))
def cI (c_on_line c_join c_rising c_picked:kI):kI:=FW 1 3 false fun E=>
  (aP (oF (Gu (aD c_rising E (aj (Ge Gb (aj (ak 0) aF)) (aj (mC (.int 3)) aF)))) (FX 1) (aP (aX (aD c_picked E (aj (ak 0) (aj (ak 1) aF))) (FX 2))
  (dO (sJ (aD c_on_line E (aj (ak 2) aF))) (bx (aD c_join E (aj (Mk Bf (ak 2) (mC (.int 0))) (aj (Mk Bf (ak 2) (mC (.int 1))) aF)))) bw)))
  (dY c_on_line c_join c_rising c_picked E))
def fP:kI:=cI gM Jr nQ iT
def rM (c_check_picture c_first_free c_unlike_spots c_line_of_three:kI)(E:BK):MS:=
  (bx (mC (.str "few")))
def rB (c_check_picture c_first_free c_unlike_spots c_line_of_three:kI)(E:BK):MS:=
  (aP (dO (aR (Mk pC (aD c_line_of_three E (aj (aD c_unlike_spots E (aj (ak 0) aF)) aF)) (mC .non))) (bx (mC (.str "line"))) bw)
  (rM c_check_picture c_first_free c_unlike_spots c_line_of_three E))
def rW (c_check_picture c_first_free c_unlike_spots c_line_of_three:kI):kI:=FW 1 1 false fun E=>
  (aP (mZ (aD c_check_picture E (aj (ak 0) aF)))
  (aP (dO (aR (Mk pC (aD c_first_free E (aj (ak 0) aF)) (mC .non))) (bx (mC (.str "four"))) bw)
  (rB c_check_picture c_first_free c_unlike_spots c_line_of_three E)))
def zx:kI:=rW dD eG gC fP
def Bx (c_tiles:kI):kI:=FW 0 0 false fun E=>
  (bx (K9 pU (aD c_tiles E aF) cZ (cH (mC (.int 3)))))
def wW:kI:=Bx pP
def cT (c_plain:kI):kI:=FW 1 1 false fun E=>
  (bx (aD c_plain E (aj (GQ Gs [0] (dR (aj (mC (.int 3)) aF)) fH (Ge VP (aj (GQ Gs [0] (Gu (ak 1)) fH (Mk Bf (ak 0) (ak 1))) aF))) aF)))
def gG:kI:=cT jW
def dX (c_lies_on c_tiles c_map_between c_units c_spot_between:kI):kI:=FW 2 4 false fun E=>
  (aP (aX (GQ Gs [1] (Gu (ak 0)) (sJ (aD c_lies_on E (aj (ak 0) (aj (ak 1) aF)))) (ak 0)) (FX 2))
  (aP (aX (GQ Gs [1] (Gu (Mk bJ (ak 0) (aD c_units E aF))) (Fo (sJ (aD c_lies_on E (aj (ak 0) (aj (ak 1) aF))))) (ak 0)) (FX 3))
  (bx (aD c_map_between E (aj (yW (aj (Mk Bf (ak 2) (mC (.int 0))) (aj (Mk Bf (ak 2) (mC (.int 1))) (aj (Mk Bf (ak 3) (mC (.int 0))) (aj (aD c_spot_between E (aj (yW (aj (Mk Bf (ak 3) (mC (.int 0))) (aj (Mk Bf (ak 2) (mC (.int 2))) aF))) aF)) aF))))) (aj (aD c_tiles E aF) aF))))))
def gZ:kI:=dX Ai pP cN wW gG
def nG (c_on_line c_units:kI)(E:BK):MS:=
  (bx (ak 1))
def mG (c_on_line c_units:kI):kI:=FW 1 3 true fun E=>
  (aP (aX (Ge CN (aj (ak 0) aF)) (FX 1))
  (aP (oF (Gu (aD c_units E aF)) (FX 2) (dO (HW (aR (Mk Gz (Ge Gb (aj (ak 1) aF)) (mC (.int 1)))) (aR (Mk Hg (ak 2) (Mk Bf (ak 1) (mC (.int 0)))))) (mZ (GJ fL (ak 1) (aj (ak 2) aF))) (dO (HW (aR (Mk Gz (Ge Gb (aj (ak 1) aF)) (mC (.int 2)))) (Fo (sJ (aD c_on_line E (aj (Mk bJ (ak 1) (yW (aj (ak 2) aF))) aF))))) (mZ (GJ fL (ak 1) (aj (ak 2) aF))) bw)))
  (nG c_on_line c_units E)))
def rF:kI:=mG gM wW
def eZ (c_tiles c_map_between c_spot_between c_filled_up:kI):kI:=FW 1 2 false fun E=>
  (aP (aX (aD c_filled_up E (aj (ak 0) aF)) (FX 1))
  (bx (aD c_map_between E (aj (Mk bJ (ak 1) (yW (aj (aD c_spot_between E (aj (ak 1) aF)) aF))) (aj (aD c_tiles E aF) aF)))))
def jm:kI:=eZ pP cN gG rF
def rJ (c_picked c_tiles c_map_between c_check_picture c_first_free c_unlike_spots c_line_of_three c_leading_of_line c_leading_of_few:kI)(E:BK):MS:=
  (bx (aD c_leading_of_few E (aj (ak 2) aF)))
def uH (c_picked c_tiles c_map_between c_check_picture c_first_free c_unlike_spots c_line_of_three c_leading_of_line c_leading_of_few:kI)(E:BK):MS:=
  (aP (aX (aD c_unlike_spots E (aj (ak 0) aF)) (FX 2))
  (aP (aX (aD c_line_of_three E (aj (ak 2) aF)) (FX 3))
  (aP (dO (aR (Mk pC (ak 3) (mC .non))) (bx (aD c_leading_of_line E (aj (ak 2) (aj (ak 3) aF)))) bw)
  (rJ c_picked c_tiles c_map_between c_check_picture c_first_free c_unlike_spots c_line_of_three c_leading_of_line c_leading_of_few E))))
def rP (c_picked c_tiles c_map_between c_check_picture c_first_free c_unlike_spots c_line_of_three c_leading_of_line c_leading_of_few:kI):kI:=FW 1 4 false fun E=>
  (aP (mZ (aD c_check_picture E (aj (ak 0) aF)))
  (aP (aX (aD c_first_free E (aj (ak 0) aF)) (FX 1))
  (aP (dO (aR (Mk pC (ak 1) (mC .non))) (bx (aD c_map_between E (aj (aD c_picked E (aj (ak 0) (aj (ak 1) aF))) (aj (aD c_tiles E aF) aF)))) bw)
  (uH c_picked c_tiles c_map_between c_check_picture c_first_free c_unlike_spots c_line_of_three c_leading_of_line c_leading_of_few E))))
def nM:kI:=rP iT pP cN dD eG gC fP gZ jm
def iH (c_led:kI):kI:=FW 2 2 false fun E=>
  (bx (GQ Gs [0] (Gu (ak 1)) fH (aD c_led E (aj (ak 1) (aj (ak 0) aF)))))
def nF:kI:=iH O4
def Jm (c_kind_of c_leading c_led_picture:kI):kI:=FW 1 1 false fun E=>
  (bx (qj (aj (aD c_kind_of E (aj (ak 0) aF)) (aj (aD c_led_picture E (aj (aD c_leading E (aj (ak 0) aF)) (aj (ak 0) aF))) aF))))
def Pn:kI:=Jm zx nM nF
def lU (c_cross:kI):kI:=FW 1 3 false fun E=>
  (aP (aX (GQ Gs [0] (Gu (ak 0)) (aR (Mk Hg (ak 0) (Mk Bf (ak 1) (mC (.int 0))))) (ak 0)) (FX 1))
  (aP (aX (aD c_cross E (aj (Mk Bf (ak 0) (mC (.int 0))) (aj (Mk Bf (ak 1) (mC (.int 0))) aF))) (FX 2))
  (bx (Mk Bf (GQ Gs [2] (dR (aj (mC (.int 3)) aF)) (aR (Mk Hg (Mk Bf (ak 1) (ak 0)) (mC (.int 0)))) (ak 0)) (mC (.int 0))))))
def uI:kI:=lU oG
def uf:kI:=FW 3 5 false fun E=>
  (aP (aX (Mk qP (Mk bJ (ak 2) (mC (.int 1))) (mC (.int 3))) (FX 3))
  (aP (aX (Mk qP (Mk bJ (ak 2) (mC (.int 2))) (mC (.int 3))) (FX 4))
  (bx (Mk jG (Mk cG (Mk Bf (ak 0) (ak 3)) (Mk Bf (ak 1) (ak 4))) (Mk cG (Mk Bf (ak 0) (ak 4)) (Mk Bf (ak 1) (ak 3)))))))
def yJ:kI:=uf
def d8:kI:=FW 1 1 false fun E=>
  (bx (Mk Nt (Ge Vu (aj (GQ Gs [0] (Gu (ak 0)) fH (aaA yx (ak 1) (aj (ak 0) aF))) aF)) (mC (.int 2))))
def gW:kI:=d8
def fM (c_place_off c_turn_at:kI):kI:=FW 1 2 false fun E=>
  (aP (aX (aD c_place_off E (aj (ak 0) aF)) (FX 1))
  (bx (yW (aj (Mk cG (aD c_turn_at E (aj (Mk Bf (ak 0) (mC (.int 0))) (aj (Mk Bf (ak 0) (mC (.int 2))) (aj (ak 1) aF)))) (aD c_turn_at E (aj (Mk Bf (ak 0) (mC (.int 1))) (aj (Mk Bf (ak 0) (mC (.int 3))) (aj (ak 1) aF))))) (aj (Mk cG (aD c_turn_at E (aj (Mk Bf (ak 0) (mC (.int 0))) (aj (Mk Bf (ak 0) (mC (.int 3))) (aj (ak 1) aF)))) (aD c_turn_at E (aj (Mk Bf (ak 0) (mC (.int 1))) (aj (Mk Bf (ak 0) (mC (.int 2))) (aj (ak 1) aF))))) aF)))))
def j5:kI:=fM uI yJ
def iJ:kI:=FW 2 2 false fun E=>
  (bx (Mk Hg (Mk Gz (Mk Bf (ak 0) (mC (.int 0))) (Mk Bf (ak 0) (mC (.int 1)))) (Mk Gz (Mk Bf (ak 1) (mC (.int 0))) (Mk Bf (ak 1) (mC (.int 1))))))
def cu:kI:=iJ
def fV (c_on_line:kI):kI:=FW 2 2 false fun E=>
  (bx (Mk Hg (aD c_on_line E (aj (ak 0) aF)) (aD c_on_line E (aj (ak 1) aF))))
def bQ:kI:=fV gM
def g8 (c_on_line c_has_three_alike c_throw_numbers:kI)(E:BK):MS:=
  (aP (aX (aD c_throw_numbers E (aj (ak 0) aF)) (FX 2))
  (aP (aX (aD c_throw_numbers E (aj (ak 1) aF)) (FX 3))
  (bx (Mk Hg (Mk cG (Mk Bf (ak 2) (mC (.int 0))) (Mk Bf (ak 3) (mC (.int 1)))) (Mk cG (Mk Bf (ak 2) (mC (.int 1))) (Mk Bf (ak 3) (mC (.int 0))))))))
def fK (c_on_line c_has_three_alike c_throw_numbers:kI):kI:=FW 2 4 false fun E=>
  (aP (dO (Mq (Fo (sJ (aD c_on_line E (aj (ak 0) aF)))) (sJ (aD c_has_three_alike E (aj (ak 0) aF)))) (bx (mC (.bl false))) bw)
  (g8 c_on_line c_has_three_alike c_throw_numbers E))
def bL:kI:=fK gM gW j5
def jz (F_twos_differ F_threes_differ F_throws_differ:Addr)(c_rising c_picked c_twos_differ c_threes_differ c_throws_differ:kI)(E:BK):MS:=
  (bx (mC .non))
def d9 (F_twos_differ F_threes_differ F_throws_differ:Addr)(c_rising c_picked c_twos_differ c_threes_differ c_throws_differ:kI):kI:=FW 4 5 false fun E=>
  (aP (oF (Gu (aD c_rising E (aj (Ge Gb (aj (ak 0) aF)) (aj (ak 2) aF)))) (FX 4) (dO (sJ (vO [(F_twos_differ,c_twos_differ),(F_threes_differ,c_threes_differ),(F_throws_differ,c_throws_differ)] 3 (aj (aD c_picked E (aj (ak 0) (aj (ak 4) aF))) (aj (aD c_picked E (aj (ak 1) (aj (ak 4) aF))) aF)))) (bx (ak 4)) bw))
  (jz F_twos_differ F_threes_differ F_throws_differ c_rising c_picked c_twos_differ c_threes_differ c_throws_differ E))
def gD (F_twos_differ F_threes_differ F_throws_differ:Addr):kI:=d9 F_twos_differ F_threes_differ F_throws_differ nQ iT cu bQ bL
def j4 (c_picked c_led c_tiles c_map_between c_first_free:kI)(E:BK):MS:=
  (bx (mC .non))
def jU (c_picked c_led c_tiles c_map_between c_first_free:kI)(E:BK):MS:=
  (aP (aX (aD c_map_between E (aj (aD c_picked E (aj (ak 0) (aj (ak 2) aF))) (aj (aD c_tiles E aF) aF))) (FX 3))
  (aP (aX (aD c_map_between E (aj (aD c_picked E (aj (ak 1) (aj (ak 2) aF))) (aj (aD c_tiles E aF) aF))) (FX 4))
  (aP (oF (dR (aj (Ge Gb (aj (ak 0) aF)) aF)) (FX 5) (dO (aR (Mk Hg (aD c_led E (aj (ak 3) (aj (Mk Bf (ak 0) (ak 5)) aF))) (aD c_led E (aj (ak 4) (aj (Mk Bf (ak 1) (ak 5)) aF))))) (bx (Mk bJ (ak 2) (qj (aj (ak 5) aF)))) bw))
  (j4 c_picked c_led c_tiles c_map_between c_first_free E))))
def iD (c_picked c_led c_tiles c_map_between c_first_free:kI):kI:=FW 2 6 false fun E=>
  (aP (aX (aD c_first_free E (aj (ak 0) aF)) (FX 2))
  (aP (dO (aR (Mk RZ (ak 2) (mC .non))) (bx (mC .non)) bw)
  (jU c_picked c_led c_tiles c_map_between c_first_free E)))
def nU:kI:=iD iT O4 pP cN eG
def fj (F_twos_differ F_threes_differ F_throws_differ:Addr)(c_first_places c_fifth_apart:kI)(E:BK):MS:=
  (aP (aX (aD c_fifth_apart E (aj (ak 0) (aj (ak 1) aF))) (FX 5))
  (bx (mIf (aR (Mk RZ (ak 5) (mC .non))) (mC .non) (qj (aj (mC (.str "five")) (aj (ak 5) aF))))))
def dh (F_twos_differ F_threes_differ F_throws_differ:Addr)(c_first_places c_fifth_apart:kI):kI:=FW 2 6 false fun E=>
  (aP (oF (Gu (yW (aj (qj (aj (mC (.str "two")) (aj (mC (.int 2)) (aj (mC (.fnv F_twos_differ 0)) aF)))) (aj (qj (aj (mC (.str "three")) (aj (mC (.int 3)) (aj (mC (.fnv F_threes_differ 1)) aF)))) (aj (qj (aj (mC (.str "throw")) (aj (mC (.int 4)) (aj (mC (.fnv F_throws_differ 2)) aF)))) aF))))) (qK 3 (fB (FX 2) (fB (FX 3) (fB (FX 4) Od)))) (aP (aX (aD c_first_places E (aj (ak 0) (aj (ak 1) (aj (ak 3) (aj (ak 4) aF))))) (FX 5))
  (dO (aR (Mk pC (ak 5) (mC .non))) (bx (qj (aj (ak 2) (aj (ak 5) aF)))) bw)))
  (fj F_twos_differ F_threes_differ F_throws_differ c_first_places c_fifth_apart E))
def gk (F_twos_differ F_threes_differ F_throws_differ:Addr):kI:=dh F_twos_differ F_threes_differ F_throws_differ (gD F_twos_differ F_threes_differ F_throws_differ) nU
def zA (c_check_picture c_apart_of_as_many:kI)(E:BK):MS:=
  (bx (aD c_apart_of_as_many E (aj (ak 0) (aj (ak 1) aF))))
def Ci (c_check_picture c_apart_of_as_many:kI):kI:=FW 2 2 false fun E=>
  (aP (mZ (aD c_check_picture E (aj (ak 0) aF)))
  (aP (mZ (aD c_check_picture E (aj (ak 1) aF)))
  (aP (dO (aR (Mk Hg (Ge Gb (aj (ak 0) aF)) (Ge Gb (aj (ak 1) aF)))) (bx (qj (aj (mC (.str "many")) (aj (qj aF) aF)))) bw)
  (zA c_check_picture c_apart_of_as_many E))))
def wY (F_twos_differ F_threes_differ F_throws_differ:Addr):kI:=Ci dD (gk F_twos_differ F_threes_differ F_throws_differ)
def vM (c_then c_back c_leading c_apart:kI)(E:BK):MS:=
  (bx (aD c_then E (aj (aD c_leading E (aj (ak 0) aF)) (aj (aD c_back E (aj (aD c_leading E (aj (ak 1) aF)) aF)) aF))))
def w6 (c_then c_back c_leading c_apart:kI):kI:=FW 2 3 false fun E=>
  (aP (aX (aD c_apart E (aj (ak 0) (aj (ak 1) aF))) (FX 2))
  (aP (dO (aR (Mk pC (ak 2) (mC .non))) (tH "Apart" E) bw)
  (vM c_then c_back c_leading c_apart E)))
def Cr (F_twos_differ F_threes_differ F_throws_differ:Addr):kI:=w6 K1 Di nM (wY F_twos_differ F_threes_differ F_throws_differ)
def xr (E:BK):MS:=
  (bx (mC (.int 0)))
def uz:kI:=FW 2 2 false fun E=>
  (aP (dO (aR (Mk kLt (ak 1) (Ge Gb (aj (ak 0) aF)))) (bx (Mk Bf (ak 0) (ak 1))) bw)
  (xr E))
def rK:kI:=uz
def zaz (c_l_cell_at:kI)(E:BK):MS:=
  (bx (uw (aj (Mk zK (ak 2) (mC (.int 2))) (aj (ak 4) aF))))
def zap (c_l_cell_at:kI)(E:BK):MS:=
  (aP (dO (aR (Mk Gz (Mk qP (ak 2) (mC (.int 2))) (mC (.int 0)))) (bx (uw (aj (ak 4) aF))) bw)
  (zaz c_l_cell_at E))
def El (c_l_cell_at:kI):kI:=FW 2 6 false fun E=>
  (aP (aX (aD c_l_cell_at E (aj (ak 0) (aj (ak 1) aF))) (FX 2))
  (aP (aX (Mk qP (Mk cG (Mk bJ (Mk bJ (Mk qP (Mk zK (ak 2) (mC (.int 2))) (Mk Mx (mC (.int 10)) (mC (.int 18)))) (Mk cG (Mk cG (mC (.int 7919)) (ak 1)) (ak 1))) (mC (.int 1))) (mC (.int 48271))) (mC (.int 999999000001))) (FX 3))
  (aP (aX (mC (.int 0)) (FX 4))
  (aP (oF (dR (aj (mC (.int 60)) aF)) (FX 5) (aP (aX (Mk qP (Mk bJ (Mk bJ (Mk cG (ak 3) (mC (.int 69621))) (Mk cG (ak 5) (ak 5))) (mC (.int 1))) (mC (.int 999999000001))) (FX 3))
  (aX (Mk bJ (Mk cG (ak 4) (Mk Mx (mC (.int 10)) (mC (.int 12)))) (Mk qP (Mk cG (ak 3) (Mk bJ (ak 3) (Mk cG (mC (.int 31)) (ak 5)))) (mC (.int 1000000000039)))) (FX 4))))
  (zap c_l_cell_at E)))))
def vY:kI:=El rK
def zai (E:BK):MS:=
  (aP (aX (Mk qP (Mk Bf (ak 0) (mC (.int 0))) (ak 1)) (FX 2))
  (aP (aX (Mk zK (Mk Bf (ak 0) (mC (.int 0))) (ak 1)) (Xc (ak 0) (mC (.int 0)) G3))
  (bx (ak 2))))
def yd:kI:=FW 2 3 false fun E=>
  (aP (dO (HW (aR (Mk kLt (Mk Bf (ak 0) (mC (.int 0))) (mC (.int 2)))) (aR (Mk Nt (Ge Gb (aj (ak 0) aF)) (mC (.int 1))))) (aX (Vi aaq (ak 0)) (Xc (ak 0) (mC (.int 0)) G3)) bw)
  (zai E))
def eN:kI:=yd
def zW (c_l_digit:kI)(E:BK):MS:=
  (bx (Mk bJ (Mk jG (aD c_l_digit E (aj (ak 0) (aj (Mk jG (Mk cG (mC (.int 2)) (ak 1)) (mC (.int 1))) aF))) (ak 1)) (mC (.int 1))))
def zE (c_l_digit:kI)(E:BK):MS:=
  (aP (dO (aR (Mk Gz (ak 2) (mC (.int 1)))) (bx (Mk jG (aD c_l_digit E (aj (ak 0) (aj (mC (.int 41)) aF))) (mC (.int 20)))) bw)
  (zW c_l_digit E))
def vq (c_l_digit:kI):kI:=FW 2 3 false fun E=>
  (aP (aX (aD c_l_digit E (aj (ak 0) (aj (mC (.int 3)) aF))) (FX 2))
  (aP (dO (aR (Mk Gz (ak 2) (mC (.int 0)))) (bx (Mk jG (aD c_l_digit E (aj (ak 0) (aj (mC (.int 7)) aF))) (mC (.int 3)))) bw)
  (zE c_l_digit E)))
def kJ:kI:=vq eN
def mR (E:BK):MS:=
  (bx (ak 1))
def tU:kI:=FW 1 5 false fun E=>
  (aP (aX (mC (.int 0)) (FX 1))
  (aP (oF (Gu (ak 0)) (FX 2) (aP (aX (Ge aar (aj (ak 1) (aj (Ge Ln (aj (ak 2) aF)) aF))) (FX 3))
  (aP (aX (Ge aam (aj (ak 1) (aj (Ge Ln (aj (ak 2) aF)) aF))) (FX 4))
  (aP (DX (aR (Mk Nt (ak 4) (mC (.int 0)))) (aax 3 4 (aj (ak 4) (aj (Mk qP (ak 3) (ak 4)) aF))))
  (aX (ak 3) (FX 1))))))
  (mR E)))
def rC:kI:=tU
def rN (c_l_divisor:kI)(E:BK):MS:=
  (bx (Ge vA (aj (GQ Gs [1] (Gu (ak 0)) fH (Mk zK (ak 0) (ak 1))) aF)))
def zu (c_l_divisor:kI):kI:=FW 1 2 false fun E=>
  (aP (aX (aD c_l_divisor E (aj (ak 0) aF)) (FX 1))
  (aP (dO (aR (Mk kLt (Mk Bf (GQ Gs [] (Gu (ak 0)) (aR (Mk Hg (ak 0) (mC (.int 0)))) (ak 0)) (mUn Z9 (mC (.int 1)))) (mC (.int 0)))) (aX (Mk jG (mC (.int 0)) (ak 1)) (FX 1)) bw)
  (rN c_l_divisor E)))
def eE:kI:=zu rC
def aeD (c_l_number c_l_plain:kI)(E:BK):MS:=
  (bx (aD c_l_plain E (aj (ak 2) aF)))
def vU (c_l_number c_l_plain:kI):kI:=FW 2 3 false fun E=>
  (aP (aX (GQ Gs [0,1] (dR (aj (mC (.int 3)) aF)) fH (aD c_l_number E (aj (ak 1) (aj (ak 2) aF)))) (FX 2))
  (aP (dO (aR (Mk Gz (ak 2) (yW (aj (mC (.int 0)) (aj (mC (.int 0)) (aj (mC (.int 0)) aF)))))) (aX (yW (aj (mC (.int 0)) (aj (mC (.int 0)) (aj (mC (.int 1)) aF)))) (FX 2)) bw)
  (aeD c_l_number c_l_plain E)))
def nO:kI:=vU kJ eE
def zan (E:BK):MS:=
  (bx (Ge vA (aj (ak 2) aF)))
def zp:kI:=FW 2 4 true fun E=>
  (aP (aX (uw aF) (FX 2))
  (aP (oF (dR (aj (mC (.int 3)) aF)) (FX 3) (mZ (GJ fL (ak 2) (aj (Mk jG (Mk cG (Mk Bf (ak 0) (Mk jG (ak 3) (mC (.int 2)))) (Mk Bf (ak 1) (Mk jG (ak 3) (mC (.int 1))))) (Mk cG (Mk Bf (ak 0) (Mk jG (ak 3) (mC (.int 1)))) (Mk Bf (ak 1) (Mk jG (ak 3) (mC (.int 2)))))) aF))))
  (zan E)))
def yg:kI:=zp
def Jo:kI:=FW 2 2 false fun E=>
  (bx (Ge VP (aj (GQ (owT 2) [] (aad (aj (ak 0) (aj (ak 1) aF))) fH (Mk cG (ak 0) (ak 1))) aF)))
def BW:kI:=Jo
def CV:kI:=FW 1 11 false fun E=>
  (aP (aX (K9 pU (ak 0) (cH (mC (.int 0))) (cH (mC (.int 3)))) (qK 3 (fB (FX 1) (fB (FX 2) (fB (FX 3) Od)))))
  (aP (aX (K9 pU (ak 0) (cH (mC (.int 3))) (cH (mC (.int 6)))) (qK 3 (fB (FX 4) (fB (FX 5) (fB (FX 6) Od)))))
  (aP (aX (K9 pU (ak 0) (cH (mC (.int 6))) (cH (mC (.int 9)))) (qK 3 (fB (FX 7) (fB (FX 8) (fB (FX 9) Od)))))
  (aP (aX (Mk cG (ak 1) (Mk jG (Mk cG (ak 5) (ak 9)) (Mk cG (ak 6) (ak 8)))) (FX 10))
  (aP (aX (Mk jG (ak 10) (Mk cG (ak 2) (Mk jG (Mk cG (ak 4) (ak 9)) (Mk cG (ak 6) (ak 7))))) (FX 10))
  (bx (Mk bJ (ak 10) (Mk cG (ak 3) (Mk jG (Mk cG (ak 4) (ak 8)) (Mk cG (ak 5) (ak 7)))))))))))
def Du:kI:=CV
def zau (c_l_number c_l_plain c_l_size:kI)(E:BK):MS:=
  (bx (aD c_l_plain E (aj (ak 2) aF)))
def JR (c_l_number c_l_plain c_l_size:kI):kI:=FW 2 3 false fun E=>
  (aP (aX (GQ Gs [0,1] (dR (aj (mC (.int 9)) aF)) fH (aD c_l_number E (aj (ak 1) (aj (ak 2) aF)))) (FX 2))
  (aP (dO (aR (Mk Gz (aD c_l_size E (aj (ak 2) aF)) (mC (.int 0)))) (aX (yW (aj (mC (.int 1)) (aj (mC (.int 0)) (aj (Mk Bf (ak 2) (mC (.int 2))) (aj (mC (.int 0)) (aj (mC (.int 1)) (aj (Mk Bf (ak 2) (mC (.int 5))) (aj (mC (.int 0)) (aj (mC (.int 0)) (aj (mC (.int 1)) aF)))))))))) (FX 2)) bw)
  (zau c_l_number c_l_plain c_l_size E)))
def Hf:kI:=JR kJ eE Du
def BZ (c_l_plain c_l_dot:kI):kI:=FW 2 2 false fun E=>
  (bx (aD c_l_plain E (aj (GQ Gs [0,1] (dR (aj (mC (.int 3)) aF)) fH (aD c_l_dot E (aj (K9 pU (ak 1) (cH (Mk cG (mC (.int 3)) (ak 0))) (cH (Mk bJ (Mk cG (mC (.int 3)) (ak 0)) (mC (.int 3))))) (aj (ak 2) aF)))) aF)))
def xQ:kI:=BZ eE BW
def wD (c_l_cross c_l_dot:kI):kI:=FW 3 3 false fun E=>
  (bx (aD c_l_dot E (aj (aD c_l_cross E (aj (ak 0) (aj (ak 1) aF))) (aj (ak 2) aF))))
def jd:kI:=wD yg BW
def vN (c_l_turn:kI)(E:BK):MS:=
  (bx (mC (.bl true)))
def vZ (c_l_turn:kI):kI:=FW 1 2 false fun E=>
  (aP (oF (dR (aj (mC (.int 4)) aF)) (FX 1) (dO (aR (Mk Gz (aD c_l_turn E (aj (Mk Bf (ak 0) (Mk jG (ak 1) (mC (.int 3)))) (aj (Mk Bf (ak 0) (Mk jG (ak 1) (mC (.int 2)))) (aj (Mk Bf (ak 0) (Mk jG (ak 1) (mC (.int 1)))) aF)))) (mC (.int 0)))) (bx (mC (.bl false))) bw))
  (vN c_l_turn E))
def Fi:kI:=vZ jd
def tQ (c_l_digit c_l_plain:kI)(E:BK):MS:=
  (bx (aD c_l_plain E (aj (ak 5) aF)))
def qZ (c_l_digit c_l_plain:kI):kI:=FW 3 6 false fun E=>
  (aP (aX (Mk jG (aD c_l_digit E (aj (ak 2) (aj (mC (.int 41)) aF))) (mC (.int 20))) (FX 3))
  (aP (aX (Mk jG (aD c_l_digit E (aj (ak 2) (aj (mC (.int 41)) aF))) (mC (.int 20))) (FX 4))
  (aP (aX (GQ (owT 2) [3,4] (aad (aj (ak 0) (aj (ak 1) aF))) fH (Mk bJ (Mk cG (ak 2) (ak 0)) (Mk cG (ak 3) (ak 1)))) (FX 5))
  (aP (dO (aR (Mk Gz (ak 5) (yW (aj (mC (.int 0)) (aj (mC (.int 0)) (aj (mC (.int 0)) aF)))))) (bx (ak 0)) bw)
  (tQ c_l_digit c_l_plain E)))))
def nH:kI:=qZ eN eE
def vo (c_l_digit c_l_spot c_l_mixed:kI)(E:BK):MS:=
  (bx (aD c_l_spot E (aj (ak 2) (aj (Mk Mx (mC (.int 10)) (mC (.int 9))) aF))))
def pD (c_l_digit c_l_spot c_l_mixed:kI)(E:BK):MS:=
  (aP (dO (aR (Mk Nt (ak 3) (mC (.int 1)))) (bx (aD c_l_mixed E (aj (ak 4) (aj (ak 5) (aj (ak 2) aF))))) bw)
  (vo c_l_digit c_l_spot c_l_mixed E))
def oR (c_l_digit c_l_spot c_l_mixed:kI)(E:BK):MS:=
  (aP (dO (Mq (HW (aR (Mk Gz (ak 1) (mC (.int 2)))) (aR (Mk Nt (Ge Gb (aj (ak 0) aF)) (mC (.int 2))))) (aR (Mk Gz (ak 3) (mC (.int 4))))) (bx (ak 4)) bw)
  (pD c_l_digit c_l_spot c_l_mixed E))
def xG (c_l_digit c_l_spot c_l_mixed:kI):kI:=FW 3 6 false fun E=>
  (aP (aX (aD c_l_digit E (aj (ak 2) (aj (mC (.int 6)) aF))) (FX 3))
  (aP (aX (Mk Bf (ak 0) (aD c_l_digit E (aj (ak 2) (aj (Ge Gb (aj (ak 0) aF)) aF)))) (FX 4))
  (aP (aX (Mk Bf (ak 0) (aD c_l_digit E (aj (ak 2) (aj (Ge Gb (aj (ak 0) aF)) aF)))) (FX 5))
  (aP (dO (HW (aR (Mk Gz (ak 1) (mC (.int 1)))) (HW (aR (Mk Nt (Ge Gb (aj (ak 0) aF)) (mC (.int 1)))) (aR (Mk kLt (ak 3) (mC (.int 5)))))) (bx (aD c_l_mixed E (aj (Mk Bf (ak 0) (mC (.int 0))) (aj (Mk Bf (ak 0) (mC (.int 1))) (aj (ak 2) aF))))) bw)
  (oR c_l_digit c_l_spot c_l_mixed E)))))
def Ey:kI:=xG eN nO nH
def nW (c_l_digit c_l_spot c_l_next:kI)(E:BK):MS:=
  (bx (ak 4))
def lQ (c_l_digit c_l_spot c_l_next:kI):kI:=FW 2 6 false fun E=>
  (aP (aX (aD c_l_digit E (aj (ak 0) (aj (ak 1) aF))) (FX 2))
  (aP (aX (aD c_l_digit E (aj (ak 0) (aj (mC (.int 4)) aF))) (FX 3))
  (aP (aX (uw (aj (aD c_l_spot E (aj (ak 0) (aj (Mk Mx (mC (.int 10)) (mC (.int 9))) aF))) aF)) (FX 4))
  (aP (oF (dR (aj (ak 2) aF)) (FX 5) (mZ (GJ fL (ak 4) (aj (aD c_l_next E (aj (ak 4) (aj (ak 3) (aj (ak 0) aF)))) aF))))
  (nW c_l_digit c_l_spot c_l_next E)))))
def lR:kI:=lQ eN nO Ey
def iz (c_l_digit c_l_spot c_l_mixed:kI)(E:BK):MS:=
  (bx (Mk bJ (Mk bJ (K9 pU (ak 0) cZ (cH (ak 2))) (yW (aj (ak 4) aF))) (K9 pU (ak 0) (cH (Mk bJ (ak 2) (mC (.int 1)))) cZ)))
def iZ (c_l_digit c_l_spot c_l_mixed:kI)(E:BK):MS:=
  (aP (dO (aR (Mk Gz (ak 3) (mC (.int 2)))) (aX (aD c_l_spot E (aj (ak 1) (aj (Mk Mx (mC (.int 10)) (mC (.int 9))) aF))) (FX 4)) bw)
  (iz c_l_digit c_l_spot c_l_mixed E))
def lK (c_l_digit c_l_spot c_l_mixed:kI):kI:=FW 2 5 false fun E=>
  (aP (aX (aD c_l_digit E (aj (ak 1) (aj (Ge Gb (aj (ak 0) aF)) aF))) (FX 2))
  (aP (aX (aD c_l_digit E (aj (ak 1) (aj (mC (.int 3)) aF))) (FX 3))
  (aP (aX (Mk Bf (ak 0) (aD c_l_digit E (aj (ak 1) (aj (Ge Gb (aj (ak 0) aF)) aF)))) (FX 4))
  (aP (dO (aR (Mk Gz (ak 3) (mC (.int 1)))) (aX (aD c_l_mixed E (aj (Mk Bf (ak 0) (ak 2)) (aj (ak 4) (aj (ak 1) aF)))) (FX 4)) bw)
  (iZ c_l_digit c_l_spot c_l_mixed E)))))
def uo:kI:=lK eN nO nH
def rA (c_l_rest c_l_digit c_l_map c_l_led c_l_picture c_l_changed:kI)(E:BK):MS:=
  (bx (qj (aj (ak 2) (aj (K9 pU (ak 4) cZ (cH (mC (.int 12)))) aF))))
def sY (c_l_rest c_l_digit c_l_map c_l_led c_l_picture c_l_changed:kI)(E:BK):MS:=
  (aP (dO (aR (Mk Gz (aD c_l_digit E (aj (ak 5) (aj (mC (.int 12)) aF))) (mC (.int 5)))) (aX (Mk bJ (Mk bJ (K9 pU (ak 4) (cH (mC (.int 1))) cZ) (K9 pU (ak 4) cZ (cH (mC (.int 1))))) (K9 pU (ak 4) cZ (cH (mC (.int 1))))) (FX 4)) bw)
  (rA c_l_rest c_l_digit c_l_map c_l_led c_l_picture c_l_changed E))
def mW (c_l_rest c_l_digit c_l_map c_l_led c_l_picture c_l_changed:kI)(E:BK):MS:=
  (aP (dO (aR (Mk Gz (ak 6) (mC (.int 3)))) (aP (aX (aD c_l_picture E (aj (ak 5) (aj (ak 1) aF))) (FX 4))
  (aX (K9 pU (Mk bJ (ak 4) (ak 2)) cZ (cH (Ge Gb (aj (ak 2) aF)))) (FX 4))) bw)
  (sY c_l_rest c_l_digit c_l_map c_l_led c_l_picture c_l_changed E))
def Bu (c_l_rest c_l_digit c_l_map c_l_led c_l_picture c_l_changed:kI):kI:=FW 2 7 false fun E=>
  (aP (aX (aD c_l_picture E (aj (aD c_l_rest E (aj (ak 0) (aj (mC (.int 0)) aF))) (aj (ak 1) aF))) (FX 2))
  (aP (aX (aD c_l_map E (aj (aD c_l_rest E (aj (ak 0) (aj (mC (.int 1)) aF))) (aj (Mk Mx (mC (.int 10)) (mC (.int 9))) aF))) (FX 3))
  (aP (aX (GQ Gs [3] (Gu (ak 2)) fH (aD c_l_led E (aj (ak 1) (aj (ak 0) aF)))) (FX 4))
  (aP (aX (aD c_l_rest E (aj (ak 0) (aj (mC (.int 2)) aF))) (FX 5))
  (aP (aX (aD c_l_digit E (aj (ak 5) (aj (mC (.int 4)) aF))) (FX 6))
  (aP (dO (Mq (aR (Mk Gz (ak 6) (mC (.int 1)))) (aR (Mk Gz (ak 6) (mC (.int 2))))) (aX (aD c_l_changed E (aj (ak 4) (aj (ak 5) aF))) (FX 4)) bw)
  (mW c_l_rest c_l_digit c_l_map c_l_led c_l_picture c_l_changed E)))))))
def Bd:kI:=Bu vY eN Hf xQ lR uo
def rE (c_l_plain c_l_turn:kI):kI:=FW 2 8 false fun E=>
  (aP (aX (ak 0) (qK 4 (fB (FX 2) (fB (FX 3) (fB (FX 4) (fB (FX 5) Od))))))
  (aP (aX (Mk cG (Mk cG (aD c_l_turn E (aj (ak 1) (aj (ak 3) (aj (ak 4) aF)))) (aD c_l_turn E (aj (ak 2) (aj (ak 5) (aj (ak 4) aF))))) (aD c_l_turn E (aj (ak 2) (aj (ak 3) (aj (ak 5) aF))))) (FX 6))
  (aP (aX (Mk cG (Mk cG (aD c_l_turn E (aj (ak 2) (aj (ak 1) (aj (ak 4) aF)))) (aD c_l_turn E (aj (ak 5) (aj (ak 3) (aj (ak 4) aF))))) (aD c_l_turn E (aj (ak 2) (aj (ak 3) (aj (ak 5) aF))))) (FX 7))
  (bx (aD c_l_plain E (aj (qj (aj (ak 6) (aj (ak 7) (aj (Mk cG (Mk cG (aD c_l_turn E (aj (ak 2) (aj (ak 3) (aj (ak 1) aF)))) (aD c_l_turn E (aj (ak 5) (aj (ak 3) (aj (ak 4) aF))))) (aD c_l_turn E (aj (ak 2) (aj (ak 5) (aj (ak 4) aF))))) aF)))) aF))))))
def z9:kI:=rE eE jd
def xT (c_l_turn:kI):kI:=FW 2 7 false fun E=>
  (aP (aX (ak 0) (qK 4 (fB (FX 2) (fB (FX 3) (fB (FX 4) (fB (FX 5) Od))))))
  (aP (aX (Mk cG (aD c_l_turn E (aj (ak 2) (aj (ak 4) (aj (ak 1) aF)))) (aD c_l_turn E (aj (ak 3) (aj (ak 5) (aj (ak 1) aF))))) (FX 6))
  (bx (qj (aj (ak 6) (aj (Mk cG (aD c_l_turn E (aj (ak 2) (aj (ak 5) (aj (ak 1) aF)))) (aD c_l_turn E (aj (ak 3) (aj (ak 4) (aj (ak 1) aF))))) aF))))))
def wX:kI:=xT jd
def zaj (c_l_plain c_l_turn c_l_gaps:kI)(E:BK):MS:=
  (bx (mC .non))
def rO (c_l_plain c_l_turn c_l_gaps:kI)(E:BK):MS:=
  (aP (oF (Gu (yW (aj (qj (aj (mC (.int 1)) (aj (mC (.int 0)) (aj (mC (.int 0)) aF)))) (aj (qj (aj (mC (.int 0)) (aj (mC (.int 1)) (aj (mC (.int 0)) aF)))) (aj (qj (aj (mC (.int 0)) (aj (mC (.int 0)) (aj (mC (.int 1)) aF)))) aF))))) (FX 2) (dO (sJ (Ge SX (aj (GQ Gs [0,2] (Gu (ak 0)) fH (VB (Mk Hg (aD c_l_turn E (aj (Mk Bf (ak 1) (mC (.int 0))) (aj (ak 0) (aj (ak 2) aF)))) (mC (.int 0))) (Mk Hg (aD c_l_turn E (aj (Mk Bf (ak 1) (mC (.int 1))) (aj (ak 0) (aj (ak 2) aF)))) (mC (.int 0))))) aF))) (aP (aX (aD c_l_gaps E (aj (ak 0) (aj (ak 2) aF))) (FX 3))
  (dO (aR (Mk Hg (ak 3) (qj (aj (mC (.int 0)) (aj (mC (.int 0)) aF))))) (bx (aD c_l_plain E (aj (ak 3) aF))) bw)) bw))
  (zaj c_l_plain c_l_turn c_l_gaps E))
def tE (c_l_plain c_l_turn c_l_gaps:kI):kI:=FW 1 4 false fun E=>
  (aP (oF (dR (aj (mC (.int 4)) aF)) (FX 1) (dO (aR (Mk Hg (aD c_l_turn E (aj (Mk Bf (ak 0) (Mk jG (ak 1) (mC (.int 3)))) (aj (Mk Bf (ak 0) (Mk jG (ak 1) (mC (.int 2)))) (aj (Mk Bf (ak 0) (Mk jG (ak 1) (mC (.int 1)))) aF)))) (mC (.int 0)))) (bx (mC .non)) bw))
  (rO c_l_plain c_l_turn c_l_gaps E))
def zR:kI:=tE eE jd wX
def rH (c_l_turn c_l_free c_l_image c_l_throw:kI)(E:BK):MS:=
  (bx (Mk Hg (aD c_l_image E (aj (K9 pU (ak 4) cZ (cH (mC (.int 4)))) (aj (Mk Bf (ak 4) (mC (.int 4))) aF))) (aD c_l_image E (aj (K9 pU (ak 5) cZ (cH (mC (.int 4)))) (aj (Mk Bf (ak 5) (mC (.int 4))) aF)))))
def ur (c_l_turn c_l_free c_l_image c_l_throw:kI)(E:BK):MS:=
  (aP (dO (Mq (aR (Mk Hg (ak 2) (mC (.str "five")))) (Mq (aR (Mk Hg (Ge Gb (aj (ak 3) aF)) (mC (.int 5)))) (Mq (Fo (sJ (aD c_l_free E (aj (K9 pU (ak 4) cZ (cH (mC (.int 4)))) aF)))) (Fo (sJ (aD c_l_free E (aj (K9 pU (ak 5) cZ (cH (mC (.int 4)))) aF))))))) (bx (mC (.bl false))) bw)
  (rH c_l_turn c_l_free c_l_image c_l_throw E))
def mH (c_l_turn c_l_free c_l_image c_l_throw:kI)(E:BK):MS:=
  (aP (dO (HW (aR (Mk Gz (ak 2) (mC (.str "throw")))) (aR (Mk Gz (Ge Gb (aj (ak 3) aF)) (mC (.int 4))))) (aP (aX (aD c_l_throw E (aj (ak 4) aF)) (FX 6))
  (bx (Kl (Mk pC (ak 6) (mC .non)) (Kl (Mk pC (aD c_l_throw E (aj (ak 5) aF)) (mC .non)) (Mk Hg (ak 6) (aD c_l_throw E (aj (ak 5) aF))))))) bw)
  (ur c_l_turn c_l_free c_l_image c_l_throw E))
def iU (c_l_turn c_l_free c_l_image c_l_throw:kI)(E:BK):MS:=
  (aP (dO (HW (aR (Mk Gz (ak 2) (mC (.str "three")))) (aR (Mk Gz (Ge Gb (aj (ak 3) aF)) (mC (.int 3))))) (bx (Mk Hg (Mk Gz (aD c_l_turn E (aj (Mk Bf (ak 4) (mC (.int 0))) (aj (Mk Bf (ak 4) (mC (.int 1))) (aj (Mk Bf (ak 4) (mC (.int 2))) aF)))) (mC (.int 0))) (Mk Gz (aD c_l_turn E (aj (Mk Bf (ak 5) (mC (.int 0))) (aj (Mk Bf (ak 5) (mC (.int 1))) (aj (Mk Bf (ak 5) (mC (.int 2))) aF)))) (mC (.int 0))))) bw)
  (mH c_l_turn c_l_free c_l_image c_l_throw E))
def sE (c_l_turn c_l_free c_l_image c_l_throw:kI):kI:=FW 4 7 false fun E=>
  (aP (aX (GQ Gs [0] (Gu (ak 3)) fH (Mk Bf (ak 1) (ak 0))) (FX 4))
  (aP (aX (GQ Gs [1] (Gu (ak 3)) fH (Mk Bf (ak 1) (ak 0))) (FX 5))
  (aP (dO (HW (aR (Mk Gz (ak 2) (mC (.str "two")))) (aR (Mk Gz (Ge Gb (aj (ak 3) aF)) (mC (.int 2))))) (bx (Mk Hg (Mk Gz (Mk Bf (ak 4) (mC (.int 0))) (Mk Bf (ak 4) (mC (.int 1)))) (Mk Gz (Mk Bf (ak 5) (mC (.int 0))) (Mk Bf (ak 5) (mC (.int 1)))))) bw)
  (iU c_l_turn c_l_free c_l_image c_l_throw E))))
def zG:kI:=sE jd Fi z9 zR
def JM (c_form c_apart c_map_to c_l_led c_l_two c_l_shows:kI)(E:BK):MS:=
  (bx (aD c_l_shows E (aj (ak 1) (aj (ak 2) (aj (Mk Bf (ak 3) (mC (.int 0))) (aj (Mk Bf (ak 3) (mC (.int 1))) aF))))))
def Jp (c_form c_apart c_map_to c_l_led c_l_two c_l_shows:kI)(E:BK):MS:=
  (aP (oF (Gu (Mk Bf (ak 3) (mC (.int 1)))) (FX 5) (dO (Mq (Fo (sJ (Ge Qp (aj (ak 5) (aj (mC (.ty "int")) aF))))) (Mq (sJ (Ge Qp (aj (ak 5) (aj (mC (.ty "bool")) aF)))) (Fo (aR (KR kLe kLt (mC (.int 0)) (ak 5) (Ge Gb (aj (ak 1) aF))))))) (bx (mC (.bl false))) bw))
  (JM c_form c_apart c_map_to c_l_led c_l_two c_l_shows E))
def Ih (c_form c_apart c_map_to c_l_led c_l_two c_l_shows:kI)(E:BK):MS:=
  (aP (dO (Mq (Fo (sJ (Ge Qp (aj (ak 3) (aj (mC (.ty "tuple")) aF))))) (Mq (aR (Mk Hg (Ge Gb (aj (ak 3) aF)) (mC (.int 2)))) (Mq (Fo (sJ (Ge Qp (aj (Mk Bf (ak 3) (mC (.int 1))) (aj (mC (.ty "tuple")) aF))))) (aR (Mk Gz (aD c_form E (aj (ak 1) aF)) (aD c_form E (aj (ak 2) aF))))))) (bx (mC (.bl false))) bw)
  (Jp c_form c_apart c_map_to c_l_led c_l_two c_l_shows E))
def JL (c_form c_apart c_map_to c_l_led c_l_two c_l_shows:kI)(E:BK):MS:=
  (aP (dO (aR (Mk Hg (Ge Gb (aj (ak 1) aF)) (Ge Gb (aj (ak 2) aF)))) (bx (Mk Gz (ak 3) (qj (aj (mC (.str "many")) (aj (qj aF) aF))))) bw)
  (Ih c_form c_apart c_map_to c_l_led c_l_two c_l_shows E))
def S7 (c_form c_apart c_map_to c_l_led c_l_two c_l_shows:kI):kI:=FW 1 6 false fun E=>
  (aP (aX (aD c_l_two E (aj (ak 0) (aj (mC (.int 12)) aF))) (qK 2 (fB (FX 1) (fB (FX 2) Od))))
  (aP (aX (aD c_apart E (aj (Ge zB (aj (ak 1) aF)) (aj (Ge zB (aj (ak 2) aF)) aF))) (FX 3))
  (aP (dO (aR (Mk RZ (ak 3) (mC .non))) (aP (aX (aD c_map_to E (aj (Ge zB (aj (ak 1) aF)) (aj (Ge zB (aj (ak 2) aF)) aF))) (FX 4))
  (bx (Kl (Mk Gz (aD c_form E (aj (ak 1) aF)) (aD c_form E (aj (ak 2) aF))) (Mk Gz (GQ Gs [4] (Gu (ak 1)) fH (aD c_l_led E (aj (ak 1) (aj (ak 0) aF)))) (ak 2))))) bw)
  (JL c_form c_apart c_map_to c_l_led c_l_two c_l_shows E))))
def Tq (F_twos_differ F_threes_differ F_throws_differ:Addr):kI:=S7 Pn (wY F_twos_differ F_threes_differ F_throws_differ) (Cr F_twos_differ F_threes_differ F_throws_differ) xQ Bd zG
def zl:List Str:=["abs", "all", "any", "bool", "int", "isinstance", "len", "list", "max", "min", "range", "reversed", "sum", "tuple", "zip"]
structure Txt (P:FQ) (w:Cm) (K:Ad) (mg:Str->Option JI) (base:Heap):Prop where
 f0:At K mg "divisor_of_two" (top 8) ["one", "other"]
 f1:At K mg "divisor" (top 9) ["numbers"]
 f2:At K mg "ends_below" (top 10) ["numbers"]
 f3:At K mg "plain" (top 11) ["numbers"]
 f4:At K mg "dot" (top 13) ["one", "other"]
 f5:At K mg "cross" (top 14) ["one", "other"]
 f6:At K mg "turn" (top 15) ["one", "other", "third"]
 f7:At K mg "lies_on" (top 16) ["spot", "line"]
 f8:At K mg "share_one" (top 17) ["rows"]
 f9:At K mg "on_line" (top 18) ["spots"]
 f10:At K mg "plain_cross" (top 19) ["one", "other"]
 f11:At K mg "join" (top 20) ["one", "other"]
 f12:At K mg "rising" (top 22) ["many", "size"]
 f13:At K mg "picked" (top 23) ["things", "places"]
 f14:At K mg "rows_of" (top 26) ["table"]
 f15:At K mg "table_times_row" (top 27) ["table", "row"]
 f16:At K mg "flipped" (top 28) ["table"]
 f17:At K mg "table_times_table" (top 29) ["one", "other"]
 f18:At K mg "turned" (top 30) ["table"]
 f19:At K mg "led" (top 31) ["by", "spot"]
 f20:At K mg "then" (top 32) ["one", "other"]
 f21:At K mg "back" (top 33) ["by"]
 f22:At K mg "tiles" (top 34) []
 f23:At K mg "are_free" (top 35) ["four"]
 f24:At K mg "from_tiles" (top 36) ["four"]
 f25:At K mg "map_between" (top 37) ["four", "others"]
 f26:At K mg "check_picture" (top 39) ["picture"]
 f27:At K mg "first_free" (top 40) ["picture"]
 f28:At K mg "unlike_spots" (top 41) ["picture"]
 f29:At K mg "line_of_three" (top 42) ["unlike"]
 f30:At K mg "kind_of" (top 43) ["picture"]
 f31:At K mg "units" (top 44) []
 f32:At K mg "spot_between" (top 45) ["spots"]
 f33:At K mg "leading_of_line" (top 46) ["unlike", "line"]
 f34:At K mg "filled_up" (top 47) ["unlike"]
 f35:At K mg "leading_of_few" (top 48) ["unlike"]
 f36:At K mg "leading" (top 49) ["picture"]
 f37:At K mg "led_picture" (top 50) ["by", "picture"]
 f38:At K mg "form" (top 51) ["picture"]
 f39:At K mg "place_off" (top 53) ["spots"]
 f40:At K mg "turn_at" (top 54) ["one", "other", "place"]
 f41:At K mg "has_three_alike" (top 55) ["four"]
 f42:At K mg "throw_numbers" (top 56) ["four"]
 f43:At K mg "twos_differ" (top 59) ["one", "other"]
 f44:At K mg "threes_differ" (top 60) ["one", "other"]
 f45:At K mg "throws_differ" (top 61) ["one", "other"]
 f46:At K mg "first_places" (top 58) ["one", "other", "size", "differs"]
 f47:At K mg "fifth_apart" (top 62) ["one", "other"]
 f48:At K mg "apart_of_as_many" (top 63) ["one", "other"]
 f49:At K mg "apart" (top 64) ["one", "other"]
 f50:At K mg "map_to" (top 65) ["one", "other"]
 f51:At K mg "_law_cell_at" (top 67) ["_law_script", "_law_k"]
 f52:At K mg "_law_rest" (top 68) ["_law_script", "_law_k"]
 f53:At K mg "_law_digit" (top 69) ["_law_rest_here", "_law_many"]
 f54:At K mg "_law_number" (top 70) ["_law_rest_here", "_law_far"]
 f55:At K mg "_law_divisor" (top 72) ["_law_numbers"]
 f56:At K mg "_law_plain" (top 73) ["_law_numbers"]
 f57:At K mg "_law_spot" (top 74) ["_law_rest_here", "_law_far"]
 f58:At K mg "_law_cross" (top 75) ["_law_one", "_law_other"]
 f59:At K mg "_law_dot" (top 76) ["_law_one", "_law_other"]
 f60:At K mg "_law_size" (top 77) ["_law_numbers"]
 f61:At K mg "_law_map" (top 78) ["_law_rest_here", "_law_far"]
 f62:At K mg "_law_led" (top 79) ["_law_by", "_law_spot_here"]
 f63:At K mg "_law_turn" (top 80) ["_law_one", "_law_other", "_law_third"]
 f64:At K mg "_law_free" (top 81) ["_law_four"]
 f65:At K mg "_law_mixed" (top 82) ["_law_one", "_law_other", "_law_rest_here"]
 f66:At K mg "_law_next" (top 83) ["_law_spots", "_law_style", "_law_rest_here"]
 f67:At K mg "_law_picture" (top 84) ["_law_rest_here", "_law_most"]
 f68:At K mg "_law_changed" (top 85) ["_law_spots", "_law_rest_here"]
 f69:At K mg "_law_two" (top 86) ["_law_script", "_law_most"]
 f70:At K mg "_law_image" (top 87) ["_law_four", "_law_spot_here"]
 f71:At K mg "_law_gaps" (top 88) ["_law_spots", "_law_off"]
 f72:At K mg "_law_throw" (top 89) ["_law_spots"]
 f73:At K mg "_law_shows" (top 90) ["_law_one", "_law_other", "_law_word", "_law_places"]
 z:∀ n∈zl,mg n=FN
 c_TILES:∃ a,mg "TILES" = Dn (.ref a)/\∀ H μ,Aa K H μ tW (.ref a)
section
variable {P:FQ}{w:Cm}{K:Ad}{mg:Str->Option JI}{base:Heap}(T:Txt P w K mg base)
include T
theorem pJ:Fk P w K mg base 10 "divisor_of_two" jx:=by
 refine fk (k:=9) ["one", "other", "rest"] T.f0 T.z ?_
 intros
 refine ao (FZ 0<|Hx Ng boot_abs<|a1<|vV 0) ?_;refine ao (FZ 1<|Hx Ng boot_abs<|a1<|vV 1) ?_;refine ao (Fb Lj (Gd (qW qq) (vV 1) aA)<|ao (FZ 2<|aW oV (vV 0)<|vV 1)<|ao (FZ 0<|vV 1)<|aq<|FZ 1<|vV 2) ?_;exact aq<|aG<|vV 0
theorem afe:Fk P w K mg base 11 "divisor" zf:=by
 refine fk (k:=10) ["numbers", "found", "number"] T.f1 T.z ?_
 intros
 refine ao (FZ 1 aA) ?_;refine ao (cW Lj hh (bO<|vV 0) (IK 2)<|aq<|FZ 1<|Af (pJ T)<|a2 (vV 2)<|vV 1) ?_;exact aq<|aG<|vV 1
theorem xO:Fk P w K mg base 10 "ends_below" pZ:=by
 refine fk (k:=9) ["numbers", "number"] T.f2 T.z ?_
 intros
 refine ao (cW Lj hh (Vh (by rfl) (by exact T.z _ (by decide)) (a1<|vV 0) (cC<|by rfl)<|fZ<|by rfl) (IK 1)<|aq<|bH (Gd (qW qq) (vV 1) aA) (aq<|aG<|KC Ur (vV 1) aA) aJ) ?_;exact aq<|aG QM
theorem kW:Fk P w K mg base 12 "plain" jW:=by
 refine fk (k:=11) ["numbers", "factor"] T.f3 T.z ?_
 intros
 refine ao (FZ 1<|Af (afe T)<|a1<|vV 0) ?_;refine ao (bH (Gd (jy qq) (vV 1) aA) (aq mY) aJ) ?_;refine ao (bH (c7<|Af (xO T)<|a1<|vV 0) (aq<|FZ 1<|Xq<|vV 1) aJ) ?_;exact aq<|aG<|dct Ba boot_tuple<|a1<|Mi [1] (bO<|vV 0)<|fun _ _ _ _=>(aW Br (vV 0)<|vV 1)
theorem zP:Fk P w K mg base 10 "dot" Fw:=by
 refine fk (k:=9) ["one", "other"] T.f4 T.z ?_
 intros
 exact aq<|aG<|aW bR (aW bR (aW bI (Bt (vV 0) aA)<|Bt (vV 1) aA)<|aW bI (Bt (vV 0) aA)<|Bt (vV 1) aA)<|aW bI (Bt (vV 0) aA)<|Bt (vV 1) aA
theorem iR:Fk P w K mg base 10 "cross" oG:=by
 refine fk (k:=9) ["one", "other"] T.f5 T.z ?_
 intros
 exact aq<|aG<|gB<|a3 (aW dU (aW bI (Bt (vV 0) aA)<|Bt (vV 1) aA)<|aW bI (Bt (vV 0) aA)<|Bt (vV 1) aA) (aW dU (aW bI (Bt (vV 0) aA)<|Bt (vV 1) aA)<|aW bI (Bt (vV 0) aA)<|Bt (vV 1) aA)<|aW dU (aW bI (Bt (vV 0) aA)<|Bt (vV 1) aA)<|aW bI (Bt (vV 0) aA)<|Bt (vV 1) aA
theorem wH:Fk P w K mg base 11 "turn" QB:=by
 refine fk (k:=10) ["one", "other", "third"] T.f6 T.z ?_
 intros
 exact aq<|aG<|Af (zP T)<|a2 (Af (iR T)<|a2 (vV 0)<|vV 1)<|vV 2
theorem vf:Fk P w K mg base 11 "lies_on" Ai:=by
 refine fk (k:=10) ["spot", "line"] T.f7 T.z ?_
 intros
 exact aq<|aG<|KC (jy qq) (Af (zP T)<|a2 (vV 0)<|vV 1) aA
theorem yI:Fk P w K mg base 11 "share_one" rD:=by
 refine fk (k:=10) ["rows", "unlike", "shared"] T.f8 T.z ?_
 intros
 refine ao (uR [0] (i:=1) (by assumption) (by rfl) (by exact Or.inl rfl) hh (cD<|by rfl) uM (uT<|cD<|by rfl) (bO<|vV 0) (fun _ _ _ _=>(oW<|Gd (qW qq) (vV 0)<|Bt (vV 1) aA))<|fun _ _ _ _=>(vV 0)) ?_;refine ao (bH (jD<|c7<|vV 1) (aq<|aG QM) aJ) ?_;refine ao (FZ 2<|Af (iR T)<|a2 (Bt (vV 0) aA)<|Bt (vV 1) aA) ?_;exact aq<|aG<|Hx (aa5 hh) boot_all<|a1<|Mi [2] (bO<|vV 1)<|fun _ _ _ _=>(KC (jy qq) (Af (zP T)<|a2 (vV 1)<|vV 0) aA)
theorem gY:Fk P w K mg base 12 "on_line" gM:=by
 refine fk (k:=11) ["spots"] T.f9 T.z ?_
 intros
 exact aq<|aG<|Af (yI T)<|a1<|vV 0
theorem uY:Fk P w K mg base 13 "plain_cross" nj:=by
 refine fk (k:=12) ["one", "other"] T.f10 T.z ?_
 intros
 refine ao (bH (Gd (jy qq) (vV 0)<|vV 1) (aq mY) aJ) ?_;exact aq<|aG<|Af (kW T)<|a1<|Af (iR T)<|a2 (vV 0)<|vV 1
theorem afR:Fk P w K mg base 14 "join" Jr:=by
 refine fk (k:=13) ["one", "other"] T.f11 T.z ?_
 intros
 exact aq<|aG<|Af (uY T)<|a2 (vV 0)<|vV 1
theorem tR:Fk P w K mg base 10 "rising" nQ:=by
 refine fk (k:=9) ["many", "size", "found", "taken", "longer", "places", "first"] T.f12 T.z ?_
 intros
 refine ao ?_ ?_
 ·with_reducible exact FZ 2 (lW (a1 (gB qC)))
 refine ao (cW Lj hh (N6<|a1<|vV 1) (IK 3)<|ao (FZ 4<|sV qC)<|ao (cW Lj hh (bO<|vV 2) (IK 5)<|ao (FZ 6<|acf (Gd Q9 (vV 3) aA) (aW bR (Bt (vV 5)<|aW dU (vV 3) aA) aA) aA)<|aq<|fW<|DW (vV 4) (a1<|Mi [5] (aeL (by rfl) (by exact T.z _ (by decide))<|a2 (vV 6)<|vV 0)<|fun _ _ _ _=>(aW bR (vV 1)<|gB<|a1<|vV 0)) (by rfl) (yP<|by rfl) (by rfl) (cC<|by rfl)<|by rfl)<|aq<|FZ 2<|vV 4) ?_;exact aq<|aG<|vV 2
theorem fU:Fk P w K mg base 10 "picked" iT:=by
 refine fk (k:=9) ["things", "places"] T.f13 T.z ?_
 intros
 exact aq<|aG<|Mi [0] (bO<|vV 1)<|fun _ _ _ _=>(Bt (vV 1)<|vV 0)
theorem lg:Fk P w K mg base 10 "rows_of" jJ:=by
 refine fk (k:=9) ["table"] T.f14 T.z ?_
 intros
 exact aq<|aG<|lW<|a3 (iQ (vV 0) (bF aA)<|bF aA) (iQ (vV 0) (bF aA)<|bF aA)<|iQ (vV 0) (bF aA)<|bF aA
theorem fY:Fk P w K mg base 11 "table_times_row" cM:=by
 refine fk (k:=10) ["table", "row"] T.f15 T.z ?_
 intros
 exact aq<|aG<|Mi [1] (bO<|Af (lg T)<|a1<|vV 0)<|fun _ _ _ _=>(Af (zP T)<|a2 (vV 0)<|vV 1)
theorem vg:Fk P w K mg base 10 "flipped" tG:=by
 refine fk (k:=9) ["table"] T.f16 T.z ?_
 intros
 exact aq<|aG<|Mi [0] (N6<|a1 aA)<|fun _ _ _ _=>(Bt (vV 1)<|aW bR (aW bI aA<|aW oV (vV 0) aA)<|aW Br (vV 0) aA)
theorem lA:Fk P w K mg base 11 "table_times_table" cV:=by
 refine fk (k:=10) ["one", "other", "columns", "numbers", "row"] T.f17 T.z ?_
 intros
 refine ao (FZ 2<|Af (lg T)<|a1<|Af (vg T)<|a1<|vV 1) ?_;refine ao (FZ 3<|sV qC) ?_;refine ao (cW Lj hh (bO<|Af (lg T)<|a1<|vV 0) (IK 4)<|aq<|fW<|DW (vV 3) (a1<|Mi [4] (bO<|vV 2)<|fun _ _ _ _=>(Af (zP T)<|a2 (vV 1)<|vV 0)) (by rfl) (yP<|by rfl) (by rfl) (cC<|by rfl)<|by rfl) ?_;exact aq<|aG<|vV 3
theorem zZ:Fk P w K mg base 11 "turned" qU:=by
 refine fk (k:=10) ["table", "rows"] T.f18 T.z ?_
 intros
 refine ao (FZ 1<|Af (lg T)<|a1<|vV 0) ?_;exact aq<|aG<|aW bR (aW bR (Af (iR T)<|a2 (Bt (vV 1) aA)<|Bt (vV 1) aA)<|Af (iR T)<|a2 (Bt (vV 1) aA)<|Bt (vV 1) aA)<|Af (iR T)<|a2 (Bt (vV 1) aA)<|Bt (vV 1) aA
theorem Jh:Fk P w K mg base 13 "led" O4:=by
 refine fk (k:=12) ["by", "spot"] T.f19 T.z ?_
 intros
 exact aq<|aG<|Af (kW T)<|a1<|Af (fY T)<|a2 (vV 0)<|vV 1
theorem KZ:Fk P w K mg base 13 "then" K1:=by
 refine fk (k:=12) ["one", "other"] T.f20 T.z ?_
 intros
 exact aq<|aG<|Af (kW T)<|a1<|Af (lA T)<|a2 (vV 1)<|vV 0
theorem K7:Fk P w K mg base 13 "back" Di:=by
 refine fk (k:=12) ["by"] T.f21 T.z ?_
 intros
 exact aq<|aG<|Af (kW T)<|a1<|Af (vg T)<|a1<|Af (zZ T)<|a1<|vV 0
theorem j9:Fk P w K mg base 10 "tiles" pP:=by
 refine fk (k:=9) [] T.f22 T.z ?_
 intros
 obtain ⟨a_TILES,g_TILES,r_TILES⟩:=T.c_TILES;exact aq<|aG<|dct Ah boot_list<|a1<|dc (v:=.ref a_TILES) (Jg (by rfl) g_TILES<|by rfl) r_TILES
theorem lX:Fk P w K mg base 12 "are_free" kE:=by
 refine fk (k:=11) ["four", "turns"] T.f23 T.z ?_
 intros
 refine ao (FZ 1<|lW<|aC (Af (wH T)<|a3 (Bt (vV 0) aA) (Bt (vV 0) aA)<|Bt (vV 0) aA)<|a3 (Af (wH T)<|a3 (Bt (vV 0) aA) (Bt (vV 0) aA)<|Bt (vV 0) aA) (Af (wH T)<|a3 (Bt (vV 0) aA) (Bt (vV 0) aA)<|Bt (vV 0) aA)<|Af (wH T)<|a3 (Bt (vV 0) aA) (Bt (vV 0) aA)<|Bt (vV 0) aA) ?_;exact aq<|aG<|KC abH aA<|vV 1
theorem nY:Fk P w K mg base 13 "from_tiles" qg:=by
 refine fk (k:=12) ["four", "factors"] T.f24 T.z ?_
 intros
 refine ao (FZ 1<|Af (fY T)<|a2 (Af (zZ T)<|a1<|aW bR (aW bR (Bt (vV 0) aA)<|Bt (vV 0) aA)<|Bt (vV 0) aA)<|Bt (vV 0) aA) ?_;exact aq<|aG<|Af (kW T)<|a1<|Mi [0,1] (N6<|a1 aA)<|fun _ _ _ _=>(aW bI (Bt (vV 2)<|aW oV (vV 0) aA)<|Bt (Bt (vV 1)<|aW oV (vV 0) aA)<|aW Br (vV 0) aA)
theorem cR:Fk P w K mg base 14 "map_between" cN:=by
 refine fk (k:=13) ["four", "others"] T.f25 T.z ?_
 intros
 refine ao (bH (oH (jD<|c7<|Af (lX T)<|a1<|vV 0)<|qw<|jD<|c7<|Af (lX T)<|a1<|vV 1).pt (aq mY) aJ) ?_;exact aq<|aG<|Af (KZ T)<|a2 (Af (K7 T)<|a1<|Af (nY T)<|a1<|vV 0)<|Af (nY T)<|a1<|vV 1
theorem cU:Fk P w K mg base 10 "check_picture" dD:=by
 refine fk (k:=9) ["picture"] T.f26 T.z ?_
 intros
 exact aq<|bH (oH (Gd Ur (Hx dZ K6<|a1<|vV 0) aA)<|qw<|Gd Q9 (Hx dZ K6<|a1<|vV 0) aA).pt (aq mY) aJ
theorem iW:Fk P w K mg base 13 "first_free" eG:=by
 refine fk (k:=12) ["picture", "places"] T.f27 T.z ?_
 intros
 refine ao (cW Lj hh (bO<|Af (tR T)<|a2 (Hx dZ K6<|a1<|vV 0) aA) (IK 1)<|aq<|bH (c7<|Af (lX T)<|a1<|Af (fU T)<|a2 (vV 0)<|vV 1) (aq<|aG<|vV 1) aJ) ?_;exact aq<|aG iG
theorem jH:Fk P w K mg base 10 "unlike_spots" gC:=by
 refine fk (k:=9) ["picture", "found", "spot"] T.f28 T.z ?_
 intros
 refine ao (FZ 1<|sV qC) ?_;refine ao (cW Lj hh (bO<|vV 0) (IK 2)<|aq<|bH (Gd (Y7 qq) (vV 2)<|vV 1) (aq<|fW<|oA (vV 1) (a1<|vV 2) (by rfl) (yP<|by rfl) (by rfl) (cC<|by rfl)<|by rfl) aJ) ?_;exact aq<|aG<|vV 1
theorem jw:Fk P w K mg base 15 "line_of_three" fP:=by
 refine fk (k:=14) ["unlike", "places", "three"] T.f29 T.z ?_
 intros
 refine ao (cW Lj hh (bO<|Af (tR T)<|a2 (Hx dZ K6<|a1<|vV 0) aA) (IK 1)<|ao (FZ 2<|Af (fU T)<|a2 (vV 0)<|vV 1)<|aq<|bH (c7<|Af (gY T)<|a1<|vV 2) (aq<|aG<|Af (afR T)<|a2 (Bt (vV 2) aA)<|Bt (vV 2) aA) aJ) ?_;exact aq<|aG iG
theorem zat:Fk P w K mg base 16 "kind_of" zx:=by
 refine fk (k:=15) ["picture"] T.f30 T.z ?_
 intros
 refine ao (fW<|Af (cU T)<|a1<|vV 0) ?_;refine ao (bH (Gd pX (Af (iW T)<|a1<|vV 0) iG) (aq<|aG pO) aJ) ?_;refine ao (bH (Gd pX (Af (jw T)<|a1<|Af (jH T)<|a1<|vV 0) iG) (aq<|aG pO) aJ) ?_;exact aq<|aG pO
theorem Ds:Fk P w K mg base 11 "units" wW:=by
 refine fk (k:=10) [] T.f31 T.z ?_
 intros
 exact aq<|aG<|iQ (Rf<|j9 T) eX<|bF aA
theorem j6:Fk P w K mg base 13 "spot_between" gG:=by
 refine fk (k:=12) ["spots"] T.f32 T.z ?_
 intros
 exact aq<|aG<|Af (kW T)<|a1<|Mi [0] (N6<|a1 aA)<|fun _ _ _ _=>(Hx (Ws hh) boot_sum<|a1<|Mi [0] (bO<|vV 1)<|fun _ _ _ _=>(Bt (vV 0)<|vV 1))
theorem n8:Fk P w K mg base 15 "leading_of_line" gZ:=by
 refine fk (k:=14) ["unlike", "line", "on", "off"] T.f33 T.z ?_
 intros
 refine ao (uR [1] (i:=2) (by assumption) (by rfl) (by exact Or.inl rfl) hh (cD<|by rfl) uM (uT<|cD<|by rfl) (bO<|vV 0) (fun _ _ _ _=>(oW<|c7<|Af (vf T)<|a2 (vV 0)<|vV 1))<|fun _ _ _ _=>(vV 0)) ?_;refine ao (uR [1] (i:=3) (by assumption) (by rfl) (by exact Or.inl rfl) hh (cD<|by rfl) uM (uT<|cD<|by rfl) (bO<|aW bR (vV 0)<|Rf<|Ds T) (fun _ _ _ _=>(oW<|jD<|c7<|Af (vf T)<|a2 (vV 0)<|vV 1))<|fun _ _ _ _=>(vV 0)) ?_;refine aq ?_;with_reducible exact aG (Af (by with_unfolding_all exact cR T) (a2 (lW (aC (Bt (vV 2) aA) (a3 (Bt (vV 2) aA) (Bt (vV 3) aA) (Af (by with_unfolding_all exact j6 T) (a1 (lW (a2 (Bt (vV 3) aA) (Bt (vV 2) aA)))))))) (Rf (by with_unfolding_all exact j9 T))))
theorem zah:Fk P w K mg base 13 "filled_up" rF:=by
 refine fk (k:=12) ["unlike", "three", "unit"] T.f34 T.z ?_
 intros
 refine ao (FZ 1<|dct agh boot_list<|a1<|vV 0) ?_;refine ao (cW Lj hh (bO<|Rf<|Ds T) (IK 2)<|aq<|bH (mL (Gd (jy qq) (Hx dZ K6<|a1<|vV 1) aA)<|jO<|Gd (qW qq) (vV 2)<|Bt (vV 1) aA).pt (aq<|fW<|oA (vV 1) (a1<|vV 2) (by rfl) (yP<|by rfl) (by rfl) (cC<|by rfl)<|by rfl) (aq<|bH (mL (Gd (jy qq) (Hx dZ K6<|a1<|vV 1) aA)<|jO<|jD<|c7<|Af (gY T)<|a1<|aW bR (vV 1)<|lW<|a1<|vV 2).pt (aq<|fW<|oA (vV 1) (a1<|vV 2) (by rfl) (yP<|by rfl) (by rfl) (cC<|by rfl)<|by rfl) aJ)) ?_;exact aq<|aG<|vV 1
theorem oO:Fk P w K mg base 15 "leading_of_few" jm:=by
 refine fk (k:=14) ["unlike", "three"] T.f35 T.z ?_
 intros
 refine ao (FZ 1<|Af (zah T)<|a1<|vV 0) ?_;exact aq<|aG<|Af (cR T)<|a2 (aW bR (vV 1)<|lW<|a1<|Af (j6 T)<|a1<|vV 1)<|Rf<|j9 T
theorem pH:Fk P w K mg base 16 "leading" nM:=by
 refine fk (k:=15) ["picture", "places", "unlike", "line"] T.f36 T.z ?_
 intros
 refine ao (fW<|Af (cU T)<|a1<|vV 0) ?_;refine ao (FZ 1<|Af (iW T)<|a1<|vV 0) ?_;refine ao (bH (Gd pX (vV 1) iG) (aq<|aG<|Af (cR T)<|a2 (Af (fU T)<|a2 (vV 0)<|vV 1)<|Rf<|j9 T) aJ) ?_;refine ao (FZ 2<|Af (jH T)<|a1<|vV 0) ?_;refine ao (FZ 3<|Af (jw T)<|a1<|vV 2) ?_;refine ao (bH (Gd pX (vV 3) iG) (aq<|aG<|Af (n8 T)<|a2 (vV 2)<|vV 3) aJ) ?_;exact aq<|aG<|Af (oO T)<|a1<|vV 2
theorem uX:Fk P w K mg base 14 "led_picture" nF:=by
 refine fk (k:=13) ["by", "picture"] T.f37 T.z ?_
 intros
 exact aq<|aG<|Mi [0] (bO<|vV 1)<|fun _ _ _ _=>(Af (Jh T)<|a2 (vV 1)<|vV 0)
theorem xq:Fk P w K mg base 17 "form" Pn:=by
 refine fk (k:=16) ["picture"] T.f38 T.z ?_
 intros
 exact aq<|aG<|gB<|a2 (Af (zat T)<|a1<|vV 0)<|Af (uX T)<|a2 (Af (pH T)<|a1<|vV 0)<|vV 0
theorem zL:Fk P w K mg base 11 "place_off" uI:=by
 refine fk (k:=10) ["spots", "unlike", "line"] T.f39 T.z ?_
 intros
 refine ao (uR [0] (i:=1) (by assumption) (by rfl) (by exact Or.inl rfl) hh (cD<|by rfl) uM (uT<|cD<|by rfl) (bO<|vV 0) (fun _ _ _ _=>(oW<|Gd (qW qq) (vV 0)<|Bt (vV 1) aA))<|fun _ _ _ _=>(vV 0)) ?_;refine ao (FZ 2<|Af (iR T)<|a2 (Bt (vV 0) aA)<|Bt (vV 1) aA) ?_;exact aq<|aG<|Bt (dl1 [2] (N6<|a1 aA) (fun _ _ _ _=>(oW<|Gd (qW qq) (Bt (vV 1)<|vV 0) aA))<|fun _ _ _ _=>(vV 0)) aA
theorem kZ:Fk P w K mg base 10 "turn_at" yJ:=by
 refine fk (k:=9) ["one", "other", "place", "first", "second"] T.f40 T.z ?_
 intros
 refine ao (FZ 3<|aW oV (aW bR (vV 2) aA) aA) ?_;refine ao (FZ 4<|aW oV (aW bR (vV 2) aA) aA) ?_;exact aq<|aG<|aW dU (aW bI (Bt (vV 0)<|vV 3)<|Bt (vV 1)<|vV 4)<|aW bI (Bt (vV 0)<|vV 4)<|Bt (vV 1)<|vV 3
theorem mQ:Fk P w K mg base 10 "has_three_alike" gW:=by
 refine fk (k:=9) ["four"] T.f41 T.z ?_
 intros
 exact aq<|aG<|KC Q9 (Hx (afF hh) boot_max<|a1<|Mi [0] (bO<|vV 0)<|fun _ _ _ _=>(zbK qq (vV 1) (a1<|vV 0) (by rfl) (yP<|by rfl) (by rfl) (cC<|by rfl)<|by rfl)) aA
theorem jt:Fk P w K mg base 12 "throw_numbers" j5:=by
 refine fk (k:=11) ["four", "place"] T.f42 T.z ?_
 intros
 refine ao (FZ 1<|Af (zL T)<|a1<|vV 0) ?_;exact aq<|aG<|lW<|a2 (aW bI (Af (kZ T)<|a3 (Bt (vV 0) aA) (Bt (vV 0) aA)<|vV 1)<|Af (kZ T)<|a3 (Bt (vV 0) aA) (Bt (vV 0) aA)<|vV 1)<|aW bI (Af (kZ T)<|a3 (Bt (vV 0) aA) (Bt (vV 0) aA)<|vV 1)<|Af (kZ T)<|a3 (Bt (vV 0) aA) (Bt (vV 0) aA)<|vV 1
theorem uN:Fk P w K mg base 10 "twos_differ" cu:=by
 refine fk (k:=9) ["one", "other"] T.f43 T.z ?_
 intros
 exact aq<|aG<|KC (qW qq) (KC (jy qq) (Bt (vV 0) aA)<|Bt (vV 0) aA)<|KC (jy qq) (Bt (vV 1) aA)<|Bt (vV 1) aA
theorem qH:Fk P w K mg base 13 "threes_differ" bQ:=by
 refine fk (k:=12) ["one", "other"] T.f44 T.z ?_
 intros
 exact aq<|aG<|KC (qW qq) (Af (gY T)<|a1<|vV 0)<|Af (gY T)<|a1<|vV 1
theorem qM:Fk P w K mg base 13 "throws_differ" bL:=by
 refine fk (k:=12) ["one", "other", "mine", "its"] T.f45 T.z ?_
 intros
 refine ao (bH (oH (jD<|c7<|Af (gY T)<|a1<|vV 0)<|qw<|c7<|Af (mQ T)<|a1<|vV 0).pt (aq<|aG QM) aJ) ?_;refine ao (FZ 2<|Af (jt T)<|a1<|vV 0) ?_;refine ao (FZ 3<|Af (jt T)<|a1<|vV 1) ?_;exact aq<|aG<|KC (qW qq) (aW bI (Bt (vV 2) aA)<|Bt (vV 3) aA)<|aW bI (Bt (vV 2) aA)<|Bt (vV 3) aA
theorem q9 {F_twos_differ F_threes_differ F_throws_differ:Addr}(A_twos_differ:M9 P w K mg base 10 "twos_differ" cu F_twos_differ)(A_threes_differ:M9 P w K mg base 13 "threes_differ" bQ F_threes_differ)(A_throws_differ:M9 P w K mg base 13 "throws_differ" bL F_throws_differ):Fk P w K mg base 14 "first_places" (gD F_twos_differ F_threes_differ F_throws_differ):=by
 refine fk (k:=13) ["one", "other", "size", "differs", "places"] T.f46 T.z ?_
 intros
 refine ao (cW Lj hh (bO<|Af (tR T)<|a2 (Hx dZ K6<|a1<|vV 0)<|vV 2) (IK 4)<|aq<|bH (c7<|dcv 3 (vfc (k:=13) A_twos_differ<|vfc (k:=13) A_threes_differ<|vfc (k:=13) A_throws_differ OJ.nil) (pv 3)<|a2 (Af (fU T)<|a2 (vV 0)<|vV 4)<|Af (fU T)<|a2 (vV 1)<|vV 4) (aq<|aG<|vV 4) aJ) ?_;exact aq<|aG iG
theorem uP:Fk P w K mg base 15 "fifth_apart" nU:=by
 refine fk (k:=14) ["one", "other", "places", "by", "other_by", "place"] T.f47 T.z ?_
 intros
 refine ao (FZ 2<|Af (iW T)<|a1<|vV 0) ?_;refine ao (bH (Gd aaS (vV 2) iG) (aq<|aG iG) aJ) ?_;refine ao (FZ 3<|Af (cR T)<|a2 (Af (fU T)<|a2 (vV 0)<|vV 2)<|Rf<|j9 T) ?_;refine ao (FZ 4<|Af (cR T)<|a2 (Af (fU T)<|a2 (vV 1)<|vV 2)<|Rf<|j9 T) ?_;refine ao (cW Lj hh (N6<|a1<|Hx dZ K6<|a1<|vV 0) (IK 5)<|aq<|bH (Gd (qW qq) (Af (Jh T)<|a2 (vV 3)<|Bt (vV 0)<|vV 5)<|Af (Jh T)<|a2 (vV 4)<|Bt (vV 1)<|vV 5) (aq<|aG<|aW bR (vV 2)<|gB<|a1<|vV 5) aJ) ?_;exact aq<|aG iG
theorem lM {F_twos_differ F_threes_differ F_throws_differ:Addr}(A_twos_differ:M9 P w K mg base 10 "twos_differ" cu F_twos_differ)(A_threes_differ:M9 P w K mg base 13 "threes_differ" bQ F_threes_differ)(A_throws_differ:M9 P w K mg base 13 "throws_differ" bL F_throws_differ):Fk P w K mg base 16 "apart_of_as_many" (gk F_twos_differ F_threes_differ F_throws_differ):=by
 refine fk (k:=15) ["one", "other", "word", "size", "differs", "places"] T.f48 T.z ?_
 intros
 refine ao ?_ ?_
 ·with_reducible exact cW (hs:=by with_unfolding_all (intro _;rfl)) (by with_unfolding_all exact Lj) hh (bO (lW (a3 (gB (a3 pO aA (dfv 0 (by with_unfolding_all exact A_twos_differ)))) (gB (a3 pO aA (dfv 1 (by with_unfolding_all exact A_threes_differ)))) (gB (a3 pO aA (dfv 2 (by with_unfolding_all exact A_throws_differ))))))) (lZ (hn:=by with_unfolding_all rfl) (hst:=by with_unfolding_all rfl) hh (bC (hs:=by with_unfolding_all rfl) (IK 2) (bC (hs:=by with_unfolding_all rfl) (IK 3) (bC (hs:=by with_unfolding_all rfl) (IK 4) lO)))) (ao (FZ 5 (Af (by with_unfolding_all exact q9 T A_twos_differ A_threes_differ A_throws_differ) (aC (vV 0) (a3 (vV 1) (vV 3) (vV 4))))) (aq (bH (Gd pX (vV 5) iG) (aq (aG (gB (a2 (vV 2) (vV 5))))) aJ)))
 refine ao (FZ 5<|Af (uP T)<|a2 (vV 0)<|vV 1) ?_;exact aq<|aG<|acf (Gd aaS (vV 5) iG) iG<|gB<|a2 pO<|vV 5
theorem Dv {F_twos_differ F_threes_differ F_throws_differ:Addr}(A_twos_differ:M9 P w K mg base 10 "twos_differ" cu F_twos_differ)(A_threes_differ:M9 P w K mg base 13 "threes_differ" bQ F_threes_differ)(A_throws_differ:M9 P w K mg base 13 "throws_differ" bL F_throws_differ):Fk P w K mg base 17 "apart" (wY F_twos_differ F_threes_differ F_throws_differ):=by
 refine fk (k:=16) ["one", "other"] T.f49 T.z ?_
 intros
 refine ao (fW<|Af (cU T)<|a1<|vV 0) ?_;refine ao (fW<|Af (cU T)<|a1<|vV 1) ?_;refine ao ?_ ?_
 ·with_reducible exact bH (Gd (qW qq) (Hx dZ K6 (a1 (vV 0))) (Hx dZ K6 (a1 (vV 1)))) (aq (aG (gB (a2 pO (gB qC))))) aJ
 exact aq<|aG<|Af (lM T A_twos_differ A_threes_differ A_throws_differ)<|a2 (vV 0)<|vV 1
theorem zaP {F_twos_differ F_threes_differ F_throws_differ:Addr}(A_twos_differ:M9 P w K mg base 10 "twos_differ" cu F_twos_differ)(A_threes_differ:M9 P w K mg base 13 "threes_differ" bQ F_threes_differ)(A_throws_differ:M9 P w K mg base 13 "throws_differ" bL F_throws_differ):Fk P w K mg base 18 "map_to" (Cr F_twos_differ F_threes_differ F_throws_differ):=by
 refine fk (k:=17) ["one", "other", "found"] T.f50 T.z ?_
 intros
 refine ao (FZ 2<|Af (Dv T A_twos_differ A_threes_differ A_throws_differ)<|a2 (vV 0)<|vV 1) ?_;refine ao (bH (Gd pX (vV 2) iG) (aq mY) aJ) ?_;exact aq<|aG<|Af (KZ T)<|a2 (Af (pH T)<|a1<|vV 0)<|Af (K7 T)<|a1<|Af (pH T)<|a1<|vV 1
theorem aea:Fk P w K mg base 10 "_law_cell_at" rK:=by
 refine fk (k:=9) ["_law_script", "_law_k"] T.f51 T.z ?_
 intros
 refine ao (bH (Gd Ur (vV 1)<|Hx dZ K6<|a1<|vV 0) (aq<|aG<|Bt (vV 0)<|vV 1) aJ) ?_;exact aq<|aG aA
theorem uF:Fk P w K mg base 11 "_law_rest" vY:=by
 refine fk (k:=10) ["_law_script", "_law_k", "_law_cell", "_law_one", "_law_big", "_law_j"] T.f52 T.z ?_
 intros
 refine ao (FZ 2<|Af (aea T)<|a2 (vV 0)<|vV 1) ?_;refine ao (FZ 3<|aW oV (aW bI (aW bR (aW bR (aW oV (aW Br (vV 2) aA)<|aW Gv aA aA)<|aW bI (aW bI aA<|vV 1)<|vV 1) aA) aA) aA) ?_;refine ao (FZ 4 aA) ?_;refine ao (cW Lj hh (N6<|a1 aA) (IK 5)<|ao (FZ 3<|aW oV (aW bR (aW bR (aW bI (vV 3) aA)<|aW bI (vV 5)<|vV 5) aA) aA)<|aq<|FZ 4<|aW bR (aW bI (vV 4)<|aW Gv aA aA)<|aW oV (aW bI (vV 3)<|aW bR (vV 3)<|aW bI aA<|vV 5) aA) ?_;refine ao (bH (Gd (jy qq) (aW oV (vV 2) aA) aA) (aq<|aG<|sV<|a1<|vV 4) aJ) ?_;exact aq<|aG<|sV<|a2 (aW Br (vV 2) aA)<|vV 4
theorem aZ:Fk P w K mg base 10 "_law_digit" eN:=by
 refine fk (k:=9) ["_law_rest_here", "_law_many", "_law_digit_here"] T.f53 T.z ?_
 intros
 refine ao (bH (mL (Gd Ur (Bt (vV 0) aA) aA)<|jO<|Gd Q9 (Hx dZ K6<|a1<|vV 0) aA).pt (aq<|pQ (aaJ<|vV 0)<|Qx (vV 0) aA set_list DR) aJ) ?_;refine ao (FZ 2<|aW oV (Bt (vV 0) aA)<|vV 1) ?_;refine ao (pQ (aW Br (Bt (vV 0) aA)<|vV 1)<|Qx (vV 0) aA set_list DR) ?_;exact aq<|aG<|vV 2
theorem sI:Fk P w K mg base 11 "_law_number" kJ:=by
 refine fk (k:=10) ["_law_rest_here", "_law_far", "_law_way"] T.f54 T.z ?_
 intros
 refine ao (FZ 2<|Af (aZ T)<|a2 (vV 0) aA) ?_;refine ao (bH (Gd (jy qq) (vV 2) aA) (aq<|aG<|aW dU (Af (aZ T)<|a2 (vV 0) aA) aA) aJ) ?_;refine ao (bH (Gd (jy qq) (vV 2) aA) (aq<|aG<|aW dU (Af (aZ T)<|a2 (vV 0) aA) aA) aJ) ?_;exact aq<|aG<|aW bR (aW dU (Af (aZ T)<|a2 (vV 0)<|aW dU (aW bI aA<|vV 1) aA)<|vV 1) aA
theorem yw:Fk P w K mg base 10 "_law_divisor" rC:=by
 refine fk (k:=9) ["_law_numbers", "_law_found", "_law_number_here", "_law_one", "_law_other"] T.f55 T.z ?_
 intros
 refine ao (FZ 1 aA) ?_;refine ao (cW Lj hh (bO<|vV 0) (IK 2)<|ao (FZ 3<|Hx (abj hh) boot_max<|a2 (vV 1)<|Hx Ng boot_abs<|a1<|vV 2)<|ao (FZ 4<|Hx (aau hh) boot_min<|a2 (vV 1)<|Hx Ng boot_abs<|a1<|vV 2)<|ao (Fb Lj (Gd Q9 (vV 4) aA)<|aq<|ahl<|ZK (i:=3) (j:=4) hh (by assumption) (by rfl) (by rfl) (by decide) (by rfl) (by rfl) (a2 (vV 4)<|aW oV (vV 3)<|vV 4)<|by rfl)<|aq<|FZ 1<|vV 3) ?_;exact aq<|aG<|vV 1
theorem fG:Fk P w K mg base 11 "_law_plain" eE:=by
 refine fk (k:=10) ["_law_numbers", "_law_by"] T.f56 T.z ?_
 intros
 refine ao (FZ 1<|Af (yw T)<|a1<|vV 0) ?_;refine ao (bH (Gd Ur (Bt (dl1 [] (bO<|vV 0) (fun _ _ _ _=>(oW<|Gd (qW qq) (vV 0) aA))<|fun _ _ _ _=>(vV 0))<|Xq aA) aA) (aq<|FZ 1<|aW dU aA<|vV 1) aJ) ?_;exact aq<|aG<|dct Ba boot_tuple<|a1<|Mi [1] (bO<|vV 0)<|fun _ _ _ _=>(aW Br (vV 0)<|vV 1)
theorem rR:Fk P w K mg base 12 "_law_spot" nO:=by
 refine fk (k:=11) ["_law_rest_here", "_law_far", "_law_numbers"] T.f57 T.z ?_
 intros
 refine ao (uR [0,1] (i:=2) (by assumption) (by rfl) (by exact Or.inl rfl) hh (cD<|by rfl) uM (uT<|cD<|by rfl) (N6<|a1 aA) (fun _ _ _ _=>jR)<|fun _ _ _ _=>(Af (sI T)<|a2 (vV 1)<|vV 2)) ?_;refine ao (bH (Gd (jy qq) (vV 2)<|lW<|a3 aA aA aA) (aq<|FZ 2<|lW<|a3 aA aA aA) aJ) ?_;exact aq<|aG<|Af (fG T)<|a1<|vV 2
theorem aes:Fk P w K mg base 10 "_law_cross" yg:=by
 refine fk (k:=9) ["_law_one", "_law_other", "_law_found", "_law_k"] T.f58 T.z ?_
 intros
 refine ao (FZ 2<|sV qC) ?_;refine ao (cW Lj hh (N6<|a1 aA) (IK 3)<|aq<|fW<|oA (vV 2) (a1<|aW dU (aW bI (Bt (vV 0)<|aW dU (vV 3) aA)<|Bt (vV 1)<|aW dU (vV 3) aA)<|aW bI (Bt (vV 0)<|aW dU (vV 3) aA)<|Bt (vV 1)<|aW dU (vV 3) aA) (by rfl) (yP<|by rfl) (by rfl) (cC<|by rfl)<|by rfl) ?_;exact aq<|aG<|dct Ba boot_tuple<|a1<|vV 2
theorem CK:Fk P w K mg base 10 "_law_dot" BW:=by
 refine fk (k:=9) ["_law_one", "_law_other"] T.f59 T.z ?_
 intros
 exact aq<|aG<|Hx (Ws hh) boot_sum<|a1<|acT [] hh (cD<|by rfl) Zx (Yu hh<|cD<|by rfl) (QG (by rfl) (by exact T.z _ (by decide)) (a2 (vV 0)<|vV 1) (cC<|by rfl)<|fZ<|by rfl) (fun _ _ _ _=>jR)<|fun _ _ _ _=>(aW bI (vV 0)<|vV 1)
theorem zaN:Fk P w K mg base 10 "_law_size" Du:=by
 refine fk (k:=9) ["_law_numbers", "_law_a", "_law_b", "_law_c", "_law_d", "_law_e", "_law_f", "_law_g", "_law_h", "_law_i", "_law_whole_here"] T.f60 T.z ?_
 intros
 refine ao (pQ (iQ (vV 0) (bF aA)<|bF aA)<|lZ hh<|bC (IK 1)<|bC (IK 2)<|bC (IK 3) lO) ?_;refine ao (pQ (iQ (vV 0) (bF aA)<|bF aA)<|lZ hh<|bC (IK 4)<|bC (IK 5)<|bC (IK 6) lO) ?_;refine ao (pQ (iQ (vV 0) (bF aA)<|bF aA)<|lZ hh<|bC (IK 7)<|bC (IK 8)<|bC (IK 9) lO) ?_;refine ao (FZ 10<|aW bI (vV 1)<|aW dU (aW bI (vV 5)<|vV 9)<|aW bI (vV 6)<|vV 8) ?_;refine ao (FZ 10<|aW dU (vV 10)<|aW bI (vV 2)<|aW dU (aW bI (vV 4)<|vV 9)<|aW bI (vV 6)<|vV 7) ?_;exact aq<|aG<|aW bR (vV 10)<|aW bI (vV 3)<|aW dU (aW bI (vV 4)<|vV 8)<|aW bI (vV 5)<|vV 7
theorem zbc:Fk P w K mg base 12 "_law_map" Hf:=by
 refine fk (k:=11) ["_law_rest_here", "_law_far", "_law_numbers"] T.f61 T.z ?_
 intros
 refine ao (uR [0,1] (i:=2) (by assumption) (by rfl) (by exact Or.inl rfl) hh (cD<|by rfl) uM (uT<|cD<|by rfl) (N6<|a1 aA) (fun _ _ _ _=>jR)<|fun _ _ _ _=>(Af (sI T)<|a2 (vV 1)<|vV 2)) ?_;refine ao (bH (Gd (jy qq) (Af (zaN T)<|a1<|vV 2) aA) (aq<|FZ 2<|lW<|aC aA<|aC aA<|aC (Bt (vV 2) aA)<|aC aA<|aC aA<|aC (Bt (vV 2) aA)<|a3 aA aA aA) aJ) ?_;exact aq<|aG<|Af (fG T)<|a1<|vV 2
theorem CQ:Fk P w K mg base 12 "_law_led" xQ:=by
 refine fk (k:=11) ["_law_by", "_law_spot_here"] T.f62 T.z ?_
 intros
 exact aq<|aG<|Af (fG T)<|a1<|Mi [0,1] (N6<|a1 aA)<|fun _ _ _ _=>(Af (CK T)<|a2 (iQ (vV 1) (bF<|aW bI aA<|vV 0)<|bF<|aW bR (aW bI aA<|vV 0) aA)<|vV 2)
theorem aY:Fk P w K mg base 11 "_law_turn" jd:=by
 refine fk (k:=10) ["_law_one", "_law_other", "_law_third"] T.f63 T.z ?_
 intros
 exact aq<|aG<|Af (CK T)<|a2 (Af (aes T)<|a2 (vV 0)<|vV 1)<|vV 2
theorem yc:Fk P w K mg base 12 "_law_free" Fi:=by
 refine fk (k:=11) ["_law_four", "_law_k"] T.f64 T.z ?_
 intros
 refine ao (cW Lj hh (N6<|a1 aA) (IK 1)<|aq<|bH (Gd (jy qq) (Af (aY T)<|a3 (Bt (vV 0)<|aW dU (vV 1) aA) (Bt (vV 0)<|aW dU (vV 1) aA)<|Bt (vV 0)<|aW dU (vV 1) aA) aA) (aq<|aG QM) aJ) ?_;exact aq<|aG QM
theorem o9:Fk P w K mg base 12 "_law_mixed" nH:=by
 refine fk (k:=11) ["_law_one", "_law_other", "_law_rest_here", "_law_left", "_law_right", "_law_numbers"] T.f65 T.z ?_
 intros
 refine ao (FZ 3<|aW dU (Af (aZ T)<|a2 (vV 2) aA) aA) ?_;refine ao (FZ 4<|aW dU (Af (aZ T)<|a2 (vV 2) aA) aA) ?_;refine ao (uR [3,4] (i:=5) (by assumption) (by rfl) (by exact Or.inl rfl) hh (cD<|by rfl) Zx (Yu hh<|cD<|by rfl) (QG (by rfl) (by exact T.z _ (by decide)) (a2 (vV 0)<|vV 1) (cC<|by rfl)<|fZ<|by rfl) (fun _ _ _ _=>jR)<|fun _ _ _ _=>(aW bR (aW bI (vV 2)<|vV 0)<|aW bI (vV 3)<|vV 1)) ?_;refine ao (bH (Gd (jy qq) (vV 5)<|lW<|a3 aA aA aA) (aq<|aG<|vV 0) aJ) ?_;exact aq<|aG<|Af (fG T)<|a1<|vV 5
theorem zaQ:Fk P w K mg base 13 "_law_next" Ey:=by
 refine fk (k:=12) ["_law_spots", "_law_style", "_law_rest_here", "_law_way", "_law_one", "_law_other"] T.f66 T.z ?_
 intros
 refine ao (FZ 3<|Af (aZ T)<|a2 (vV 2) aA) ?_;refine ao (FZ 4<|Bt (vV 0)<|Af (aZ T)<|a2 (vV 2)<|Hx dZ K6<|a1<|vV 0) ?_;refine ao (FZ 5<|Bt (vV 0)<|Af (aZ T)<|a2 (vV 2)<|Hx dZ K6<|a1<|vV 0) ?_;refine ao (bH (mL (Gd (jy qq) (vV 1) aA)<|mL (Gd Q9 (Hx dZ K6<|a1<|vV 0) aA)<|jO<|Gd Ur (vV 3) aA).pt (aq<|aG<|Af (o9 T)<|a3 (Bt (vV 0) aA) (Bt (vV 0) aA)<|vV 2) aJ) ?_;refine ao (bH (oH (mL (Gd (jy qq) (vV 1) aA)<|jO<|Gd Q9 (Hx dZ K6<|a1<|vV 0) aA).pt (qw<|Gd (jy qq) (vV 3) aA)).pt (aq<|aG<|vV 4) aJ) ?_;refine ao (bH (Gd Q9 (vV 3) aA) (aq<|aG<|Af (o9 T)<|a3 (vV 4) (vV 5)<|vV 2) aJ) ?_;exact aq<|aG<|Af (rR T)<|a2 (vV 2)<|aW Gv aA aA
theorem ql:Fk P w K mg base 14 "_law_picture" lR:=by
 refine fk (k:=13) ["_law_rest_here", "_law_most", "_law_many", "_law_style", "_law_spots", "_law_k"] T.f67 T.z ?_
 intros
 refine ao (FZ 2<|Af (aZ T)<|a2 (vV 0)<|vV 1) ?_;refine ao (FZ 3<|Af (aZ T)<|a2 (vV 0) aA) ?_;refine ao (FZ 4<|sV<|a1<|Af (rR T)<|a2 (vV 0)<|aW Gv aA aA) ?_;refine ao (cW Lj hh (N6<|a1<|vV 2) (IK 5)<|aq<|fW<|oA (vV 4) (a1<|Af (zaQ T)<|a3 (vV 4) (vV 3)<|vV 0) (by rfl) (yP<|by rfl) (by rfl) (cC<|by rfl)<|by rfl) ?_;exact aq<|aG<|vV 4
theorem zaf:Fk P w K mg base 13 "_law_changed" uo:=by
 refine fk (k:=12) ["_law_spots", "_law_rest_here", "_law_at", "_law_way", "_law_one"] T.f68 T.z ?_
 intros
 refine ao (FZ 2<|Af (aZ T)<|a2 (vV 1)<|Hx dZ K6<|a1<|vV 0) ?_;refine ao (FZ 3<|Af (aZ T)<|a2 (vV 1) aA) ?_;refine ao (FZ 4<|Bt (vV 0)<|Af (aZ T)<|a2 (vV 1)<|Hx dZ K6<|a1<|vV 0) ?_;refine ao (bH (Gd (jy qq) (vV 3) aA) (aq<|FZ 4<|Af (o9 T)<|a3 (Bt (vV 0)<|vV 2) (vV 4)<|vV 1) aJ) ?_;refine ao (bH (Gd (jy qq) (vV 3) aA) (aq<|FZ 4<|Af (rR T)<|a2 (vV 1)<|aW Gv aA aA) aJ) ?_;exact aq<|aG<|aW bR (aW bR (iQ (vV 0) eX<|bF<|vV 2)<|lW<|a1<|vV 4)<|iQ (vV 0) (bF<|aW bR (vV 2) aA) eX
theorem zbB:Fk P w K mg base 15 "_law_two" Bd:=by
 refine fk (k:=14) ["_law_script", "_law_most", "_law_one", "_law_by", "_law_other", "_law_rest_here", "_law_way"] T.f69 T.z ?_
 intros
 refine ao (FZ 2<|Af (ql T)<|a2 (Af (uF T)<|a2 (vV 0) aA)<|vV 1) ?_;refine ao (FZ 3<|Af (zbc T)<|a2 (Af (uF T)<|a2 (vV 0) aA)<|aW Gv aA aA) ?_;refine ao (uR [3] (i:=4) (by assumption) (by rfl) (by exact Or.inl rfl) hh (cD<|by rfl) uM (uT<|cD<|by rfl) (bO<|vV 2) (fun _ _ _ _=>jR)<|fun _ _ _ _=>(Af (CQ T)<|a2 (vV 1)<|vV 0)) ?_;refine ao (FZ 5<|Af (uF T)<|a2 (vV 0) aA) ?_;refine ao (FZ 6<|Af (aZ T)<|a2 (vV 5) aA) ?_;refine ao (bH (oH (Gd (jy qq) (vV 6) aA)<|qw<|Gd (jy qq) (vV 6) aA).pt (aq<|FZ 4<|Af (zaf T)<|a2 (vV 4)<|vV 5) aJ) ?_;refine ao (bH (Gd (jy qq) (vV 6) aA) (ao (FZ 4<|Af (ql T)<|a2 (vV 5)<|vV 1)<|aq<|FZ 4<|iQ (aW bR (vV 4)<|vV 2) eX<|bF<|Hx dZ K6<|a1<|vV 2) aJ) ?_;refine ao (bH (Gd (jy qq) (Af (aZ T)<|a2 (vV 5) aA) aA) (aq<|FZ 4<|aW bR (aW bR (iQ (vV 4) (bF aA) eX)<|iQ (vV 4) eX<|bF aA)<|iQ (vV 4) eX<|bF aA) aJ) ?_;exact aq<|aG<|gB<|a2 (vV 2)<|iQ (vV 4) eX<|bF aA
theorem u5:Fk P w K mg base 12 "_law_image" z9:=by
 refine fk (k:=11) ["_law_four", "_law_spot_here", "_law_a", "_law_b", "_law_c", "_law_d", "_law_x", "_law_y"] T.f70 T.z ?_
 intros
 refine ao (pQ (vV 0)<|lZ hh<|bC (IK 2)<|bC (IK 3)<|bC (IK 4)<|bC (IK 5) lO) ?_;refine ao (FZ 6<|aW bI (aW bI (Af (aY T)<|a3 (vV 1) (vV 3)<|vV 4)<|Af (aY T)<|a3 (vV 2) (vV 5)<|vV 4)<|Af (aY T)<|a3 (vV 2) (vV 3)<|vV 5) ?_;refine ao (FZ 7<|aW bI (aW bI (Af (aY T)<|a3 (vV 2) (vV 1)<|vV 4)<|Af (aY T)<|a3 (vV 5) (vV 3)<|vV 4)<|Af (aY T)<|a3 (vV 2) (vV 3)<|vV 5) ?_;exact aq<|aG<|Af (fG T)<|a1<|gB<|a3 (vV 6) (vV 7)<|aW bI (aW bI (Af (aY T)<|a3 (vV 2) (vV 3)<|vV 1)<|Af (aY T)<|a3 (vV 5) (vV 3)<|vV 4)<|Af (aY T)<|a3 (vV 2) (vV 5)<|vV 4
theorem zaS:Fk P w K mg base 12 "_law_gaps" wX:=by
 refine fk (k:=11) ["_law_spots", "_law_off", "_law_a", "_law_b", "_law_c", "_law_d", "_law_top"] T.f71 T.z ?_
 intros
 refine ao (pQ (vV 0)<|lZ hh<|bC (IK 2)<|bC (IK 3)<|bC (IK 4)<|bC (IK 5) lO) ?_;refine ao (FZ 6<|aW bI (Af (aY T)<|a3 (vV 2) (vV 4)<|vV 1)<|Af (aY T)<|a3 (vV 3) (vV 5)<|vV 1) ?_;exact aq<|aG<|gB<|a2 (vV 6)<|aW bI (Af (aY T)<|a3 (vV 2) (vV 5)<|vV 1)<|Af (aY T)<|a3 (vV 3) (vV 4)<|vV 1
theorem pI:Fk P w K mg base 13 "_law_throw" zR:=by
 refine fk (k:=12) ["_law_spots", "_law_k", "_law_off", "_law_pair"] T.f72 T.z ?_
 intros
 refine ao (cW Lj hh (N6<|a1 aA) (IK 1)<|aq<|bH (Gd (qW qq) (Af (aY T)<|a3 (Bt (vV 0)<|aW dU (vV 1) aA) (Bt (vV 0)<|aW dU (vV 1) aA)<|Bt (vV 0)<|aW dU (vV 1) aA) aA) (aq<|aG iG) aJ) ?_;refine ao ?_ ?_
 ·with_reducible exact cW (hs:=by with_unfolding_all (intro _;rfl)) (by with_unfolding_all exact Lj) hh (bO (lW (a3 (gB (a3 aA aA aA)) (gB (a3 aA aA aA)) (gB (a3 aA aA aA))))) (IK 2) (aq (bH (c7 (h:=by with_unfolding_all (intro _;rfl)) (Hx (abA hh) boot_any (a1 (Mi [0,2] (bO (vV 0)) (fun _ _ _ _=>(ady (KC (qW qq) (Af (by with_unfolding_all exact aY T) (a3 (Bt (vV 1) aA) (vV 0) (vV 2))) aA) (Uq (KC (qW qq) (Af (by with_unfolding_all exact aY T) (a3 (Bt (vV 1) aA) (vV 0) (vV 2))) aA)))))))) (ao (FZ 3 (Af (by with_unfolding_all exact zaS T) (a2 (vV 0) (vV 2)))) (aq (bH (Gd (qW qq) (vV 3) (gB (a2 aA aA))) (aq (aG (Af (by with_unfolding_all exact fG T) (a1 (vV 3))))) aJ))) aJ))
 exact aq<|aG iG
theorem zaq:Fk P w K mg base 14 "_law_shows" zG:=by
 refine fk (k:=13) ["_law_one", "_law_other", "_law_word", "_law_places", "_law_mine", "_law_yours", "_law_pair"] T.f73 T.z ?_
 intros
 refine ao (uR [0] (i:=4) (by assumption) (by rfl) (by exact Or.inl rfl) hh (cD<|by rfl) uM (uT<|cD<|by rfl) (bO<|vV 3) (fun _ _ _ _=>jR)<|fun _ _ _ _=>(Bt (vV 1)<|vV 0)) ?_;refine ao (uR [1] (i:=5) (by assumption) (by rfl) (by exact Or.inl rfl) hh (cD<|by rfl) uM (uT<|cD<|by rfl) (bO<|vV 3) (fun _ _ _ _=>jR)<|fun _ _ _ _=>(Bt (vV 1)<|vV 0)) ?_;refine ao (bH (mL (Gd (jy qq) (vV 2) pO)<|jO<|Gd (jy qq) (Hx dZ K6<|a1<|vV 3) aA).pt (aq<|aG<|KC (qW qq) (KC (jy qq) (Bt (vV 4) aA)<|Bt (vV 4) aA)<|KC (jy qq) (Bt (vV 5) aA)<|Bt (vV 5) aA) aJ) ?_;refine ao (bH (mL (Gd (jy qq) (vV 2) pO)<|jO<|Gd (jy qq) (Hx dZ K6<|a1<|vV 3) aA).pt (aq<|aG<|KC (qW qq) (KC (jy qq) (Af (aY T)<|a3 (Bt (vV 4) aA) (Bt (vV 4) aA)<|Bt (vV 4) aA) aA)<|KC (jy qq) (Af (aY T)<|a3 (Bt (vV 5) aA) (Bt (vV 5) aA)<|Bt (vV 5) aA) aA) aJ) ?_;refine ao (bH (mL (Gd (jy qq) (vV 2) pO)<|jO<|Gd (jy qq) (Hx dZ K6<|a1<|vV 3) aA).pt (ao (FZ 6<|Af (pI T)<|a1<|vV 4)<|aq<|aG<|Uo (KC pX (vV 6) iG)<|Uo (KC pX (Af (pI T)<|a1<|vV 5) iG)<|Uq<|KC (qW qq) (vV 6)<|Af (pI T)<|a1<|vV 5) aJ) ?_;refine ao (bH (oH (Gd (qW qq) (vV 2) pO)<|oH (Gd (qW qq) (Hx dZ K6<|a1<|vV 3) aA)<|oH (jD<|c7<|Af (yc T)<|a1<|iQ (vV 4) eX<|bF aA)<|qw<|jD<|c7<|Af (yc T)<|a1<|iQ (vV 5) eX<|bF aA).pt (aq<|aG QM) aJ) ?_;exact aq<|aG<|KC (qW qq) (Af (u5 T)<|a2 (iQ (vV 4) eX<|bF aA)<|Bt (vV 4) aA)<|Af (u5 T)<|a2 (iQ (vV 5) eX<|bF aA)<|Bt (vV 5) aA
theorem Zn {F_twos_differ F_threes_differ F_throws_differ:Addr}(A_twos_differ:M9 P w K mg base 10 "twos_differ" cu F_twos_differ)(A_threes_differ:M9 P w K mg base 13 "threes_differ" bQ F_threes_differ)(A_throws_differ:M9 P w K mg base 13 "throws_differ" bL F_throws_differ){f:Addr}{fd:Le}(F:Rx K "law" "law" Uy f fd):qJ P w K mg base M4 19 f fd ["_law_script"] (lift K (Tq F_twos_differ F_threes_differ F_throws_differ)):=by
 have S:pB ["_law_script", "_law_one", "_law_other", "_law_gap", "_law_by", "_law_place"] ["_law_script"] (bU Uy):=⟨rfl,rfl,rfl,by decide +kernel,rfl,by decide +kernel,by decide +kernel⟩
 refine acw (k:=18) F S fun _ _ _ _ _ _ hr=>?_;have hc:=hr.calm (by decide);have nd:=S.nd;have z:=T.z;refine ao (pQ (Af (zbB T)<|a2 (vV 0) aA)<|lZ hh<|bC (IK 1)<|bC (IK 2) lO) ?_;refine ao (FZ 3<|Af (Dv T A_twos_differ A_threes_differ A_throws_differ)<|a2 (dct Ah boot_list<|a1<|vV 1)<|dct Ah boot_list<|a1<|vV 2) ?_;refine ao (bH (Gd aaS (vV 3) iG) (ao (FZ 4<|Af (zaP T A_twos_differ A_threes_differ A_throws_differ)<|a2 (dct Ah boot_list<|a1<|vV 1)<|dct Ah boot_list<|a1<|vV 2)<|aq<|aG<|Uo (KC (jy qq) (Af (xq T)<|a1<|vV 1)<|Af (xq T)<|a1<|vV 2)<|Uq<|KC (jy qq) (Mi [4] (bO<|vV 1)<|fun _ _ _ _=>(Af (CQ T)<|a2 (vV 1)<|vV 0))<|vV 2) aJ) ?_;refine ao ?_ ?_
 ·with_reducible exact bH (Gd (qW qq) (Hx dZ K6 (a1 (vV 1))) (Hx dZ K6 (a1 (vV 2)))) (aq (aG (KC (jy qq) (vV 3) (gB (a2 pO (gB qC)))))) aJ
 refine ao (bH (oH (jD<|c7<|Hx Lw boot_isinstance<|a2 (vV 3)<|dc (xR (v:=.ty "tuple") (by rfl) (by exact T.z _ (by decide)) boot_tuple<|by rfl)<|fun _ _=>by rw [Aa])<|oH (Gd (qW qq) (Hx dZ K6<|a1<|vV 3) aA)<|oH (jD<|c7<|Hx Lw boot_isinstance<|a2 (Bt (vV 3) aA)<|dc (xR (v:=.ty "tuple") (by rfl) (by exact T.z _ (by decide)) boot_tuple<|by rfl)<|fun _ _=>by rw [Aa])<|qw<|Gd (jy qq) (Af (xq T)<|a1<|vV 1)<|Af (xq T)<|a1<|vV 2).pt (aq<|aG QM) aJ) ?_;refine ao (cW Lj hh (bO<|Bt (vV 3) aA) (IK 5)<|aq<|bH (oH (jD<|c7<|Hx Lw boot_isinstance<|a2 (vV 5)<|dc (xR (v:=.ty "int") (by rfl) (by exact T.z _ (by decide)) boot_int<|by rfl)<|fun _ _=>by rw [Aa])<|oH (c7<|Hx Lw boot_isinstance<|a2 (vV 5)<|dc (xR (v:=.ty "bool") (by rfl) (by exact T.z _ (by decide)) boot_bool<|by rfl)<|fun _ _=>by rw [Aa])<|qw<|jD<|zbt adg Ur aA (vV 5) (Hx dZ K6<|a1<|vV 1)<|by with_unfolding_all rfl).pt (aq<|aG QM) aJ) ?_;exact aq<|aG<|Af (zaq T)<|aC (vV 1)<|a3 (vV 2) (Bt (vV 3) aA)<|Bt (vV 3) aA
end
def fO (x:Str)(s:Stmt)(oc:JI)(od:Option Addr)(kV dc pm:JI)(an:Option Addr)(cd ct:JI)(sl:Array (Option JI)):Option Obj:=Dn ⟨oc,od,.func (S8 x x (pA s) (je s) (bU s) .none kV dc pm an cd ct),sl⟩
def sR (f:Addr):Option (Option JI):=Dn (Dn (.ref f))
def cA (K:Ad)(x:Str)(s:Stmt):Prop:=∃ f oc od kV dc pm an cd ct sl,Lx K JG x=sR f/\K.lookup f=fO x s oc od kV dc pm an cd ct sl/\U8 K cd x=true/\Nk K (.ref f)=true
theorem Ht {K:Ad}{x:Str}{s:Stmt}{f:Addr}{oc:JI}{od:Option Addr}{kV dc pm:JI}{an:Option Addr}{cd ct:JI}{sl:Array (Option JI)}(a:Lx K JG x=sR f)(l:K.lookup f=fO x s oc od kV dc pm an cd ct sl)(c:U8 K cd x=true)(k:Nk K (.ref f)=true):cA K x s:=⟨f,oc,od,kV,dc,pm,an,cd,ct,sl,a,l,c,k⟩
theorem aU {K:Ad}{h:Heap}{mg:Str->Option JI}{x:Str}{st:Stmt}{ps:List Str}(X:K.In h)(G:h.Ns JG mg)(H:cA K x st)(hb:∀ (kV doc pm:JI) (an:Option Addr) (cdv ct:JI) (us:List JI),us.length=ps.length->bindArgs (S8 x x (pA st) (je st) (bU st) .none kV doc pm an cdv ct) ⟨us,[]⟩=pure (ps.zip us):=by intro _ _ _ _ _ _ us hl;first | (match us,hl with | [],_=>rfl) | (match us,hl with | [_],_=>rfl) | (match us,hl with | [_,_],_=>rfl) | (match us,hl with | [_,_,_],_=>rfl) | (match us,hl with | [_,_,_,_],_=>rfl)):At K mg x st ps:=by
 obtain ⟨f,oc,od,kV,dc,pm,an,cd,ct,sl,a,l,c,k⟩:=H;exact ⟨f,_,JH (st:=st) l c k,PySem.W.mg_of X G a,(JH (st:=st) l c k).binds hb⟩
theorem zc {mg:Str->Option JI}{n:Str}{l:List Str}(a:mg n=FN)(b:∀ m∈l,mg m=FN):∀ m∈n::l,mg m=FN:=List.forall_mem_cons.2 ⟨a,b⟩
theorem all_mk {l:PySem.W.OpenLaw}{w:Cm}{K:Ad}{h:Heap}{mg:Str->Option JI}{fa:Addr}(hlaw:∀ (F_twos_differ F_threes_differ F_throws_differ:Addr),∀ ns:List Int,ns.length<=63->Tq F_twos_differ F_threes_differ F_throws_differ [.kls (ns.map W.int)] g0 (fun w _=>w=.bl true) EF)(X:K.In h)(G:h.Ns JG mg)(hfa:mg "law" = Dn (.ref fa))
  (h0:cA K "divisor_of_two" (top 8))
  (h1:cA K "divisor" (top 9))
  (h2:cA K "ends_below" (top 10))
  (h3:cA K "plain" (top 11))
  (h4:cA K "dot" (top 13))
  (h5:cA K "cross" (top 14))
  (h6:cA K "turn" (top 15))
  (h7:cA K "lies_on" (top 16))
  (h8:cA K "share_one" (top 17))
  (h9:cA K "on_line" (top 18))
  (h10:cA K "plain_cross" (top 19))
  (h11:cA K "join" (top 20))
  (h12:cA K "rising" (top 22))
  (h13:cA K "picked" (top 23))
  (h14:cA K "rows_of" (top 26))
  (h15:cA K "table_times_row" (top 27))
  (h16:cA K "flipped" (top 28))
  (h17:cA K "table_times_table" (top 29))
  (h18:cA K "turned" (top 30))
  (h19:cA K "led" (top 31))
  (h20:cA K "then" (top 32))
  (h21:cA K "back" (top 33))
  (h22:cA K "tiles" (top 34))
  (h23:cA K "are_free" (top 35))
  (h24:cA K "from_tiles" (top 36))
  (h25:cA K "map_between" (top 37))
  (h26:cA K "check_picture" (top 39))
  (h27:cA K "first_free" (top 40))
  (h28:cA K "unlike_spots" (top 41))
  (h29:cA K "line_of_three" (top 42))
  (h30:cA K "kind_of" (top 43))
  (h31:cA K "units" (top 44))
  (h32:cA K "spot_between" (top 45))
  (h33:cA K "leading_of_line" (top 46))
  (h34:cA K "filled_up" (top 47))
  (h35:cA K "leading_of_few" (top 48))
  (h36:cA K "leading" (top 49))
  (h37:cA K "led_picture" (top 50))
  (h38:cA K "form" (top 51))
  (h39:cA K "place_off" (top 53))
  (h40:cA K "turn_at" (top 54))
  (h41:cA K "has_three_alike" (top 55))
  (h42:cA K "throw_numbers" (top 56))
  (h43:cA K "twos_differ" (top 59))
  (h44:cA K "threes_differ" (top 60))
  (h45:cA K "throws_differ" (top 61))
  (h46:cA K "first_places" (top 58))
  (h47:cA K "fifth_apart" (top 62))
  (h48:cA K "apart_of_as_many" (top 63))
  (h49:cA K "apart" (top 64))
  (h50:cA K "map_to" (top 65))
  (h51:cA K "_law_cell_at" (top 67))
  (h52:cA K "_law_rest" (top 68))
  (h53:cA K "_law_digit" (top 69))
  (h54:cA K "_law_number" (top 70))
  (h55:cA K "_law_divisor" (top 72))
  (h56:cA K "_law_plain" (top 73))
  (h57:cA K "_law_spot" (top 74))
  (h58:cA K "_law_cross" (top 75))
  (h59:cA K "_law_dot" (top 76))
  (h60:cA K "_law_size" (top 77))
  (h61:cA K "_law_map" (top 78))
  (h62:cA K "_law_led" (top 79))
  (h63:cA K "_law_turn" (top 80))
  (h64:cA K "_law_free" (top 81))
  (h65:cA K "_law_mixed" (top 82))
  (h66:cA K "_law_next" (top 83))
  (h67:cA K "_law_picture" (top 84))
  (h68:cA K "_law_changed" (top 85))
  (h69:cA K "_law_two" (top 86))
  (h70:cA K "_law_image" (top 87))
  (h71:cA K "_law_gaps" (top 88))
  (h72:cA K "_law_throw" (top 89))
  (h73:cA K "_law_shows" (top 90))
  (h74:cA K "law" (top 91))
  (z_abs:Lx K JG "abs" = Dn FN)
  (z_all:Lx K JG "all" = Dn FN)
  (z_any:Lx K JG "any" = Dn FN)
  (z_bool:Lx K JG "bool" = Dn FN)
  (z_int:Lx K JG "int" = Dn FN)
  (z_isinstance:Lx K JG "isinstance" = Dn FN)
  (z_len:Lx K JG "len" = Dn FN)
  (z_list:Lx K JG "list" = Dn FN)
  (z_max:Lx K JG "max" = Dn FN)
  (z_min:Lx K JG "min" = Dn FN)
  (z_range:Lx K JG "range" = Dn FN)
  (z_reversed:Lx K JG "reversed" = Dn FN)
  (z_sum:Lx K JG "sum" = Dn FN)
  (z_tuple:Lx K JG "tuple" = Dn FN)
  (z_zip:Lx K JG "zip" = Dn FN)
  {tW:Addr} {slk_TILES:Array (Option JI)} {nk_TILES:Nat} {k_TILES_0:Addr} {slk_TILES_0:Array (Option JI)} {nk_TILES_0:Nat} {t_TILES_0_0:_} {t_TILES_0_1:_} {t_TILES_0_2:_} {k_TILES_1:Addr} {slk_TILES_1:Array (Option JI)} {nk_TILES_1:Nat} {t_TILES_1_0:_} {t_TILES_1_1:_} {t_TILES_1_2:_} {k_TILES_2:Addr} {slk_TILES_2:Array (Option JI)} {nk_TILES_2:Nat} {t_TILES_2_0:_} {t_TILES_2_1:_} {t_TILES_2_2:_} {k_TILES_3:Addr} {slk_TILES_3:Array (Option JI)} {nk_TILES_3:Nat} {t_TILES_3_0:_} {t_TILES_3_1:_} {t_TILES_3_2:_}
  (gk_TILES:Lx K JG "TILES" = Dn (Dn (.ref tW)))
  (lk_TILES:K.lookup tW=Dn ⟨.type "tuple",FN,.seq #[(.ref k_TILES_0),(.ref k_TILES_1),(.ref k_TILES_2),(.ref k_TILES_3)] nk_TILES,slk_TILES⟩)
  (lk_TILES_0:K.lookup k_TILES_0=Dn ⟨.type "tuple",FN,.seq #[(.int 1 t_TILES_0_0),(.int 0 t_TILES_0_1),(.int 0 t_TILES_0_2)] nk_TILES_0,slk_TILES_0⟩)
  (lk_TILES_1:K.lookup k_TILES_1=Dn ⟨.type "tuple",FN,.seq #[(.int 0 t_TILES_1_0),(.int 1 t_TILES_1_1),(.int 0 t_TILES_1_2)] nk_TILES_1,slk_TILES_1⟩)
  (lk_TILES_2:K.lookup k_TILES_2=Dn ⟨.type "tuple",FN,.seq #[(.int 0 t_TILES_2_0),(.int 0 t_TILES_2_1),(.int 1 t_TILES_2_2)] nk_TILES_2,slk_TILES_2⟩)
  (lk_TILES_3:K.lookup k_TILES_3=Dn ⟨.type "tuple",FN,.seq #[(.int 1 t_TILES_3_0),(.int 1 t_TILES_3_1),(.int 1 t_TILES_3_2)] nk_TILES_3,slk_TILES_3⟩)
  : ∃ fd:Le,(∀ (s:AP) (v:JI),BindsTo s fd ⟨[v],[]⟩ [("_law_script",v)])/\∀ base:Heap,K.In base->base.Ns JG mg->qJ l.prog w K mg base M4 19 fa fd ["_law_script"] (Oz K):=by
 have T:∀ base,Txt l.prog w K mg base:=fun _=>⟨aU X G h0,aU X G h1,aU X G h2,aU X G h3,aU X G h4,aU X G h5,aU X G h6,aU X G h7,aU X G h8,aU X G h9,aU X G h10,aU X G h11,aU X G h12,aU X G h13,aU X G h14,aU X G h15,aU X G h16,aU X G h17,aU X G h18,aU X G h19,aU X G h20,aU X G h21,aU X G h22,aU X G h23,aU X G h24,aU X G h25,aU X G h26,aU X G h27,aU X G h28,aU X G h29,aU X G h30,aU X G h31,aU X G h32,aU X G h33,aU X G h34,aU X G h35,aU X G h36,aU X G h37,aU X G h38,aU X G h39,aU X G h40,aU X G h41,aU X G h42,aU X G h43,aU X G h44,aU X G h45,aU X G h46,aU X G h47,aU X G h48,aU X G h49,aU X G h50,aU X G h51,aU X G h52,aU X G h53,aU X G h54,aU X G h55,aU X G h56,aU X G h57,aU X G h58,aU X G h59,aU X G h60,aU X G h61,aU X G h62,aU X G h63,aU X G h64,aU X G h65,aU X G h66,aU X G h67,aU X G h68,aU X G h69,aU X G h70,aU X G h71,aU X G h72,aU X G h73,zc (Nf X G z_abs) (zc (Nf X G z_all) (zc (Nf X G z_any) (zc (Nf X G z_bool) (zc (Nf X G z_int) (zc (Nf X G z_isinstance) (zc (Nf X G z_len) (zc (Nf X G z_list) (zc (Nf X G z_max) (zc (Nf X G z_min) (zc (Nf X G z_range) (zc (Nf X G z_reversed) (zc (Nf X G z_sum) (zc (Nf X G z_tuple) (zc (Nf X G z_zip) (fun _ h=>nomatch h))))))))))))))),⟨_,PySem.W.mg_of X G gk_TILES,fun _ _=>((mV lk_TILES (by simp <;> decide) (.cons aac (.cons aac (.cons aac (.cons aac .nil)))) fun _ _=>(lB ((mV lk_TILES_0 (by simp <;> decide) (.cons GF (.cons GF (.cons GF .nil))) fun _ _=>(lB GD (lB GD (lB GD Ld)))) _ _) (lB ((mV lk_TILES_1 (by simp <;> decide) (.cons GF (.cons GF (.cons GF .nil))) fun _ _=>(lB GD (lB GD (lB GD Ld)))) _ _) (lB ((mV lk_TILES_2 (by simp <;> decide) (.cons GF (.cons GF (.cons GF .nil))) fun _ _=>(lB GD (lB GD (lB GD Ld)))) _ _) (lB ((mV lk_TILES_3 (by simp <;> decide) (.cons GF (.cons GF (.cons GF .nil))) fun _ _=>(lB GD (lB GD (lB GD Ld)))) _ _) Ld))))) _ _)⟩⟩
 obtain ⟨f,oc,od,kV,dc,pm,an,cd,ct,sl,a,l,c,k⟩:=h74;have e:=hfa.symm.trans (PySem.W.mg_of X G a);cases e;exact ⟨_,fun s v=>.of_eq rfl,fun base _ _=>by
  obtain ⟨F_twos_differ,A_twos_differ⟩:=(uN (T base)).at
  obtain ⟨F_threes_differ,A_threes_differ⟩:=(qH (T base)).at
  obtain ⟨F_throws_differ,A_throws_differ⟩:=(qM (T base)).at
  exact Va (hlaw F_twos_differ F_threes_differ F_throws_differ) (Zn (T base) A_twos_differ A_threes_differ A_throws_differ (JH (st:=Uy) l c k))⟩
theorem walk {l:PySem.W.OpenLaw}{q:FQ}{loose:List Str}{XP:(Str->Option JI)->Heap->Prop}{YP:Cm->Heap->Prop}{d:DefRec}{K:Params->Ad}(hn:l.most=Dn 63)(hdf:d.params.defaults=[])
  (hY:∀ (w:Cm) (h:Heap),YP w h->(K w.params).In h)
  (F:∀ (w:Cm) (mg:Str->Option JI) (fa:Addr) (h:Heap),(K w.params).In h->h.Ns JG mg->mg d.name=Dn (.ref fa) ->
   ∃ fd:Le,(∀ (s:AP) (u:JI),BindsTo s fd ⟨[u],[]⟩ [("_law_script",u)])/\∀ base:Heap,(K w.params).In base->base.Ns JG mg->qJ l.prog w (K w.params) mg base M4 19 fa fd ["_law_script"] (Oz (K w.params))) :
  PySem.W.WalkO q loose XP YP l.row.toRowW d [] (fun f vs=>PySem.call f vs):=
 L2.Kf (n:=63) (k:=19) (x := "_law_script") (CX:=fun _=>M4) (sp:=fun w=>Oz (K w.params)) hn (by decide) hdf ⟨fun _=>rfl,by decide,by decide⟩ hY F (fun _ _ a ns hl hO hS=>⟨a,ns,rfl,hS,hO,hl,fun _=>rfl⟩) fun _ _ _ _ _ z=>z
local macro_rules | `(tactic| trivial) => `(tactic| with_reducible exact Sm.lit (by decide))
local macro_rules | `(tactic| trivial) => `(tactic| with_reducible exact Sm.zero)
local macro_rules | `(tactic| trivial) => `(tactic| with_reducible exact Sm.neg (by trivial))
local macro_rules | `(tactic| trivial) => `(tactic| with_reducible exact Sm.sub (by trivial) (by trivial))
local macro_rules | `(tactic| trivial) => `(tactic| with_reducible exact Sm.add (by trivial) (by trivial))
local macro_rules | `(tactic| trivial) => `(tactic| with_reducible exact Sm.mul (by trivial) (by trivial))
local macro_rules | `(tactic| trivial) => `(tactic| with_reducible assumption)
theorem jP (h:Gh)(n:Nat)(c:Cell):(h.set n c).c n=Dn c:=by show (if n=n then Dn c else h.c n)=Dn c;rw [if_pos rfl]
theorem lE {h:Gh}{n m:Nat}{c:Cell}(e:m≠n):(h.set n c).c m=h.c m:=by show (if m=n then Dn c else h.c m)=_;rw [if_neg e]
theorem wU (h:Gh)(c:Cell):(h.new c).c h.nx=Dn c:=by show (if h.nx=h.nx then Dn c else h.c h.nx)=Dn c;rw [if_pos rfl]
theorem tZ {h:Gh}{m:Nat}{c:Cell}(e:m≠h.nx):(h.new c).c m=h.c m:=by show (if m=h.nx then Dn c else h.c m)=_;rw [if_neg e]
theorem dj {h:Gh}{n:Nat}{ws:List W}(e:h.c n=Dn (.lst ws)):view h (.loc n)=Dn ws:=by simp only [view,dH,e]
def Rs (h:Gh)(n:Nat):Prop:=(∃ a,h.c n=Dn (.lst [.int a]))\/∃ a b,h.c n=Dn (.lst [.int a,.int b])
def Kz (n:Nat)(h h':Gh):Prop:=h'.nx=h.nx/\∀ m,m≠n->h'.c m=h.c m
theorem Kz.refl (n:Nat)(h:Gh):Kz n h h:=⟨rfl,fun _ _=>rfl⟩
theorem Kz.trans {n:Nat}{a b c:Gh}(x:Kz n a b)(y:Kz n b c):Kz n a c:=⟨y.1.trans x.1,fun m e=>(y.2 m e).trans (x.2 m e)⟩
theorem Kz.set {n:Nat}{h:Gh}{c:Cell}:Kz n h (h.set n c):=⟨rfl,fun _ e=>lE e⟩
theorem mO {a b:Int}(h:0<b):a.fmod b=a % b:=Int.fmod_eq_emod_of_nonneg a (Int.le_of_lt h)
theorem Lp {A B:Prop}{c:Bool}(e:c=true)(h:A):Hy c A B:=by subst e;exact h
theorem Yl {A B:Prop}{c:Bool}(e:c=false)(h:B):Hy c A B:=by subst e;exact h
theorem BX {c:Prop} [Decidable c] {A B:Prop} (h1:c->A) (h2:¬ c->B):Hy (decide c) A B:=by
 by_cases h:c
 ·rw [decide_eq_true h];exact h1 h
 ·rw [decide_eq_false h];exact h2 h
theorem jh {h:Gh}{n:Nat}{a many:Int}{r:List W}{Q:WK}(hr:r=[]\/∃ b,r=[.int b])(e:h.c n=Dn (.lst (.int a::r)))(hm:0<many)(hb:Sm 8000 many)(k:∀ d h',0<=d->d<many->Rs h' n->Kz n h h'->Q (.int d) h') :
  aP (aX (Mk qP (Mk Bf (ak 0) (mC (.int 0))) (ak 1)) (FX 2)) (aP (aX (Mk zK (Mk Bf (ak 0) (mC (.int 0))) (ak 1)) (Xc (ak 0) (mC (.int 0)) G3)) (bx (ak 2)))
   { nx:=fun _ h'=>Q .non h',rt:=fun w h'=>Q w h' } [Dn (.loc n),Dn (.int many),FN] h:=by
 have hm0:many≠0:=by lia
 have ev:=dj e;rcases hr with rfl | ⟨b,rfl⟩
 all_goals
  conv=>whnf
  rw [ev];conv=>whnf
  refine ⟨hm0,?_⟩;conv=>whnf
  rw [ev];conv=>whnf
  refine ⟨⟨hm0,8000,by decide,hb⟩,?_⟩;conv=>whnf
  rw [e];show Q (.int (a.fmod many)) (h.set n _);rw [mO hm];refine k _ _ (Int.emod_nonneg _ hm0) (Int.emod_lt_of_pos _ hm) ?_ Kz.set
 ·exact .inl ⟨_,jP _ _ _⟩
 ·exact .inr ⟨_,_,jP _ _ _⟩
def jM (c:kI):Prop:=∀ {h:Gh} {n:Nat} {many:Int} {Q:WK} {E:BK},Rs h n->0<many->Sm 8000 many->(∀ d h',0<=d->d<many->Rs h' n->Kz n h h'->Q (.int d) h')->c [.loc n,.int many] h Q E
theorem Ve:jM yd:=by
 intro h n many Q E e hm hb k;rcases e with ⟨a,e⟩ | ⟨a,b,e⟩
 ·have ev:=dj e;conv=>whnf
  rw [ev];show br (decide (a<2)) _ _;refine jK (fun _=>?_)<|fun _=>?_
  ·conv=>whnf
   rw [ev];refine kY rfl ?_;exact jh (r:=[]) (.inl rfl) e hm hb k
  ·refine kY rfl ?_;exact jh (r:=[]) (.inl rfl) e hm hb k
 ·have ev:=dj e;conv=>whnf
  rw [ev];show br (decide (a<2)) _ _;refine jK (fun _=>?_)<|fun _=>?_
  ·conv=>whnf
   rw [ev];refine Am rfl ?_;conv=>whnf
   rw [e];conv=>whnf
   rw [e];conv=>whnf
   rw [jP];refine jh (r:=[]) (h:=(h.set n<|.lst [.int a]).set n (.lst [.int b])) (.inl rfl) (jP _ _ _) hm hb fun d h' d0 d1 r o=>?_;exact k d h' d0 d1 r<|Kz.set.trans<|Kz.set.trans o
  ·refine kY rfl ?_;exact jh (r:=[.int b]) (.inr ⟨b,rfl⟩) e hm hb k
def qQ (c:kI):Prop:=∀ {h:Gh} {n:Nat} {far:Int} {Q:WK} {E:BK},Rs h n->20<far->Sm 7000 far->(∀ x h',-far<x->x<far->Rs h' n->Kz n h h'->Q (.int x) h')->c [.loc n,.int far] h Q E
theorem afE {dg:kI}(hd:jM dg):qQ (vq dg):=by
 intro h n far Q E e hf hb k;conv=>whnf
 refine hd (n:=n) (many:=3) e (by decide) (by unfold Sm;decide +kernel) fun d h1 d0 d1 r1 o1=>?_;refine ⟨fun h0=>?_,fun h0=>?_⟩
 ·conv=>whnf
  refine hd (n:=n) (many:=7) r1 (by decide) (by unfold Sm;decide +kernel) fun d h2 e0 e1 r2 o2=>?_;exact k _ _ (by lia) (by lia) r2<|o1.trans o2
 ·refine ⟨fun h0=>?_,fun h0=>?_⟩
  ·conv=>whnf
   refine hd (n:=n) (many:=41) r1 (by decide) (by unfold Sm;decide +kernel) fun d h2 e0 e1 r2 o2=>?_;exact k _ _ (by lia) (by lia) r2<|o1.trans o2
  ·conv=>whnf
   refine ⟨⟨3,7000,by decide,by decide,by unfold Sm;decide +kernel,hb⟩,?_⟩;conv=>whnf
   refine hd (n:=n) (many:=2*far - 1) r1 (by lia) ?_ fun d h2 e0 e1 r2 o2=>?_
   ·have:Sm 7004 (2*far - 1):=(Sm.sub (m:=7003) (n:=1) (Sm.mul (m:=3) (n:=7000) (by unfold Sm;decide +kernel) hb) (by unfold Sm;decide +kernel))
    exact this.mono<|by decide
   ·exact k _ _ (by lia) (by lia) r2<|o1.trans o2
theorem lV {ws ws0:List W}{g:MG}{b:MS}{D:bT}(I:Nat->Sw->Gh->Prop)
  (step:∀ (i:Nat) (w:W) (σ : Sw) (h:Gh) (N:Sw->Gh->Prop),(∀ σ' h',I (i+1) σ' h'->N σ' h')->ws[i]?=Dn w->I i σ h->g w σ h fun σ1 h1=>b { D with nx:=N,ct:=N,bk:=D.nx } σ1 h1)
  (fin:∀ σ h,I ws.length σ h->D.nx σ h):∀ {σ : Sw} {h:Gh},I 0 σ h->eO ⟨ws0,FN⟩ g b D ws σ h:=by
 induction ws generalizing I with
 | nil=>intro σ h h0;exact fin σ h h0
 | cons w ws ih=>
  intro σ h h0;refine step 0 w σ h _ (fun σ' h' q=>?_) rfl h0;exact ih (fun i=>I<|i+1) (fun i w σ h N hN e hi=>step (i+1) w σ h N hN (by simpa using e) hi) (fun σ h q=>fin σ h q) q
theorem qd {ws ws0:List W}{own:W->Option (List W)}{ix:List Nat}{tt:MT}{te:ME}{σ : Sw}{Q:WK}(I:Nat->List W->Gh->Prop)
  (step:∀ (i:Nat) (w:W) (acc:List W) (h:Gh) (N:List W->Gh->Prop),(∀ acc' h',I (i+1) acc' h'->N acc' h')->ws[i]?=Dn w->I i acc h ->
   ∃ vs,own w=Dn vs/\tt (vs.map Dn++qI ix σ) h fun c h1=>Hy c (te (vs.map Dn++qI ix σ) h1 fun v h2=>N (acc++[v]) h2) (N acc h1))
  (fin:∀ acc h,I ws.length acc h->Q (.lst acc) h):∀ {acc:List W} {h:Gh},I 0 acc h->oE ⟨ws0,FN⟩ own ix tt te σ Q ws acc h:=by
 induction ws generalizing I with
 | nil=>intro acc h h0;exact fin acc h h0
 | cons w ws ih=>
  intro acc h h0;obtain ⟨vs,ev,q⟩:=step 0 w acc h _ (fun acc' h' q=>ih (fun i=>I (i+1)) (fun i w acc h N hN e hi=>step (i+1) w acc h N hN (by simpa using e) hi) (fun acc h q=>fin acc h q) q) rfl h0;show (match own w with
   | some vs=>_
   | none=>False)
  rw [ev];exact q
theorem DY {lo:Int}{n i:Nat}{w:W}(e:(Al lo n)[i]?=Dn w):i<n/\w=.int (lo+(i:Int)):=by
 have hi:i<n:=by
  have:=(NT.mp e).1
  simpa [Al] using this
 unfold Al at e;rw [LK,List.getElem?_range hi] at e;exact ⟨hi,(Hz e).symm⟩
theorem xH {lo:Int}{n:Nat}:(Al lo n).length=n:=by simp [Al]
theorem Vo {ma:MA}{j:Int}{g:MG}{b:MS}{D:bT}{σ : Sw}{h:Gh}(hm:∀ R,ma σ h R=R [.int j] h)(h1:-(2^62)<=j)(h2:j<2^62)(I:Nat->Sw->Gh->Prop)
  (step:∀ (i:Nat) (σ : Sw) (h:Gh) (N:Sw->Gh->Prop),(∀ σ' h',I (i+1) σ' h'->N σ' h')->i<j.toNat->I i σ h->g (.int (i:Int)) σ h fun σ1 h1=>b { D with nx:=N,ct:=N,bk:=D.nx } σ1 h1)
  (fin:∀ σ h,I j.toNat σ h->D.nx σ h) (h0:I 0 σ h):oF (dR ma) g b D σ h:=by
 unfold oF dR;rw [hm];refine yq.mk h1 h2 ?_;refine lV I (fun i w σ h N hN e hi=>?_) (fun σ h q=>fin σ h (by rw [xH] at q;exact q)) h0;obtain ⟨hlt,rfl⟩:=DY e;rw [Int.zero_add];exact step i σ h N hN hlt hi
theorem aeQ {ns:List Int}{k:Int}(h0:0<=k)(h1:k<((ns.map W.int).length:Int)):Ji (ns.map W.int) k=Dn (.int (ns.getD k.toNat 0)):=by
 have hk:k.toNat<ns.length:=by rw [Gg] at h1;lia
 have e:(ns.map W.int)[k.toNat]?=Dn (.int (ns.getD k.toNat 0)):=by
  rw [LK,JQ hk,Mz,JQ hk];rfl
 have:=rY e
 rwa [show ((k.toNat:Nat):Int)=k by lia] at this
def Dm (c:kI):Prop:=∀ {h:Gh} {ns:List Int} {k:Int} {Q:WK} {E:BK},0<=k->Q (.int (ns.getD k.toNat 0)) h->c [.kls (ns.map .int),.int k] h Q E
theorem zaT:Dm uz:=by
 intro h ns k Q E h0 q;show br (decide (k<((ns.map W.int).length:Int))) _ _;refine jK (fun hk=>?_)<|fun hk=>?_
 ·conv=>whnf
  rw [aeQ h0 hk];exact q
 ·have e:ns.getD k.toNat 0=0:=by
   rw [Mz,Ua (by rw [Gg] at hk;lia)];rfl
  rw [e] at q;exact q
def Ig (c:kI):Prop:=∀ {h:Gh} {ns:List Int} {k:Int} {Q:WK} {E:BK},0<=k->k<=1000->(∀ h',Rs h' h.nx->h'.nx=h.nx+1->(∀ m,m≠h.nx->h'.c m=h.c m)->Q (.loc h.nx) h')->c [.kls (ns.map .int),.int k] h Q E
theorem ahm {big one j:Int}{i:Nat}(h0:0<=big)(h1:Sm (50*i) big)(m0:0<=one)(m1:one<1000000000039):0<=big*10^12+one/\Sm (50*(i+1)) (big*10^12+one):=by
 have e:(2:Nat)^(50*(i+1))=2^(50*i)*2^50:=by rw [Nat.mul_add,Nat.pow_add]
 unfold Sm at h1 |-
 rw [e];have p:(10:Int)^12=1000000000000:=by decide
 rw [p];have q:(2:Nat)^50=1125899906842624:=by decide
 rw [q];generalize 2^(50*i)=t at h1 |-
 refine ⟨by lia,by lia⟩
theorem YJ {ca:kI}(hca:Dm ca):Ig (El ca):=by
 intro h ns k Q E h0 h1 q;conv=>whnf
 refine hca h0 ?_;generalize ns.getD k.toNat 0=cell;have c1:(10:Int)^(18:Int).toNat=1000000000000000000:=by decide
 have c2:(10:Int)^(12:Int).toNat=1000000000000:=by decide
 conv=>whnf
 refine ⟨⟨by decide,64,by decide,.lit rfl⟩,?_⟩;conv=>whnf
 refine ⟨⟨by decide,by decide,by decide⟩,?_⟩;conv=>whnf
 refine ⟨by decide,?_⟩;conv=>whnf
 rw [c1,mO (by decide)];have y0:=Int.emod_nonneg (cell.fdiv 2) (show (1000000000000000000:Int)≠0 by decide);have y1:=Int.emod_lt_of_pos (cell.fdiv 2) (show (0:Int)<1000000000000000000 by decide);generalize cell.fdiv 2 % 1000000000000000000=y at y0 y1 |-
 refine ⟨.of (n:=10) (.lit rfl) (uV (by lia)<|by lia) (by decide)<|by decide,?_⟩;conv=>whnf
 refine ⟨.of (m:=23) (n:=10) (uV (by lia)<|by lia) (uV (by lia)<|by lia) (by decide)<|by decide,?_⟩;conv=>whnf
 have k0:0<=k*k:=Int.mul_nonneg h0 h0;have k1:k*k<=1000*1000:=Int.mul_le_mul h1 h1 h0 (by decide);have kk:7919*k*k=7919*(k*k):=Int.mul_assoc ..;rw [kk];generalize k*k=k2 at k0 k1 |-
 refine ⟨.of (m:=64) (uV (by lia)<|by lia) (.lit rfl) (by decide)<|by decide,?_⟩;conv=>whnf
 refine ⟨by decide,?_⟩;rw [mO (by decide)];generalize hz:(y+7919*k2+1)*48271 % 999999000001=one;have z0:0<=one:=by lia
 have z1:one<999999000001:=by lia
 dsimp only [FX,aP,aX,mC];refine Vo (j:=60) (fun _=>rfl) (by decide) (by decide) (fun i σ h'=>h'=h/\∃ one big o,σ = [Dn<|.kls<|ns.map .int,Dn<|.int k,Dn<|.int cell,Dn<|.int one,Dn<|.int big,o]/\0<=one/\one<999999000001/\0<=big/\Sm (50*i) big) ?_ ?_ ⟨rfl,one,0,FN,rfl,z0,z1,Int.le_refl _,Sm.zero⟩
 ·rintro i σ h' N hN hi ⟨rfl,one,big,o,rfl,o0,o1,b0,b1⟩;have hi:i<60:=hi;conv=>whnf
  refine ⟨.of (m:=40) (uV (by lia)<|by lia) (.lit rfl) (by decide)<|by decide,?_⟩;conv=>whnf
  refine ⟨.of (m:=6) (n:=6) (uV (by lia)<|by lia) (uV (by lia)<|by lia) (by decide)<|by decide,?_⟩;conv=>whnf
  refine ⟨by decide,?_⟩;rw [mO (by decide)];generalize hj:(i:Int)*(i:Int)=jj;generalize hz:(one*69621+jj+1) % 999999000001=one';have z0:0<=one':=by lia
  have z1:one'<999999000001:=by lia
  conv=>whnf
  refine ⟨⟨by decide,by decide,by decide⟩,?_⟩;conv=>whnf
  rw [c2];refine ⟨.of (m:=50*i) b1 (.lit rfl) (by lia)<|by decide,?_⟩;conv=>whnf
  refine ⟨.of (n:=6) (.lit rfl) (uV (by lia)<|by lia) (by decide)<|by decide,?_⟩;conv=>whnf
  refine ⟨.of (m:=40) (n:=41) (uV (by lia)<|by lia) (uV (by lia)<|by lia) (by decide)<|by decide,?_⟩;conv=>whnf
  refine ⟨by decide,?_⟩;rw [mO (by decide)];generalize hm:one'*(one'+31*(i:Int)) % 1000000000039=m;obtain ⟨g0,g1⟩:=ahm (one:=m) (i:=i) (j:=0) b0 b1 (by lia) (by lia);have g2:(10:Int)^12=1000000000000:=by decide
  rw [g2] at g0 g1;exact hN _ _ ⟨rfl,one',_,_,rfl,z0,z1,g0,g1⟩
 ·rintro σ h' ⟨rfl,one,big,o,rfl,o0,o1,b0,b1⟩;conv=>whnf
  refine ⟨by decide,?_⟩;refine ⟨fun _=>?_,fun _=>?_⟩
  ·exact q _ (.inl ⟨_,wU _ _⟩) rfl fun m hm=>tZ hm
  ·conv=>whnf
   refine ⟨⟨by decide,64,by decide,.lit rfl⟩,?_⟩;exact q _ (.inr ⟨_,_,wU _ _⟩) rfl fun m hm=>tZ hm
def gF (f n:Int):Int:=((MJ n f:Nat):Int)
def gL (ns:List Int):Int:=ns.foldl gF 0
theorem J3 (ns:List Int)(n:Int):gL (ns++[n])=gF (gL ns) n:=by unfold gL;rw [List.foldl_append];rfl
theorem Zj (f n:Int):0<=gF f n:=Int.natCast_nonneg _
theorem Wj (ns:List Int):0<=gL ns:=by
 rcases List.eq_nil_or_concat ns with rfl | ⟨l,a,rfl⟩
 ·exact Int.le_refl _
 ·rw [List.concat_eq_append,J3];exact Zj _ _
theorem Ef {x y:Int}(hx:0<=x)(hy:0<y):MJ y (x.fmod y)=MJ x y/\0<=x.fmod y/\x.fmod y<y:=by
 rw [Int.fmod_eq_emod_of_nonneg x (Int.le_of_lt hy)];refine ⟨?_,Int.emod_nonneg _<|by lia,Int.emod_lt_of_pos _ hy⟩;obtain ⟨m,rfl⟩:=Uv hx;obtain ⟨n,rfl⟩:=Uv (Int.le_of_lt hy);rw [<-Int.natCast_emod,Int.gcd_natCast_natCast,Int.gcd_natCast_natCast,Nat.gcd_comm m n,Nat.gcd_rec n m,Nat.gcd_comm]
theorem Eo (a:Int):0<=(if a<0 then -a else a):=by split <;> lia
theorem abs_eq (a:Int):(if a<0 then -a else a)=(a.natAbs:Int):=by split <;> lia
theorem agW (a b:Int):MJ (if a<0 then -a else a) (if b<0 then -b else b)=MJ a b:=by
 rw [abs_eq,abs_eq];simp [MJ]
theorem qX {x:Int}(h:0<=x):((MJ x 0:Nat):Int)=x:=by
 rw [Int.gcd_zero_right];lia
def Zf (c:kI):Prop:=∀ {h:Gh} {a b:Int} {Q:WK} {E:BK},Q (.int (gF b a)) h->c [.int a,.int b] h Q E
theorem aaL:Zf jq:=by
 intro h a b Q E q;conv=>whnf
 refine ⟨fun m σ h'=>h'=h/\∃ x y r,σ = [Dn<|.int x,Dn<|.int y,r]/\0<=x/\0<=y/\MJ x y=MJ a b/\m=y.toNat,⟨_,rfl,_,_,FN,rfl,Eo a,Eo b,agW a b,rfl⟩,?_⟩;rintro m σ h' ⟨rfl,x,y,r,rfl,x0,y0,hg,rfl⟩;refine ⟨fun e=>?_,fun e=>?_⟩
 ·have hy:y≠0:=by simpa [FJ] using e
  obtain ⟨g1,g2,g3⟩:=Ef x0 (by lia:0<y);conv=>whnf
  refine ⟨hy,?_⟩;refine ⟨(x.fmod y).toNat,by lia,rfl,y,x.fmod y,_,rfl,y0,g2,g1.trans hg,rfl⟩
 ·have hy:y=0:=by simpa [FJ] using e
  subst hy;have:gF b a=x:=by unfold gF;rw [<-hg];exact qX x0
  rw [this] at q;exact q
def Ints (w:W)(ns:List Int):Prop:=w=.lst (ns.map .int)\/w=.tup (ns.map .int)
def nZ (c:kI):Prop:=∀ {h:Gh} {w:W} {ns:List Int} {Q:WK} {E:BK},Ints w ns->Q (.int (gL ns)) h->c [w] h Q E
theorem ints_get {ns:List Int}{i:Nat}{w:W}(e:(ns.map W.int)[i]?=Dn w):∃ n,ns[i]?=Dn n/\w=.int n:=by
 rw [LK] at e;cases q:ns[i]? with
 | none=>rw [q] at e;cases e
 | some n=>rw [q] at e;exact ⟨n,rfl,(Hz e).symm⟩
theorem Hs {ns:List Int}{i:Nat}{n:Int}(e:ns[i]?=Dn n):gL (ns.take (i+1))=gF (gL (ns.take i)) n:=by
 rw [M8,e,<-J3];rfl
theorem zaV {tw:kI}(ht:Zf tw):nZ (yV tw):=by
 intro h w ns Q E hw q;have key:eO ⟨ns.map .int,FN⟩ (FX 2) (aX (aD tw E (aj (ak 2) (aj (ak 1) aF))) (FX 1)) { nx:=sZ tw E { nx:=fun _ h'=>Q .non h',rt:=fun w h'=>Q w h' },rt:=fun w h'=>Q w h' } (ns.map .int) [Dn w,Dn (.int 0),FN] h:=by
  refine lV (fun i σ h'=>h'=h/\∃ o,σ = [Dn w,Dn<|.int<|gL<|ns.take i,o]) ?_ ?_ ⟨rfl,FN,rfl⟩
  ·rintro i x σ h' N hN e ⟨rfl,o,rfl⟩;obtain ⟨n,en,rfl⟩:=ints_get e;conv=>whnf
   refine ht ?_;refine hN _ _ ⟨rfl,Dn<|.int n,?_⟩;rw [Hs en];rfl
  ·rintro σ h' ⟨rfl,o,rfl⟩;rw [Gg,Mp];exact q
 rcases hw with rfl | rfl <;> exact key
theorem W5 (f n:Int)(hf:0<=f):MJ (if (if n<0 then -n else n)>f then (if n<0 then -n else n) else f) (if (if n<0 then -n else n)<f then (if n<0 then -n else n) else f)=MJ n f:=by
 rw [abs_eq];have e:MJ (n.natAbs:Int) f=MJ n f:=by simp [MJ]
 rw [<-e];generalize (n.natAbs:Int)=m;by_cases h1:m>f
 ·rw [if_pos h1,if_neg (by lia)]
 ·rw [if_neg h1];by_cases h2:m<f
  ·rw [if_pos h2,Int.gcd_comm]
  ·rw [if_neg h2,show m=f by lia]
theorem zaB:nZ tU:=by
 intro h w ns Q E hw q;have key:∀ D:bT,D.nx=mR E { nx:=fun _ h'=>Q .non h',rt:=fun w h'=>Q w h' } ->
   eO ⟨ns.map .int,FN⟩ (FX 2) (aP (aX (Ge aar (aj (ak 1) (aj (Ge Ln (aj (ak 2) aF)) aF))) (FX 3))
    (aP (aX (Ge aam (aj (ak 1) (aj (Ge Ln (aj (ak 2) aF)) aF))) (FX 4))
    (aP (DX (aR (Mk Nt (ak 4) (mC (.int 0)))) (aax 3 4 (aj (ak 4) (aj (Mk qP (ak 3) (ak 4)) aF))))
    (aX (ak 3) (FX 1))))) D (ns.map .int) [Dn w,Dn (.int 0),FN,FN,FN] h:=by
  intro D hD;refine lV (fun i σ h'=>h'=h/\∃ o p r,σ = [Dn w,Dn<|.int<|gL<|ns.take i,o,p,r]) ?_ ?_ ⟨rfl,FN,FN,FN,rfl⟩
  ·rintro i x σ h' N hN e ⟨rfl,o,p,r,rfl⟩;obtain ⟨n,en,rfl⟩:=ints_get e;have f0:=Wj (ns.take i);generalize hf:gL (ns.take i)=f at f0;conv=>whnf
   refine ⟨fun m σ h2=>h2=h'/\∃ x y,σ = [Dn w,Dn<|.int f,Dn<|.int n,Dn<|.int x,Dn<|.int y]/\0<=x/\0<=y/\MJ x y=MJ n f/\m=y.toNat,⟨_,rfl,_,_,rfl,?_,?_,W5 f n f0,rfl⟩,?_⟩
   ·have:=Eo n;split <;> lia
   ·have:=Eo n;split <;> lia
   ·rintro m σ h2 ⟨rfl,x,y,rfl,x0,y0,hg,rfl⟩;refine ⟨fun e=>?_,fun e=>?_⟩
    ·have hy:0<y:=by simpa using e
     obtain ⟨g1,g2,g3⟩:=Ef x0 hy;conv=>whnf
     refine ⟨by lia,?_⟩;refine ⟨(x.fmod y).toNat,by lia,rfl,y,x.fmod y,rfl,y0,g2,g1.trans hg,rfl⟩
    ·have hy:y=0:=by
      have:¬ 0<y:=by simpa using e
      lia
     subst hy;refine hN _ _ ⟨rfl,Dn<|.int n,Dn<|.int x,Dn<|.int 0,?_⟩;have:gL (ns.take (i+1))=x:=by rw [Hs en,hf];unfold gF;rw [<-hg];exact qX x0
     rw [this];rfl
  ·rintro σ h' ⟨rfl,o,p,r,rfl⟩;rw [Gg,Mp];rw [hD];exact q
 rcases hw with rfl | rfl <;> exact key _ rfl
theorem YK (f n k:Int)(hf:0<=f):gF (f*(k.natAbs:Int)) (n*k)=gF f n*(k.natAbs:Int):=by
 unfold gF;rw [<-Int.natCast_mul];congr 1
 unfold MJ;rw [Int.natAbs_mul,Int.natAbs_mul,Int.natAbs_natCast,Nat.gcd_mul_right]
theorem G5 (k:Int)(ns:List Int):gL (ns.map (· * k))=gL ns*(k.natAbs:Int):=by
 have:∀ (ns:List Int) (f:Int),0<=f->(ns.map (· * k)).foldl gF (f*(k.natAbs:Int))=ns.foldl gF f*(k.natAbs:Int):=by
  intro ns;induction ns with
  | nil=>intro f _;rfl
  | cons n ns ih=>intro f hf;rw [LQ,List.foldl_cons,List.foldl_cons,YK f n k hf];exact ih _ (Zj _ _)
 have h:=this ns 0 (Int.le_refl _);rw [Rz] at h;exact h
theorem abk {m:Nat}{f n:Int}(hf:Sm m f)(hn:Sm m n):Sm m (gF f n):=by
 unfold gF Sm at *;rw [Int.natAbs_natCast];unfold MJ;by_cases e:n.natAbs=0
 ·rw [e,Nat.gcd_zero_left];exact hf
 ·exact SQ (Nat.gcd_le_left _<|Nat.pos_of_ne_zero e) hn
theorem XS {m:Nat}{ns:List Int}(h:∀ n∈ns,Sm m n):Sm m (gL ns):=by
 have:∀ (ns:List Int) (f:Int),Sm m f->(∀ n∈ns,Sm m n)->Sm m (ns.foldl gF f):=by
  intro ns;induction ns with
  | nil=>intro f hf _;exact hf
  | cons n ns ih=>intro f hf h;exact ih _ (abk hf (h n (by simp))) fun x hx=>h x (by simp [hx])
 exact this ns 0 Sm.zero h
def mq:List Int->Int
 | []=>0
 | n::ns=>if n=0 then mq ns else n
def gw (ns:List Int):Int:=mq ns.reverse
def O6 (ns:List Int):Prop:=gL ns=1/\0<gw ns
def NZ (ns:List Int):Prop:=∃ n∈ns,n≠0
theorem cJ {k:Int}(hk:k≠0)(x:Int):x*k=0↔x=0:=by
 rw [Kw];exact ⟨fun h=>h.elim id fun h=>absurd h hk,.inl⟩
theorem yp {k:Int}(hk:k≠0):∀ ns:List Int,mq (ns.map (· * k))=mq ns*k
 | []=>(Rz k).symm
 | n::ns=>by
  rw [LQ,mq,mq];by_cases h:n=0
  ·rw [if_pos h,if_pos ((cJ hk n).mpr h),yp hk ns]
  ·rw [if_neg h,if_neg (fun e=>h ((cJ hk n).mp e))]
theorem rQ {k:Int}(hk:k≠0)(ns:List Int):gw (ns.map (· * k))=gw ns*k:=by
 unfold gw;rw [<-List.map_reverse,yp hk]
theorem agz {ns:List Int}(h:NZ ns):mq ns≠0:=by
 induction ns with
 | nil=>obtain ⟨n,hn,_⟩:=h;cases hn
 | cons a ns ih=>
  rw [mq];by_cases e:a=0
  ·rw [if_pos e];refine ih ?_;obtain ⟨n,hn,n0⟩:=h;rcases J9.mp hn with rfl | hn
   ·exact absurd e n0
   ·exact ⟨n,hn,n0⟩
  ·rw [if_neg e];exact e
theorem En {ns:List Int}(h:NZ ns):gw ns≠0:=by
 obtain ⟨n,hn,n0⟩:=h;exact agz ⟨n,List.mem_reverse.mpr hn,n0⟩
theorem QX (f n:Int):gF f n ∣ f/\gF f n ∣ n:=⟨Int.gcd_dvd_right ..,Int.gcd_dvd_left ..⟩
theorem Qi {ns:List Int}:∀ n∈ns,gL ns ∣ n:=by
 have:∀ (ns:List Int) (f:Int),ns.foldl gF f ∣ f/\∀ n∈ns,ns.foldl gF f ∣ n:=by
  intro ns;induction ns with
  | nil=>intro f;exact ⟨Int.dvd_refl _,fun n hn=>absurd hn (by simp)⟩
  | cons a ns ih=>
   intro f;obtain ⟨h1,h2⟩:=ih (gF f a);refine ⟨Int.dvd_trans h1 (QX f a).1,fun n hn=>?_⟩;rcases J9.mp hn with rfl | hn
   ·exact Int.dvd_trans h1 (QX f n).2
   ·exact h2 n hn
 exact (this ns 0).2
theorem UW {ns:List Int}(h:NZ ns):0<gL ns:=by
 have h0:=Wj ns;obtain ⟨n,hn,n0⟩:=h;have hd:=Qi n hn;by_cases e:gL ns=0
 ·rw [e] at hd;exact absurd (Int.zero_dvd.mp hd) n0
 ·lia
theorem O6.nz {ns:List Int}(h:O6 ns):NZ ns:=by
 have:∀ l:List Int,0<mq l->NZ l:=by
  intro l;induction l with
  | nil=>intro h;exact absurd h (by decide)
  | cons a l ih=>
   intro h;rw [mq] at h;by_cases e:a=0
   ·rw [if_pos e] at h;obtain ⟨n,hn,n0⟩:=ih h;exact ⟨n,Nh _ hn,n0⟩
   ·exact ⟨a,by simp,e⟩
 obtain ⟨n,hn,n0⟩:=this _ h.2;exact ⟨n,List.mem_reverse.mp hn,n0⟩
theorem HY {ns:List Int}{by':Int}(h:NZ ns)(hb:by'=if gw ns<0 then 0 - gL ns else gL ns) :
  by'≠0/\O6 (ns.map (·.fdiv by'))/\ns=(ns.map (·.fdiv by')).map (· * by'):=by
 have g0:=UW h;have hn:by'≠0:=by rw [hb];split <;> lia
 have hd:∀ t,gL ns ∣ t->by' ∣ t:=fun t ht=>by
  rw [hb];split
  ·rw [Int.zero_sub];exact Int.neg_dvd.mpr ht
  ·exact ht
 have e:ns=(ns.map (·.fdiv by')).map (· * by'):=by
  rw [List.map_map];conv=>lhs;rw [<-List.map_id ns]
  refine List.map_congr_left fun n hn'=>?_;obtain ⟨m,hm⟩:=hd n (Qi n hn');show n=n.fdiv by'*by'
  conv=>lhs;rw [hm]
  conv=>rhs;rw [hm]
  rw [Int.mul_fdiv_cancel_left _ hn,RG]
 refine ⟨hn,?_,e⟩;generalize hms:ns.map (·.fdiv by')=ms at e;have e1:gL ns=gL ms*(by'.natAbs:Int):=by rw [e];exact G5 by' ms
 have e2:(by'.natAbs:Int)=gL ns:=by rw [hb];split <;> lia
 have e3:gw ns=gw ms*by':=by rw [e];exact rQ hn ms
 have l0:=En h;refine ⟨?_,?_⟩
 ·rw [e2] at e1;have e1':gL ms*gL ns=1*gL ns:=by rw [<-e1,Int.one_mul]
  exact Int.eq_of_mul_eq_mul_right (by lia) e1'
 ·by_cases hs:gw ns<0
  ·rw [if_pos hs] at hb;have:by'<0:=by lia
   rw [e3] at hs;by_cases q:0<gw ms
   ·exact q
   ·have:=Int.mul_nonneg_of_nonpos_of_nonpos (show gw ms<=0 by lia) (Int.le_of_lt this)
    lia
  ·rw [if_neg hs] at hb;have:0<by':=by lia
   have hp:0<gw ns:=by lia
   rw [e3] at hp;by_cases q:0<gw ms
   ·exact q
   ·have:=Int.mul_nonpos_of_nonpos_of_nonneg (show gw ms<=0 by lia) (Int.le_of_lt this)
    lia
theorem ud {k:Int}(hk:k≠0):∀ {ns ms:List Int},ns.map (· * k)=ms.map (· * k)->ns=ms
 | [],[],_=>rfl
 | [],_::_,h=>by simp at h
 | _::_,[],h=>by simp at h
 | a::ns,b::ms,h=>by
  rw [LQ,LQ] at h;obtain ⟨h1,h2⟩:=List.cons.inj h;rw [Int.eq_of_mul_eq_mul_right hk h1,ud hk h2]
theorem Wf {ns ms:List Int}(hn:O6 ns)(hm:O6 ms){s t:Int}(hs:s≠0)(ht:t≠0)(h:ns.map (· * s)=ms.map (· * t)):ns=ms:=by
 have e1:gL ns*(s.natAbs:Int)=gL ms*(t.natAbs:Int):=by rw [<-G5,<-G5,h]
 rw [hn.1,hm.1] at e1;have e2:gw ns*s=gw ms*t:=by rw [<-rQ hs,<-rQ ht,h]
 have a:=hn.2;have b:=hm.2;have st:s=t:=by
  rcases Int.lt_or_gt_of_ne hs with s0 | s0 <;> rcases Int.lt_or_gt_of_ne ht with t0 | t0
  ·lia
  ·have x:=Int.mul_neg_of_pos_of_neg a s0;have y:=Int.mul_pos b t0;lia
  ·have x:=Int.mul_pos a s0;have y:=Int.mul_neg_of_pos_of_neg b t0;lia
  ·lia
 subst st;exact ud hs h
def qO (c0:kI):Prop:=∀ {h:Gh} {w:W} {ns:List Int} {m:Nat} {Q:WK} {E:BK},Ints w ns->NZ ns->(∀ n∈ns,Sm m n)->m<=8000->ns.length<=1000 ->
 (∀ (ms:List Int) (k:Int),k≠0->ns=ms.map (· * k)->O6 ms->(∀ n∈ms,Sm m n)->Q (.tup (ms.map .int)) h)->c0 [w] h Q E
theorem cQ (a b:Int):FJ (.int a) (.int b)=(a==b):=by rw [FJ]
theorem agw {m:Nat}{a a' k:Int}(h:Sm m a)(e:a=a'*k)(hk:k≠0):Sm m a':=by
 refine h.le ?_;rw [e,Int.natAbs_mul];exact Nat.le_mul_of_pos_right _<|by lia
theorem Dj {m:Nat}{ns ms:List Int}{k:Int}(h:∀ n∈ns,Sm m n)(hk:k≠0)(e:ns=ms.map (· * k)):∀ n∈ms,Sm m n:=fun n hn=>
 agw (h (n*k) (by rw [e];exact Lk.mpr ⟨n,hn,rfl⟩)) rfl hk
theorem abI {ix:List Nat}{i:Nat}{σ : Sw}{h:Gh}{Q:WK}{w:W}{ns:List Int}(hv:σ[i]?=Dn (Dn w))(hs:uJ h w=Dn ⟨ns.map .int,FN⟩)(hz:ns.length<=Gn)(k:Q (.lst ((ns.filter (·≠0)).map .int)) h) :
  GQ Gs ix (Gu (ak i)) (aR (Mk Hg (ak 0) (mC (.int 0)))) (ak 0) σ h Q:=by
 unfold GQ Gu ak;rw [hv];dsimp only;rw [hs];refine gJ.mk (by rw [Gg];exact hz) ?_;refine qd (fun i acc h'=>h'=h/\acc=((ns.take i).filter (·≠0)).map W.int) ?_ ?_ ⟨rfl,rfl⟩
 ·rintro i w acc h' N hN e ⟨rfl,rfl⟩;obtain ⟨n,en,rfl⟩:=ints_get e;refine ⟨[.int n],rfl,?_⟩;show Hy (!FJ (.int n) (.int 0)) (N (_++[W.int n]) h') _;rw [cQ];by_cases h0:n=0
  ·refine Yl (by simp [h0])<|hN _ _ ⟨rfl,?_⟩
   rw [M8,en];simp [h0]
  ·refine Lp (by simp [h0])<|hN _ _ ⟨rfl,?_⟩
   rw [M8,en];simp [h0]
 ·rintro acc h' ⟨rfl,rfl⟩;rw [Gg,Mp];exact k
theorem zbz {ns:List Int}(h:NZ ns):Ji ((ns.filter (·≠0)).map W.int) (-1)=Dn (.int (gw ns)):=by
 have key:∀ l:List Int,mq l≠0->∃ r,l.filter (·≠0)=mq l::r:=by
  intro l;induction l with
  | nil=>intro h;exact absurd rfl h
  | cons a l ih=>
   intro h;rw [mq] at h |-
   by_cases e:a=0
   ·rw [if_pos e] at h |-
    obtain ⟨r,hr⟩:=ih h;exact ⟨r,by rw [List.filter_cons,if_neg<|by simp [e]];exact hr⟩
   ·rw [if_neg e];exact ⟨_,by rw [List.filter_cons,if_pos<|by simp [e]]⟩
 obtain ⟨r,hr⟩:=key ns.reverse (En h);have hf:ns.filter (·≠0)=r.reverse++[gw ns]:=by
  rw [List.filter_reverse] at hr;have:=congrArg List.reverse hr
  rw [List.reverse_reverse,List.reverse_cons] at this;exact this
 rw [hf,Nz];exact zbw _ _
theorem Qt {ix:List Nat}{σ : Sw}{h:Gh}{Q:WK}{w:W}{ns:List Int}{by':Int}{m:Nat}(hs:uJ h w=Dn ⟨ns.map .int,FN⟩)(hb:by'≠0)(hm:m<=8000)(hs':Sm m by')(hz:ns.length<=Gn)(hv:σ[0]?=Dn (Dn w))(hx:qI ix σ = [Dn (.int by')])(k:Q (.lst ((ns.map (·.fdiv by')).map .int)) h) :
  GQ Gs ix (Gu (ak 0)) fH (Mk zK (ak 0) (ak 1)) σ h Q:=by
 unfold GQ Gu ak;rw [hv];dsimp only;rw [hs];refine gJ.mk (by rw [Gg];exact hz) ?_;refine qd (fun i acc h'=>h'=h/\acc=((ns.take i).map (·.fdiv by')).map W.int) ?_ ?_ ⟨rfl,rfl⟩
 ·rintro i w acc h' N hN e ⟨rfl,rfl⟩;obtain ⟨n,en,rfl⟩:=ints_get e;refine ⟨[.int n],rfl,?_⟩;rw [hx];refine ⟨⟨hb,m,hm,hs'⟩,?_⟩;refine hN _ _ ⟨rfl,?_⟩;rw [M8,en];simp
 ·rintro acc h' ⟨rfl,rfl⟩;rw [Gg,Mp];exact k
theorem zav {ld:kI}(hld:nZ ld):qO (zu ld):=by
 intro h w ns m Q E hw h0 hs hm hl q;have hg0:=UW h0;have hgs:Sm m (gL ns):=XS hs;have hz:ns.length<=Gn:=Ii hl (by decide);have src:uJ h w=Dn ⟨ns.map .int,FN⟩:=by rcases hw with rfl | rfl <;> rfl
 have fin:∀ by',(by'=if gw ns<0 then 0 - gL ns else gL ns)->rN ld E { nx:=fun _ h'=>Q .non h',rt:=fun w h'=>Q w h' } [Dn w,Dn (.int by')] h:=by
  intro by' e
  obtain ⟨hn,pl,eq⟩:=HY h0 e;have hbs:Sm m by':=by refine hgs.le ?_;rw [e];split <;> lia
  show GQ Gs [1] (Gu (ak 0)) fH (Mk zK (ak 0) (ak 1)) [Dn w,Dn (.int by')] h _;refine Qt (w:=w) (ns:=ns) src hn hm hbs hz rfl rfl ?_;exact q _ by' hn eq pl<|Dj hs hn eq
 refine hld hw ?_;show GQ Gs [] (Gu (ak 0)) (aR (Mk Hg (ak 0) (mC (.int 0)))) (ak 0) [Dn w,Dn (.int (gL ns))] h _;refine abI (ns:=ns) (w:=w) (i:=0) rfl src hz ?_;have el:=zbz h0;generalize (ns.filter (·≠0)).map W.int=F at el;show (match Ji F (-1) with
   | some w=>_
   | none=>False)
 rw [el];refine jK (fun hl=>?_)<|fun hl=>?_
 ·exact fin _<|by rw [if_pos hl]
 ·exact fin _<|by rw [if_neg hl]
def Wo (c0:kI):Prop:=∀ {h:Gh} {w:W} {ns:List Int} {Q:WK} {E:BK},Ints w ns->Q (.bl (decide (gw ns<0))) h->c0 [w] h Q E
theorem agH:Wo pR:=by
 intro h w ns Q E hw q;have key:∀ (l:List Int) (s:Src) (o:Option W),s.cell=FN->Q (.bl (decide (mq l<0))) h->eO s (FX 1) (dO (aR (Mk Hg (ak 1) (mC (.int 0)))) (bx (Mk kLt (ak 1) (mC (.int 0)))) bw)
   { nx:=lG E { nx:=fun _ h'=>Q .non h',rt:=fun w h'=>Q w h' },rt:=fun w h'=>Q w h' } (l.map .int) [Dn w,o] h:=by
  intro l;induction l with
  | nil=>
   intro s o hs q;obtain ⟨ws,ix⟩:=s;cases hs;exact q
  | cons n l ih=>
   intro s o hs q;obtain ⟨ws,ix⟩:=s;cases hs;rw [mq] at q;refine ⟨fun e=>?_,fun e=>?_⟩
   ·rw [cQ] at e;rw [if_neg (by simpa using e)] at q;exact q
   ·rw [cQ] at e;rw [if_pos (by simpa using e)] at q;exact ih _ _ rfl q
 have k2:=key ns.reverse ⟨(ns.map .int).reverse,FN⟩ FN rfl q;rw [List.map_reverse] at k2;rcases hw with rfl | rfl <;> exact k2
theorem zaM {dv en:kI}(hdv:nZ dv)(hen:Wo en):qO (Hu dv en):=by
 intro h w ns m Q E hw h0 hs hm hl q;have hg0:=UW h0;have hgs:Sm m (gL ns):=XS hs;have hz:ns.length<=Gn:=Ii hl (by decide);have src:uJ h w=Dn ⟨ns.map .int,FN⟩:=by rcases hw with rfl | rfl <;> rfl
 have fin:∀ by',(by'=if gw ns<0 then 0 - gL ns else gL ns)->Ag dv en E { nx:=fun _ h'=>Q .non h',rt:=fun w h'=>Q w h' } [Dn w,Dn (.int by')] h:=by
  intro by' e
  obtain ⟨hn,pl,eq⟩:=HY h0 e;have hbs:Sm m by':=by refine hgs.le ?_;rw [e];split <;> lia
  show GQ Gs [1] (Gu (ak 0)) fH (Mk zK (ak 0) (ak 1)) [Dn w,Dn (.int by')] h _;refine Qt (w:=w) (ns:=ns) src hn hm hbs hz rfl rfl ?_;exact q _ by' hn eq pl<|Dj hs hn eq
 refine hdv hw ?_;refine kY (by rw [cQ];simp;lia) ?_;refine hen hw ?_;refine jK (fun hl=>?_)<|fun hl=>?_
 ·exact fin _<|by rw [if_pos hl,Int.zero_sub]
 ·exact fin _<|by rw [if_neg hl]
abbrev Tr:=Int×Int×Int
def tl (t:Tr):List Int:=[t.1,t.2.1,t.2.2]
def tw (t:Tr):W:=.tup [.int t.1,.int t.2.1,.int t.2.2]
def Pl (t:Tr):Prop:=O6 (tl t)
def Bk (m:Nat)(t:Tr):Prop:=Sm m t.1/\Sm m t.2.1/\Sm m t.2.2
def sc (k:Int)(t:Tr):Tr:=(t.1*k,t.2.1*k,t.2.2*k)
def Gq (u t:Tr):Prop:=∃ k,k≠0/\u=sc k t
def crs (p q:Tr):Tr:=(p.2.1*q.2.2 - p.2.2*q.2.1,p.2.2*q.1 - p.1*q.2.2,p.1*q.2.1 - p.2.1*q.1)
def dt3 (p q:Tr):Int:=p.1*q.1+p.2.1*q.2.1+p.2.2*q.2.2
theorem Bk.mono {m n:Nat}{t:Tr}(h:Bk m t)(e:m<=n):Bk n t:=⟨h.1.mono e,h.2.1.mono e,h.2.2.mono e⟩
theorem Bk.all {m:Nat}{t:Tr}(h:Bk m t):∀ n∈tl t,Sm m n:=by
 intro n hn;simp only [tl,J9,Ml,or_false] at hn;rcases hn with rfl | rfl | rfl
 ·exact h.1
 ·exact h.2.1
 ·exact h.2.2
theorem Bo {t:Tr}:t=(0,0,0)↔t.1=0/\t.2.1=0/\t.2.2=0:=by
 obtain ⟨a,b,c⟩:=t;simp
theorem Ro {t:Tr}(h:t≠(0,0,0)):NZ (tl t):=by
 by_cases a:t.1=0
 ·by_cases b:t.2.1=0
  ·by_cases c:t.2.2=0
   ·exact absurd (Bo.mpr ⟨a,b,c⟩) h
   ·exact ⟨_,by simp [tl],c⟩
  ·exact ⟨_,by simp [tl],b⟩
 ·exact ⟨_,by simp [tl],a⟩
theorem Qh {t:Tr}{k:Int}{ms:List Int}(e:tl t=ms.map (· * k)):∃ u:Tr,ms=tl u/\t=sc k u:=by
 match ms,congrArg List.length e,e with
 | [a,b,c],_,e=>
  simp only [tl,LQ,TY,Sx,and_true] at e;exact ⟨(a,b,c),rfl,by obtain ⟨x,y,z⟩:=t;simp only [sc];simp only at e;rw [e.1,e.2.1,e.2.2]⟩
theorem qO.tr {c0:kI}(hc:qO c0){h:Gh}{w:W}{u:Tr}{m:Nat}{Q:WK}{E:BK}(hw:w=tw u\/w=.lst [.int u.1,.int u.2.1,.int u.2.2])(h0:u≠(0,0,0))(hs:Bk m u)(hm:m<=8000)
  (q:∀ t:Tr,Pl t->Gq u t->Bk m t->Q (tw t) h):c0 [w] h Q E:=by
 refine hc (ns:=tl u) (m:=m) ?_ (Ro h0) hs.all hm (show 3<=1000 by decide) fun ms k hk e pl sm=>?_
 ·rcases hw with rfl | rfl
  ·exact .inr rfl
  ·exact .inl rfl
 ·obtain ⟨t,rfl,e'⟩:=Qh e;exact q t pl ⟨k,hk,e'⟩ ⟨sm _<|by simp [tl],sm _<|by simp [tl],sm _<|by simp [tl]⟩
theorem jf {k:Int}{t:Tr}(hk:k≠0):sc k t=(0,0,0)↔t=(0,0,0):=by
 rw [Bo,Bo];show (t.1*k=0/\t.2.1*k=0/\t.2.2*k=0)↔_;rw [cJ hk,cJ hk,cJ hk]
theorem Pl.ne {t:Tr}(h:Pl t):t≠(0,0,0):=by
 rintro rfl;obtain ⟨n,hn,n0⟩:=h.nz;simp [tl] at hn;exact n0 hn
theorem yS {u p q:Tr}(hp:Pl p)(hq:Pl q)(h1:Gq u p)(h2:Gq u q):p=q:=by
 obtain ⟨s,hs,e⟩:=h1;obtain ⟨t,ht,e'⟩:=h2;have h:sc s p=sc t q:=by rw [<-e,<-e']
 have:=Wf hp hq hs ht (by
  have:=congrArg tl h
  simpa [tl,sc] using this)
 obtain ⟨a,b,c⟩:=p;obtain ⟨x,y,z⟩:=q;simp only [tl,Sx,and_true] at this;rw [this.1,this.2.1,this.2.2]
theorem Gq.refl (t:Tr):Gq t t:=⟨1,by decide,by simp [sc]⟩
theorem uO (a b:Int)(t:Tr):sc a (sc b t)=sc (b*a) t:=by simp only [sc,Int.mul_assoc]
theorem ray {p q:Tr}(hp:p≠(0,0,0))(h:crs p q=(0,0,0)):∃ s t:Int,s≠0/\sc s q=sc t p:=by
 obtain ⟨a,b,c⟩:=p;obtain ⟨x,y,z⟩:=q;have h1:b*z - c*y=0:=congrArg (·.1) h;have h2:c*x - a*z=0:=congrArg (·.2.1) h;have h3:a*y - b*x=0:=congrArg (·.2.2) h;by_cases ha:a=0
 ·by_cases hb:b=0
  ·by_cases hc:c=0
   ·exact absurd (by rw [ha,hb,hc]) hp
   ·refine ⟨c,z,hc,?_⟩;simp only [sc];refine HB ?_ (HB ?_ ?_) <;> simp only <;> grind
  ·refine ⟨b,y,hb,?_⟩;simp only [sc];refine HB ?_ (HB ?_ ?_) <;> simp only <;> grind
 ·refine ⟨a,x,ha,?_⟩;simp only [sc];refine HB ?_ (HB ?_ ?_) <;> simp only <;> grind
theorem kO {p q:Tr}(hp:Pl p)(hq:Pl q)(h:crs p q=(0,0,0)):p=q:=by
 obtain ⟨s,t,hs,e⟩:=ray hp.ne h;have ht:t≠0:=by
  rintro rfl;have:sc s q=(0,0,0):=by rw [e];simp [sc]
  exact hq.ne<|(jf hs).mp this
 exact yS (u:=sc t p) hp hq ⟨t,ht,rfl⟩ ⟨s,hs,e.symm⟩
theorem jT {p q:Tr}(hp:Pl p)(hq:Pl q)(h:p≠q):crs p q≠(0,0,0):=fun e=>h (kO hp hq e)
theorem flat {n p q r:Tr}(hn:n≠(0,0,0))(hp:dt3 n p=0)(hq:dt3 n q=0)(hr:dt3 n r=0):dt3 (crs p q) r=0:=by
 obtain ⟨n1,n2,n3⟩:=n;obtain ⟨p1,p2,p3⟩:=p;obtain ⟨q1,q2,q3⟩:=q;obtain ⟨r1,r2,r3⟩:=r;simp only [dt3,crs] at *;generalize hd:(p2*q3 - p3*q2)*r1+(p3*q1 - p1*q3)*r2+(p1*q2 - p2*q1)*r3=d;have e1:n1*d=0:=by grind
 have e2:n2*d=0:=by grind
 have e3:n3*d=0:=by grind
 by_cases h:d=0
 ·exact h
 ·have f:∀ x:Int,x*d=0->x=0:=fun x e=>by
   rcases Kw.mp e with e | e
   ·exact e
   ·exact absurd e h
  exact absurd (by rw [f _ e1,f _ e2,f _ e3]) hn
theorem bY (p q:Tr):dt3 p q=dt3 q p:=by simp only [dt3,RG]
theorem nJ (k:Int)(p q:Tr):dt3 (sc k p) q=dt3 p q*k:=by simp only [dt3,sc];grind
theorem iI (k:Int)(p q:Tr):dt3 p (sc k q)=dt3 p q*k:=by simp only [dt3,sc];grind
theorem mF {u t n:Tr}(h:Gq u t):dt3 n u=0↔dt3 n t=0:=by
 obtain ⟨k,hk,rfl⟩:=h;rw [iI,cJ hk]
theorem wC {u t n:Tr}(h:Gq u t):dt3 u n=0↔dt3 t n=0:=by rw [bY,mF h,bY]
theorem jZ (k l:Int)(p q:Tr):crs (sc k p) (sc l q)=sc (k*l) (crs p q):=by
 simp only [crs,sc];refine HB ?_ (HB ?_ ?_) <;> simp only <;> grind
theorem Ez (p q:Tr):dt3 (crs p q) p=0:=by simp only [dt3,crs];grind
theorem wM (p q:Tr):dt3 (crs p q) q=0:=by simp only [dt3,crs];grind
theorem fu {m:Nat}{p q:Tr}(hp:Bk m p)(hq:Bk m q):Bk (m+m+1) (crs p q):=
 ⟨(hp.2.1.mul hq.2.2).sub (hp.2.2.mul hq.2.1) |>.mono (by lia),(hp.2.2.mul hq.1).sub (hp.1.mul hq.2.2) |>.mono (by lia),(hp.1.mul hq.2.1).sub (hp.2.1.mul hq.1) |>.mono (by lia)⟩
theorem vQ (p q:Tr):FJ (tw p) (tw q)=decide (p=q):=by
 obtain ⟨a,b,c⟩:=p;obtain ⟨x,y,z⟩:=q;unfold tw;rw [FJ,mJ,mJ,mJ,mJ,cQ,cQ,cQ];by_cases ha:a=x <;> by_cases hb:b=y <;> by_cases hc:c=z <;> simp [ha,hb,hc]
theorem Yq (a b c:Int):FJ (.lst [.int a,.int b,.int c]) (.lst [.int 0,.int 0,.int 0])=decide (a=0/\b=0/\c=0):=by
 rw [FJ,mJ,mJ,mJ,mJ,cQ,cQ,cQ];by_cases ha:a=0 <;> by_cases hb:b=0 <;> by_cases hc:c=0 <;> simp [ha,hb,hc]
def Fz (c0:kI):Prop:=∀ {h:Gh} {p q:Tr} {m:Nat} {Q:WK} {E:BK},m<=10000->Bk m p->Bk m q->Q (tw (crs p q)) h->c0 [tw p,tw q] h Q E
def Bg (c0:kI):Prop:=∀ {h:Gh} {p q:Tr} {m:Nat} {Q:WK} {E:BK},m<=10000->Bk m p->Bk m q->Q (.int (dt3 p q)) h->c0 [tw p,tw q] h Q E
theorem zy {h:Gh}{n:Nat}{ws:List W}(e:h.c n=Dn (.lst ws)):dH h (.loc n)=Dn ws:=by simp only [dH,e]
theorem Ax:Fz Bl:=by
 intro h p q m Q E hm hp hq k;obtain ⟨a,b,c⟩:=p;obtain ⟨x,y,z⟩:=q;obtain ⟨ha,hb,hc⟩:=hp;obtain ⟨hx,hy,hz⟩:=hq;simp only at ha hb hc hx hy hz
 ((conv=>whnf);repeat (refine And.intro (by exact cY.of (by trivial) (by trivial) (by lia) (by lia)) ?_;conv=>whnf))
 exact k
theorem Zk:Bg Vf:=by
 intro h p q m Q E hm hp hq k;obtain ⟨a,b,c⟩:=p;obtain ⟨x,y,z⟩:=q;obtain ⟨ha,hb,hc⟩:=hp;obtain ⟨hx,hy,hz⟩:=hq;simp only at ha hb hc hx hy hz
 ((conv=>whnf);repeat (refine And.intro (by exact cY.of (by trivial) (by trivial) (by lia) (by lia)) ?_;conv=>whnf))
 exact k
theorem Ib:Bg Jo:=by
 intro h p q m Q E hm hp hq k;obtain ⟨a,b,c⟩:=p;obtain ⟨x,y,z⟩:=q;obtain ⟨ha,hb,hc⟩:=hp;obtain ⟨hx,hy,hz⟩:=hq;simp only at ha hb hc hx hy hz
 ((conv=>whnf);repeat (refine And.intro (by exact cY.of (by trivial) (by trivial) (by lia) (by lia)) ?_;conv=>whnf))
 show Q (.int (a*x+(b*y+(c*z+0)))) h;have e:a*x+(b*y+(c*z+0))=dt3 (a,b,c) (x,y,z):=by simp only [dt3];lia
 rw [e];exact k
theorem afn:Fz zp:=by
 intro h p q m Q E hm hp hq k;obtain ⟨a,b,c⟩:=p;obtain ⟨x,y,z⟩:=q;obtain ⟨ha,hb,hc⟩:=hp;obtain ⟨hx,hy,hz⟩:=hq;simp only at ha hb hc hx hy hz;conv=>whnf
 rw [wU]
 ((conv=>whnf);repeat (refine And.intro (by exact cY.of (by trivial) (by trivial) (by lia) (by lia)) ?_;conv=>whnf))
 rw [wU];conv=>whnf
 refine ⟨by decide,?_⟩;conv=>whnf
 rw [jP]
 ((conv=>whnf);repeat (refine And.intro (by exact cY.of (by trivial) (by trivial) (by lia) (by lia)) ?_;conv=>whnf))
 rw [jP];conv=>whnf
 refine ⟨by simp;decide,?_⟩;conv=>whnf
 rw [jP]
 ((conv=>whnf);repeat (refine And.intro (by exact cY.of (by trivial) (by trivial) (by lia) (by lia)) ?_;conv=>whnf))
 rw [jP];conv=>whnf
 refine ⟨by simp;decide,?_⟩;conv=>whnf
 rw [zy (jP _ _ _)];refine ⟨fun n c hn e=>?_,.inl ⟨by simp [Lo,K3],k⟩⟩;rw [lE (by lia),lE (by lia),lE (by lia),tZ (by lia)];exact e
theorem CP {fm:Nat}{far x:Int}(h:Sm fm far)(h0:-far<x)(h1:x<far):Sm fm x:=h.le (by lia)
def zY (c0:kI):Prop:=∀ {h:Gh} {n:Nat} {far:Int} {fm:Nat} {Q:WK} {E:BK},Rs h n->20<far->Sm fm far->fm<=7000->(∀ t h',Pl t->Bk fm t->Rs h' n->Kz n h h'->Q (tw t) h')->c0 [.loc n,.int far] h Q E
theorem W6 {nb pl:kI}(hnb:qQ nb)(hpl:qO pl):zY (vU nb pl):=by
 intro h n far fm Q E hr hf hb hm q;have f1:Sm 7000 far:=hb.mono hm;unfold vU;conv=>whnf
 refine hnb (n:=n) hr hf f1 fun a h1 a0 a1 r1 o1=>?_;conv=>whnf
 refine hnb (n:=n) r1 hf f1 fun b h2 b0 b1 r2 o2=>?_;conv=>whnf
 refine hnb (n:=n) r2 hf f1 fun c h3 c0 c1 r3 o3=>?_;have ha:=CP hb a0 a1;have hb':=CP hb b0 b1;have hc:=CP hb c0 c1;have o:=o1.trans (o2.trans o3);show br (FJ (.lst [.int a,.int b,.int c]) (.lst [.int 0,.int 0,.int 0])) _ _;rw [Yq];refine jK (fun hz=>?_)<|fun hz=>?_
 ·exact hpl.tr (u:=(0,0,1)) (m:=fm) (.inr rfl) (by decide) ⟨Sm.zero,Sm.zero,hb.le (by show (1:Int).natAbs<=_;lia)⟩ (by lia) fun t p _ s=>q t h3 p s r3 o
 ·exact hpl.tr (u:=(a,b,c)) (m:=fm) (.inr rfl) (fun e=>hz<|by simpa using e) ⟨ha,hb',hc⟩ (by lia) fun t p _ s=>q t h3 p s r3 o
def JoinOk (c0:kI):Prop:=∀ {h:Gh} {p q:Tr} {m:Nat} {Q:WK} {E:BK},m<=3900->Bk m p->Bk m q->Pl p->Pl q->p≠q->(∀ t:Tr,Pl t->Gq (crs p q) t->Bk (m+m+1) t->Q (tw t) h)->c0 [tw p,tw q] h Q E
theorem aeH {pl cr:kI}(hpl:qO pl)(hcr:Fz cr):JoinOk (n6 pl cr):=by
 intro h p q m Q E hm sp sq pp pq hne k;show br (FJ (tw p) (tw q)) _ _;rw [vQ];refine kY (decide_eq_false hne) ?_;show cr [tw p,tw q] h _ _;refine hcr (m:=m) (by lia) sp sq ?_;show pl [tw (crs p q)] h _ _;exact hpl.tr (u:=crs p q) (m:=m+m+1) (.inl rfl) (jT pp pq hne) (fu sp sq) (by lia) k
theorem YG {pc:kI}(hpc:JoinOk pc):JoinOk (QJ pc):=by
 intro h p q m Q E hm sp sq pp pq hne k;show pc [tw p,tw q] h _ _;exact hpc hm sp sq pp pq hne k
def QF (c0:kI):Prop:=∀ {h:Gh} {p q:Tr} {m:Nat} {Q:WK} {E:BK},m<=10000->Bk m p->Bk m q->Q (.bl (decide (dt3 p q=0))) h->c0 [tw p,tw q] h Q E
theorem ZW {dt:kI}(hdt:Bg dt):QF (zV dt):=by
 intro h p q m Q E hm hp hq k;show dt [tw p,tw q] h _ _;refine hdt hm hp hq ?_;show Q (.bl (FJ (.int (dt3 p q)) (.int 0))) h;rw [cQ];by_cases e:dt3 p q=0
 ·rw [decide_eq_true e] at k;rw [e];exact k
 ·rw [decide_eq_false e] at k;rw [show (dt3 p q==0)=false by simpa using e];exact k
def AllP (ts:List Tr):Prop:=∀ p∈ts,∀ q∈ts,∀ r∈ts,dt3 (crs q r) p=0
def Z3 (ts:List Tr)(a b c:Nat):Prop:=∀ p q r,ts[a]?=Dn p->ts[b]?=Dn q->ts[c]?=Dn r->dt3 (crs q r) p=0
open Classical in
noncomputable def jF (ts:List Tr):Bool:=decide (AllP ts)
open Classical in
theorem uG {ts:List Tr}(h:AllP ts):jF ts=true:=by unfold jF;exact decide_eq_true h
open Classical in
theorem wN {ts:List Tr}(h:¬ AllP ts):jF ts=false:=by unfold jF;exact decide_eq_false h
theorem ug (p q r:Tr):dt3 (crs q r) p=dt3 (crs r p) q:=by simp only [dt3,crs];grind
theorem aeJ (p q r:Tr):dt3 (crs q r) p = - dt3 (crs r q) p:=by simp only [dt3,crs];grind
theorem nA (p q:Tr):dt3 (crs q q) p=0:=by simp only [dt3,crs];grind
theorem qm {ts:List Tr}(H:∀ k j i,k<j->j<i->Z3 ts k j i):AllP ts:=by
 intro p hp q hq r hr;obtain ⟨a,ea⟩:=List.getElem?_of_mem hp;obtain ⟨b,eb⟩:=List.getElem?_of_mem hq;obtain ⟨c,ec⟩:=List.getElem?_of_mem hr;have rot:∀ {p q r:Tr},dt3 (crs q r) p=0->dt3 (crs r p) q=0:=fun {p q r} h=>by rw [<-ug];exact h
 have sw:∀ {p q r:Tr},dt3 (crs q r) p=0->dt3 (crs r q) p=0:=fun {p q r} h=>by rw [aeJ,h];rfl
 have ab:a=b->p=q:=fun e=>by subst e;rw [ea] at eb;exact Hz eb
 have bc:b=c->q=r:=fun e=>by subst e;rw [eb] at ec;exact Hz ec
 have ac:a=c->p=r:=fun e=>by subst e;rw [ea] at ec;exact Hz ec
 by_cases h1:a=b
 ·rw [ab h1];exact rot (nA r q)
 by_cases h2:b=c
 ·rw [bc h2];exact nA p r
 by_cases h3:a=c
 ·rw [ac h3];exact rot (rot (nA q r))
 by_cases l1:a<b
 ·by_cases l2:b<c
  ·exact H a b c l1 l2 _ _ _ ea eb ec
  ·by_cases l3:a<c
   ·exact sw<|H a c b l3 (by lia) _ _ _ ea ec eb
   ·exact rot<|H c a b (by lia) l1 _ _ _ ec ea eb
 ·by_cases l2:b<c
  ·by_cases l3:a<c
   ·exact sw<|rot<|H b a c (by lia) l3 _ _ _ eb ea ec
   ·exact rot<|rot<|H b c a l2 (by lia) _ _ _ eb ec ea
  ·exact sw<|rot<|rot<|H c b a (by lia) (by lia) _ _ _ ec eb ea
theorem agK (ts:List Tr)(h:ts.length<=2):AllP ts:=by
 refine qm fun k j i h1 h2 p q r _ _ e=>?_;have:=(NT.mp e).1
 lia
theorem afM {ts:List Tr}{t0 u:Tr}(h0:t0∈ts)(hu:u∈ts)(hne:u≠t0)(hp:∀ t∈ts,Pl t):(∀ t∈ts,t≠t0->dt3 (crs t0 u) t=0)↔AllP ts:=by
 refine ⟨fun H=>?_,fun H t ht _=>H t ht t0 h0 u hu⟩;have hn:=jT (hp _ h0) (hp _ hu) (MK hne);have H':∀ t∈ts,dt3 (crs t0 u) t=0:=fun t ht=>by
  by_cases e:t=t0
  ·subst e;rw [ug,ug];exact nA _ _
  ·exact H t ht e
 intro p hp q hq r hr;exact flat hn (H' q hq) (H' r hr)<|H' p hp
theorem afh {ts:List Tr}{t0:Tr}(H:∀ t∈ts,t=t0):AllP ts:=by
 intro p hp q hq r hr;rw [H q hq,H r hr];exact nA _ _
theorem vD {ts:List Tr}{i:Nat}{w:W}(e:(ts.map tw)[i]?=Dn w):∃ t,ts[i]?=Dn t/\w=tw t:=by
 rw [LK] at e;cases q:ts[i]? with
 | none=>rw [q] at e;cases e
 | some n=>rw [q] at e;exact ⟨n,rfl,(Hz e).symm⟩
theorem QL:∀ ts:List Tr,mJ (ts.map tw) (ts.map tw)=true
 | []=>rfl
 | t::ts=>by rw [LQ,mJ,QL ts,vQ,Bool.and_true,decide_eq_true rfl]
theorem BR (n:Nat)(t:Tr):Ft (n+1) (tw t)=true:=by cases n <;> rfl
theorem Pk (n:Nat)(ts:List Tr):Ft (n+2) (.lst (ts.map tw))=true:=by
 show (ts.map tw).all (Ft (n+1))=true;rw [MP];intro w hw;obtain ⟨t,_,rfl⟩:=Lk.mp hw;exact BR n t
theorem K4:∀ bs:List Bool,Ke (bs.map W.bl)=Dn bs
 | []=>rfl
 | b::bs=>by rw [LQ,Ke,K4 bs];rfl
theorem Bc {s:Src}{ws:List W}{own:W->Option (List W)}{ix:List Nat}{tt:MT}{te:ME}{σ : Sw}{Q:WK}(I:Nat->List W->Gh->Prop)
  (go:∀ i acc h,I i acc h->∀ P:Prop,P->s.go h P)
  (step:∀ (i:Nat) (w:W) (acc:List W) (h:Gh) (N:List W->Gh->Prop),(∀ acc' h',I (i+1) acc' h'->N acc' h')->ws[i]?=Dn w->I i acc h ->
   ∃ vs,own w=Dn vs/\tt (vs.map Dn++qI ix σ) h fun c h1=>Hy c (te (vs.map Dn++qI ix σ) h1 fun v h2=>N (acc++[v]) h2) (N acc h1))
  (fin:∀ acc h,I ws.length acc h->Q (.lst acc) h):∀ {acc:List W} {h:Gh},I 0 acc h->oE s own ix tt te σ Q ws acc h:=by
 induction ws generalizing I with
 | nil=>intro acc h h0;exact go 0 acc h h0 _ (fin acc h h0)
 | cons w ws ih=>
  intro acc h h0;obtain ⟨vs,ev,q⟩:=step 0 w acc h _ (fun acc' h' q=>ih (fun i=>I (i+1)) (fun i=>go (i+1)) (fun i w acc h N hN e hi=>step (i+1) w acc h N hN (by simpa using e) hi) (fun acc h q=>fin acc h q) q) rfl h0;refine go 0 acc h h0 _ ?_;show (match own w with
   | some vs=>_
   | none=>False)
  rw [ev];exact q
theorem abd {own:W->Option (List W)}{i:Nat}{ix:List Nat}{te:ME}{σ : Sw}{h:Gh}{Q:WK}{w:W}{ws:List W}(hv:σ[i]?=Dn (Dn w))(hs:uJ h w=Dn ⟨ws,FN⟩)(hz:ws.length<=Gn)(k:oE ⟨ws,FN⟩ own ix fH te σ Q ws [] h):GQ own ix (Gu (ak i)) fH te σ h Q:=by
 unfold GQ Gu ak;rw [hv];dsimp only;rw [hs];exact gJ.mk hz k
def eV (h:Gh)(w:W)(ts:List Tr):Prop:=w=.lst (ts.map tw)\/∃ n,w=.loc n/\h.c n=Dn (.lst (ts.map tw))
theorem eV.src {h:Gh}{w:W}{ts:List Tr}(e:eV h w ts):view h w=Dn (ts.map tw)/\∃ s:Src,uJ h w=Dn s/\s.ws=ts.map tw/\∀ P:Prop,P->s.go h P:=by
 rcases e with rfl | ⟨n,rfl,e⟩
 ·exact ⟨rfl,_,rfl,rfl,fun _ p=>p⟩
 ·refine ⟨dj e,⟨ts.map tw,Dn (n,ts.map tw)⟩,by simp only [uJ,e],rfl,fun P p=>⟨e,p⟩⟩
theorem Av (t0:Tr)(r:List Tr):Ji ((t0::r).map tw) 0=Dn (tw t0):=rY (j:=0) rfl
theorem zN {h:Gh}{w:W}{t0:Tr}{r:List Tr}{o1 o2:Option W}{Q:WK}(e:eV h w (t0::r))(hl:(t0::r).length<=1000)(q:Q (.lst (((t0::r).filter (·≠t0)).map tw)) h) :
  GQ Gs [0] (Gu (ak 0)) (aR (Mk Hg (ak 0) (Mk Bf (ak 1) (mC (.int 0))))) (ak 0) [Dn w,o1,o2] h Q:=by
 obtain ⟨ev,s,es,ew,go⟩:=e.src;generalize hts:t0::r=ts at *;have a0:Ji (ts.map tw) 0=Dn (tw t0):=by rw [<-hts];exact Av _ _
 show (match uJ h w with
  | some s=>_
  | none=>False)
 rw [es];show gJ s.ws.length (oE s _ _ _ _ _ _ s.ws [] h);rw [ew];refine gJ.mk (by rw [Gg];exact Ii hl (by decide)) ?_;refine Bc (fun i acc h'=>h'=h/\acc=((ts.take i).filter (·≠t0)).map tw) ?_ ?_ ?_ ⟨rfl,rfl⟩
 ·rintro i acc h' ⟨rfl,_⟩;exact go
 ·rintro i w2 acc h' N hN e2 ⟨rfl,rfl⟩;obtain ⟨t,et,rfl⟩:=vD e2;refine ⟨[tw t],rfl,?_⟩;show (match view h' w with
   | some ws=>(match Ji ws 0 with
    | some w=>_
    | none=>False)
   | none=>False)
  rw [ev];dsimp only;rw [a0];show Hy (Ft 30 (tw t)&&Ft 30 (tw t0)) (Hy (!FJ (tw t) (tw t0)) (N (_++[tw t]) h') _) False;rw [BR 29,BR 29,vQ];show Hy (!decide (t=t0)) _ _;by_cases h0:t=t0
  ·refine Yl (by simp [h0])<|hN _ _ ⟨rfl,?_⟩
   rw [M8,et];simp [h0]
  ·refine Lp (by simp [h0])<|hN _ _ ⟨rfl,?_⟩
   rw [M8,et];simp [h0]
 ·rintro acc h' ⟨rfl,rfl⟩;rw [Gg,Mp];exact q
def iM (c0:kI):Prop:=∀ {h:Gh} {w:W} {ts:List Tr} {M:Nat} {Q:WK} {E:BK},eV h w ts->ts.length<=1000->M<=4000->(∀ t∈ts,Pl t/\Bk M t)->Q (.bl (jF ts)) h->c0 [w] h Q E
theorem agT {dot cr:kI}(hdot:Bg dot)(hcr:Fz cr):iM (ux dot cr):=by
 intro h w ts M Q E e hl hM hs q;show GQ Gs [0] (Gu (ak 0)) (aR (Mk Hg (ak 0) (Mk Bf (ak 1) (mC (.int 0))))) (ak 0) [Dn w,FN,FN] h _;match ts,e,hl,hs,q with
 | [],e,hl,hs,q=>
  obtain ⟨ev,s,es,ew,go⟩:=e.src;rw [uG (agK [] (by decide))] at q;show (match uJ h w with
   | some s=>_
   | none=>False)
  rw [es];show gJ s.ws.length (oE s _ _ _ _ _ _ s.ws [] h);rw [ew];show s.go h _;refine go _ ?_;exact Am rfl q
 | t0::r,e,hl,hs,q=>
  refine zN e hl ?_;generalize hts:t0::r=ts at *;have m0:t0∈ts:=by rw [<-hts];simp
  have hus:∀ t,t∈ts.filter (·≠t0)↔t∈ts/\t≠t0:=fun t=>by rw [OD];simp
  have hlu:(ts.filter (·≠t0)).length<=ts.length:=List.length_filter_le ..;generalize ts.filter (·≠t0)=us at hus hlu;match us,hus,hlu with
  | [],hus,_=>
   rw [uG (afh (t0:=t0) fun t ht=>by
    by_cases e:t=t0
    ·exact e
    ·exact absurd ((hus t).mpr ⟨ht,e⟩) (by simp))] at q
   exact Am rfl q
  | u::us,hus,hlu=>
   have hu:=(hus u).mp (by simp);refine kY rfl ?_;obtain ⟨ev,s,es,ew,go⟩:=e.src;show (match view h w with
    | some ws=>(match Ji ws 0 with
     | some w=>_
     | none=>False)
    | none=>False)
   rw [ev];dsimp only;rw [show Ji (ts.map tw) 0=Dn (tw t0) by rw [<-hts];exact Av _ _];show (match Ji ((u::us).map tw) 0 with
    | some w=>_
    | none=>False)
   rw [Av];show cr [tw t0,tw u] h _ _;refine hcr (m:=M) (by lia) (hs _ m0).2 (hs _ hu.1).2 ?_;have sc:=fu (hs _ m0).2 (hs _ hu.1).2;have it:=afM (u:=u) m0 hu.1 hu.2 fun t ht=>(hs t ht).1
   generalize crs t0 u=n at sc it;generalize hvs:u::us=vs at *;show GQ Gs [2] (Gu (ak 1)) fH (Mk Gz (aD dot E (aj (ak 1) (aj (ak 0) aF))) (mC (.int 0))) [Dn w,Dn (.lst (vs.map tw)),Dn (tw n)] h _;refine abd (w:=.lst (vs.map tw)) (ws:=vs.map tw) rfl rfl (by rw [Gg];exact Ii (Ii hlu hl) (by decide)) ?_;refine qd (fun i acc h'=>h'=h/\acc=((vs.take i).map fun t=>dt3 n t==0).map W.bl) ?_ ?_ ⟨rfl,rfl⟩
   ·rintro i w2 acc h' N hN e2 ⟨rfl,rfl⟩;obtain ⟨t,et,rfl⟩:=vD e2;have mt:=(hus t).mp (N5 et);refine ⟨[tw t],rfl,?_⟩;show dot [tw n,tw t] h' _ _;refine hdot (m:=M+M+1) (by lia) sc ((hs t mt.1).2.mono (by lia)) ?_;show N (_++[W.bl (FJ (.int (dt3 n t)) (.int 0))]) h';rw [cQ];refine hN _ _ ⟨rfl,?_⟩;rw [M8,et];simp
   ·rintro acc h' ⟨rfl,rfl⟩;rw [Gg,Mp];show (match Ke ((vs.map fun t=>dt3 n t==0).map W.bl) with
     | some bs=>Q (.bl (bs.all id)) h'
     | none=>False)
    rw [K4];have ef:(vs.map fun t=>dt3 n t==0).all id=jF ts:=by
     by_cases H:AllP ts
     ·rw [uG H,MP];intro b hb;obtain ⟨t,ht,rfl⟩:=Lk.mp hb;have:=it.mpr H t ((hus t).mp ht).1 ((hus t).mp ht).2
      simp [this]
     ·rw [wN H];refine Bool.eq_false_iff.mpr fun hb=>H<|it.mp fun t ht hne=>?_
      rw [MP] at hb;have:=hb _ (Lk.mpr ⟨t,(hus t).mpr ⟨ht,hne⟩,rfl⟩)
      simpa using this
    dsimp only;rw [ef];exact q
theorem zaJ {sh:kI}(hsh:iM sh):iM (zF sh):=by
 intro h w ts M Q E e hl hM hs q;show sh [w] h _ _;exact hsh e hl hM hs q
theorem DK {s:Src}{ws:List W}{g:MG}{b:MS}{D:bT}(I:Nat->Sw->Gh->Prop)(go:∀ i σ h,I i σ h->∀ P:Prop,P->s.go h P)
  (step:∀ (i:Nat) (w:W) (σ : Sw) (h:Gh) (N:Sw->Gh->Prop),(∀ σ' h',I (i+1) σ' h'->N σ' h')->ws[i]?=Dn w->I i σ h->g w σ h fun σ1 h1=>b { D with nx:=N,ct:=N,bk:=D.nx } σ1 h1)
  (fin:∀ σ h,I ws.length σ h->D.nx σ h):∀ {σ : Sw} {h:Gh},I 0 σ h->eO s g b D ws σ h:=by
 induction ws generalizing I with
 | nil=>intro σ h h0;exact go 0 σ h h0 _ (fin σ h h0)
 | cons w ws ih=>
  intro σ h h0;refine go 0 σ h h0 _ ?_;refine step 0 w σ h _ (fun σ' h' q=>?_) rfl h0;exact ih (fun i=>I<|i+1) (fun i=>go<|i+1) (fun i w σ h N hN e hi=>step (i+1) w σ h N hN (by simpa using e) hi) (fun σ h q=>fin σ h q) q
theorem afr {i:Nat}{g:MG}{b:MS}{D:bT}{σ : Sw}{h:Gh}{w:W}{ts:List Tr}(hv:σ[i]?=Dn (Dn w))(e:eV h w ts)(I:Nat->Sw->Gh->Prop)
  (go:∀ i σ h',I i σ h'->eV h' w ts)
  (step:∀ (i:Nat) (t:Tr) (σ : Sw) (h:Gh) (N:Sw->Gh->Prop),(∀ σ' h',I (i+1) σ' h'->N σ' h')->ts[i]?=Dn t->I i σ h->g (tw t) σ h fun σ1 h1=>b { D with nx:=N,ct:=N,bk:=D.nx } σ1 h1)
  (fin:∀ σ h,I ts.length σ h->D.nx σ h) (h0:I 0 σ h):oF (Gu (ak i)) g b D σ h:=by
 unfold oF Gu ak;rw [hv];dsimp only;have gen:∀ s:Src,uJ h w=Dn s->s.ws=ts.map tw->(∀ h',eV h' w ts->∀ P:Prop,P->s.go h' P)->(match uJ h w with
   | some s=>eO s g b D s.ws σ h
   | none=>False):=by
  intro s es ew hg;rw [es];show eO s g b D s.ws σ h;rw [ew];refine DK I (fun i σ h' hi=>hg h'<|go i σ h' hi) (fun i w σ h N hN e hi=>?_) (fun σ h q=>fin σ h<|by rwa [Gg] at q) h0;obtain ⟨t,et,rfl⟩:=vD e;exact step i t σ h N hN et hi
 rcases e with rfl | ⟨n,rfl,e⟩
 ·exact gen ⟨ts.map tw,FN⟩ rfl rfl fun _ _ _ p=>p
 ·refine gen ⟨ts.map tw,Dn (n,ts.map tw)⟩ (by simp only [uJ,e]) rfl fun h' e' P p=>⟨?_,p⟩;rcases e' with e' | ⟨n',e',q⟩
  ·cases e'
  ·cases e';exact q
theorem QT {h:Gh}{n:Nat}{us:List W}{w:W}{Q:WK}(e:h.c n=Dn (.lst us))(hz:us.length<Gn)(k:Q .non (h.set n (.lst (us++[w])))):fL (.loc n) [w] h Q:=by
 show (match h.c n with
  | some (Cell.lst us)=>_
  | _=>False)
 rw [e];exact ⟨hz,k⟩
theorem Cw {h:Gh}{n:Nat}{us zs:List W}{Q:WK}(e:h.c n=Dn (.lst us))(hz:us.length+zs.length<=Gn)(k:Q .non (h.set n (.lst (us++zs)))):iC (.loc n) [.lst zs] h Q:=by
 dsimp only [iC];rw [e];exact gJ.mk hz k
theorem Ky {ma:MA}{j:Int}{own:W->Option (List W)}{ix:List Nat}{tt:MT}{te:ME}{σ : Sw}{h:Gh}{Q:WK}(hm:∀ R,ma σ h R=R [.int j] h)(h1:-(2^62)<=j)(h2:j<2^62)(hz:j.toNat<=Gn)(I:Nat->List W->Gh->Prop)
  (step:∀ (i:Nat) (acc:List W) (h:Gh) (N:List W->Gh->Prop),(∀ acc' h',I (i+1) acc' h'->N acc' h')->i<j.toNat->I i acc h ->
   ∃ vs,own (.int (i:Int))=Dn vs/\tt (vs.map Dn++qI ix σ) h fun c h1=>Hy c (te (vs.map Dn++qI ix σ) h1 fun v h2=>N (acc++[v]) h2) (N acc h1))
  (fin:∀ acc h,I j.toNat acc h->Q (.lst acc) h) (h0:I 0 [] h):GQ own ix (dR ma) tt te σ h Q:=by
 unfold GQ dR;rw [hm];refine yq.mk h1 h2<|gJ.mk (by rw [xH];exact hz) ?_
 refine qd I (fun i w acc h N hN e hi=>?_) (fun acc h q=>fin acc h (by rw [xH] at q;exact q)) h0;obtain ⟨hlt,rfl⟩:=DY e;rw [Int.zero_add];exact step i acc h N hN hlt hi
abbrev Mt:=Tr×Tr×Tr
def vm (M:Mt)(v:Tr):Tr:=(dt3 M.1 v,dt3 M.2.1 v,dt3 M.2.2 v)
def tr (M:Mt):Mt:=((M.1.1,M.2.1.1,M.2.2.1),(M.1.2.1,M.2.1.2.1,M.2.2.2.1),(M.1.2.2,M.2.1.2.2,M.2.2.2.2))
def mm (M N:Mt):Mt:=(vm (tr N) M.1,vm (tr N) M.2.1,vm (tr N) M.2.2)
def Ko (M:Mt):Mt:=(crs M.2.1 M.2.2,crs M.2.2 M.1,crs M.1 M.2.1)
def adj (M:Mt):Mt:=tr (Ko M)
def det (M:Mt):Int:=dt3 (crs M.1 M.2.1) M.2.2
def sM (k:Int)(M:Mt):Mt:=(sc k M.1,sc k M.2.1,sc k M.2.2)
def R7:Mt:=((1,0,0),(0,1,0),(0,0,1))
theorem Mg {p q:Tr}(h1:p.1=q.1)(h2:p.2.1=q.2.1)(h3:p.2.2=q.2.2):p=q:=HB h1 (HB h2 h3)
theorem mt3 {M N:Mt}(h1:M.1=N.1)(h2:M.2.1=N.2.1)(h3:M.2.2=N.2.2):M=N:=HB h1 (HB h2 h3)
theorem Ec (x:Tr)(N:Mt)(v:Tr):dt3 (vm (tr N) x) v=dt3 x (vm N v):=by
 simp only [dt3,vm,tr];grind
theorem Bj (M N:Mt)(v:Tr):vm (mm M N) v=vm M (vm N v):=by
 simp only [mm];exact Mg (Ec _ _ _) (Ec _ _ _)<|Ec _ _ _
theorem abo (M N:Mt):tr (mm M N)=mm (tr N) (tr M):=by
 simp only [mm,tr,vm];refine mt3 (Mg ?_ ?_ ?_) (Mg ?_ ?_ ?_) (Mg ?_ ?_ ?_) <;> exact bY _ _
theorem cB (M:Mt)(k:Int)(v:Tr):vm M (sc k v)=sc k (vm M v):=Mg (iI _ _ _) (iI _ _ _) (iI _ _ _)
theorem uU (M:Mt)(k:Int)(v:Tr):vm (sM k M) v=sc k (vm M v):=Mg (nJ _ _ _) (nJ _ _ _) (nJ _ _ _)
theorem abm (M:Mt)(k:Int):tr (sM k M)=sM k (tr M):=rfl
theorem HS (v:Tr):vm R7 v=v:=by
 obtain ⟨a,b,c⟩:=v;simp [vm,R7,dt3]
theorem Wb (M:Mt):mm M (adj M)=sM (det M) R7:=by
 obtain ⟨⟨a,b,c⟩,⟨d,e,f⟩,⟨g,h,i⟩⟩:=M;simp only [mm,vm,adj,tr,Ko,det,sM,R7,sc,dt3,crs];refine mt3 (Mg ?_ ?_ ?_) (Mg ?_ ?_ ?_) (Mg ?_ ?_ ?_) <;> simp only <;> grind
theorem yE (M:Mt):mm (adj M) M=sM (det M) R7:=by
 obtain ⟨⟨a,b,c⟩,⟨d,e,f⟩,⟨g,h,i⟩⟩:=M;simp only [mm,vm,adj,tr,Ko,det,sM,R7,sc,dt3,crs];refine mt3 (Mg ?_ ?_ ?_) (Mg ?_ ?_ ?_) (Mg ?_ ?_ ?_) <;> simp only <;> grind
theorem vh (M:Mt)(p q:Tr):crs (vm M p) (vm M q)=vm (Ko M) (crs p q):=by
 obtain ⟨⟨a,b,c⟩,⟨d,e,f⟩,⟨g,h,i⟩⟩:=M;obtain ⟨p1,p2,p3⟩:=p;obtain ⟨q1,q2,q3⟩:=q;simp only [vm,Ko,dt3,crs];refine Mg ?_ ?_ ?_ <;> simp only <;> grind
theorem Vr (M:Mt)(x v:Tr):dt3 (vm (Ko M) x) (vm M v)=det M*dt3 x v:=by
 show dt3 (vm (tr (adj M)) x) (vm M v)=_;rw [Ec,<-Bj,yE,uU,HS,iI,RG]
theorem Cy (M:Mt)(p q r:Tr):dt3 (crs (vm M p) (vm M q)) (vm M r)=det M*dt3 (crs p q) r:=by rw [vh,Vr]
theorem Jw (M:Mt):det (tr M)=det M:=by
 obtain ⟨⟨a,b,c⟩,⟨d,e,f⟩,⟨g,h,i⟩⟩:=M;simp only [det,tr,dt3,crs];grind
theorem vd (M N:Mt):det (mm M N)=det M*det N:=by
 show dt3 (crs (vm (tr N) M.1) (vm (tr N) M.2.1)) (vm (tr N) M.2.2)=_;rw [Cy,Jw,RG];rfl
theorem Pg (k:Int)(M:Mt):det (sM k M)=det M*(k*k*k):=by
 simp only [det,sM];rw [jZ,nJ,iI];grind
theorem aeA {k:Int}{M:Mt}(hk:k≠0):det (sM k M)≠0↔det M≠0:=by
 rw [Pg];have:k*k*k≠0:=fun h=>(Kw.mp h).elim (fun h=>(Kw.mp h).elim hk hk) hk
 rw [ne_eq,cJ this]
theorem XJ:det R7=1:=by decide
theorem Qo (M:Mt):sM 1 M=M:=by simp [sM,sc]
theorem tY {M:Mt}(h:det M≠0):det (adj M)≠0:=by
 have e:=vd M (adj M);rw [Wb,Pg,XJ] at e;intro z;rw [z,Rg,Int.one_mul] at e;exact (Kw.mp e).elim (fun e=>(Kw.mp e).elim h h) h
theorem yL {M:Mt}{v:Tr}(h:det M≠0)(hv:v≠(0,0,0)):vm M v≠(0,0,0):=by
 intro e;have e2:vm (adj M) (vm M v)=(0,0,0):=by rw [e];simp [vm,dt3]
 rw [<-Bj,yE,uU,HS] at e2;exact hv<|(jf h).mp e2
def ml (M:Mt):List Int:=tl M.1++(tl M.2.1++tl M.2.2)
def mw (M:Mt):W:=.tup [.int M.1.1,.int M.1.2.1,.int M.1.2.2,.int M.2.1.1,.int M.2.1.2.1,.int M.2.1.2.2,.int M.2.2.1,.int M.2.2.2.1,.int M.2.2.2.2]
def Mh (M:Mt):W:=.lst [.int M.1.1,.int M.1.2.1,.int M.1.2.2,.int M.2.1.1,.int M.2.1.2.1,.int M.2.1.2.2,.int M.2.2.1,.int M.2.2.2.1,.int M.2.2.2.2]
def PlM (M:Mt):Prop:=O6 (ml M)
def HI (m:Nat)(M:Mt):Prop:=Bk m M.1/\Bk m M.2.1/\Bk m M.2.2
def GK (U M:Mt):Prop:=∃ k,k≠0/\U=sM k M
theorem HI.mono {m n:Nat}{M:Mt}(h:HI m M)(e:m<=n):HI n M:=⟨h.1.mono e,h.2.1.mono e,h.2.2.mono e⟩
theorem HI.all {m:Nat}{M:Mt}(h:HI m M):∀ n∈ml M,Sm m n:=by
 intro n hn;unfold ml at hn;rcases Mw.mp hn with hn | hn
 ·exact h.1.all n hn
 ·rcases Mw.mp hn with hn | hn
  ·exact h.2.1.all n hn
  ·exact h.2.2.all n hn
theorem abT {M:Mt}(h:det M≠0):NZ (ml M):=by
 by_cases h1:M.1=(0,0,0)
 ·exact absurd (by unfold det;rw [h1];simp [crs,dt3]) h
 ·obtain ⟨n,hn,n0⟩:=Ro h1;exact ⟨n,List.mem_append_left _ hn,n0⟩
theorem X6 {M:Mt}{k:Int}{ms:List Int}(e:ml M=ms.map (· * k)):∃ N:Mt,ms=ml N/\M=sM k N:=by
 match ms,congrArg List.length e,e with
 | [a,b,c,d,e',f,g,h,i],_,e=>
  simp only [ml,tl,List.cons_append,List.nil_append,LQ,TY,Sx,and_true] at e;refine ⟨((a,b,c),(d,e',f),(g,h,i)),rfl,?_⟩;obtain ⟨e1,e2,e3,e4,e5,e6,e7,e8,e9⟩:=e;exact mt3 (Mg e1 e2 e3) (Mg e4 e5 e6)<|Mg e7 e8 e9
theorem GK.det {U M:Mt}(h:GK U M):My.det U≠0↔My.det M≠0:=by
 obtain ⟨k,hk,rfl⟩:=h;exact aeA hk
theorem qO.mt {c0:kI}(hc:qO c0){h:Gh}{w:W}{U:Mt}{m:Nat}{Q:WK}{E:BK}(hw:w=mw U\/w=Mh U)(h0:My.det U≠0)(hs:HI m U)(hm:m<=8000)
  (q:∀ M:Mt,PlM M->GK U M->HI m M->Q (mw M) h):c0 [w] h Q E:=by
 refine hc (ns:=ml U) (m:=m) ?_ (abT h0) hs.all hm (show 9<=1000 by decide) fun ms k hk e pl sm=>?_
 ·rcases hw with rfl | rfl
  ·exact .inr rfl
  ·exact .inl rfl
 ·obtain ⟨M,rfl,e'⟩:=X6 e;refine q M pl ⟨k,hk,e'⟩ ⟨⟨sm _ ?_,sm _ ?_,sm _ ?_⟩,⟨sm _ ?_,sm _ ?_,sm _ ?_⟩,⟨sm _ ?_,sm _ ?_,sm _ ?_⟩⟩ <;> simp [ml,tl]
theorem Cz {m n:Nat}{p q:Tr}(hp:Bk m p)(hq:Bk n q):Sm (m+n+2) (dt3 p q):=
 ((hp.1.mul hq.1).add (hp.2.1.mul hq.2.1)).add (hp.2.2.mul hq.2.2) |>.mono (by lia)
theorem Jt {m:Nat}{M:Mt}(h:HI m M):HI m (tr M):=⟨⟨h.1.1,h.2.1.1,h.2.2.1⟩,⟨h.1.2.1,h.2.1.2.1,h.2.2.2.1⟩,⟨h.1.2.2,h.2.1.2.2,h.2.2.2.2⟩⟩
theorem z8 {m n:Nat}{M:Mt}{v:Tr}(h:HI m M)(hv:Bk n v):Bk (m+n+2) (vm M v):=⟨Cz h.1 hv,Cz h.2.1 hv,Cz h.2.2 hv⟩
theorem XM {m n:Nat}{M N:Mt}(h:HI m M)(h':HI n N):HI (n+m+2) (mm M N):=⟨z8 (Jt h') h.1,z8 (Jt h') h.2.1,z8 (Jt h') h.2.2⟩
theorem Hq {m:Nat}{M:Mt}(h:HI m M):HI (m+m+1) (Ko M):=⟨fu h.2.1 h.2.2,fu h.2.2 h.1,fu h.1 h.2.1⟩
theorem Xn {m:Nat}{M:Mt}(h:HI m M):HI (m+m+1) (adj M):=Jt (Hq h)
def ach:W->Bool
 | .int _=>true
 | _=>false
instance (ns:List Int):Decidable (O6 ns):=inferInstanceAs (Decidable (_/\_))
def lw (t:Tr):W:=.lst [.int t.1,.int t.2.1,.int t.2.2]
def HJ (b:Bool)(t:Tr):W:=if b then tw t else lw t
def LI (b:Bool)(M:Mt):W:=if b then mw M else Mh M
def abh (c0:kI):Prop:=∀ {h:Gh} {p q:Tr} {m:Nat} {Q:WK} {E:BK} (b b':Bool),m<=10000->Bk m p->Bk m q->Q (tw (crs p q)) h->c0 [HJ b p,HJ b' q] h Q E
def aag (c0:kI):Prop:=∀ {h:Gh} {p q:Tr} {m:Nat} {Q:WK} {E:BK} (b b':Bool),m<=10000->Bk m p->Bk m q->Q (.int (dt3 p q)) h->c0 [HJ b p,HJ b' q] h Q E
theorem Ew:abh Bl:=by
 intro h p q m Q E b b' hm hp hq k;obtain ⟨x,y,z⟩:=q;obtain ⟨a,b2,c⟩:=p;obtain ⟨ha,hb,hc⟩:=hp;obtain ⟨hx,hy,hz⟩:=hq;simp only at ha hb hc hx hy hz;cases b <;> cases b'
 ·((conv=>whnf);repeat (refine And.intro (by exact cY.of (by trivial) (by trivial) (by lia) (by lia)) ?_;conv=>whnf))
  exact k
 ·((conv=>whnf);repeat (refine And.intro (by exact cY.of (by trivial) (by trivial) (by lia) (by lia)) ?_;conv=>whnf))
  exact k
 ·((conv=>whnf);repeat (refine And.intro (by exact cY.of (by trivial) (by trivial) (by lia) (by lia)) ?_;conv=>whnf))
  exact k
 ·((conv=>whnf);repeat (refine And.intro (by exact cY.of (by trivial) (by trivial) (by lia) (by lia)) ?_;conv=>whnf))
  exact k
theorem Ja:aag Vf:=by
 intro h p q m Q E b b' hm hp hq k;obtain ⟨x,y,z⟩:=q;obtain ⟨a,b2,c⟩:=p;obtain ⟨ha,hb,hc⟩:=hp;obtain ⟨hx,hy,hz⟩:=hq;simp only at ha hb hc hx hy hz;cases b <;> cases b'
 ·((conv=>whnf);repeat (refine And.intro (by exact cY.of (by trivial) (by trivial) (by lia) (by lia)) ?_;conv=>whnf))
  exact k
 ·((conv=>whnf);repeat (refine And.intro (by exact cY.of (by trivial) (by trivial) (by lia) (by lia)) ?_;conv=>whnf))
  exact k
 ·((conv=>whnf);repeat (refine And.intro (by exact cY.of (by trivial) (by trivial) (by lia) (by lia)) ?_;conv=>whnf))
  exact k
 ·((conv=>whnf);repeat (refine And.intro (by exact cY.of (by trivial) (by trivial) (by lia) (by lia)) ?_;conv=>whnf))
  exact k
def zm (c0:kI):Prop:=∀ {h:Gh} {M:Mt} {Q:WK} {E:BK} (b:Bool),Q (.lst [HJ b M.1,HJ b M.2.1,HJ b M.2.2]) h->c0 [LI b M] h Q E
theorem X3:zm xY:=by
  intro h M Q E b k;cases b
  . exact k
  . first
    | exact k
    | (refine And.intro (by decide:¬ ((0:Nat)=0/\(3:Nat)=9)) (And.intro (by decide:¬ ((3:Nat)=0/\(6:Nat)=9)) (And.intro (by decide:¬ ((6:Nat)=0/\(9:Nat)=9)) ?_))
       exact k)
def qR (c0:kI):Prop:=∀ {h:Gh} {M:Mt} {m:Nat} {Q:WK} {E:BK} (b:Bool),m<=10000->HI m M->Q (mw (Ko M)) h->c0 [LI b M] h Q E
theorem aez {cr ro:kI}(hcr:abh cr)(hro:zm ro):qR (Ep cr ro):=by
 intro h M m Q E b hm hs k;show ro [LI b M] h _ _;refine hro b ?_;show cr [HJ b M.2.1,HJ b M.2.2] h _ _;refine hcr b b hm hs.2.1 hs.2.2 ?_;show cr [HJ b M.2.2,HJ b M.1] h _ _;refine hcr b b hm hs.2.2 hs.1 ?_;show cr [HJ b M.1,HJ b M.2.1] h _ _;refine hcr b b hm hs.1 hs.2.1 ?_;exact k
def Zh (c0:kI):Prop:=∀ {h:Gh} {p q r:Tr} {m:Nat} {Q:WK} {E:BK} (b:Bool),m<=4000->Bk m p->Bk m q->Bk m r->Q (.int (dt3 (crs p q) r)) h->c0 [HJ b p,HJ b q,HJ b r] h Q E
theorem agp {dt cr:kI}(hdt:aag dt)(hcr:abh cr):Zh (Pb dt cr):=by
 intro h p q r m Q E b hm hp hq hr k;show cr [HJ b p,HJ b q] h _ _;refine hcr (m:=m) b b (by lia) hp hq ?_;show dt [HJ true (crs p q),HJ b r] h _ _;exact hdt (m:=m+m+1) true b (by lia) (fu hp hq) (hr.mono<|by lia) k
def GZ (c0:kI):Prop:=∀ {h:Gh} {M:Mt} {Q:WK} {E:BK} (b:Bool),Q (Mh (tr M)) h->c0 [LI b M] h Q E
theorem Vw {b:Bool}{M:Mt}{h:Gh}{Q:WK}:∀ (i:Nat) (w:W),[W.int M.1.1,.int M.2.1.1,.int M.2.2.1,.int M.1.2.1,.int M.2.1.2.1,.int M.2.2.2.1,.int M.1.2.2,.int M.2.1.2.2,.int M.2.2.2.2][i]?=Dn w->Q w h ->
  Mk Bf (ak 1) (Mk bJ (Mk cG (mC (.int 3)) (Mk qP (ak 0) (mC (.int 3)))) (Mk zK (ak 0) (mC (.int 3)))) [Dn (.int (i:Int)),Dn (LI b M)] h Q:=by
 have c:∀ a b:Int,Ny (a.natAbs+1) (2^64)=true->Ny (b.natAbs+1) (2^64)=true->cY a b:=fun a b h1 h2=>.of (Sm.lit h1) (Sm.lit h2) (by decide) (by decide)
 have d:Ej 0 3:=⟨by decide,64,by decide,.lit rfl⟩
 intro i w e q;match i,e with
 | 0,e | 1,e | 2,e | 3,e | 4,e | 5,e | 6,e | 7,e | 8,e=>
  have e':=Hz e;subst e';refine And.intro (by decide)<|And.intro (c _ _ rfl rfl)<|And.intro d ?_
  cases b
  ·exact q
  ·exact q
theorem QK:GZ zO:=by
 intro h M Q E b k;show GQ Gs [0] (dR (aj (mC (.int 9)) aF)) fH (Mk Bf (ak 1) (Mk bJ (Mk cG (mC (.int 3)) (Mk qP (ak 0) (mC (.int 3)))) (Mk zK (ak 0) (mC (.int 3))))) [Dn (LI b M)] h _;refine Ky (j:=9) (fun _=>rfl) (by decide) (by decide) (by decide) (fun i acc h'=>h'=h/\acc=[W.int M.1.1,.int M.2.1.1,.int M.2.2.1,.int M.1.2.1,.int M.2.1.2.1,.int M.2.2.2.1,.int M.1.2.2,.int M.2.1.2.2,.int M.2.2.2.2].take i) ?_ ?_ ⟨rfl,rfl⟩
 ·rintro i acc h' N hN hlt ⟨rfl,rfl⟩;refine ⟨[.int (i:Int)],rfl,?_⟩;have hi:i < [W.int M.1.1,.int M.2.1.1,.int M.2.2.1,.int M.1.2.1,.int M.2.1.2.1,.int M.2.2.2.1,.int M.1.2.2,.int M.2.1.2.2,.int M.2.2.2.2].length:=hlt;refine Vw (b:=b) (M:=M) i _ (JQ hi) ?_;refine hN _ _ ⟨rfl,?_⟩;rw [M8,JQ hi];rfl
 ·rintro acc h' ⟨rfl,rfl⟩;exact k
def Ms (c0:kI):Prop:=∀ {h:Gh} {M N:Mt} {m:Nat} {Q:WK} {E:BK} (b b':Bool),m<=8000->HI m M->HI m N->Q (Mh (mm M N)) h->c0 [LI b M,LI b' N] h Q E
theorem aaF {dt ro fl:kI}(hdt:aag dt)(hro:zm ro)(hfl:GZ fl):Ms (fJ dt ro fl):=by
 intro h M N m Q E b b' hm hM hN k;have hT:=Jt hN;show fl [LI b' N] h _ _;refine hfl b' ?_;show ro [LI false (tr N)] h _ _;refine hro false ?_;show ro [LI b M] (h.new (.lst [])) _ _;refine hro b ?_;have dots:∀ (g:Gh) (r:Tr) (s0 s1 s3:Option W) (Q':WK),Bk m r->Q' (.lst [.int (dt3 r (tr N).1),.int (dt3 r (tr N).2.1),.int (dt3 r (tr N).2.2)]) g ->
   GQ Gs [4] (Gu (ak 2)) fH (aD dt E (aj (ak 1) (aj (ak 0) aF))) [s0,s1,Dn (.lst [lw (tr N).1,lw (tr N).2.1,lw (tr N).2.2]),s3,Dn (HJ b r)] g Q':=by
  intro g r s0 s1 s3 Q' hr q;show dt [HJ b r,HJ false (tr N).1] g _ _;refine hdt b false (by lia) hr hT.1 ?_;show dt [HJ b r,HJ false (tr N).2.1] g _ _;refine hdt b false (by lia) hr hT.2.1 ?_;show dt [HJ b r,HJ false (tr N).2.2] g _ _;refine hdt b false (by lia) hr hT.2.2 ?_;exact q
 show (match (h.new (.lst [])).c h.nx with
  | some (Cell.lst us)=>_
  | _=>False)
 rw [wU];refine dots _ _ _ _ _ _ hM.1 ?_;dsimp only [aF];refine Cw (wU _ _) (by simp;decide) ?_;show (match ((h.new (.lst [])).set h.nx _).c h.nx with
  | some (Cell.lst us)=>_
  | _=>False)
 rw [jP];refine dots _ _ _ _ _ _ hM.2.1 ?_;dsimp only [aF];refine Cw (jP _ _ _) (by simp;decide) ?_;show (match (((h.new (.lst [])).set h.nx _).set h.nx _).c h.nx with
  | some (Cell.lst us)=>_
  | _=>False)
 rw [jP];refine dots _ _ _ _ _ _ hM.2.2 ?_;dsimp only [aF];refine Cw (jP _ _ _) (by simp;decide) ?_;refine ⟨fun n c hn e=>?_,.inr ⟨h.nx,_,rfl,Gi _,jP _ _ _,?_,?_⟩⟩
 ·rw [lE (by lia),lE (by lia),lE (by lia),tZ (by lia)];exact e
 ·simp [Lo,K3]
 ·have e:Mh (mm M N)=.lst [.int (dt3 M.1 (tr N).1),.int (dt3 M.1 (tr N).2.1),.int (dt3 M.1 (tr N).2.2),.int (dt3 M.2.1 (tr N).1),.int (dt3 M.2.1 (tr N).2.1),.int (dt3 M.2.1 (tr N).2.2),.int (dt3 M.2.2 (tr N).1),.int (dt3 M.2.2 (tr N).2.1),.int (dt3 M.2.2 (tr N).2.2)]:=by
   simp only [Mh,mm,vm,bY]
  rw [e] at k;exact k
def Fj (c0:kI):Prop:=∀ {h:Gh} {M:Mt} {m:Nat} {Q:WK} {E:BK},m<=3000->HI m M->det M≠0->(∀ N,PlM N->GK (adj M) N->HI (m+m+1) N->Q (mw N) h)->c0 [mw M] h Q E
theorem Wq {pl fl tu:kI}(hpl:qO pl)(hfl:GZ fl)(htu:qR tu):Fj (Qn pl fl tu):=by
 intro h M m Q E hm sM dM k;show tu [LI true M] h _ _;refine htu true (by lia) sM ?_;show fl [LI true (Ko M)] h _ _;refine hfl true ?_;show pl [Mh (adj M)] h _ _;exact hpl.mt (m:=m+m+1) (.inr rfl) (tY dM) (Xn sM) (by lia) k
def KH (c0:kI):Prop:=∀ {h:Gh} {M:Mt} {m:Nat} {Q:WK} {E:BK},m<=4000->HI m M->Q (.int (det M)) h->c0 [Mh M] h Q E
theorem aeo {Q:WK}{h:Gh}{w:W}{m:Nat}{a b c d e f g i j:Int}(hm:m<=4000)(s1:Sm m a)(s2:Sm m b)(s3:Sm m c)(s4:Sm m d)(s5:Sm m e)(s6:Sm m f)(s7:Sm m g)(s8:Sm m i)(s9:Sm m j)(q:Q (.int (a*(e*j - f*i) - b*(d*j - f*g)+c*(d*i - e*g))) h) :
  (aP (aX (Mk cG (ak 1) (Mk jG (Mk cG (ak 5) (ak 9)) (Mk cG (ak 6) (ak 8)))) (FX 10))
  (aP (aX (Mk jG (ak 10) (Mk cG (ak 2) (Mk jG (Mk cG (ak 4) (ak 9)) (Mk cG (ak 6) (ak 7))))) (FX 10))
  (bx (Mk bJ (ak 10) (Mk cG (ak 3) (Mk jG (Mk cG (ak 4) (ak 8)) (Mk cG (ak 5) (ak 7)))))))) { nx:=fun _ h'=>Q .non h',rt:=fun w h'=>Q w h' }
   [Dn w,Dn (.int a),Dn (.int b),Dn (.int c),Dn (.int d),Dn (.int e),Dn (.int f),Dn (.int g),Dn (.int i),Dn (.int j),FN] h:=by
 ((conv=>whnf);repeat (refine And.intro (by exact cY.of (by trivial) (by trivial) (by lia) (by lia)) ?_;conv=>whnf))
 exact q
theorem agO:KH CV:=by
 intro h M m Q E hm hs q;obtain ⟨⟨a,b,c⟩,⟨d,e,f⟩,⟨g,i,j⟩⟩:=M;obtain ⟨⟨s1,s2,s3⟩,⟨s4,s5,s6⟩,⟨s7,s8,s9⟩⟩:=hs;have ed:det ((a,b,c),(d,e,f),(g,i,j))=a*(e*j - f*i) - b*(d*j - f*g)+c*(d*i - e*g):=by
  simp only [det,dt3,crs];grind
 rw [ed] at q;exact aeo (w:=Mh ((a,b,c),(d,e,f),(g,i,j))) hm s1 s2 s3 s4 s5 s6 s7 s8 s9 q
def QS (c0:kI):Prop:=∀ {h:Gh} {n:Nat} {far:Int} {fm:Nat} {Q:WK} {E:BK},Rs h n->20<far->Sm fm far->fm<=4000->(∀ M h',PlM M->det M≠0->HI fm M->Rs h' n->Kz n h h'->Q (mw M) h')->c0 [.loc n,.int far] h Q E
theorem W8 {nb pl sz:kI}(hnb:qQ nb)(hpl:qO pl)(hsz:KH sz):QS (JR nb pl sz):=by
 intro h n far fm Q E hr hf hb hm q;have f1:Sm 7000 far:=hb.mono (by lia);show GQ Gs [0,1] (dR (aj (mC (.int 9)) aF)) fH (aD nb E (aj (ak 1) (aj (ak 2) aF))) [Dn (.loc n),Dn (.int far),FN] h _;refine Ky (j:=9) (fun _=>rfl) (by decide) (by decide) (by decide) (fun i acc h'=>∃ ns:List Int,ns.length=i/\acc=ns.map W.int/\(∀ x∈ns,Sm fm x)/\Rs h' n/\Kz n h h') ?_ ?_ ⟨[],rfl,rfl,fun x hx=>absurd hx<|by simp,hr,.refl _ _⟩
 ·rintro i acc h' N hN hlt ⟨ns,hl,rfl,hs,r1,o1⟩;refine ⟨[.int (i:Int)],rfl,?_⟩;show nb [.loc n,.int far] h' _ _;refine hnb (n:=n) r1 hf f1 fun x h2 x0 x1 r2 o2=>?_;refine hN _ _ ⟨ns++[x],by simp [hl],by simp,fun y hy=>?_,r2,o1.trans o2⟩;rcases Mw.mp hy with hy | hy
  ·exact hs y hy
  ·rw [Lz.mp hy];exact CP hb x0 x1
 ·rintro acc h' ⟨ns,hl,rfl,hs,r1,o1⟩;have hl:ns.length=9:=hl;obtain ⟨M,rfl⟩:∃ M:Mt,ns=ml M:=by
   match ns,hl with
   | [a,b,c,d,e,f,g,i,j],_=>exact ⟨((a,b,c),(d,e,f),(g,i,j)),rfl⟩
  have sM:HI fm M:=by
   refine ⟨⟨hs _ ?_,hs _ ?_,hs _ ?_⟩,⟨hs _ ?_,hs _ ?_,hs _ ?_⟩,⟨hs _ ?_,hs _ ?_,hs _ ?_⟩⟩ <;> simp [ml,tl]
  show sz [Mh M] h' _ _;refine hsz hm sM ?_;show br (FJ (.int (det M)) (.int 0)) _ _;rw [show FJ (.int (det M)) (.int 0)=decide (det M=0) by rw [cQ];rfl];have s1:Sm fm 1:=hb.le (by show (1:Int).natAbs<=_;lia);refine jK (fun hz=>?_)<|fun hz=>?_
  ·show pl [Mh ((1,0,M.1.2.2),(0,1,M.2.1.2.2),(0,0,1))] h' _ _;refine hpl.mt (m:=fm) (.inr rfl) ?_ ⟨⟨s1,Sm.zero,sM.1.2.2⟩,⟨Sm.zero,s1,sM.2.1.2.2⟩,⟨Sm.zero,Sm.zero,s1⟩⟩ (by lia) fun N pN par sN=>q N h' pN ?_ sN r1 o1
   ·simp [det,dt3,crs]
   ·exact par.det.mp<|by simp [det,dt3,crs]
  ·show pl [Mh M] h' _ _;exact hpl.mt (m:=fm) (.inr rfl) hz sM (by lia) fun N pN par sN=>q N h' pN (par.det.mp hz) sN r1 o1
def WR (c0:kI):Prop:=∀ {h:Gh} {M:Mt} {v:Tr} {m:Nat} {Q:WK} {E:BK},m<=3000->HI m M->Bk m v->det M≠0->v≠(0,0,0)->(∀ t,Pl t->Gq (vm M v) t->Bk (m+m+2) t->Q (tw t) h)->c0 [mw M,tw v] h Q E
def KQ (c0:kI):Prop:=∀ {h:Gh} {M:Mt} {v:Tr} {m:Nat} {Q:WK} {E:BK} (b:Bool),m<=8000->HI m M->Bk m v->Q (lw (vm M v)) h->c0 [LI b M,tw v] h Q E
theorem abr {dt ro:kI}(hdt:aag dt)(hro:zm ro):KQ (gR dt ro):=by
 intro h M v m Q E b hm sM sv k;show ro [LI b M] h _ _;refine hro b ?_;show dt [HJ b M.1,HJ true v] h _ _;refine hdt b true (by lia) sM.1 sv ?_;show dt [HJ b M.2.1,HJ true v] h _ _;refine hdt b true (by lia) sM.2.1 sv ?_;show dt [HJ b M.2.2,HJ true v] h _ _;refine hdt b true (by lia) sM.2.2 sv ?_;exact k
theorem ab3 {pl tt:kI}(hpl:qO pl)(htt:KQ tt):WR (Vd pl tt):=by
 intro h M v m Q E hm sM sv dM hv k;show tt [LI true M,tw v] h _ _;refine htt true (by lia) sM sv ?_;show pl [lw (vm M v)] h _ _;exact hpl.tr (u:=vm M v) (m:=m+m+2) (.inr rfl) (yL dM hv) (z8 sM sv) (by lia) k
theorem afH {M:Mt}(h:det M≠0):det (Ko M)≠0:=by rw [<-Jw];exact tY h
def lD (p q r s:Tr):Mt:=tr (sc (vm (Ko (p,q,r)) s).1 p,sc (vm (Ko (p,q,r)) s).2.1 q,sc (vm (Ko (p,q,r)) s).2.2 r)
structure adx (A:Mt) (p q r s:Tr):Prop where
 a:Gq (vm A (1,0,0)) p
 b:Gq (vm A (0,1,0)) q
 c:Gq (vm A (0,0,1)) r
 d:Gq (vm A (1,1,1)) s
theorem Xa (a b c:Tr):vm (tr (a,b,c)) (1,0,0)=a:=by simp [vm,tr,dt3]
theorem Zd (a b c:Tr):vm (tr (a,b,c)) (0,1,0)=b:=by simp [vm,tr,dt3]
theorem YL (a b c:Tr):vm (tr (a,b,c)) (0,0,1)=c:=by simp [vm,tr,dt3]
theorem adN (X:Mt):vm X (1,1,1)=((vm X (1,0,0)).1+(vm X (0,1,0)).1+(vm X (0,0,1)).1,(vm X (1,0,0)).2.1+(vm X (0,1,0)).2.1+(vm X (0,0,1)).2.1,(vm X (1,0,0)).2.2+(vm X (0,1,0)).2.2+(vm X (0,0,1)).2.2):=by
 obtain ⟨⟨a,b,c⟩,⟨d,e,f⟩,⟨g,h,i⟩⟩:=X;simp [vm,dt3]
theorem afA (p q r s:Tr):vm (lD p q r s) (1,1,1)=sc (det (p,q,r)) s:=by
 have e:vm (lD p q r s) (1,1,1)=vm (tr (p,q,r)) (vm (Ko (p,q,r)) s):=by
  rw [adN];unfold lD;rw [Xa,Zd,YL];generalize vm (Ko (p,q,r)) s=f;obtain ⟨f0,f1,f2⟩:=f;simp only [vm,tr,dt3,sc]
 have k:Ko (p,q,r)=tr (adj (p,q,r)):=rfl;rw [e,<-Bj,k,<-abo,yE,abm,show tr R7=R7 from rfl,uU,HS]
theorem agg (a b c:Int)(p q r:Tr):det (tr (sc a p,sc b q,sc c r))=det (p,q,r)*(a*b*c):=by
 rw [Jw];simp only [det];rw [jZ,nJ,iI];grind
theorem nz2 {a b:Int}(h1:a≠0)(h2:b≠0):a*b≠0:=fun z=>(Kw.mp z).elim h1 h2
theorem qY {p q r s:Tr}(h1:dt3 (crs p q) r≠0)(h2:dt3 (crs p q) s≠0)(h3:dt3 (crs p r) s≠0)(h4:dt3 (crs q r) s≠0):det (lD p q r s)≠0:=by
 unfold lD;rw [agg];refine nz2 h1<|nz2 (nz2 h4 ?_) h2
 show dt3 (crs r p) s≠0;intro e;refine h3 ?_;have:dt3 (crs p r) s = - dt3 (crs r p) s:=by simp only [dt3,crs];grind
 rw [this,e];rfl
def PK (c0:kI):Prop:=∀ {h:Gh} {p q r s:Tr} {m:Nat} {Q:WK} {E:BK},m<=1000->Bk m p->Bk m q->Bk m r->Bk m s->dt3 (crs p q) r≠0->dt3 (crs p q) s≠0->dt3 (crs p r) s≠0->dt3 (crs q r) s≠0 ->
 (∀ G,PlM G->GK (lD p q r s) G->HI (4*m+4) G->Q (mw G) h)->c0 [.lst [tw p,tw q,tw r,tw s]] h Q E
theorem agE {p q r s f:Tr}{m:Nat}{h:Gh}{Q:WK}(hm:m<=1000)(sp:Bk m p)(sq:Bk m q)(sr:Bk m r)(sf:Bk (3*m+3) f):∀ (i:Nat) (w:W),
  [W.int (f.1*p.1),.int (f.2.1*q.1),.int (f.2.2*r.1),.int (f.1*p.2.1),.int (f.2.1*q.2.1),.int (f.2.2*r.2.1),.int (f.1*p.2.2),.int (f.2.1*q.2.2),.int (f.2.2*r.2.2)][i]?=Dn w->Q w h ->
  Mk cG (Mk Bf (ak 2) (Mk qP (ak 0) (mC (.int 3)))) (Mk Bf (Mk Bf (ak 1) (Mk qP (ak 0) (mC (.int 3)))) (Mk zK (ak 0) (mC (.int 3)))) [Dn (.int (i:Int)),Dn (.lst [tw p,tw q,tw r,tw s]),Dn (lw f)] h Q:=by
 have c:∀ {a b:Int},Sm (3*m+3) a->Sm m b->cY a b:=fun h1 h2=>.of h1 h2 (by lia) (by lia)
 have d:Ej 0 3:=⟨by decide,64,by decide,.lit rfl⟩
 intro i w e k;match i,e with
 | 0,e=>cases e;exact And.intro (by decide) (And.intro (by decide) (And.intro d (And.intro (c sf.1 sp.1) k)))
 | 1,e=>cases e;exact And.intro (by decide) (And.intro (by decide) (And.intro d (And.intro (c sf.2.1 sq.1) k)))
 | 2,e=>cases e;exact And.intro (by decide) (And.intro (by decide) (And.intro d (And.intro (c sf.2.2 sr.1) k)))
 | 3,e=>cases e;exact And.intro (by decide) (And.intro (by decide) (And.intro d (And.intro (c sf.1 sp.2.1) k)))
 | 4,e=>cases e;exact And.intro (by decide) (And.intro (by decide) (And.intro d (And.intro (c sf.2.1 sq.2.1) k)))
 | 5,e=>cases e;exact And.intro (by decide) (And.intro (by decide) (And.intro d (And.intro (c sf.2.2 sr.2.1) k)))
 | 6,e=>cases e;exact And.intro (by decide) (And.intro (by decide) (And.intro d (And.intro (c sf.1 sp.2.2) k)))
 | 7,e=>cases e;exact And.intro (by decide) (And.intro (by decide) (And.intro d (And.intro (c sf.2.1 sq.2.2) k)))
 | 8,e=>cases e;exact And.intro (by decide) (And.intro (by decide) (And.intro d (And.intro (c sf.2.2 sr.2.2) k)))
theorem Xi {pl tt tu:kI}(hpl:qO pl)(htt:KQ tt)(htu:qR tu):PK (p8 pl tt tu):=by
 intro h p q r s m Q E hm sp sq sr ss f1 f2 f3 f4 k;have sP:HI m (p,q,r):=⟨sp,sq,sr⟩
 have sf:Bk (3*m+3) (vm (Ko (p,q,r)) s):=(z8 (Hq sP) ss).mono (by lia);show tu [LI true (p,q,r)] h _ _;refine htu true (by lia) sP ?_;show tt [LI true (Ko (p,q,r)),tw s] h _ _;refine htt (m:=m+m+1) true (by lia) (Hq sP) (ss.mono<|by lia) ?_;have hd:=qY f1 f2 f3 f4;have eT:lD p q r s=tr (sc (vm (Ko (p,q,r)) s).1 p,sc (vm (Ko (p,q,r)) s).2.1 q,sc (vm (Ko (p,q,r)) s).2.2 r):=rfl;generalize vm (Ko (p,q,r)) s=f at sf eT;show GQ Gs [0,1] (dR (aj (mC (.int 9)) aF)) fH (Mk cG (Mk Bf (ak 2) (Mk qP (ak 0) (mC (.int 3)))) (Mk Bf (Mk Bf (ak 1) (Mk qP (ak 0) (mC (.int 3)))) (Mk zK (ak 0) (mC (.int 3))))) [Dn (.lst [tw p,tw q,tw r,tw s]),Dn (lw f)] h _;refine Ky (j:=9) (fun _=>rfl) (by decide) (by decide) (by decide) (fun i acc h'=>h'=h/\acc=[W.int<|f.1*p.1,.int<|f.2.1*q.1,.int<|f.2.2*r.1,.int<|f.1*p.2.1,.int<|f.2.1*q.2.1,.int<|f.2.2*r.2.1,.int<|f.1*p.2.2,.int<|f.2.1*q.2.2,.int<|f.2.2*r.2.2].take i) ?_ ?_ ⟨rfl,rfl⟩
 ·rintro i acc h' N hN hlt ⟨rfl,rfl⟩;refine ⟨[.int (i:Int)],rfl,?_⟩;have hi:i < [W.int (f.1*p.1),.int (f.2.1*q.1),.int (f.2.2*r.1),.int (f.1*p.2.1),.int (f.2.1*q.2.1),.int (f.2.2*r.2.1),.int (f.1*p.2.2),.int (f.2.1*q.2.2),.int (f.2.2*r.2.2)].length:=hlt;refine agE hm sp sq sr sf i _ (JQ hi) ?_;refine hN _ _ ⟨rfl,?_⟩;rw [M8,JQ hi];rfl
 ·rintro acc h' ⟨rfl,rfl⟩;have e:Mh (lD p q r s)=.lst [W.int (f.1*p.1),.int (f.2.1*q.1),.int (f.2.2*r.1),.int (f.1*p.2.1),.int (f.2.1*q.2.1),.int (f.2.2*r.2.1),.int (f.1*p.2.2),.int (f.2.1*q.2.2),.int (f.2.2*r.2.2)]:=by
   rw [eT];simp only [Mh,tr,sc,RG]
  show pl [.lst [W.int (f.1*p.1),.int (f.2.1*q.1),.int (f.2.2*r.1),.int (f.1*p.2.1),.int (f.2.1*q.2.1),.int (f.2.2*r.2.1),.int (f.1*p.2.2),.int (f.2.1*q.2.2),.int (f.2.2*r.2.2)]] h' _ _;rw [<-e];refine hpl.mt (m:=4*m+4) (.inr rfl) hd ?_ (by lia) k;rw [eT];have g:∀ {a b:Int},Sm m a->Sm (3*m+3) b->Sm (4*m+4) (a*b):=fun h1 h2=>(h1.mul h2).mono (by lia)
  exact ⟨⟨g sp.1 sf.1,g sq.1 sf.2.1,g sr.1 sf.2.2⟩,⟨g sp.2.1 sf.1,g sq.2.1 sf.2.1,g sr.2.1 sf.2.2⟩,⟨g sp.2.2 sf.1,g sq.2.2 sf.2.1,g sr.2.2 sf.2.2⟩⟩
structure Four (m:Nat) (p q r s:Tr):Prop where
 a:Bk m p
 b:Bk m q
 c:Bk m r
 d:Bk m s
def tK (Q:Bool->Gh->Prop):WK:=fun w h=>match w with
 | .bl c=>Q c h
 | _=>False
def uK (Q:Bool->Gh->Prop):WK:=fun w h=>match aaf h w with
 | some b=>Q b h
 | none=>False
def aK (b:ME)(σ : Sw)(Q:WK):WK:=fun x h=>match x with
 | .bl true=>b σ h Q
 | .bl false=>Q (.bl false) h
 | _=>False
def oK (b:ME)(σ : Sw)(Q:WK):WK:=fun x h=>match x with
 | .bl false=>b σ h Q
 | .bl true=>Q (.bl true) h
 | _=>False
def nK (Q:WK):WK:=fun x h=>match x with
 | .bl c=>Q (.bl (!c)) h
 | _=>False
def iK (R:Src->Gh->Prop):WK:=fun w h=>match uJ h w with
 | some s=>R s h
 | none=>False
def xK (f:Str->Bool)(Q:WK):WK:=fun w h=>match w with
 | .exc n=>Q (.bl (f n)) h
 | .exa n _=>Q (.bl (f n)) h
 | _=>False
def pK (Q:Option Int->Gh->Prop):WK:=fun w h=>match w with
 | .int i=>Q (Dn i) h
 | _=>False
def acd (g:MG)(b:MS)(D:bT)(σ : Sw):Src->Gh->Prop:=fun s h=>eO s g b D s.ws σ h
def lcK (own:W->Option (List W))(ix:List Nat)(tt:MT)(te:ME)(σ : Sw)(Q:WK):Src->Gh->Prop:=fun s h=>gJ s.ws.length (oE s own ix tt te σ Q s.ws [] h)
def rgK (R:Src->Gh->Prop):List W->Gh->Prop:=fun ws h=>match ws with
 | [.int j]=>yq j (R ⟨Al 0 j.toNat,FN⟩ h)
 | _=>False
def zpK (R:Src->Gh->Prop):List W->Gh->Prop:=fun ws h=>match ws with
 | [x,y]=>(match Pz h x y with
  | some s=>R s h
  | none=>False)
 | _=>False
theorem aV {m u:MS}{D:bT}{σ : Sw}{h:Gh}(x:m { D with nx:=u D } σ h):aP m u D σ h:=x
theorem fX {N b c:Sw->Gh->Prop}{r:WK}{σ : Sw}{h:Gh}(x:N σ h):bT.nx ⟨N,r,b,c⟩ σ h:=x
theorem adB {N b c:Sw->Gh->Prop}{r:WK}{σ : Sw}{h:Gh}(x:b σ h):bT.bk ⟨N,r,b,c⟩ σ h:=x
theorem adV {N b c:Sw->Gh->Prop}{r:WK}{σ : Sw}{h:Gh}(x:c σ h):bT.ct ⟨N,r,b,c⟩ σ h:=x
theorem xW {N b c:Sw->Gh->Prop}{r:WK}{w:W}{h:Gh}(x:r w h):bT.rt ⟨N,r,b,c⟩ w h:=x
theorem agG {D:bT}{w:W}{h:Gh}(x:D.rt w h):bT.rt (bT.lost D) w h:=x
theorem agU {D:bT}{σ : Sw}{h:Gh}(x:D.nx (σ.map fun _=>FN) h):bT.nx (bT.lost D) σ h:=x
theorem dJ {D:bT}{σ : Sw}{h:Gh}(x:D.nx σ h):bw D σ h:=x
theorem cO {m:ME}{g:MG}{D:bT}{σ : Sw}{h:Gh}(x:m σ h fun w h1=>g w σ h1 D.nx):aX m g D σ h:=x
theorem sH {m:ME}{D:bT}{σ : Sw}{h:Gh}(x:m σ h fun _ h1=>D.nx σ h1):mZ m D σ h:=x
theorem cX {m:ME}{D:bT}{σ : Sw}{h:Gh}(x:m σ h D.rt):bx m D σ h:=x
theorem zbf {c:Str}{E:BK}{D:bT}{σ : Sw}{h:Gh}(x:E ⟨c,[]⟩ h):tH c E D σ h:=x
theorem cP {t:MT}{a b:MS}{D:bT}{σ : Sw}{h:Gh}(x:t σ h fun c h1=>br c (a D σ h1) (b D σ h1)):dO t a b D σ h:=x
theorem Wr {t:MT}{a b:ME}{Q:WK}{σ : Sw}{h:Gh}(x:t σ h fun c h1=>br c (a σ h1 Q) (b σ h1 Q)):mIf t a b σ h Q:=x
theorem Za {i:Nat}{d:Str}{mb:BK->MS}{mh:MS}{D:bT}{σ : Sw}{h:Gh}(x:mb (fun x h'=>Hy (Oc x.cls d) (mh D.lost (σ.set i (Dn (aae x))) h') False) D σ h):ac8 i d mb mh D σ h:=x
theorem Il {n:Nat}{g:Np}{w:W}{ws:List W}{σ : Sw}{h:Gh}{N:Sw->Gh->Prop}(e:w=.tup ws)(b:Ls ws.length n=true)(x:g ws σ h N):qK n g w σ h N:=by
 subst e;unfold qK;dsimp only;rw [b];exact x
theorem Hv {n:Nat}{g:Np}{w:W}{ws:List W}{σ : Sw}{h:Gh}{N:Sw->Gh->Prop}(e:w=.lst ws)(b:Ls ws.length n=true)(x:g ws σ h N):qK n g w σ h N:=by
 subst e;unfold qK;dsimp only;rw [b];exact x
theorem Zw {n:Nat}{g:Np}{w:W}{ws:List W}{σ : Sw}{h:Gh}{N:Sw->Gh->Prop}(e:w=.tup ws)(b:Ls ws.length n=true)(x:g ws σ h N):ace n g w σ h N:=by
 subst e;unfold ace;dsimp only;rw [b];exact x
theorem mj {g:MG}{r:Np}{w:W}{ws:List W}{σ : Sw}{h:Gh}{N:Sw->Gh->Prop}(x:g w σ h fun σ1 h1=>r ws σ1 h1 N):fB g r (w::ws) σ h N:=x
theorem KD {σ : Sw}{h:Gh}{N:Sw->Gh->Prop}(x:N σ h):Od [] σ h N:=x
theorem aB {i:Nat}{w:W}{σ : Sw}{h:Gh}{Q:WK}(e:σ[i]?=Dn (Dn w))(x:Q w h):ak i σ h Q:=by
 unfold ak;rw [e];exact x
theorem bW {w:W}{σ : Sw}{h:Gh}{Q:WK}(x:Q w h):mC w σ h Q:=x
theorem aO {r:M2}{ma mb:ME}{σ : Sw}{h:Gh}{Q:WK}(x:ma σ h fun a h1=>mb σ h1 fun b h2=>r a b h2 Q):Mk r ma mb σ h Q:=x
theorem aaV {r:W->Gh->WK->Prop}{ma:ME}{σ : Sw}{h:Gh}{Q:WK}(x:ma σ h fun a h1=>r a h1 Q):mUn r ma σ h Q:=x
theorem Wy {i:Int}{h:Gh}{Q:WK}(x:Q (.int (-i)) h):Z9 (.int i) h Q:=x
theorem au {a:ME}{r:MA}{σ : Sw}{h:Gh}{Q:List W->Gh->Prop}(x:a σ h fun w h1=>r σ h1 fun ws h2=>Q (w::ws) h2):aj a r σ h Q:=x
theorem aH {σ : Sw}{h:Gh}{Q:List W->Gh->Prop}(x:Q [] h):aF σ h Q:=x
theorem dI {n:Nat}{P:Prop}(e:Ny n 1000=true)(x:P):gJ n P:=by
 unfold gJ;rw [e];exact x
theorem jA {t:MA}{σ : Sw}{h:Gh}{Q:WK}(x:t σ h fun ws h1=>gJ ws.length (Q (.tup ws) h1)):qj t σ h Q:=x
theorem yQ {t:MA}{σ : Sw}{h:Gh}{Q:WK}(x:t σ h fun ws h1=>gJ ws.length (Q (.lst ws) h1)):yW t σ h Q:=x
theorem aN {c:kI}{E:BK}{ma:MA}{σ : Sw}{h:Gh}{Q:WK}(x:ma σ h fun ws h1=>c ws h1 Q E):aD c E ma σ h Q:=x
theorem fD {r:MC}{ma:MA}{σ : Sw}{h:Gh}{Q:WK}(x:ma σ h fun ws h1=>r ws h1 Q):Ge r ma σ h Q:=x
theorem bG {m:ME}{σ : Sw}{h:Gh}{Q:Bool->Gh->Prop}(x:m σ h (tK Q)):aR m σ h Q:=x
theorem qF {c:Bool}{h:Gh}{Q:Bool->Gh->Prop}(x:Q c h):tK Q (.bl c) h:=x
theorem jV {m:ME}{σ : Sw}{h:Gh}{Q:Bool->Gh->Prop}(x:m σ h (uK Q)):sJ m σ h Q:=x
theorem Lg {w:W}{b:Bool}{h:Gh}{Q:Bool->Gh->Prop}(e:aaf h w=Dn b)(x:Q b h):uK Q w h:=by
 unfold uK;rw [e];exact x
theorem qx {t:MT}{σ : Sw}{h:Gh}{Q:Bool->Gh->Prop}(x:t σ h fun c h1=>Q (!c) h1):Fo t σ h Q:=x
theorem lF {t u:MT}{σ : Sw}{h:Gh}{Q:Bool->Gh->Prop}(x:t σ h fun c h1=>br c (u σ h1 Q) (Q false h1)):HW t u σ h Q:=x
theorem wj {t u:MT}{σ : Sw}{h:Gh}{Q:Bool->Gh->Prop}(x:t σ h fun c h1=>br c (Q true h1) (u σ h1 Q)):Mq t u σ h Q:=x
theorem lJ {σ : Sw}{h:Gh}{Q:Bool->Gh->Prop}(x:Q true h):fH σ h Q:=x
theorem vX {a b:ME}{σ : Sw}{h:Gh}{Q:WK}(x:a σ h (aK b σ Q)):Kl a b σ h Q:=x
theorem Qs {a b:ME}{σ : Sw}{h:Gh}{Q:WK}(x:a σ h (oK b σ Q)):VB a b σ h Q:=x
theorem Vq {a:ME}{σ : Sw}{h:Gh}{Q:WK}(x:a σ h (nK Q)):aa4 a σ h Q:=x
theorem aak {b:ME}{σ : Sw}{h:Gh}{Q:WK}{c:Bool}(x:br c (b σ h Q) (Q (.bl false) h)):aK b σ Q (.bl c) h:=by
 cases c with
 | true=>exact x.1 rfl
 | false=>exact x.2 rfl
theorem acC {b:ME}{σ : Sw}{h:Gh}{Q:WK}{c:Bool}(x:br c (Q (.bl true) h) (b σ h Q)):oK b σ Q (.bl c) h:=by
 cases c with
 | true=>exact x.1 rfl
 | false=>exact x.2 rfl
theorem adt {h:Gh}{Q:WK}{c:Bool}(x:Q (.bl (!c)) h):nK Q (.bl c) h:=x
theorem YQ {f:Str->Bool}{m:ME}{σ : Sw}{h:Gh}{Q:WK}(x:m σ h (xK f Q)):adq f m σ h Q:=x
theorem adJ {f:Str->Bool}{n:Str}{h:Gh}{Q:WK}(x:Q (.bl (f n)) h):xK f Q (.exc n) h:=x
theorem BJ {a b:Prop}(x:a):br true a b:=Am rfl x
theorem wK {a b:Prop}(x:b):br false a b:=kY rfl x
theorem QC {a b:Prop}(x:b):br (!true) a b:=wK x
theorem Wc {a b:Prop}(x:a):br (!false) a b:=BJ x
theorem lC {a b:Prop}(x:a):Hy true a b:=x
theorem Ql {a b:Prop}(x:b):Hy false a b:=x
theorem zJ {i j:Int}{h:Gh}{Q:WK}(x:Q (.int (i - j)) h):jG (.int i) (.int j) h Q:=x
theorem Jq {i j:Int}{h:Gh}{Q:WK}(x:Q (.int (i+j)) h):bJ (.int i) (.int j) h Q:=x
theorem mU {i j:Int}{h:Gh}{Q:WK}(c:cY i j)(x:Q (.int (i*j)) h):cG (.int i) (.int j) h Q:=⟨c,x⟩
theorem vL {i j:Int}{h:Gh}{Q:WK}(c:j≠0)(x:Q (.int (i.fmod j)) h):qP (.int i) (.int j) h Q:=⟨c,x⟩
theorem ZQ {i j:Int}{h:Gh}{Q:WK}(x:Q (.bl (decide (i<j))) h):kLt (.int i) (.int j) h Q:=x
theorem Xl {i j:Int}{h:Gh}{Q:WK}(x:Q (.bl (decide (i>j))) h):Nt (.int i) (.int j) h Q:=x
theorem Ga {i j:Int}{h:Gh}{Q:WK}(x:Q (.bl (decide (i=j))) h):Gz (.int i) (.int j) h Q:=by
 have e:FJ (.int i) (.int j)=decide (i=j):=cQ i j;show Q (.bl (FJ (.int i) (.int j))) h;rw [e];exact x
theorem Cd {i j:Int}{h:Gh}{Q:WK}(x:Q (.bl (decide (i≠j))) h):Hg (.int i) (.int j) h Q:=by
 have e:(!FJ (.int i) (.int j))=decide (i≠j):=by rw [cQ];by_cases z:i=j <;> simp [z]
 show Q (.bl (!FJ (.int i) (.int j))) h;rw [e];exact x
theorem ab5 {i j:Bool}{h:Gh}{Q:WK}(x:Q (.bl (decide (i=j))) h):Gz (.bl i) (.bl j) h Q:=by
 have e:FJ (.bl i) (.bl j)=decide (i=j):=by rw [FJ];cases i <;> cases j <;> rfl
 show Q (.bl (FJ (.bl i) (.bl j))) h;rw [e];exact x
theorem R9 {i j:Bool}{h:Gh}{Q:WK}(x:Q (.bl (decide (i≠j))) h):Hg (.bl i) (.bl j) h Q:=by
 have e:(!FJ (.bl i) (.bl j))=decide (i≠j):=by rw [FJ];cases i <;> cases j <;> rfl
 show Q (.bl (!FJ (.bl i) (.bl j))) h;rw [e];exact x
theorem N7 {p q:Tr}{h:Gh}{Q:WK}(x:Q (.bl (decide (p=q))) h):Gz (tw p) (tw q) h Q:=by
 show Q (.bl (FJ (tw p) (tw q))) h;rw [vQ];exact x
theorem Ma {p q:Tr}{h:Gh}{Q:WK}(x:Q (.bl (decide (p≠q))) h):Hg (tw p) (tw q) h Q:=by
 have e:(!FJ (tw p) (tw q))=decide (p≠q):=by rw [vQ];by_cases z:p=q <;> simp [z]
 show Q (.bl (!FJ (tw p) (tw q))) h;rw [e];exact x
theorem abP {p:Tr}{a b c:Int}{h:Gh}{Q:WK}(x:Q (.bl (decide (p=(a,b,c)))) h):Gz (tw p) (.tup [.int a,.int b,.int c]) h Q:=N7 (q:=(a,b,c)) x
theorem aa1 {p:Tr}{a b c:Int}{h:Gh}{Q:WK}(x:Q (.bl (decide (p≠(a,b,c)))) h):Hg (tw p) (.tup [.int a,.int b,.int c]) h Q:=Ma (q:=(a,b,c)) x
theorem eU {x w:W}{i:Int}{ws:List W}{h:Gh}{Q:WK}(e:view h x=Dn ws)(a:Ji ws i=Dn w)(k:Q w h):Bf x (.int i) h Q:=by
 unfold Bf;dsimp only;rw [e];dsimp only;rw [a];exact k
theorem yG {w:W}{T:String}{b:Bool}{h:Gh}{Q:WK}(e:aal h w T=Dn b)(x:Q (.bl b) h):Qp [w,.ty T] h Q:=by
 unfold Qp;dsimp only;rw [e];exact x
theorem gP {w:W}{xs:List W}{h:Gh}{Q:WK}(e:view h w=Dn xs)(x:Q (.int (xs.length:Int)) h):Gb [w] h Q:=by
 unfold Gb;dsimp only;rw [e];exact x
theorem zbi {us:List W}{h:Gh}{Q:WK}(x:Q (.tup us) h):vA [.lst us] h Q:=x
theorem Q8 {w:W}{us:List W}{bs:List Bool}{h:Gh}{Q:WK}(e:dH h w=Dn us)(b:Ke us=Dn bs)(x:Q (.bl (bs.any id)) h):SX [w] h Q:=by
 unfold SX;dsimp only;rw [e];dsimp only;rw [b];exact x
theorem X8 {w:W}{us:List W}{bs:List Bool}{h:Gh}{Q:WK}(e:dH h w=Dn us)(b:Ke us=Dn bs)(x:Q (.bl (bs.all id)) h):Xy [w] h Q:=by
 unfold Xy;dsimp only;rw [e];dsimp only;rw [b];exact x
theorem YH {w:W}{us:List W}{ns:List Int}{h:Gh}{Q:WK}(e:dH h w=Dn us)(b:Gp us=Dn ns)(x:Q (.int ns.sum) h):VP [w] h Q:=by
 unfold VP;dsimp only;rw [e];dsimp only;rw [b];exact x
theorem Xd {i:Int}{h:Gh}{Q:WK}(x:Q (.int (if i<0 then -i else i)) h):Ln [.int i] h Q:=x
theorem Yv {b:Bool}{h:Gh}{Q:WK}(x:Q (.int (if b then 1 else 0)) h):adS [.bl b] h Q:=x
theorem ju {mi:MI}{g:MG}{b:MS}{D:bT}{σ : Sw}{h:Gh}(x:mi σ h (acd g b D σ)):oF mi g b D σ h:=x
theorem gQ {ws:List W}{o:Option (Nat×List W)}{g:MG}{b:MS}{D:bT}{σ : Sw}{h:Gh}(x:eO ⟨ws,o⟩ g b D ws σ h):acd g b D σ ⟨ws,o⟩ h:=x
theorem Hw {ws:List W}{g:MG}{b:MS}{D:bT}{σ : Sw}{h:Gh}(x:D.nx σ h):eO ⟨ws,FN⟩ g b D [] σ h:=x
theorem iB {ws r:List W}{w:W}{g:MG}{b:MS}{D:bT}{σ : Sw}{h:Gh}(x:g w σ h fun σ1 h1=>b { D with nx:=eO ⟨ws,FN⟩ g b D r,ct:=eO ⟨ws,FN⟩ g b D r,bk:=D.nx } σ1 h1):eO ⟨ws,FN⟩ g b D (w::r) σ h:=x
theorem lN {m:ME}{R:Src->Gh->Prop}{σ : Sw}{h:Gh}(x:m σ h (iK R)):Gu m σ h R:=x
theorem Cp {w:W}{ws:List W}{o:Option (Nat×List W)}{h:Gh}{R:Src->Gh->Prop}(e:uJ h w=Dn ⟨ws,o⟩)(x:R ⟨ws,o⟩ h):iK R w h:=by
 unfold iK;rw [e];exact x
theorem oJ {ma:MA}{R:Src->Gh->Prop}{σ : Sw}{h:Gh}(x:ma σ h (rgK R)):dR ma σ h R:=x
theorem abZ {R:Src->Gh->Prop}{h:Gh}(x:R ⟨[.int 0,.int 1,.int 2],FN⟩ h):rgK R [.int 3] h:=x
theorem abV {R:Src->Gh->Prop}{h:Gh}(x:R ⟨[.int 0,.int 1],FN⟩ h):rgK R [.int 2] h:=x
theorem Ww {ma:MA}{R:Src->Gh->Prop}{σ : Sw}{h:Gh}(x:ma σ h (zpK R)):aad ma σ h R:=x
theorem aaP {a b:W}{as bs:List W}{zs:List W}{R:Src->Gh->Prop}{h:Gh}(e:uq a=Dn as)(e':uq b=Dn bs)(z:rm as bs=zs)(x:R ⟨zs,FN⟩ h):zpK R [a,b] h:=by
 subst z;have es:Pz h a b=Dn ⟨rm as bs,FN⟩:=by unfold Pz;rw [e,e']
 unfold zpK;dsimp only;rw [es];exact x
theorem abx {n:Nat}{b:W}{as bs:List W}{zs:List W}{R:Src->Gh->Prop}{h:Gh}(e:h.c n=Dn (.lst as))(e':uq b=Dn bs)(z:rm as bs=zs)(x:R ⟨zs,Dn (n,as)⟩ h):zpK R [.loc n,b] h:=by
 subst z;have es:Pz h (.loc n) b=Dn ⟨rm as bs,Dn (n,as)⟩:=by unfold Pz;rw [e'];dsimp only [uq];rw [e]
 unfold zpK;dsimp only;rw [es];exact x
theorem aco {bs:List W}:rm [] bs=[]:=by cases bs <;> rfl
theorem acU {a:W}{as:List W}:rm (a::as) []=[]:=rfl
theorem aaW {a b:W}{as bs l:List W}(e:rm as bs=l):rm (a::as) (b::bs)=.tup [a,b]::l:=by rw [rm,e]
theorem uL {own:W->Option (List W)}{ix:List Nat}{mi:MI}{tt:MT}{te:ME}{σ : Sw}{h:Gh}{Q:WK}(x:mi σ h (lcK own ix tt te σ Q)):GQ own ix mi tt te σ h Q:=x
theorem Zm {ws:List W}{o:Option (Nat×List W)}{own:W->Option (List W)}{ix:List Nat}{tt:MT}{te:ME}{σ : Sw}{h:Gh}{Q:WK}(e:Ny ws.length 1000=true)(x:oE ⟨ws,o⟩ own ix tt te σ Q ws [] h):lcK own ix tt te σ Q ⟨ws,o⟩ h:=dI e x
theorem Pj {ws acc:List W}{own:W->Option (List W)}{ix:List Nat}{tt:MT}{te:ME}{σ : Sw}{h:Gh}{Q:WK}(x:Q (.lst acc) h):oE ⟨ws,FN⟩ own ix tt te σ Q [] acc h:=x
theorem zH {ws r acc vs:List W}{w:W}{own:W->Option (List W)}{ix:List Nat}{tt:MT}{te:ME}{σ : Sw}{h:Gh}{Q:WK}(e:own w=Dn vs)(x:tt (vs.map Dn++qI ix σ) h fun c h1=>Hy c (te (vs.map Dn++qI ix σ) h1 fun v h2=>oE ⟨ws,FN⟩ own ix tt te σ Q r (acc++[v]) h2) (oE ⟨ws,FN⟩ own ix tt te σ Q r acc h1)):oE ⟨ws,FN⟩ own ix tt te σ Q (w::r) acc h:=by
 unfold oE;show match own w with
  | some vs=>tt (vs.map Dn++qI ix σ) h fun c h1=>Hy c (te (vs.map Dn++qI ix σ) h1 fun v h2=>oE ⟨ws,FN⟩ own ix tt te σ Q r (acc++[v]) h2) (oE ⟨ws,FN⟩ own ix tt te σ Q r acc h1)
  | none=>False
 rw [e];exact x
theorem aby {n N:Nat}{body:BK->MS}{ws:List W}{h:Gh}{Q:WK}{E:BK}(hl:Ls ws.length n=true)(x:body E { nx:=fun _ h'=>Q .non h',rt:=Q } (ws.map Dn++Ot (N - ws.length) FN) h):FW n N false body ws h Q E:=by
 unfold FW;rw [hl];exact x
theorem oZ {r:W->Option Int->Option Int->Gh->WK->Prop}{m:ME}{l u:MO}{σ : Sw}{h:Gh}{Q:WK}(x:m σ h fun a h1=>l σ h1 fun lo h2=>u σ h2 fun hi h3=>r a lo hi h3 Q):K9 r m l u σ h Q:=x
theorem o8 {m:ME}{σ : Sw}{h:Gh}{Q:Option Int->Gh->Prop}(x:m σ h (pK Q)):cH m σ h Q:=x
theorem VF {i:Int}{h:Gh}{Q:Option Int->Gh->Prop}(x:Q (Dn i) h):pK Q (.int i) h:=x
def p3K (i j k:Nat)(D:bT)(σ : Sw):List W->Gh->Prop:=fun ws h=>match ws with
 | [x,y,z]=>D.nx (((σ.set i (Dn x)).set j (Dn y)).set k (Dn z)) h
 | _=>False
theorem agP {i j k:Nat}{ta:MA}{D:bT}{σ : Sw}{h:Gh}(x:ta σ h (p3K i j k D σ)):abO i j k ta D σ h:=x
theorem Zq {xs:List W}{n:Int}{a b:Prop}(e:decide ((xs.length:Int)≠n)=false)(x:b):br (decide ((xs.length:Int)≠n)) a b:=kY e x
theorem Vl {bs:List Bool}{a b:Prop}(e:bs.all id=true)(x:b):br (!(bs.all id)) a b:=kY (by rw [e];rfl) x
theorem aa2 {n d:Str}{a b:Prop}(e:Oc n d=true)(x:a):Hy (Oc n d) a b:=Lp e x
theorem aaI {n d:Str}{a b:Prop}(e:Oc n d=true)(x:a):br (Oc n d) a b:=Am e x
theorem aa8 {n d:Str}{a b:Prop}(e:Oc n d=false)(x:b):br (Oc n d) a b:=kY e x
theorem VL {α : Type}{a x:α}{l:List α}:(a::l).set 0 x=x::l:=rfl
theorem Vz {α : Type}{a x:α}{l l':List α}{n:Nat}(e:l.set n x=l'):(a::l).set (n+1) x=a::l':=by rw [List.set_cons_succ,e]
theorem bK {i:Nat}{w:W}{σ σ':Sw}{h:Gh}{N:Sw->Gh->Prop}(e:σ.set i (Dn w) = σ')(x:N σ' h):FX i w σ h N:=by
 subst e;exact x
theorem nV {i:Nat}{w:W}{σ σ':Sw}{h:Gh}{N:Sw->Gh->Prop}(x:N σ' h)(e:σ.set i (Dn w) = σ':=by repeat (first | with_reducible exact VL | with_reducible apply Vz)):FX i w σ h N:=bK e x
theorem aaO {i j k:Nat}{D:bT}{σ σ1 σ2 σ3:Sw}{h:Gh}{x y z:W}(e1:σ.set i (Dn x) = σ1)(e2:σ1.set j (Dn y) = σ2)(e3:σ2.set k (Dn z) = σ3)(q:D.nx σ3 h):p3K i j k D σ [x,y,z] h:=by
 subst e1 e2 e3;exact q
def ini (ws:List W)(n:Nat):Sw:=ws.map Dn++Ot (n - ws.length) FN
theorem acH:ini [] 0=[]:=rfl
theorem acn {n:Nat}{l:Sw}(e:ini [] n=l):ini [] (n+1)=FN::l:=by
 subst e;rfl
theorem acv {n:Nat}{w:W}{ws:List W}{l:Sw}(e:ini ws n=l):ini (w::ws) (n+1)=Dn w::l:=by
 subst e;unfold ini;rw [RN,Nat.add_sub_add_right];rfl
theorem eY {n N:Nat}{body:BK->MS}{ws:List W}{σ : Sw}{h:Gh}{Q:WK}{E:BK}(hl:Ls ws.length n=true)(e:ini ws N = σ)(x:body E { nx:=fun _ h'=>Q .non h',rt:=Q } σ h):FW n N false body ws h Q E:=by
 subst e;exact aby hl x
theorem abn {i:Nat}{n d:Str}{fs:List (Str×W)}{mh:MS}{D:bT}{σ σ':Sw}{h:Gh}(e:Oc n d=true)(s:σ.set i (Dn (aae ⟨n,fs⟩)) = σ')(x:mh D σ' h):Hy (Oc (Xw.mk n fs).cls d) (mh D (σ.set i (Dn (aae (Xw.mk n fs)))) h) False:=by
 subst s;exact Lp e x
theorem WQ {own:W->Option (List W)}{ix:List Nat}{mi:MI}{tt:MT}{te:ME}{σ : Sw}{h:Gh}{Q:WK}(x:GQ own ix mi tt te σ h (acu Q)):adX own ix mi tt te σ h Q:=x
theorem Xx {mo mi:ME}{ms:Z4}{w:W}{σ : Sw}{h:Gh}{N:Sw->Gh->Prop}(x:mo σ h fun o h1=>mi σ h1 fun i h2=>ms o i w h2 fun h3=>N σ h3):Xc mo mi ms w σ h N:=x
theorem afc {ws r us:List W}{n:Nat}{w:W}{g:MG}{b:MS}{D:bT}{σ : Sw}{h:Gh}(e:h.c n=Dn (.lst us))(x:g w σ h fun σ1 h1=>b { D with nx:=eO ⟨ws,Dn (n,us)⟩ g b D r,ct:=eO ⟨ws,Dn (n,us)⟩ g b D r,bk:=D.nx } σ1 h1):eO ⟨ws,Dn (n,us)⟩ g b D (w::r) σ h:=⟨e,x⟩
theorem afx {ws us:List W}{n:Nat}{g:MG}{b:MS}{D:bT}{σ : Sw}{h:Gh}(e:h.c n=Dn (.lst us))(x:D.nx σ h):eO ⟨ws,Dn (n,us)⟩ g b D [] σ h:=⟨e,x⟩
theorem agM {ws us acc:List W}{n:Nat}{own:W->Option (List W)}{ix:List Nat}{tt:MT}{te:ME}{σ : Sw}{h:Gh}{Q:WK}(e:h.c n=Dn (.lst us))(x:Q (.lst acc) h):oE ⟨ws,Dn (n,us)⟩ own ix tt te σ Q [] acc h:=⟨e,x⟩
theorem aft {ws us r acc vs:List W}{n:Nat}{w:W}{own:W->Option (List W)}{ix:List Nat}{tt:MT}{te:ME}{σ : Sw}{h:Gh}{Q:WK}(ec:h.c n=Dn (.lst us))(e:own w=Dn vs)(x:tt (vs.map Dn++qI ix σ) h fun c h1=>Hy c (te (vs.map Dn++qI ix σ) h1 fun v h2=>oE ⟨ws,Dn (n,us)⟩ own ix tt te σ Q r (acc++[v]) h2) (oE ⟨ws,Dn (n,us)⟩ own ix tt te σ Q r acc h1)):oE ⟨ws,Dn (n,us)⟩ own ix tt te σ Q (w::r) acc h:=by
 unfold oE;refine ⟨ec,?_⟩;show match own w with
  | some vs=>tt (vs.map Dn++qI ix σ) h fun c h1=>Hy c (te (vs.map Dn++qI ix σ) h1 fun v h2=>oE ⟨ws,Dn (n,us)⟩ own ix tt te σ Q r (acc++[v]) h2) (oE ⟨ws,Dn (n,us)⟩ own ix tt te σ Q r acc h1)
  | none=>False
 rw [e];exact x
theorem adz {n:Nat}{ws:List W}{h:Gh}{R:Src->Gh->Prop}(e:h.c n=Dn (.lst ws))(x:R ⟨ws,Dn (n,ws)⟩ h):iK R (.loc n) h:=Cp (by simp only [uJ,e]) x
theorem abL {n:Nat}{w:W}{i:Int}{ws:List W}{h:Gh}{Q:WK}(e:h.c n=Dn (.lst ws))(a:Ji ws i=Dn w)(k:Q w h):Bf (.loc n) (.int i) h Q:=eU (dj e) a k
theorem J8 {n N:Nat}{body:BK->MS}{ws:List W}{σ : Sw}{h:Gh}{Q:WK}{E:BK}(hl:Ls ws.length n=true)(e:ini ws N = σ)(x:body E { nx:=fun _ h'=>xZ true h .non h' Q,rt:=fun w h'=>xZ true h w h' Q } σ h):FW n N true body ws h Q E:=by
 subst e;unfold FW;rw [hl];exact x
theorem zbE {a b:List W}{h:Gh}{Q:WK}(e:Ny (a.length+b.length) 1000=true)(x:Q (.lst (a++b)) h):bJ (.lst a) (.lst b) h Q:=dI e x
theorem abz {a b:Bool}{h:Gh}{Q:WK}(x:Q (.bl (a==b)) h):RZ (.bl a) (.bl b) h Q:=x
theorem agN {a b:Bool}{h:Gh}{Q:WK}(x:Q (.bl (!(a==b))) h):pC (.bl a) (.bl b) h Q:=x
theorem uQ {a b:Str}{h:Gh}{Q:WK}(x:Q (.bl (decide (a=b))) h):Gz (.str a) (.str b) h Q:=by
 have e:FJ (.str a) (.str b)=decide (a=b):=by rw [FJ];by_cases z:a=b <;> simp [z]
 show Q (.bl (FJ (.str a) (.str b))) h;rw [e];exact x
theorem Ze {a b:Str}{h:Gh}{Q:WK}(x:Q (.bl (decide (a≠b))) h):Hg (.str a) (.str b) h Q:=by
 have e:(!FJ (.str a) (.str b))=decide (a≠b):=by rw [FJ];by_cases z:a=b <;> simp [z]
 show Q (.bl (!FJ (.str a) (.str b))) h;rw [e];exact x
theorem WW {bs:List Bool}{a b:Prop}(e:bs.any id=false)(x:b):br (bs.any id) a b:=kY e x
local macro_rules | `(tactic| rfl') => `(tactic| repeat (first
 | with_reducible (first | refine aV ?_ | refine cO ?_ | refine aN ?_ | refine au ?_ | refine aH ?_)
 | ((with_reducible apply aB);exact rfl) | with_reducible refine bW ?_ | with_reducible refine aO ?_ | with_reducible refine bK (by repeat (first | with_reducible exact VL | with_reducible apply Vz)) ?_ | with_reducible (first | refine agG ?_ | refine agU ?_ | refine fX ?_ | refine xW ?_ | refine adB ?_ | refine adV ?_)
 | with_reducible (first | refine cP ?_ | refine Wr ?_ | refine cX ?_ | refine sH ?_ | refine dJ ?_ | refine Za ?_ | refine zbf ?_)
 | with_reducible (first | refine bG ?_ | refine qF ?_ | refine jV ?_) | ((with_reducible apply Lg);exact rfl) | with_reducible (first | refine qx ?_ | refine lF ?_ | refine wj ?_ | refine lJ ?_)
 | with_reducible (first | refine vX ?_ | refine Qs ?_ | refine Vq ?_ | refine aak ?_ | refine acC ?_ | refine adt ?_ | refine YQ ?_ | refine adJ ?_)
 | with_reducible (first | refine BJ ?_ | refine wK ?_ | refine QC ?_ | refine Wc ?_ | refine lC ?_ | refine Ql ?_)
 | with_reducible refine jA ?_ | with_reducible refine yQ ?_ | ((with_reducible apply dI);exact rfl) | with_reducible (first | refine fD ?_ | refine aaV ?_ | refine Wy ?_)
 | ((with_reducible apply Il);exact rfl;exact rfl) | ((with_reducible apply Hv);exact rfl;exact rfl) | ((with_reducible apply Zw);exact rfl;exact rfl) | with_reducible refine mj ?_ | with_reducible refine KD ?_
 | with_reducible refine zJ ?_ | with_reducible refine Jq ?_ | ((with_reducible apply mU);exact cY.of (by trivial) (by trivial) (by lia) (by lia)) | with_reducible refine ZQ ?_ | with_reducible refine Xl ?_
 | with_reducible (first | refine Ga ?_ | refine Cd ?_ | refine ab5 ?_ | refine R9 ?_ | refine N7 ?_ | refine Ma ?_ | refine abP ?_ | refine aa1 ?_)
 | ((with_reducible apply eU);exact rfl;exact rfl) | ((with_reducible apply yG);exact rfl) | ((with_reducible apply gP);exact rfl) | with_reducible refine zbi ?_ | ((with_reducible apply Q8);exact rfl;exact rfl) | ((with_reducible apply X8);exact rfl;exact rfl) | ((with_reducible apply YH);exact rfl;exact rfl) | with_reducible refine Yv ?_ | with_reducible refine Xd ?_
 | with_reducible (first | refine ju ?_ | refine gQ ?_ | refine Hw ?_ | refine iB ?_ | refine lN ?_) | ((with_reducible apply Cp);exact rfl) | with_reducible (first | refine oJ ?_ | refine abZ ?_ | refine abV ?_ | refine Ww ?_) | ((with_reducible apply aaP);exact rfl;exact rfl;(repeat (first | with_reducible exact aco | with_reducible exact acU | with_reducible apply aaW)))
 | with_reducible refine uL ?_ | ((with_reducible apply Zm);exact rfl) | with_reducible refine Pj ?_ | ((with_reducible apply zH);exact rfl) | ((with_reducible apply eY);exact rfl;repeat (first | with_reducible exact acH | with_reducible apply acv | with_reducible apply acn)) | with_reducible (first | refine oZ ?_ | refine o8 ?_ | refine VF ?_ | refine agP ?_) | with_reducible refine aaO (by repeat (first | with_reducible exact VL | with_reducible apply Vz)) (by repeat (first | with_reducible exact VL | with_reducible apply Vz)) (by repeat (first | with_reducible exact VL | with_reducible apply Vz)) ?_ | ((with_reducible apply Zq);exact rfl) | ((with_reducible apply Vl);exact rfl) | ((with_reducible apply abn);decide +kernel;(repeat (first | with_reducible exact VL | with_reducible apply Vz))) | ((with_reducible apply aa2);decide +kernel) | ((with_reducible apply aaI);decide +kernel) | ((with_reducible apply aa8);decide +kernel) | with_reducible refine WQ ?_ | with_reducible refine Xx ?_ | ((with_reducible apply adz);(with_reducible assumption)) | ((with_reducible apply afc);(with_reducible assumption)) | ((with_reducible apply afx);(with_reducible assumption)) | ((with_reducible apply agM);(with_reducible assumption)) | ((with_reducible apply aft);(with_reducible assumption);exact rfl) | ((with_reducible apply abL);(with_reducible assumption);exact rfl) | ((with_reducible apply abx);(with_reducible assumption);exact rfl;(repeat (first | with_reducible exact aco | with_reducible exact acU | with_reducible apply aaW))) | ((with_reducible apply J8);exact rfl;(repeat (first | with_reducible exact acH | with_reducible apply acv | with_reducible apply acn))) | ((with_reducible apply zbE);exact rfl) | with_reducible (first | refine abz ?_ | refine agN ?_ | refine uQ ?_ | refine Ze ?_) | ((with_reducible apply WW);decide +kernel)))
def q4 (p q r s:Tr):W:=.lst [tw p,tw q,tw r,tw s]
def oN (p q r s:Tr):Bool:=decide (dt3 (crs p q) r≠0)&&(decide (dt3 (crs p q) s≠0)&&(decide (dt3 (crs p r) s≠0)&&decide (dt3 (crs q r) s≠0)))
def Free (p q r s:Tr):Prop:=dt3 (crs p q) r≠0/\dt3 (crs p q) s≠0/\dt3 (crs p r) s≠0/\dt3 (crs q r) s≠0
theorem j8 {p q r s:Tr}(h:Free p q r s):oN p q r s=true:=by
 unfold oN;rw [decide_eq_true h.1,decide_eq_true h.2.1,decide_eq_true h.2.2.1,decide_eq_true h.2.2.2];rfl
theorem Kg {p q r s:Tr}(h:oN p q r s=true):Free p q r s:=by
 unfold oN at h;simp only [MN,decide_eq_true_eq] at h;exact h
theorem oX {p q r s:Tr}(h:¬ Free p q r s):oN p q r s=false:=Bool.eq_false_iff.mpr fun e=>h (Kg e)
def Gw (c0:kI):Prop:=∀ {h:Gh} {p q r s:Tr} {m:Nat} {Q:WK} {E:BK},m<=4000->Bk m p->Bk m q->Bk m r->Bk m s->Q (.bl (oN p q r s)) h->c0 [q4 p q r s] h Q E
theorem afJ {tu:kI}(htu:Zh tu):Gw (vG tu):=by
 intro h p q r s m Q E hm sp sq sr ss k;show tu [HJ true p,HJ true q,HJ true r] h _ _;refine htu true hm sp sq sr ?_;show tu [HJ true p,HJ true q,HJ true s] h _ _;refine htu true hm sp sq ss ?_;show tu [HJ true p,HJ true r,HJ true s] h _ _;refine htu true hm sp sr ss ?_;show tu [HJ true q,HJ true r,HJ true s] h _ _;refine htu true hm sq sr ss ?_;show Q (.bl (!(([W.int (dt3 (crs p q) r),.int (dt3 (crs p q) s),.int (dt3 (crs p r) s),.int (dt3 (crs q r) s)]).any fun w=>FJ w (.int 0)))) h;have e:(!(([W.int (dt3 (crs p q) r),.int (dt3 (crs p q) s),.int (dt3 (crs p r) s),.int (dt3 (crs q r) s)]).any fun w=>FJ w (.int 0)))=oN p q r s:=by
  simp only [T4,List.any_nil,cQ,oN];by_cases f1:dt3 (crs p q) r=0 <;> by_cases f2:dt3 (crs p q) s=0 <;> by_cases f3:dt3 (crs p r) s=0 <;> by_cases f4:dt3 (crs q r) s=0 <;> simp [f1,f2,f3,f4]
 rw [e];exact k
def tV (c0:kI):Prop:=∀ {h:Gh} {p q r:Tr} {m:Nat} {Q:WK} {E:BK},m<=4000->Bk m p->Bk m q->Bk m r->Q (.int (dt3 (crs p q) r)) h->c0 [tw p,tw q,tw r] h Q E
theorem afT {cr dt:kI}(hcr:Fz cr)(hdt:Bg dt):tV (wD cr dt):=by
 intro h p q r m Q E hm sp sq sr k;unfold wD;rfl'
 refine hcr (m:=m) (by lia) sp sq ?_;rfl'
 refine hdt (m:=m+m+1) (by lia) (fu sp sq) (sr.mono<|by lia) ?_;rfl'
 exact k
theorem WY {R:Src->Gh->Prop}{h:Gh}(x:R ⟨[.int 0,.int 1,.int 2,.int 3],FN⟩ h):rgK R [.int 4] h:=x
theorem ago {tu:kI}(htu:tV tu):Gw (vZ tu):=by
 intro h p q r s m Q E hm sp sq sr ss k;have c1:dt3 (crs r s) p=dt3 (crs p r) s:=by simp only [dt3,crs];grind
 have c2:dt3 (crs s p) q=dt3 (crs p q) s:=by simp only [dt3,crs];grind
 unfold vZ q4;refine eY rfl (σ:=[Dn<|.lst [tw p,tw q,tw r,tw s],FN]) rfl ?_;refine aV<|ju<|oJ<|au<|bW<|aH<|WY<|gQ ?_
 rfl'
 refine htu hm sq sr ss ?_;rfl'
 refine jK (fun z=>?_) fun f4=>?_
 ·rfl'
  rw [oX fun f=>f.2.2.2 z] at k;exact k
 rfl'
 refine htu hm sr ss sp ?_;rw [c1];rfl'
 refine jK (fun z=>?_) fun f3=>?_
 ·rfl'
  rw [oX fun f=>f.2.2.1 z] at k;exact k
 rfl'
 refine htu hm ss sp sq ?_;rw [c2];rfl'
 refine jK (fun z=>?_) fun f2=>?_
 ·rfl'
  rw [oX fun f=>f.2.1 z] at k;exact k
 rfl'
 refine htu hm sp sq sr ?_;rfl'
 refine jK (fun z=>?_) fun f1=>?_
 ·rfl'
  rw [oX fun f=>f.1 z] at k;exact k
 rfl'
 unfold vN;rfl'
 rw [j8 ⟨f1,f2,f3,f4⟩] at k;exact k
def To (M:Mt)(p o:Tr):Prop:=∃ a b:Int,a≠0/\b≠0/\sc a (vm M p)=sc b o
theorem To.eq {M:Mt}{p o t:Tr}(h:To M p o)(ho:Pl o)(ht:Pl t)(hp:Gq (vm M p) t):t=o:=by
 obtain ⟨a,b,a0,b0,e⟩:=h;obtain ⟨j,j0,ej⟩:=hp;rw [ej,uO] at e;exact yS (u:=sc b o) ht ho ⟨j*a,IV j0 a0,e.symm⟩ ⟨b,b0,rfl⟩
theorem Oo {G Go N M:Mt}{e p o:Tr}(dG:det G≠0)(h1:To G e p)(h2:To Go e o)(hN:GK (adj G) N)(hM:GK (mm Go N) M):To M p o:=by
 obtain ⟨a,b,a0,b0,ea⟩:=h1;obtain ⟨a',b',a0',b0',eb⟩:=h2;obtain ⟨k,k0,ek⟩:=hN;obtain ⟨c,c0,ec⟩:=hM;have e1:sc (k*b) (vm N p)=sc (det G*a) e:=by
  have:vm (adj G) (sc a (vm G e))=sc a (sc (det G) e):=by rw [cB,<-Bj,yE,uU,HS]
  rw [ea,ek,cB,uU,uO,uO] at this;exact this
 have e2:sc c (vm M p)=vm Go (vm N p):=by rw [<-Bj,ec,uU]
 refine ⟨c*(k*b)*a',b'*(det G*a),IV (IV c0<|IV k0 b0) a0',IV b0'<|IV dG a0,?_⟩;rw [<-uO,<-uO,e2,<-cB,e1,cB,<-uO (det G*a) b' o,<-eb,uO,uO,RG]
theorem uh {p q r s:Tr}(f:Free p q r s){G:Mt}(h:GK (lD p q r s) G):To G (1,0,0) p/\To G (0,1,0) q/\To G (0,0,1) r/\To G (1,1,1) s:=by
 obtain ⟨f1,f2,f3,f4⟩:=f;obtain ⟨k,k0,e⟩:=h;have g:∀ {v t:Tr} {c:Int},c≠0->vm (lD p q r s) v=sc c t->To G v t:=fun c0 e'=>⟨k,_,k0,c0,by rw [<-uU,<-e,e']⟩
 refine ⟨g ?_<|Xa _ _ _,g ?_<|Zd _ _ _,g ?_<|YL _ _ _,g ?_<|afA p q r s⟩
 ·exact f4
 ·intro z;refine f3 ?_;have:dt3 (crs p r) s = - dt3 (crs r p) s:=by simp only [dt3,crs];grind
  rw [this,show dt3 (crs r p) s=0 from z];rfl
 ·exact f2
 ·exact f1
def ZP (c0:kI):Prop:=∀ {h:Gh} {A B:Mt} {m n:Nat} {Q:WK} {E:BK},m<=4000->n<=3000->HI m A->HI n B->det A≠0->det B≠0->(∀ M,PlM M->GK (mm B A) M->HI (m+n+2) M->Q (mw M) h)->c0 [mw A,mw B] h Q E
theorem Vc {pl tt:kI}(hpl:qO pl)(htt:Ms tt):ZP (Jz pl tt):=by
 intro h A B m n Q E hm hn sA sB dA dB k;show tt [LI true B,LI true A] h _ _;refine htt (m:=max m n) true true (by lia) (sB.mono<|by lia) (sA.mono<|by lia) ?_;show pl [Mh (mm B A)] h _ _;refine hpl.mt (m:=m+n+2) (.inr rfl) ?_ (XM sB sA) (by lia) k;rw [vd];exact fun h=>(Kw.mp h).elim dB dA
def aa9 (c0:kI):Prop:=∀ {h:Gh} {M:Mt} {v:Tr} {m n:Nat} {Q:WK} {E:BK},m<=4000->n<=3000->HI m M->Bk n v->det M≠0->v≠(0,0,0)->(∀ t,Pl t->Gq (vm M v) t->Bk (m+n+2) t->Q (tw t) h)->c0 [mw M,tw v] h Q E
theorem agS {pl dt:kI}(hpl:qO pl)(hdt:Bg dt):aa9 (BZ pl dt):=by
 intro h M v m n Q E hm hn sM0 sv0 dM hv k;have sM:=sM0.mono (show m<=max m n by lia);have sv:=sv0.mono (show n<=max m n by lia);have c:∀ b:Int,Ny (b.natAbs+1) (2^64)=true->cY 3 b:=fun b h2=>.of (m:=64) (n:=64) (Sm.lit rfl) (Sm.lit h2) (by decide) (by decide)
 first | show GQ Gs [0,1] (dR (aj (mC (.int 3)) aF)) fH (aD dt E (aj (K9 pU (ak 1) (cH (Mk cG (mC (.int 3)) (ak 0))) (cH (Mk bJ (Mk cG (mC (.int 3)) (ak 0)) (mC (.int 3))))) (aj (ak 2) aF))) [Dn (mw M),Dn (tw v)] h _ | show GQ Gs [0,1] (dR (aj (mC (.int 3)) aF)) fH (aD dt E (aj (K9 kSl (ak 1) (cH (Mk cG (mC (.int 3)) (ak 0))) (cH (Mk bJ (Mk cG (mC (.int 3)) (ak 0)) (mC (.int 3))))) (aj (ak 2) aF))) [Dn (mw M),Dn (tw v)] h _
 first | refine And.intro (c _ rfl) (And.intro (c _ rfl) (And.intro (by decide:¬ ((0:Nat)=0/\(3:Nat)=9)) ?_)) | refine And.intro (c _ rfl) (And.intro (c _ rfl) ?_)
 show dt [tw M.1,tw v] h _ _;refine hdt (by lia) sM.1 sv ?_;first | refine And.intro (c _ rfl) (And.intro (c _ rfl) (And.intro (by decide:¬ ((3:Nat)=0/\(6:Nat)=9)) ?_)) | refine And.intro (c _ rfl) (And.intro (c _ rfl) ?_)
 show dt [tw M.2.1,tw v] h _ _;refine hdt (by lia) sM.2.1 sv ?_;first | refine And.intro (c _ rfl) (And.intro (c _ rfl) (And.intro (by decide:¬ ((6:Nat)=0/\(9:Nat)=9)) ?_)) | refine And.intro (c _ rfl) (And.intro (c _ rfl) ?_)
 show dt [tw M.2.2,tw v] h _ _;refine hdt (by lia) sM.2.2 sv ?_;show pl [lw (vm M v)] h _ _;exact hpl.tr (u:=vm M v) (m:=m+n+2) (.inr rfl) (yL dM hv) (z8 sM0 sv0) (by lia) k
theorem yZ {r:MM}{mo:ME}{ma:MA}{σ : Sw}{h:Gh}{Q:WK}(x:mo σ h fun x h1=>Ce h1 x (ma σ h1 fun xs h2=>r x xs h2 Q)):GJ r mo ma σ h Q:=x
theorem sO {n:Nat}{us:List W}{h:Gh}{P:Prop}(e:h.c n=Dn (.lst us))(p:P):Ce h (.loc n) P:=by
 simp only [Ce,e];exact p
theorem GR {ma:MA}{ws:List W}{σ : Sw}{h:Gh}{Q:WK}(hm:∀ R,ma σ h R=R ws h)(hz:Ny ws.length 1000=true)(x:∀ g:Gh,g.c h.nx=Dn (.lst ws)->(∀ n,n≠h.nx->g.c n=h.c n)->g.nx=h.nx+1->Q (.loc h.nx) g):uw ma σ h Q:=by
 unfold uw;rw [hm];exact dI hz<|x _ (wU _ _) (fun _ e=>tZ e) rfl
theorem aa6 {h:Gh}{n:Nat}{us zs:List W}{Q:WK}(e:h.c n=Dn (.lst us))(hz:us.length+zs.length<=1000)(k:∀ g:Gh,g.c n=Dn (.lst (us++zs))->(∀ m,m≠n->g.c m=h.c m)->g.nx=h.nx->Q .non g):iC (.loc n) [.lst zs] h Q:=
 Cw e (Ii hz (by decide)) (k _ (jP _ _ _) (fun _ e=>lE e) rfl)
theorem Zu {h:Gh}{n:Nat}{us:List W}{w:W}{Q:WK}(e:h.c n=Dn (.lst us))(hz:us.length<=1000)(k:∀ g:Gh,g.c n=Dn (.lst (us++[w]))->(∀ m,m≠n->g.c m=h.c m)->g.nx=h.nx->Q .non g):fL (.loc n) [w] h Q:=
 QT e (SQ hz (by decide)) (k _ (jP _ _ _) (fun _ e=>lE e) rfl)
theorem Z5 {α β : Type}{v:α->W}{ws0:List W}{g:MG}{b:MS}{D:bT}(f:α->Option β)(R:β->Prop)(I:Sw->Gh->Prop):∀ (xs:List α),
  (∀ x,x∈xs->∀ σ h N,I σ h->(f x=FN->∀ σ' h',I σ' h'->N σ' h')->(∀ y,f x=Dn y->R y)->g (v x) σ h fun σ1 h1=>b { D with nx:=N,ct:=N,bk:=D.nx } σ1 h1) ->
  (xs.findSome? f=FN->∀ σ h,I σ h->D.nx σ h)->(∀ y,xs.findSome? f=Dn y->R y)->∀ (σ : Sw) (h:Gh),I σ h->eO ⟨ws0,FN⟩ g b D (xs.map v) σ h
 | [],_,fin,_,σ,h,h0=>fin rfl σ h h0
 | x::xs,step,fin,ret,σ,h,h0=>by
  refine iB<|step x Nb σ h _ h0 (fun e σ' h' h1=>?_) fun y e=>ret y ?_
  ·refine Z5 f R I xs (fun z hz=>step z<|Nh _ hz) (fun e2=>fin ?_) (fun y e2=>ret y ?_) σ' h' h1
   ·rw [T9,e];exact e2
   ·rw [T9,e];exact e2
  ·rw [T9,e]
theorem ZM {α β : Type}{v:α->W}{ws0:List W}{g:MG}{b:MS}{D:bT}(f:α->Option β)(R:β->Prop)(I:Sw->Gh->Prop)(xs:List α)
  (step:∀ x,x∈xs->∀ σ h N,I σ h->(f x=FN->∀ σ' h',I σ' h'->N σ' h')->(∀ y,f x=Dn y->R y)->g (v x) σ h fun σ1 h1=>b { D with nx:=N,ct:=N,bk:=D.nx } σ1 h1)
  (fin:xs.findSome? f=FN->∀ σ h,I σ h->D.nx σ h) (ret:∀ y,xs.findSome? f=Dn y->R y) {σ : Sw} {h:Gh} (h0:I σ h):eO ⟨ws0,FN⟩ g b D (xs.map v) σ h:=Z5 f R I xs step fin ret σ h h0
def rng (a m:Nat):List Nat:=List.range' a (m - a)
theorem iV {a m x:Nat}:x∈rng a m↔a<=x/\x<m:=by
 unfold rng;rw [List.mem_range'_1];lia
theorem Ea (a m:Nat):Al (a:Int) ((m:Int) - (a:Int)).toNat=(rng a m).map fun x:Nat=>W.int (x:Int):=by
 unfold Al rng;rw [List.range'_eq_map_range,List.map_map,show ((m:Int) - (a:Int)).toNat=m - a by lia];refine List.map_congr_left fun x _=>?_;simp
theorem afl (m:Nat):Al 0 ((m:Nat):Int).toNat=(rng 0 m).map fun x:Nat=>W.int (x:Int):=by
 have:=Ea 0 m
 rw [show ((m:Int) - ((0:Nat):Int)).toNat=((m:Nat):Int).toNat by lia] at this;exact this
def acO (R:Src->Gh->Prop):List W->Gh->Prop:=fun ws h=>match ws with
 | [.int i,.int j]=>yq i (yq j (R ⟨Al i (j - i).toNat,FN⟩ h))
 | _=>False
theorem agV {ma:MA}{R:Src->Gh->Prop}{σ : Sw}{h:Gh}(x:ma σ h (acO R)):JW ma σ h R:=x
theorem Wt {R:Src->Gh->Prop}{h:Gh}{a:Int}{m n:Nat}(ha:a=(n:Int))(h1:n<=1000)(h2:m<=1000)(x:R ⟨(rng n m).map fun x:Nat=>W.int (x:Int),FN⟩ h):acO R [.int a,.int (m:Int)] h:=by
 subst ha;rw [<-Ea] at x;exact yq.mk (by lia) (by lia)<|yq.mk (by lia) (by lia) x
theorem U0 {R:Src->Gh->Prop}{h:Gh}{m:Nat}(h2:m<=1000)(x:R ⟨(rng 0 m).map fun x:Nat=>W.int (x:Int),FN⟩ h):rgK R [.int (m:Int)] h:=by
 rw [<-afl] at x;exact yq.mk (by lia) (by lia) x
def nxt (l:List Nat):Nat:=match l.getLast? with
 | none=>0
 | some x=>x+1
def grow (m:Nat)(l:List Nat):List (List Nat):=(rng (nxt l) m).map fun p=>l++[p]
def Cg (m:Nat):Nat->List (List Nat)
 | 0=>[[]]
 | k+1=>(Cg m k).flatMap (grow m)
def d7 (l:List Nat):W:=.tup (l.map fun x:Nat=>.int (x:Int))
theorem bD {m:Nat}:∀ {k:Nat} {l:List Nat},l∈Cg m k->l.length=k
 | 0,l,h=>by
  rw [Cg,Lz] at h;rw [h];rfl
 | k+1,l,h=>by
  rw [Cg,Uc] at h;obtain ⟨u,hu,hl⟩:=h;obtain ⟨p,_,rfl⟩:=Lk.mp hl;rw [Lq,bD hu];rfl
theorem Wk {m:Nat}:∀ {k:Nat} {l:List Nat},l∈Cg m k->nxt l<=m
 | 0,l,h=>by
  rw [Cg,Lz] at h;rw [h];exact Rn _
 | k+1,l,h=>by
  rw [Cg,Uc] at h;obtain ⟨u,hu,hl⟩:=h;obtain ⟨p,hp,rfl⟩:=Lk.mp hl;have:=(iV.mp hp).2
  unfold nxt;rw [List.getLast?_append];simp;lia
theorem zaF:∀ m,m<=12->∀ k,k<=4->(Cg m k).length<=1000:=by
 have:(M5 13).all (fun m=>(M5 5).all fun k=>decide ((Cg m k).length<=1000))=true:=by decide +kernel
 intro m hm k hk;rw [MP] at this;have h1:=this m (Nj.mpr (by lia));rw [MP] at h1;exact of_decide_eq_true<|h1 k<|Nj.mpr<|by lia
def Z8 (h:Gh)(w:W)(ws:List W):Prop:=w=.lst ws\/∃ n,w=.loc n/\h.c n=Dn (.lst ws)
theorem afv {i:Nat}{g:MG}{b:MS}{D:bT}{σ : Sw}{h:Gh}{w:W}{α : Type}{v:α->W}{xs:List α}(hv:σ[i]?=Dn (Dn w))(e:Z8 h w (xs.map v))(I:Nat->Sw->Gh->Prop)
  (go:∀ i σ h',I i σ h'->Z8 h' w (xs.map v))
  (step:∀ (i:Nat) (x:α) (σ : Sw) (h:Gh) (N:Sw->Gh->Prop),(∀ σ' h',I (i+1) σ' h'->N σ' h')->xs[i]?=Dn x->I i σ h->g (v x) σ h fun σ1 h1=>b { D with nx:=N,ct:=N,bk:=D.nx } σ1 h1)
  (fin:∀ σ h,I xs.length σ h->D.nx σ h) (h0:I 0 σ h):oF (Gu (ak i)) g b D σ h:=by
 unfold oF Gu ak;rw [hv];dsimp only;have gen:∀ s:Src,uJ h w=Dn s->s.ws=xs.map v->(∀ h',Z8 h' w (xs.map v)->∀ P:Prop,P->s.go h' P)->(match uJ h w with
   | some s=>eO s g b D s.ws σ h
   | none=>False):=by
  intro s es ew hg;rw [es];show eO s g b D s.ws σ h;rw [ew];refine DK I (fun i σ h' hi=>hg h'<|go i σ h' hi) (fun i w σ h N hN e hi=>?_) (fun σ h q=>fin σ h<|by rwa [Gg] at q) h0;rw [LK] at e;cases q:xs[i]? with
  | none=>rw [q] at e;cases e
  | some x=>
   rw [q] at e;cases e;exact step i x σ h N hN q hi
 rcases e with rfl | ⟨n,rfl,e⟩
 ·exact gen ⟨xs.map v,FN⟩ rfl rfl fun _ _ _ p=>p
 ·refine gen ⟨xs.map v,Dn (n,xs.map v)⟩ (by simp only [uJ,e]) rfl fun h' e' P p=>⟨?_,p⟩;rcases e' with e' | ⟨n',e',q⟩
  ·cases e'
  ·cases e';exact q
theorem Fp {a b:List W}{h:Gh}{Q:WK}(hz:a.length+b.length<=1000)(x:Q (.tup (a++b)) h):bJ (.tup a) (.tup b) h Q:=by
 cases a with
 | nil=>exact x
 | cons a0 a=>exact gJ.mk (Ii (by simpa using hz) (by decide:1000<=Gn)) x
theorem Vb {m:Nat}{l:List Nat}{σ : Sw}{h:Gh}{Q:WK}(hm:m<=12)(hl:l.length<=4)(hn:nxt l<=m)(h5:σ[5]?=Dn (Dn (d7 l)))(h6:σ[6]?=Dn (Dn (.int (nxt l:Int))))(h0:σ[0]?=Dn (Dn (.int (m:Int))))(x:Q (.lst ((grow m l).map d7)) h) :
  GQ Gs [5] (JW (aj (ak 6) (aj (ak 0) aF))) fH (Mk bJ (ak 1) (qj (aj (ak 0) aF))) σ h Q:=by
 refine uL<|agV<|au<|aB h6<|au<|aB h0<|aH ?_
 refine Wt rfl (by lia) (by lia) ?_;have hb:qI [5] σ = [Dn (d7 l)]:=by
  show [(σ[5]?).getD FN]=_;rw [h5];rfl
 have hz:((rng (nxt l) m).map fun x:Nat=>W.int (x:Int)).length<=Gn:=by
  rw [Gg];unfold rng;rw [Tg];exact Ii (by lia) (by decide:12<=Gn)
 refine gJ.mk hz ?_;refine qd (fun i acc h'=>h'=h/\acc=(((rng (nxt l) m).take i).map fun p=>l++[p]).map d7) ?_ ?_ ⟨rfl,rfl⟩
 ·rintro i w acc h' N hN e ⟨rfl,rfl⟩;rw [LK] at e;cases q:(rng (nxt l) m)[i]? with
  | none=>rw [q] at e;cases e
  | some p=>
   rw [q] at e;cases e;refine ⟨[W.int (p:Int)],rfl,?_⟩;rw [hb];refine lJ<|lC<|aO<|aB rfl<|jA<|au<|aB rfl<|aH<|dI rfl ?_
   refine Fp (a:=l.map fun x:Nat=>.int (x:Int)) (by rw [Gg];simp;lia) ?_;refine hN _ _ ⟨rfl,?_⟩;rw [M8,q];simp [d7]
 ·rintro acc h' ⟨rfl,rfl⟩;rw [Gg,Mp];exact x
def mD (c0:kI):Prop:=∀ {h:Gh} {m k:Nat} {Q:WK} {E:BK},m<=12->k<=4->Q (.lst ((Cg m k).map d7)) h->c0 [.int (m:Int),.int (k:Int)] h Q E
theorem ahq {l:List Nat}{i:Nat}(h:l.length=i+1):∃ x,l.getLast?=Dn x/\Ji (l.map fun x:Nat=>W.int (x:Int)) (i:Int)=Dn (.int (x:Int)):=by
 have hi:i<l.length:=by lia
 refine ⟨l[i],?_,?_⟩
 ·rw [List.getLast?_eq_getElem?,h,Nat.add_sub_cancel,JQ hi]
 ·exact rY (by rw [LK,JQ hi];rfl)
theorem acs (n:Nat):∀ l:List Nat,K3 n (l.map fun x:Nat=>W.int (x:Int))
 | []=>by simp [K3]
 | x::l=>by
  have:=acs n l
  rw [LQ,K3];exact ⟨by simp [Lo],this⟩
theorem agv (n:Nat)(l:List Nat):Lo n (d7 l):=by
 unfold d7;rw [Lo];exact acs n l
theorem wB (n:Nat):∀ ls:List (List Nat),K3 n (ls.map d7)
 | []=>by simp [K3]
 | l::ls=>by
  have:=wB n ls
  rw [LQ,K3];exact ⟨agv n l,this⟩
theorem agC {a m i x:Nat}(e:(rng a m)[i]?=Dn x):x=a+i/\x<m:=by
 have hx:=iV.mp (N5 e);unfold rng at e;have hl:=(NT.mp e).1;rw [Tg] at hl;rw [JQ (by rw [Tg];exact hl),List.getElem_range'] at e;have:=Hz e
 lia
theorem agu:mD vP:=by
 intro h m k Q E hm hk q;unfold vP;refine J8 rfl (σ:=[Dn<|.int (m:Int),Dn<|.int (k:Int),FN,FN,FN,FN,FN]) rfl ?_;refine aV<|cO<|yQ<|au<|jA<|aH<|dI rfl<|aH<|dI rfl ?_
 refine nV<|fX ?_
 refine aV<|ju<|oJ<|au<|aB rfl<|aH<|U0 (by lia)<|gQ ?_
 refine lV (fun i σ h'=>∃ w s3 s4 s5 s6,σ = [Dn<|.int (m:Int),Dn<|.int (k:Int),Dn w,s3,s4,s5,s6]/\(w=.lst ((Cg m i).map d7)\/∃ n,w=.loc n/\h.nx<=n/\n<h'.nx/\h'.c n=Dn (.lst<|(Cg m i).map d7))/\h.nx<=h'.nx/\∀ n,n<h.nx->h'.c n=h.c n) ?_ ?_ ⟨_,_,_,_,_,rfl,.inl rfl,Gi _,fun _ _=>rfl⟩
 ·rintro i w0 σ h' N hN e ⟨w,s3,s4,s5,s6,rfl,hw,hx,ho⟩;rw [LK] at e;cases qe:(rng 0 k)[i]? with
  | none=>rw [qe] at e;cases e
  | some i'=>
   rw [qe] at e;cases e;obtain ⟨ei,hik⟩:=agC qe;rw [Nat.zero_add] at ei;subst ei;refine nV ?_;refine aV<|cO<|GR (ws:=[]) (fun R=>rfl) rfl fun g eg og xg=>?_
   refine nV<|fX ?_
   refine aV ?_;have sw:∀ g':Gh,(∀ n,n≠h'.nx->g'.c n=h'.c n)->Z8 g' w ((Cg m i').map d7):=by
    intro g' hg;rcases hw with rfl | ⟨n,rfl,h1,h2,h3⟩
    ·exact .inl rfl
    ·exact .inr ⟨n,rfl,by rw [hg n<|by lia];exact h3⟩
   refine afv (i:=2) (w:=w) (v:=d7) (xs:=Cg m i') rfl (sw g og) (fun j σ g'=>∃ s5 s6,σ = [Dn<|.int (m:Int),Dn<|.int (k:Int),Dn w,Dn<|.int (i':Int),Dn<|.loc h'.nx,s5,s6]/\g'.c h'.nx=Dn (.lst<|(((Cg m i').take j).flatMap (grow m)).map d7)/\g'.nx=h'.nx+1/\∀ n,n≠h'.nx->g'.c n=h'.c n) ?_ ?_ ?_ ⟨_,_,rfl,eg,xg,og⟩
   ·rintro j σ g' ⟨s5,s6,rfl,h1,h2,h3⟩;exact sw g' h3
   ·rintro j l σ g' N2 hN2 el ⟨s5,s6,rfl,h1,h2,h3⟩;have ml:=N5 el;have ll:=bD ml;have ln:=Wk ml;refine nV ?_;have fin:∀ σ,σ = [Dn (.int (m:Int)),Dn (.int (k:Int)),Dn w,Dn (.int (i':Int)),Dn (.loc h'.nx),Dn (d7 l),Dn (.int (nxt l:Int))]->mZ (GJ iC (ak 4) (aj (GQ Gs [5] (JW (aj (ak 6) (aj (ak 0) aF))) fH (Mk bJ (ak 1) (qj (aj (ak 0) aF)))) aF)) { nx:=N2,rt:=fun w h'=>xZ true h w h' Q,bk:=fun _ _=>False,ct:=N2 } σ g':=by
     rintro σ rfl;refine sH<|yZ<|aB rfl<|sO h1<|au<|Vb hm (by lia) ln rfl rfl rfl<|aH<|aa6 h1 ?_ fun g2 e2 o2 x2=>?_
     ·rw [Gg,Gg,<-Lq,show grow m l=[l].flatMap (grow m) by simp,<-List.flatMap_append];have hp:(Cg m i').take (j+1)=(Cg m i').take j++[l]:=by rw [M8,el];rfl
      rw [<-hp];have hr:=zaF m hm (i'+1) (by lia);rw [Cg,<-List.take_append_drop (j+1) (Cg m i'),List.flatMap_append,Lq] at hr;lia
     ·refine hN2 _ _ ⟨_,_,rfl,?_,by rw [x2];exact h2,fun n hn=>by rw [o2 n hn];exact h3 n hn⟩;rw [e2,M8,el,List.flatMap_append,Nz];simp
    refine aV<|cO<|Wr<|bG<|aO<|aB rfl<|bW<|Xl<|qF ?_
    refine jK (fun hp=>?_) fun hp=>?_
    ·obtain ⟨x,ex,ax⟩:=ahq (l:=l) (i:=i' - 1) (by lia);have en:nxt l=x+1:=by unfold nxt;rw [ex]
     refine aO<|aO<|aB rfl<|aO<|aB rfl<|bW<|zJ<|eU (x:=d7 l) (i:=(i':Int) - 1) (w:=.int (x:Int)) rfl ?_<|bW<|Jq ?_
     ·rw [show (i':Int) - 1=((i' - 1:Nat):Int) by lia];exact ax
     ·refine bK (σ':=[Dn<|.int (m:Int),Dn<|.int (k:Int),Dn w,Dn<|.int (i':Int),Dn<|.loc h'.nx,Dn<|d7 l,Dn<|.int (nxt l:Int)]) (by rw [en];rfl)<|fX<|fin _ rfl
    ·have l0:l=[]:=List.eq_nil_of_length_eq_zero (by lia);have en:nxt l=0:=by rw [l0];rfl
     refine bW ?_;refine bK (σ':=[Dn<|.int (m:Int),Dn<|.int (k:Int),Dn w,Dn<|.int (i':Int),Dn<|.loc h'.nx,Dn<|d7 l,Dn<|.int (nxt l:Int)]) (by rw [en];rfl)<|fX<|fin _ rfl
   ·rintro σ g' ⟨s5,s6,rfl,h1,h2,h3⟩;rw [Mp] at h1;refine fX ?_;refine cO ?_;refine aB rfl ?_;refine nV<|fX ?_
    exact hN _ _ ⟨_,_,_,_,_,rfl,.inr ⟨_,rfl,hx,by lia,h1⟩,by lia,fun n hn=>by rw [h3 n<|by lia];exact ho n hn⟩
 ·rintro σ h' ⟨w,s3,s4,s5,s6,rfl,hw,hx,ho⟩;have hl:((rng 0 k).map fun x:Nat=>W.int (x:Int)).length=k:=by
   rw [Gg];unfold rng;rw [Tg];lia
  rw [hl] at hw;unfold vC;refine fX ?_;refine cX ?_;refine aB rfl ?_;refine xW ?_;refine ⟨fun n c hn e=>by rw [ho n hn];exact e,?_⟩;rcases hw with rfl | ⟨n,rfl,h1,h2,h3⟩
  ·exact .inl ⟨by rw [Lo];exact wB _ _,q⟩
  ·exact .inr ⟨n,_,rfl,h1,h3,wB _ _,q⟩
def gt (ts:List Tr)(i:Nat):Tr:=ts.getD i (0,0,0)
def Lf (h:Gh)(w:W)(ts:List Tr):Prop:=w=.lst (ts.map tw)\/∃ n,w=.loc n/\n<h.nx/\h.c n=Dn (.lst (ts.map tw))
theorem Lf.t {h:Gh}{w:W}{ts:List Tr}(e:Lf h w ts):eV h w ts:=by
 rcases e with e | ⟨n,e,_,q⟩
 ·exact .inl e
 ·exact .inr ⟨n,e,q⟩
def Fq (m:Nat)(ts:List Tr):Prop:=∀ t∈ts,Pl t/\Bk m t
theorem bf {ts:List Tr}{i:Nat}(hi:i<ts.length):gt ts i∈ts:=by
 unfold gt;rw [Mz,JQ hi];exact Tv hi
theorem dF {ts:List Tr}{i:Nat}(hi:i<ts.length):ts[i]?=Dn (gt ts i):=by
 unfold gt;rw [Mz,JQ hi];rfl
theorem eV.at {h:Gh}{w:W}{ts:List Tr}(e:eV h w ts){i:Nat}(hi:i<ts.length){Q:WK}(k:Q (tw (gt ts i)) h):Bf w (.int (i:Int)) h Q:=
 eU e.src.1 (rY (by rw [LK,dF hi];rfl)) k
theorem jY {h:Gh}{w:W}{ts:List Tr}(e:eV h w ts){Q:WK}(k:Q (.int (ts.length:Int)) h):Gb [w] h Q:=by
 refine gP e.src.1 ?_;rw [Gg];exact k
def v7 (c0:kI):Prop:=∀ {h:Gh} {w:W} {ts:List Tr} {l:List Nat} {Q:WK} {E:BK},eV h w ts->(∀ i∈l,i<ts.length)->l.length<=1000->Q (.lst ((l.map (gt ts)).map tw)) h->c0 [w,d7 l] h Q E
theorem aeO:v7 xJ:=by
 intro h w ts l Q E e hl hz q;unfold xJ;refine eY rfl (σ:=[Dn w,Dn<|d7 l]) rfl<|cX<|uL<|lN<|aB rfl<|Cp (ws:=l.map fun x:Nat=>.int (x:Int)) (o:=FN) rfl ?_
 refine gJ.mk (by rw [Gg];exact Ii hz (by decide)) ?_;refine qd (fun i acc h'=>h'=h/\acc=((l.take i).map (gt ts)).map tw) ?_ ?_ ⟨rfl,rfl⟩
 ·rintro i w2 acc h' N hN e2 ⟨rfl,rfl⟩;rw [LK] at e2;cases qe:l[i]? with
  | none=>rw [qe] at e2;cases e2
  | some p=>
   rw [qe] at e2;cases e2;refine ⟨[W.int (p:Int)],rfl,?_⟩;refine lJ<|aO<|aB rfl<|aB rfl<|e.at (hl p<|N5 qe) ?_
   refine hN _ _ ⟨rfl,?_⟩;rw [M8,qe];simp
 ·rintro acc h' ⟨rfl,rfl⟩;rw [Gg,Mp];exact xW q
theorem Tf {α β γ : Type}(f:α->List β)(g:β->Option γ):∀ xs:List α,(xs.flatMap f).findSome? g=xs.findSome? fun x=>(f x).findSome? g
 | []=>rfl
 | x::xs=>by
  rw [List.flatMap_cons,List.findSome?_append,Tf f g xs,T9];cases (f x).findSome? g <;> rfl
def pass (P:List Nat->Bool)(l:List Nat):Option (List Nat):=if P l then Dn l else FN
theorem sX {P:List Nat->Bool}{l:List Nat}(h:P l=true):pass P l=Dn l:=by
 unfold pass;rw [h];rfl
theorem tO {P:List Nat->Bool}{l:List Nat}(h:P l=false):pass P l=FN:=by
 unfold pass;rw [h];rfl
theorem Qf {α β : Type}(f:α->Option β)(x:α):[x].findSome? f=f x:=by
 rw [T9];cases f x <;> rfl
def Xj (m:Nat)(P:List Nat->Bool):Option (List Nat):=(rng 0 m).findSome? fun i=>(rng (i+1) m).findSome? fun j=>(rng (j+1) m).findSome? fun k=>(rng (k+1) m).findSome? fun x=>pass P [i,j,k,x]
def S9 (m:Nat)(P:List Nat->Bool):Option (List Nat):=(rng 0 m).findSome? fun i=>(rng (i+1) m).findSome? fun j=>(rng (j+1) m).findSome? fun k=>pass P [i,j,k]
theorem Hr {γ : Type}(m:Nat)(l:List Nat)(g:List Nat->Option γ):(grow m l).findSome? g=(rng (nxt l) m).findSome? fun p=>g (l++[p]):=by
 unfold grow;rw [List.findSome?_map];rfl
theorem HN (m:Nat)(P:List Nat->Bool):(Cg m 4).findSome? (pass P)=Xj m P:=by
 simp only [Cg,Tf,Hr,Qf];rfl
theorem Gk (m:Nat)(P:List Nat->Bool):(Cg m 3).findSome? (pass P)=S9 m P:=by
 simp only [Cg,Tf,Hr,Qf];rfl
theorem bV {m:Nat}:∀ {k:Nat} {l:List Nat},l∈Cg m k->∀ i∈l,i<m
 | 0,l,h=>by
  rw [Cg,Lz] at h;subst h;intro i hi;cases hi
 | k+1,l,h=>by
  rw [Cg,Uc] at h;obtain ⟨u,hu,hl⟩:=h;obtain ⟨p,hp,rfl⟩:=Lk.mp hl;intro i hi;rcases Mw.mp hi with hi | hi
  ·exact bV hu i hi
  ·rw [Lz.mp hi];exact (iV.mp hp).2
theorem lY {m k a b:Nat}{l r:List Nat}:l++[a,b]++r∈Cg m k->a<b:=by
 intro h;induction k generalizing r with
 | zero=>
  rw [Cg,Lz] at h;simp at h
 | succ k ih=>
  rw [Cg,Uc] at h;obtain ⟨u,hu,hl⟩:=h;obtain ⟨p,hp,e⟩:=Lk.mp hl;rcases List.eq_nil_or_concat r with rfl | ⟨r',z,rfl⟩
  ·rw [Ub,show l++[a,b]=l++[a]++[b] by simp] at e;obtain ⟨e1,e2⟩:=List.append_inj' e rfl;cases e2;subst e1;have:=(iV.mp hp).1
   unfold nxt at this;rw [List.getLast?_append] at this;simp at this;lia
  ·rw [List.concat_eq_append,<-List.append_assoc] at e;obtain ⟨e1,e2⟩:=List.append_inj' e rfl;subst e1;exact ih hu
def EY (ts:List Tr):List Nat->Bool
 | [a,b,c,d]=>oN (gt ts a) (gt ts b) (gt ts c) (gt ts d)
 | _=>false
def FF (ts:List Tr):Option (List Nat):=Xj ts.length (EY ts)
def yX (c0:kI):Prop:=∀ {h:Gh} {w:W} {ts:List Tr} {m:Nat} {Q:WK} {E:BK},m<=4000->eV h w ts->ts.length<=12->Fq m ts->(FF ts=FN->Q .non h)->(∀ l,FF ts=Dn l->Q (d7 l) h)->c0 [w] h Q E
theorem Vm {ri pi fr:kI}(hri:mD ri)(hpi:v7 pi)(hfr:Gw fr):yX (jQ ri pi fr):=by
 intro h w ts m Q E hm e hl hs k0 k1;unfold jQ;refine eY rfl (σ:=[Dn w,FN]) rfl<|aV<|ju<|lN<|aN<|au<|fD<|au<|aB rfl<|aH<|jY e ?_
 refine au<|bW<|aH<|hri (m:=ts.length) (k:=4) hl (by decide)<|Cp rfl<|gQ ?_
 have hff:=HN ts.length (EY ts);refine ZM (v:=d7) (pass<|EY ts) (fun l=>Q (d7 l) h) (fun σ h'=>∃ s1,σ = [Dn w,s1]/\h'=h) (Cg ts.length 4) ?_ ?_ ?_ ⟨FN,rfl,rfl⟩
 ·rintro l ml σ h' N ⟨s1,rfl,rfl⟩ hN hR;have ll:=bD ml;have li:=bV ml;match l,ll with
  | [a,b,c,d],_=>
   have ga:∀ i∈[a,b,c,d],Bk m (gt ts i):=fun i hi=>(hs _ (bf (li i hi))).2
   refine bK (σ':=[Dn w,Dn<|d7 [a,b,c,d]]) rfl ?_;rfl'
   refine hpi e li (by simp) ?_;rfl'
   refine hfr (p:=gt ts a) (q:=gt ts b) (r:=gt ts c) (s:=gt ts d) (m:=m) hm (ga a<|by simp) (ga b<|by simp) (ga c<|by simp) (ga d<|by simp) ?_;cases hb:oN (gt ts a) (gt ts b) (gt ts c) (gt ts d) with
   | true=>
    rfl'
    exact hR [a,b,c,d]<|sX hb
   | false=>
    rfl'
    exact hN (tO hb) _ _ ⟨_,rfl,rfl⟩
 ·rintro hn σ h' ⟨s1,rfl,rfl⟩;unfold lH;rfl'
  exact k0<|hff.symm.trans hn
 ·intro l hy;exact k1 l<|hff.symm.trans hy
def Gm (ts:List Tr):List Tr:=ts.foldl (fun acc t=>if t∈acc then acc else acc++[t]) []
theorem wL (ts:List Tr)(t:Tr):Gm (ts++[t])=if t∈Gm ts then Gm ts else Gm ts++[t]:=by
 unfold Gm;rw [List.foldl_append];rfl
theorem iy (ts:List Tr):(Gm ts).Nodup/\(∀ t,t∈Gm ts↔t∈ts)/\(Gm ts).length<=ts.length:=by
 have:∀ n,(Gm (ts.take n)).Nodup/\(∀ t,t∈Gm (ts.take n)↔t∈ts.take n)/\(Gm (ts.take n)).length<=(ts.take n).length:=by
  intro n;induction n with
  | zero=>exact ⟨List.nodup_nil,fun t=>Iff.rfl,Gi _⟩
  | succ n ih=>
   obtain ⟨h1,h2,h3⟩:=ih;rw [M8];cases e:ts[n]? with
   | none=>
    rw [Option.toList_none,Ub];exact ⟨h1,h2,h3⟩
   | some t=>
    rw [Option.toList_some,wL];by_cases hm:t∈Gm (ts.take n)
    ·rw [if_pos hm];refine ⟨h1,fun u=>?_,by rw [Lq];lia⟩;rw [h2,Mw,Lz];refine ⟨.inl,fun h=>h.elim id fun e=>?_⟩;rw [e,<-h2];exact hm
    ·rw [if_neg hm];refine ⟨?_,fun u=>?_,by rw [Lq,Lq];simp only [List.length_singleton];lia⟩
     ·rw [List.nodup_append];refine ⟨h1,by simp,fun a ha b hb=>?_⟩;rw [Lz] at hb;subst hb;intro e;subst e;exact hm ha
     ·rw [Mw,Mw,h2]
 have:=this ts.length
 rwa [Mp] at this
theorem aaG {y:W}{us:List Tr}{t:Tr}{h:Gh}{Q:WK}(e:dH h y=Dn (us.map tw))(k:Q (.bl (!decide (t∈us))) h):Ow (tw t) y h Q:=by
 have ea:(us.map tw).all (Ft 20)=true:=by
  rw [MP];intro w hw;obtain ⟨u,_,rfl⟩:=Lk.mp hw;exact BR 19 u
 have ec:(us.map tw).any (fun u=>FJ u (tw t))=decide (t∈us):=by
  rw [List.any_map];by_cases hm:t∈us
  ·rw [decide_eq_true hm,List.any_eq_true];exact ⟨t,hm,by show FJ (tw t) (tw t)=true;rw [vQ];exact decide_eq_true rfl⟩
  ·rw [decide_eq_false hm,List.any_eq_false];intro u hu;show ¬ FJ (tw u) (tw t)=true;rw [vQ,decide_eq_true_eq];intro e;subst e;exact hm hu
 show (match dH h y with
  | some us=>Hy (Ft 20 (tw t)&&us.all (Ft 20)) (Q (.bl (!(us.any fun u=>FJ u (tw t)))) h) False
  | none=>False)
 rw [e];dsimp only;rw [BR 19,ea,ec];exact k
theorem Qg (n:Nat):∀ ts:List Tr,K3 n (ts.map tw)
 | []=>by simp [K3]
 | t::ts=>by
  have:=Qg n ts
  rw [LQ,K3];exact ⟨by unfold tw;simp [Lo,K3],this⟩
def UnX (c0:kI):Prop:=∀ {h:Gh} {w:W} {ts:List Tr} {Q:WK} {E:BK},Lf h w ts->ts.length<=100->Q (.lst ((Gm ts).map tw)) h->c0 [w] h Q E
theorem Eh:UnX gA:=by
 intro h w ts Q E e hl q;unfold gA;refine J8 rfl (σ:=[Dn w,FN,FN]) rfl ?_;refine aV<|cO<|GR (ws:=[]) (fun R=>rfl) rfl fun g eg og xg=>?_
 refine bK (σ':=[Dn w,Dn<|.loc h.nx,FN]) rfl<|fX<|aV ?_
 have sw:∀ g':Gh,(∀ n,n≠h.nx->g'.c n=h.c n)->eV g' w ts:=by
  intro g' hg;rcases e with e | ⟨n,e,hn,ec⟩
  ·exact .inl e
  ·exact .inr ⟨n,e,by rw [hg n<|by lia];exact ec⟩
 refine afr (i:=0) (w:=w) (ts:=ts) rfl (sw g og) (fun i σ h'=>∃ s2,σ = [Dn w,Dn<|.loc h.nx,s2]/\h'.c h.nx=Dn (.lst<|(Gm<|ts.take i).map tw)/\h'.nx=h.nx+1/\∀ n,n≠h.nx->h'.c n=h.c n) ?_ ?_ ?_ ⟨FN,rfl,eg,xg,og⟩
 ·rintro i σ h' ⟨s2,rfl,h1,h2,h3⟩;exact sw h' h3
 ·rintro i t σ h' N hN et ⟨s2,rfl,h1,h2,h3⟩;have hu:Gm (ts.take (i+1))=if t∈Gm (ts.take i) then Gm (ts.take i) else Gm (ts.take i)++[t]:=by
   rw [M8,et,Option.toList_some,wL]
  have hz:=(iy (ts.take i)).2.2;have hz2:(ts.take i).length<=ts.length:=by rw [Nm];lia
  refine bK (σ':=[Dn w,Dn<|.loc h.nx,Dn<|tw t]) rfl ?_;rfl'
  refine aaG (zy h1) ?_;by_cases hm:t∈Gm (ts.take i)
  ·rw [decide_eq_true hm];rw [if_pos hm] at hu;rfl'
   exact hN _ _ ⟨_,rfl,by rw [hu];exact h1,h2,h3⟩
  ·rw [decide_eq_false hm];rw [if_neg hm] at hu;rfl'
   refine yZ<|aB rfl<|sO h1<|au<|aB rfl<|aH<|Zu h1 (by rw [Gg];lia) fun g2 e2 o2 x2=>?_
   rfl'
   exact hN _ _ ⟨_,rfl,by rw [hu,e2,Nz];rfl,by rw [x2];exact h2,fun n hn=>by rw [o2 n hn];exact h3 n hn⟩
 ·rintro σ h' ⟨s2,rfl,h1,h2,h3⟩;rw [Mp] at h1;unfold jB;refine fX ?_;refine cX ?_;refine aB rfl ?_;refine xW ?_;exact ⟨fun n c hn ec=>by rw [h3 n<|by lia];exact ec,.inr ⟨h.nx,_,rfl,Gi _,h1,Qg _ _,q⟩⟩
noncomputable def za (ts:List Tr):List Nat->Bool
 | [a,b,c]=>jF [gt ts a,gt ts b,gt ts c]
 | _=>false
noncomputable def LL (ts:List Tr):Option (List Nat):=S9 ts.length (za ts)
theorem Bv (p q r:Tr):jF [p,q,r]=decide (dt3 (crs p q) r=0):=by
 by_cases h:dt3 (crs p q) r=0
 ·rw [decide_eq_true h];refine uG<|qm fun k j i kj ji a b c ea eb ec=>?_
  have hi:=(NT.mp ec).1;simp only [RN,List.length_nil] at hi;have hc:k=0/\j=1/\i=2:=by lia
  obtain ⟨rfl,rfl,rfl⟩:=hc;simp at ea eb ec;subst ea eb ec;rw [ug,ug];exact h
 ·rw [decide_eq_false h];exact wN fun a=>h<|a r (by simp) p (by simp) q<|by simp
def L3X (c0:kI):Prop:=∀ {h:Gh} {w:W} {us:List Tr} {m:Nat} {Q:WK} {E:BK},m<=3900->eV h w us->us.length<=12->Fq m us->us.Nodup->(LL us=FN->Q .non h)->(∀ l t,LL us=Dn l->Q (tw t) h)->c0 [w] h Q E
theorem agy {ol jo ri pi:kI}(hol:iM ol)(hjo:JoinOk jo)(hri:mD ri)(hpi:v7 pi):L3X (cI ol jo ri pi):=by
 intro h w us m Q E hm e hl hs nd k0 k1;unfold cI;refine eY rfl (σ:=[Dn w,FN,FN]) rfl<|aV<|ju<|lN<|aN<|au<|fD<|au<|aB rfl<|aH<|jY e ?_
 refine au<|bW<|aH<|hri (m:=us.length) (k:=3) hl (by decide)<|Cp rfl<|gQ ?_
 have hff:=Gk us.length (za us);refine ZM (v:=d7) (pass<|za us) (fun l=>∀ t,Q (tw t) h) (fun σ h'=>∃ s1 s2,σ = [Dn w,s1,s2]/\h'=h) (Cg us.length 3) ?_ ?_ ?_ ⟨FN,FN,rfl,rfl⟩
 ·rintro l ml σ h' N ⟨s1,s2,rfl,rfl⟩ hN hR;have ll:=bD ml;have li:=bV ml;match l,ll with
  | [a,b,c],_=>
   have ga:∀ i∈[a,b,c],Pl (gt us i)/\Bk m (gt us i):=fun i hi=>hs _ (bf (li i hi))
   have hab:a<b:=lY (l:=[]) (r:=[c]) ml;have la:=li a (by simp);have lb:=li b (by simp);have hne:gt us a≠gt us b:=by
    intro e;have e1:=dF la;have e2:=dF lb;rw [e,<-e2] at e1;exact absurd ((List.getElem?_inj la nd).mp e1)<|by lia
   refine bK (σ':=[Dn w,Dn<|d7 [a,b,c],s2]) rfl ?_;rfl'
   refine hpi e li (by simp) ?_;rfl'
   refine hol (ts:=[gt us a,gt us b,gt us c]) (M:=m) (.inl rfl) (by simp) (by lia) ?_ ?_
   ·intro t ht;simp only [J9,Ml,or_false] at ht;rcases ht with rfl | rfl | rfl
    ·exact ga a<|by simp
    ·exact ga b<|by simp
    ·exact ga c<|by simp
   cases hb:jF [gt us a,gt us b,gt us c] with
   | true=>
    rfl'
    refine hjo (p:=gt us a) (q:=gt us b) hm (ga a<|by simp).2 (ga b<|by simp).2 (ga a<|by simp).1 (ga b<|by simp).1 hne fun t _ _ _=>?_;rfl'
    exact hR [a,b,c] (sX hb) t
   | false=>
    rfl'
    exact hN (tO hb) _ _ ⟨_,_,rfl,rfl⟩
 ·rintro hn σ h' ⟨s1,s2,rfl,rfl⟩;unfold dY;rfl'
  exact k0<|hff.symm.trans hn
 ·intro l hy t;exact k1 l t<|hff.symm.trans hy
theorem Dp {i j:Int}{h:Gh}{Q:WK}(c:ab2 i j)(x:Q (.int (i^j.toNat)) h):Mx (.int i) (.int j) h Q:=⟨c,x⟩
noncomputable def kd (ts:List Tr):Str:=if (FF ts).isSome then "four" else if (LL (Gm ts)).isSome then "line" else "few"
def Ed (c0:kI):Prop:=∀ {h:Gh} {w:W} {ts:List Tr} {Q:WK} {E:BK},eV h w ts->(1<=ts.length->ts.length<=12->Q .non h)->(¬ (1<=ts.length/\ts.length<=12)->E ⟨"NoPicture",[]⟩ h)->c0 [w] h Q E
theorem Ca:Ed fQ:=by
 intro h w ts Q E e k k1;unfold fQ;refine eY rfl (σ:=[Dn w]) rfl ?_;rfl'
 refine jY e ?_;rfl'
 refine jK (fun h1=>?_) fun h1=>?_
 ·rfl'
  exact k1<|by lia
 ·rfl'
  refine jY e ?_;rfl'
  refine jK (fun h2=>?_) fun h2=>?_
  ·rfl'
   exact k1<|by lia
  ·rfl'
   exact k (by lia)<|by lia
theorem gq {h:Gh}{Q:WK}(k:Q (.bl false) h):pC .non .non h Q:=k
theorem fC {h:Gh}{ws:List W}{Q:WK}(k:Q (.bl true) h):pC (.tup ws) .non h Q:=k
def Xk (c0:kI):Prop:=∀ {h:Gh} {w:W} {ts:List Tr} {m:Nat} {Q:WK} {E:BK},m<=3900->Lf h w ts->Fq m ts->(1<=ts.length->ts.length<=12->Q (.str (kd ts)) h)->(¬ (1<=ts.length/\ts.length<=12)->E ⟨"NoPicture",[]⟩ h)->c0 [w] h Q E
theorem afw {ch ff un l3:kI}(hch:Ed ch)(hff:yX ff)(hun:UnX un)(hl3:L3X l3):Xk (rW ch ff un l3):=by
 intro h w ts m Q E hm e hs k k1;obtain ⟨u1,u2,u3⟩:=iy ts;unfold rW;refine eY rfl (σ:=[Dn w]) rfl ?_;rfl'
 refine hch e.t (fun a b=>?_) k1;rfl'
 have k:=k a b;refine hff (m:=m) (by lia) e.t b hs (fun e0=>?_) fun l e0=>?_
 ·rfl'
  refine gq ?_;rfl'
  unfold rB;rfl'
  refine hun e (by lia) ?_;rfl'
  refine hl3 (m:=m) hm (.inl rfl) (by lia) (fun t ht=>hs t<|(u2 t).mp ht) u1 (fun e1=>?_) fun l t e1=>?_
  ·rfl'
   refine gq ?_;rfl'
   unfold rM;rfl'
   unfold kd at k;rw [e0,e1] at k;exact k
  ·rfl'
   refine fC ?_;rfl'
   unfold kd at k;rw [e0,e1] at k;exact k
 ·rfl'
  refine fC ?_;rfl'
  unfold kd at k;rw [e0] at k;exact k
theorem cL {σ : Sw}{h:Gh}{Q:Option Int->Gh->Prop}(x:Q FN h):cZ σ h Q:=x
theorem Q7 {ws us:List W}{lo hi:Option Int}{h:Gh}{Q:WK}(e:Ak ws lo hi=us)(x:Q (.lst us) h):pU (.lst ws) lo hi h Q:=by
 subst e;exact x
def lmK (Q:WK):List W->Gh->Prop:=fun ws h1=>gJ ws.length (Q (.loc h1.nx) (h1.new (.lst ws)))
theorem zbF {ma:MA}{σ : Sw}{h:Gh}{Q:WK}(x:ma σ h (lmK Q)):uw ma σ h Q:=x
theorem aas {ws:List W}{h:Gh}{Q:WK}(hz:Ny ws.length 1000=true)(x:∀ g:Gh,g.c h.nx=Dn (.lst ws)->(∀ n,n≠h.nx->g.c n=h.c n)->g.nx=h.nx+1->Q (.loc h.nx) g):lmK Q ws h:=dI hz (x _ (wU _ _) (fun _ e=>tZ e) rfl)
theorem aah:(20:Int)<10^(9:Int).toNat/\Sm 31 ((10:Int)^(9:Int).toNat):=by
 rw [show (10:Int)^(9:Int).toNat=1000000000 by decide];exact ⟨by decide,by unfold Sm;decide +kernel⟩
theorem V5 {n:Int}(h0:0<=n)(h1:n<=30):Sm 8000 n:=Sm.le (i:=30) (.mono (m:=64) (.lit rfl) (by decide)) (by lia)
theorem acp {d:Int}(h0:0<=d)(h1:d<41):Sm 6 (d - 20):=Sm.le (i:=20) (by unfold Sm;decide +kernel) (by lia)
theorem agA {a b c:Int}{h:Gh}{Q:WK}(k:Q (.bl (decide ((a,b,c)=((0,0,0):Tr)))) h):Gz (.lst [.int a,.int b,.int c]) (.lst [.int 0,.int 0,.int 0]) h Q:=by
 show Q (.bl (FJ (.lst [.int a,.int b,.int c]) (.lst [.int 0,.int 0,.int 0]))) h;rw [Yq];have e:decide (a=0/\b=0/\c=0)=decide ((a,b,c)=((0,0,0):Tr)):=decide_eq_decide.mpr (by simp);rw [e];exact k
def Z6 (c0:kI):Prop:=∀ {h:Gh} {n m:Nat} {p q:Tr} {Q:WK} {E:BK},m<=1000->Rs h n->Pl p->Bk m p->Bk m q->(∀ (t:Tr) (h':Gh),Pl t->Bk (m+7) t->Rs h' n->Kz n h h'->Q (tw t) h')->c0 [tw p,tw q,.loc n] h Q E
theorem aeX {dg pl:kI}(hdg:jM dg)(hpl:qO pl):Z6 (qZ dg pl):=by
 intro h n m p q Q E hm hr pp sp sq k;unfold qZ;rfl'
 refine hdg (n:=n) (many:=41) hr (by decide) (by unfold Sm;decide +kernel) fun d1 h1 d10 d11 r1 o1=>?_;rfl'
 refine hdg (n:=n) (many:=41) r1 (by decide) (by unfold Sm;decide +kernel) fun d2 h2 d20 d21 r2 o2=>?_;have s1:=acp d10 d11;have s2:=acp d20 d21;have kp:=k p h2 pp (sp.mono (by lia)) r2 (o1.trans o2);obtain ⟨x1,x2,x3⟩:=p;obtain ⟨y1,y2,y3⟩:=q;obtain ⟨a1,a2,a3⟩:=sp;obtain ⟨b1,b2,b3⟩:=sq;simp only at a1 a2 a3 b1 b2 b3;have sv:Bk (m+7) ((d1 - 20)*x1+(d2 - 20)*y1,(d1 - 20)*x2+(d2 - 20)*y2,(d1 - 20)*x3+(d2 - 20)*y3):=⟨((s1.mul a1).add (s2.mul b1)).mono (by lia),((s1.mul a2).add (s2.mul b2)).mono (by lia),((s1.mul a3).add (s2.mul b3)).mono (by lia)⟩
 rfl'
 refine agA ?_;rfl'
 refine jK (fun _=>?_) fun nz=>?_
 ·rfl'
  exact kp
 ·rfl'
  unfold tQ;rfl'
  exact hpl.tr (u:=((d1 - 20)*x1+(d2 - 20)*y1,(d1 - 20)*x2+(d2 - 20)*y2,(d1 - 20)*x3+(d2 - 20)*y3)) (m:=m+7) (.inr rfl) nz sv (by lia) fun t pt _ st=>k t h2 pt st r2<|o1.trans o2
theorem eV.ati {h:Gh}{w:W}{ts:List Tr}(e:eV h w ts){d:Int}(h0:0<=d)(h1:d<(ts.length:Int)){Q:WK}(k:∀ t,t∈ts->Q (tw t) h):Bf w (.int d) h Q:=by
 have hi:d.toNat<ts.length:=by lia
 have:=e.at hi (k _ (bf hi))
 rwa [show ((d.toNat:Nat):Int)=d by lia] at this
def Yk (c0:kI):Prop:=∀ {h:Gh} {n r m:Nat} {ts:List Tr} {st:Int} {Q:WK} {E:BK},31<=m->m<=900->h.c n=Dn (.lst (ts.map tw))->n≠r->Rs h r->Fq m ts->1<=ts.length->ts.length<=12->(∀ (t:Tr) (h':Gh),Pl t->Bk (m+7) t->Rs h' r->Kz r h h'->Q (tw t) h')->c0 [.loc n,.int st,.loc r] h Q E
theorem w_next {dg sp mx:kI}(hdg:jM dg)(hsp:zY sp)(hmx:Z6 mx):Yk (xG dg sp mx):=by
 intro h n r m ts st Q E hm0 hm ec hne hr hs l1 l2 k;obtain ⟨f0,f1⟩:=aah;unfold xG;rfl'
 refine hdg (n:=r) (many:=6) hr (by decide) (by unfold Sm;decide +kernel) fun way h1 w0 w1 r1 o1=>?_;have ec1:eV h1 (.loc n) ts:=.inr ⟨n,rfl,by rw [o1.2 _ hne];exact ec⟩;rfl'
 refine jY ec1 ?_;rfl'
 refine hdg (n:=r) (many:=(ts.length:Int)) r1 (by lia) (V5 (by lia)<|by lia) fun d1 h2 d10 d11 r2 o2=>?_;have o2:=o1.trans o2;have ec2:eV h2 (.loc n) ts:=.inr ⟨n,rfl,by rw [o2.2 _ hne];exact ec⟩;refine ec2.ati d10 d11 fun one m1=>?_;rfl'
 refine jY ec2 ?_;rfl'
 refine hdg (n:=r) (many:=(ts.length:Int)) r2 (by lia) (V5 (by lia)<|by lia) fun d2 h3 d20 d21 r3 o3=>?_;have o3:=o2.trans o3;have ec3:eV h3 (.loc n) ts:=.inr ⟨n,rfl,by rw [o3.2 _ hne];exact ec⟩;refine ec3.ati d20 d21 fun oth m2=>?_;have k3:∀ (t:Tr) (h':Gh),Pl t->Bk (m+7) t->Rs h' r->Kz r h3 h'->Q (tw t) h':=fun t h' a b c d=>k t h' a b c (o3.trans d)
 have mix:∀ {p q:Tr} {E':BK},p∈ts->q∈ts->mx [tw p,tw q,.loc r] h3 Q E':=fun hp hq=>hmx (m:=m) (by lia) r3 (hs _ hp).1 (hs _ hp).2 (hs _ hq).2 k3
 have t4:oR dg sp mx E { nx:=fun _ h'=>Q .non h',rt:=Q } [Dn (.loc n),Dn (.int st),Dn (.loc r),Dn (.int way),Dn (tw one),Dn (tw oth)] h3:=by
  have t5:pD dg sp mx E { nx:=fun _ h'=>Q .non h',rt:=Q } [Dn (.loc n),Dn (.int st),Dn (.loc r),Dn (.int way),Dn (tw one),Dn (tw oth)] h3:=by
   unfold pD;rfl'
   refine jK (fun _=>?_) fun _=>?_
   ·rfl'
    exact mix m1 m2
   ·rfl'
    unfold vo;rfl'
    refine Dp ⟨by decide,by decide,by decide⟩ ?_;rfl'
    exact hsp (n:=r) r3 f0 f1 (by decide) fun t h4 pt st r4 o4=>k3 t h4 pt (st.mono<|by lia) r4 o4
  have ko:=k3 one h3 (hs _ m1).1 ((hs _ m1).2.mono (by lia)) r3 (.refl _ _);unfold oR;rfl'
  refine jK (fun _=>?_) fun _=>?_
  ·rfl'
   refine jY ec3 ?_;rfl'
   refine jK (fun _=>?_) fun _=>?_
   ·rfl'
    exact ko
   ·rfl'
    refine jK (fun _=>?_) fun _=>?_
    ·rfl'
     exact ko
    ·rfl'
     exact t5
  ·rfl'
   refine jK (fun _=>?_) fun _=>?_
   ·rfl'
    exact ko
   ·rfl'
    exact t5
 rfl'
 refine jK (fun _=>?_) fun _=>?_
 ·rfl'
  refine jY ec3 ?_;rfl'
  refine jK (fun hl=>?_) fun _=>?_
  ·rfl'
   refine jK (fun _=>?_) fun _=>?_
   ·rfl'
    refine ec3.at (i:=0) (by lia) ?_;rfl'
    refine ec3.at (i:=1) (by lia) ?_;rfl'
    exact mix (bf<|by lia)<|bf<|by lia
   ·rfl'
    exact t4
  ·rfl'
   exact t4
 ·rfl'
  exact t4
theorem Er {r:MM}{mo:ME}{ma:MA}{σ : Sw}{h:Gh}{Q:WK}(x:mo σ h fun x h1=>vH h1 x (ma σ h1 fun xs h2=>r x xs h2 Q)):aaA r mo ma σ h Q:=x
theorem Z7 {w:W}{us:List W}{h:Gh}{P:Prop}(e:dH h w=Dn us)(x:P):vH h w P:=by
 unfold vH;rw [e];exact x
def co (i:Int)(t:Tr):Int:=if i=0 then t.1 else if i=1 then t.2.1 else t.2.2
def cn (l:List Tr)(t:Tr):Nat:=l.countP fun u=>decide (u=t)
def gU (p q r s:Tr):Prop:=(p=q/\q=r)\/(p=q/\q=s)\/(p=r/\r=s)\/(q=r/\r=s)
instance (p q r s:Tr):Decidable (gU p q r s):=inferInstanceAs (Decidable (_\/_))
theorem LC {x:W}{ts:List Tr}{t:Tr}{h:Gh}{Q:WK}(e:dH h x=Dn (ts.map tw))(k:Q (.int (cn ts t:Int)) h):yx x [tw t] h Q:=by
 have ea:(ts.map tw).all (Ft 20)=true:=by
  rw [MP];intro w hw;obtain ⟨u,_,rfl⟩:=Lk.mp hw;exact BR 19 u
 have ec:(ts.map tw).countP (fun u=>FJ u (tw t))=cn ts t:=by
  unfold cn;rw [List.countP_map];congr 1
  funext u;exact vQ u t
 show (match dH h x with
  | some us=>Hy (Ft 20 (tw t)&&us.all (Ft 20)) (Q (.int (us.countP fun u=>FJ u (tw t))) h) False
  | none=>False)
 rw [e];dsimp only;rw [BR 19,ea,ec];exact k
theorem cn4 (p q r s x:Tr):(cn [p,q,r,s] x:Int)=(if p=x then 1 else 0)+(if q=x then 1 else 0)+(if r=x then 1 else 0)+(if s=x then 1 else 0):=by
 simp only [cn,List.countP_cons,List.countP_nil,decide_eq_true_eq];by_cases a:p=x <;> by_cases b:q=x <;> by_cases c:r=x <;> by_cases d:s=x <;> simp [a,b,c,d]
theorem abX {p q r s:Tr}{M:Int}(hm:M∈[(cn [p,q,r,s] p:Int),(cn [p,q,r,s] q:Int),(cn [p,q,r,s] r:Int),(cn [p,q,r,s] s:Int)])(hle:∀ a,a∈[(cn [p,q,r,s] p:Int),(cn [p,q,r,s] q:Int),(cn [p,q,r,s] r:Int),(cn [p,q,r,s] s:Int)]->a<=M):decide (M>2)=decide (gU p q r s):=by
 refine decide_eq_decide.mpr ⟨fun g=>?_,fun g=>?_⟩
 ·have:∃ x,(cn [p,q,r,s] x:Int)=M:=by
   simp only [J9,Ml,or_false] at hm;rcases hm with h | h | h | h <;> exact ⟨_,h.symm⟩
  obtain ⟨x,hx⟩:=this;rw [cn4] at hx;by_cases a:p=x <;> by_cases b:q=x <;> by_cases c:r=x <;> by_cases d:s=x <;> first | exact .inl ⟨a.trans b.symm,b.trans c.symm⟩ | exact .inr (.inl ⟨a.trans b.symm,b.trans d.symm⟩) | exact .inr (.inr (.inl ⟨a.trans c.symm,c.trans d.symm⟩)) | exact .inr (.inr (.inr ⟨b.trans c.symm,c.trans d.symm⟩)) | (simp [a,b,c,d] at hx;lia)
 ·have h1:=hle (cn [p,q,r,s] p) (by simp);have h2:=hle (cn [p,q,r,s] q) (by simp);rw [cn4] at h1 h2;rcases g with ⟨rfl,rfl⟩ | ⟨rfl,rfl⟩ | ⟨rfl,rfl⟩ | ⟨rfl,rfl⟩
  ·simp only [if_true] at h1;split at h1 <;> lia
  ·simp only [if_true] at h1;split at h1 <;> lia
  ·simp only [if_true] at h1;split at h1 <;> lia
  ·simp only [if_true] at h2;split at h2 <;> lia
def QZ (c0:kI):Prop:=∀ {h:Gh} {p q r s:Tr} {Q:WK} {E:BK},Q (.bl (decide (gU p q r s))) h->c0 [q4 p q r s] h Q E
theorem ahf:QZ d8:=by
 intro h p q r s Q E k;unfold d8 q4;rfl'
 refine Er ?_;rfl'
 refine Z7 (us:=[tw p,tw q,tw r,tw s]) rfl ?_;rfl'
 refine LC (ts:=[p,q,r,s]) rfl ?_;rfl'
 refine Er ?_;rfl'
 refine Z7 (us:=[tw p,tw q,tw r,tw s]) rfl ?_;rfl'
 refine LC (ts:=[p,q,r,s]) rfl ?_;rfl'
 refine Er ?_;rfl'
 refine Z7 (us:=[tw p,tw q,tw r,tw s]) rfl ?_;rfl'
 refine LC (ts:=[p,q,r,s]) rfl ?_;rfl'
 refine Er ?_;rfl'
 refine Z7 (us:=[tw p,tw q,tw r,tw s]) rfl ?_;rfl'
 refine LC (ts:=[p,q,r,s]) rfl ?_;rfl'
 refine ⟨[(cn [p,q,r,s] p:Int),(cn [p,q,r,s] q:Int),(cn [p,q,r,s] r:Int),(cn [p,q,r,s] s:Int)],rfl,Nat.succ_pos _,fun M hM hle=>?_⟩;rfl'
 rw [abX hM hle];exact k
def Px (c0:kI):Prop:=∀ {h:Gh} {p q:Tr} {i:Int} {m:Nat} {Q:WK} {E:BK},i=0\/i=1\/i=2->m<=4000->Bk m p->Bk m q->Q (.int (co i (crs p q))) h->c0 [tw p,tw q,.int i] h Q E
theorem zbj:Px uf:=by
 intro h p q i m Q E hi hm sp sq k;obtain ⟨p1,p2,p3⟩:=p;obtain ⟨q1,q2,q3⟩:=q;obtain ⟨a1,a2,a3⟩:=sp;obtain ⟨b1,b2,b3⟩:=sq;simp only at a1 a2 a3 b1 b2 b3;unfold uf;rcases hi with rfl | rfl | rfl
 ·rfl'
  refine vL (by decide) ?_;rfl'
  refine vL (by decide) ?_;rfl'
  exact k
 ·rfl'
  refine vL (by decide) ?_;rfl'
  refine vL (by decide) ?_;rfl'
  exact k
 ·rfl'
  refine vL (by decide) ?_;rfl'
  refine vL (by decide) ?_;rfl'
  exact k
theorem yR {i:Int}{m:Nat}{t:Tr}(h:Bk m t):Sm m (co i t):=by
 unfold co;split
 ·exact h.1
 split
 ·exact h.2.1
 ·exact h.2.2
def Nv (t:Tr):Int:=if t.1≠0 then 0 else if t.2.1≠0 then 1 else 2
theorem Zg (t:Tr):Nv t=0\/Nv t=1\/Nv t=2:=by
 unfold Nv;split
 ·exact .inl rfl
 split
 ·exact .inr<|.inl rfl
 ·exact .inr<|.inr rfl
def fo (p q r s:Tr):Tr:=if q≠p then q else if r≠p then r else s
def ixp (p q r s:Tr):Int:=Nv (crs p (fo p q r s))
def tn (p q r s:Tr):Int×Int:=(co (ixp p q r s) (crs p r)*co (ixp p q r s) (crs q s),co (ixp p q r s) (crs p s)*co (ixp p q r s) (crs q r))
theorem Jk (p q r s:Tr):fo p q r s∈[p,q,r,s]:=by
 unfold fo;split
 ·simp
 split
 ·simp
 ·simp
theorem Ju {p q r s:Tr}(h:¬ (q=p/\r=p/\s=p)):fo p q r s≠p:=by
 unfold fo;split
 ·assumption
 split
 ·assumption
 ·rename_i a b;rw [NP] at a b;exact fun c=>h ⟨a,b,c⟩
theorem agX {p q r s:Tr}(h:¬ (q=p/\r=p/\s=p)):∃ us,[p,q,r,s].filter (·≠p)=fo p q r s::us:=by
 unfold fo;by_cases a:q=p
 ·by_cases b:r=p
  ·have c:s≠p:=fun c=>h ⟨a,b,c⟩
   exact ⟨[],by simp [a,b,c]⟩
  ·exact ⟨_,by rw [if_neg<|by simp [a],if_pos b];simp [a,b];rfl⟩
 ·exact ⟨_,by rw [if_pos a];simp [a];rfl⟩
def PB (c0:kI):Prop:=∀ {h:Gh} {p q r s:Tr} {m:Nat} {Q:WK} {E:BK},m<=4000->(∀ t∈[p,q,r,s],Pl t/\Bk m t)->¬ (q=p/\r=p/\s=p)->Q (.int (ixp p q r s)) h->c0 [q4 p q r s] h Q E
theorem afy {cr:kI}(hcr:Fz cr):PB (lU cr):=by
 intro h p q r s m Q E hm hs hne k;obtain ⟨us,eus⟩:=agX hne;have mu:=Jk p q r s;have nu:=Ju hne;unfold ixp at k;unfold lU;refine eY rfl (σ:=[Dn<|q4 p q r s,FN,FN]) rfl<|aV<|cO ?_
 refine zN (t0:=p) (r:=[q,r,s]) (.inl rfl) (by simp) ?_;rw [eus];generalize fo p q r s=u at mu nu k eus;have c0:=jT (hs p (by simp)).1 (hs u mu).1 (MK nu);refine bK (σ':=[Dn<|q4 p q r s,Dn<|.lst (tw u::us.map tw),FN]) rfl<|fX ?_
 unfold q4;rfl'
 refine eU (ws:=tw u::us.map tw) (w:=tw u) rfl (rY (j:=0) rfl) ?_;rfl'
 refine hcr (m:=m) (by lia) (hs p<|by simp).2 (hs u mu).2 ?_;generalize crs p u=L at c0 k;obtain ⟨x,y,z⟩:=L;unfold Nv at k;dsimp only at k;rfl'
 refine BX (fun x0=>?_) fun x0=>?_
 ·rw [if_pos x0] at k;rfl'
  refine BX (fun y0=>?_) fun y0=>?_
  ·rfl'
   refine BX (fun z0=>?_) fun z0=>?_
   ·rfl'
    exact k
   ·rfl'
    exact k
  ·rfl'
   refine BX (fun z0=>?_) fun z0=>?_
   ·rfl'
    exact k
   ·rfl'
    exact k
 ·rw [if_neg x0] at k;rfl'
  refine BX (fun y0=>?_) fun y0=>?_
  ·rw [if_pos y0] at k;rfl'
   refine BX (fun z0=>?_) fun z0=>?_
   ·rfl'
    exact k
   ·rfl'
    exact k
  ·rw [if_neg y0] at k;rfl'
   refine BX (fun z0=>?_) fun z0=>?_
   ·rfl'
    exact k
   ·refine absurd ?_ c0;rw [NP] at x0 y0 z0;exact HB x0<|HB y0 z0
def acy (c0:kI):Prop:=∀ {h:Gh} {p q r s:Tr} {m:Nat} {Q:WK} {E:BK},m<=1000->(∀ t∈[p,q,r,s],Pl t/\Bk m t)->¬ (q=p/\r=p/\s=p)->Q (.lst [.int (tn p q r s).1,.int (tn p q r s).2]) h->c0 [q4 p q r s] h Q E
theorem X5 {po ta:kI}(hpo:PB po)(hta:Px ta):acy (fM po ta):=by
 intro h p q r s m Q E hm hs hne k;have sp:=(hs p (by simp)).2;have sq:=(hs q (by simp)).2;have sr:=(hs r (by simp)).2;have ss:=(hs s (by simp)).2;unfold fM;rfl'
 refine hpo (m:=m) (by lia) hs hne ?_;have hi:=Zg (crs p (fo p q r s));unfold tn at k;change ixp p q r s=0\/ixp p q r s=1\/ixp p q r s=2 at hi
 generalize ixp p q r s=i at k hi;have s1:=yR (i:=i) (fu sp sr);have s2:=yR (i:=i) (fu sq ss);have s3:=yR (i:=i) (fu sp ss);have s4:=yR (i:=i) (fu sq sr);unfold q4;rfl'
 refine hta hi (by lia) sp sr ?_;rfl'
 refine hta hi (by lia) sq ss ?_;rfl'
 refine hta hi (by lia) sp ss ?_;rfl'
 refine hta hi (by lia) sq sr ?_;rfl'
 exact k
def MF (a b c d s:Tr):Tr:=(dt3 (crs s b) c*dt3 (crs a d) c*dt3 (crs a b) d,dt3 (crs a s) c*dt3 (crs d b) c*dt3 (crs a b) d,dt3 (crs a b) s*dt3 (crs d b) c*dt3 (crs a d) c)
theorem acB (a b c s:Tr):sc (dt3 (crs a b) c) s=(dt3 (crs s b) c*a.1+dt3 (crs a s) c*b.1+dt3 (crs a b) s*c.1,dt3 (crs s b) c*a.2.1+dt3 (crs a s) c*b.2.1+dt3 (crs a b) s*c.2.1,dt3 (crs s b) c*a.2.2+dt3 (crs a s) c*b.2.2+dt3 (crs a b) s*c.2.2):=by
 obtain ⟨a1,a2,a3⟩:=a;obtain ⟨b1,b2,b3⟩:=b;obtain ⟨c1,c2,c3⟩:=c;obtain ⟨s1,s2,s3⟩:=s;simp only [sc,dt3,crs];refine HB ?_ (HB ?_ ?_) <;> simp only <;> grind
theorem Dq {a b c d:Tr}(f:Free a b c d):dt3 (crs a d) c≠0/\dt3 (crs d b) c≠0:=by
 have e1:dt3 (crs a d) c = - dt3 (crs a c) d:=by simp only [dt3,crs];grind
 have e2:dt3 (crs d b) c=dt3 (crs b c) d:=by simp only [dt3,crs];grind
 exact ⟨by rw [e1];exact fun z=>f.2.2.1<|by lia,by rw [e2];exact f.2.2.2⟩
theorem WT {a b c d s:Tr}(f:Free a b c d)(hs:s≠(0,0,0)):MF a b c d s≠(0,0,0):=by
 intro e;obtain ⟨h1,h2⟩:=Dq f;unfold MF at e;obtain ⟨e1,e2,e3⟩:=by simpa only [Ol] using e
 have z:∀ {x y w:Int},y≠0->w≠0->x*y*w=0->x=0:=fun hy hw h=>by
  rcases Kw.mp h with h | h
  ·exact (Kw.mp h).resolve_right hy
  ·exact absurd h hw
 have z1:=z h1 f.2.1 e1;have z2:=z h2 f.2.1 e2;have z3:=z h2 h1 e3;have:=acB a b c s
 rw [z1,z2,z3] at this;have f1:=f.1;generalize dt3 (crs a b) c=D at this f1;obtain ⟨s1,s2,s3⟩:=s;simp only [sc,Ol,Rz,Int.add_zero] at this;obtain ⟨g1,g2,g3⟩:=this;exact hs<|by rw [(Kw.mp g1).resolve_right f1,(Kw.mp g2).resolve_right f1,(Kw.mp g3).resolve_right f1]
theorem dz {m:Nat}{p q r:Tr}(sp:Bk m p)(sq:Bk m q)(sr:Bk m r):Sm (3*m+4) (dt3 (crs p q) r):=(Cz (fu sp sq) sr).mono (by lia)
def acJ (c0:kI):Prop:=∀ {h:Gh} {a b c d s:Tr} {m:Nat} {Q:WK} {E:BK},m<=800->Bk m a->Bk m b->Bk m c->Bk m d->Bk m s->Free a b c d->s≠(0,0,0)->(∀ t,Pl t->Gq (MF a b c d s) t->Q (tw t) h)->c0 [q4 a b c d,tw s] h Q E
theorem ahh {pl tu:kI}(hpl:qO pl)(htu:tV tu):acJ (rE pl tu):=by
 intro h a b c d s m Q E hm sa sb sc' sd ss f hs k;have ne:=WT f hs;have t1:=dz ss sb sc';have t2:=dz sa sd sc';have t3:=dz sa sb sd;have t4:=dz sa ss sc';have t5:=dz sd sb sc';have t6:=dz sa sb ss;have si:Bk (9*m+12) (MF a b c d s):=⟨((t1.mul t2).mul t3).mono (by lia),((t4.mul t5).mul t3).mono (by lia),((t6.mul t5).mul t2).mono (by lia)⟩
 have c1:∀ {x y:Int},Sm (3*m+4) x->Sm (3*m+4) y->cY x y:=fun hx hy=>.of hx hy (by lia) (by lia)
 have c2:∀ {x y z:Int},Sm (3*m+4) x->Sm (3*m+4) y->Sm (3*m+4) z->cY (x*y) z:=fun hx hy hz=>.of (hx.mul hy) hz (by lia) (by lia)
 unfold rE q4;rfl'
 refine htu (by lia) ss sb sc' ?_;rfl'
 refine htu (by lia) sa sd sc' ?_;refine mU (c1 t1 t2) ?_;rfl'
 refine htu (by lia) sa sb sd ?_;refine mU (c2 t1 t2 t3) ?_;rfl'
 refine htu (by lia) sa ss sc' ?_;rfl'
 refine htu (by lia) sd sb sc' ?_;refine mU (c1 t4 t5) ?_;rfl'
 refine htu (by lia) sa sb sd ?_;refine mU (c2 t4 t5 t3) ?_;rfl'
 refine htu (by lia) sa sb ss ?_;rfl'
 refine htu (by lia) sd sb sc' ?_;refine mU (c1 t6 t5) ?_;rfl'
 refine htu (by lia) sa sd sc' ?_;refine mU (c2 t6 t5 t2) ?_;rfl'
 exact hpl.tr (u:=MF a b c d s) (.inl rfl) ne si (by lia) fun t pt par _=>k t pt par
def YZ (c0:kI):Prop:=∀ {h:Gh} {a b c d:Tr} {Q:WK} {E:BK},Q (.bl (decide (decide (a=b)≠decide (c=d)))) h->c0 [.lst [tw a,tw b],.lst [tw c,tw d]] h Q E
theorem Xm:YZ iJ:=by
 intro h a b c d Q E k;unfold iJ;rfl'
 exact k
def Jf (c0:kI):Prop:=∀ {h:Gh} {p q r p' q' r':Tr} {m:Nat} {Q:WK} {E:BK},m<=4000->Fq m [p,q,r]->Fq m [p',q',r']->Q (.bl (decide (decide (dt3 (crs p q) r=0)≠decide (dt3 (crs p' q') r'=0)))) h->c0 [.lst [tw p,tw q,tw r],.lst [tw p',tw q',tw r']] h Q E
theorem aeR {ol:kI}(hol:iM ol):Jf (fV ol):=by
 intro h p q r p' q' r' m Q E hm o1 o2 k;unfold fV;rfl'
 refine hol (ts:=[p,q,r]) (M:=m) (.inl rfl) (by simp) hm o1 ?_;rw [Bv];rfl'
 refine hol (ts:=[p',q',r']) (M:=m) (.inl rfl) (by simp) hm o2 ?_;rw [Bv];rfl'
 exact k
noncomputable def R6 (p q r s p' q' r' s':Tr):Bool:=jF [p,q,r,s]&&(!decide (gU p q r s)&&decide ((tn p q r s).1*(tn p' q' r' s').2≠(tn p q r s).2*(tn p' q' r' s').1))
theorem XR {p q r s:Tr}{m:Nat}(h:∀ t∈[p,q,r,s],Pl t/\Bk m t):Sm (4*m+2) (tn p q r s).1/\Sm (4*m+2) (tn p q r s).2:=by
 have sp:=(h p (by simp)).2;have sq:=(h q (by simp)).2;have sr:=(h r (by simp)).2;have ss:=(h s (by simp)).2;exact ⟨((yR<|fu sp sr).mul (yR<|fu sq ss)).mono (by lia),((yR<|fu sp ss).mul (yR<|fu sq sr)).mono (by lia)⟩
theorem adW {p q r s:Tr}(h:¬ gU p q r s):¬ (q=p/\r=p/\s=p):=fun ⟨a,b,_⟩=>h (.inl ⟨a.symm,a.trans b.symm⟩)
def Kh (c0:kI):Prop:=∀ {h:Gh} {p q r s p' q' r' s':Tr} {m:Nat} {Q:WK} {E:BK},m<=900->Fq m [p,q,r,s]->Fq m [p',q',r',s']->(¬ gU p q r s->¬ (q'=p'/\r'=p'/\s'=p'))->Q (.bl (R6 p q r s p' q' r' s')) h->c0 [q4 p q r s,q4 p' q' r' s'] h Q E
theorem ahu {ol th tn':kI}(hol:iM ol)(hth:QZ th)(htn:acy tn'):Kh (fK ol th tn'):=by
 intro h p q r s p' q' r' s' m Q E hm o1 o2 hne k;unfold R6 at k;obtain ⟨s1,s2⟩:=XR o1;obtain ⟨s3,s4⟩:=XR o2;unfold fK;rfl'
 refine hol (ts:=[p,q,r,s]) (M:=m) (.inl rfl) (by simp) (by lia) o1 ?_;cases hf:jF [p,q,r,s] with
 | false=>
  rw [hf] at k;rfl'
  exact k
 | true=>
  rw [hf] at k;rfl'
  refine hth ?_;rfl'
  refine jK (fun ha=>?_) fun ha=>?_
  ·rw [decide_eq_true ha] at k;rfl'
   exact k
  ·rw [decide_eq_false ha] at k;rfl'
   unfold g8;rfl'
   refine htn (m:=m) (by lia) o1 (adW ha) ?_;rfl'
   refine htn (m:=m) (by lia) o2 (hne ha) ?_;generalize tn p q r s=u at k s1 s2;generalize tn p' q' r' s'=v at k s3 s4;rfl'
   exact k
def e0:Tr:=(1,0,0)
def e1:Tr:=(0,1,0)
def e2:Tr:=(0,0,1)
def e3:Tr:=(1,1,1)
theorem zaD:Free e0 e1 e2 e3:=⟨by decide,by decide,by decide,by decide⟩
theorem CZ:Bk 2 e0/\Bk 2 e1/\Bk 2 e2/\Bk 2 e3:=by
 have o:Sm 2 1:=by unfold Sm;decide +kernel
 have z:Sm 2 0:=by unfold Sm;decide +kernel
 exact ⟨⟨o,z,z⟩,⟨z,o,z⟩,⟨z,z,o⟩,⟨o,o,o⟩⟩
def yD (p q r s:Tr)(M:Mt):Prop:=det M≠0/\To M p e0/\To M q e1/\To M r e2/\To M s e3
def MbG (c0:kI):Prop:=∀ {h:Gh} {p q r s:Tr} {m:Nat} {Q:WK} {E:BK},m<=210->Bk m p->Bk m q->Bk m r->Bk m s->Free p q r s->(∀ M,yD p q r s M->HI (8*m+23) M->Q (mw M) h)->c0 [q4 p q r s,q4 e0 e1 e2 e3] h Q E
theorem abC {th ba fr fm:kI}(hth:ZP th)(hba:Fj ba)(hfr:Gw fr)(hfm:PK fm):MbG (jl th ba fr fm):=by
 intro h p q r s m Q E hm sp sq sr ss f k;obtain ⟨sa,sb,sc',sd⟩:=CZ;have g:=zaD;unfold jl;rfl'
 refine hfr (m:=m) (by lia) sp sq sr ss ?_;rw [j8 f];rfl'
 refine hfr (m:=2) (by decide) sa sb sc' sd ?_;rw [j8 g];rfl'
 unfold jN;rfl'
 refine hfm (m:=m) (by lia) sp sq sr ss f.1 f.2.1 f.2.2.1 f.2.2.2 fun G pG parG sG=>?_;have dG:det G≠0:=parG.det.mp (qY f.1 f.2.1 f.2.2.1 f.2.2.2);rfl'
 refine hba (m:=4*m+4) (by lia) sG dG fun N pN parN sN=>?_;have dN:det N≠0:=parN.det.mp (tY dG);rfl'
 refine hfm (m:=2) (by decide) sa sb sc' sd g.1 g.2.1 g.2.2.1 g.2.2.2 fun Go pGo parGo sGo=>?_;have dGo:det Go≠0:=parGo.det.mp (qY g.1 g.2.1 g.2.2.1 g.2.2.2);have sGo:HI 12 Go:=sGo;rfl'
 refine hth (m:=4*m+4+(4*m+4)+1) (n:=12) (by lia) (by decide) sN sGo dN dGo fun M pM parM sM'=>?_;have dM:det M≠0:=parM.det.mp (by rw [vd];exact IV dGo dN);obtain ⟨l1,l2,l3,l4⟩:=uh f parG;obtain ⟨m1,m2,m3,m4⟩:=uh g parGo;rfl'
 exact k M ⟨dM,Oo dG l1 m1 parN parM,Oo dG l2 m2 parN parM,Oo dG l3 m3 parN parM,Oo dG l4 m4 parN parM⟩<|sM'.mono<|by lia
def V2 (p q r s:Tr)(M:Mt):Prop:=det M≠0/\HI 1623 M/\To M p e0/\To M q e1/\To M r e2/\To M s e3
def MbV (c0:kI):Prop:=∀ {h:Gh} {p q r s:Tr} {Q:WK} {E:BK},Bk 200 p->Bk 200 q->Bk 200 r->Bk 200 s->Free p q r s->(∀ M,V2 p q r s M->Q (mw M) h)->c0 [q4 p q r s,q4 e0 e1 e2 e3] h Q E
theorem Zi {mb:kI}(h:MbG mb):MbV mb:=fun sp sq sr ss f k=>h (by decide) sp sq sr ss f fun M l b=>k M ⟨l.1,b,l.2⟩
def VD (c0:kI):Prop:=∀ {h:Gh} {Q:WK} {E:BK},Q (q4 e0 e1 e2 e3) h->c0 [] h Q E
theorem xX:VD Ar:=by
 intro h Q E k;unfold Ar;rfl'
 exact k
theorem Xh (M:Mt)(a b c:Tr)(x y z:Int):vm M (x*a.1+y*b.1+z*c.1,x*a.2.1+y*b.2.1+z*c.2.1,x*a.2.2+y*b.2.2+z*c.2.2)=(x*(vm M a).1+y*(vm M b).1+z*(vm M c).1,x*(vm M a).2.1+y*(vm M b).2.1+z*(vm M c).2.1,x*(vm M a).2.2+y*(vm M b).2.2+z*(vm M c).2.2):=by
 obtain ⟨⟨m1,m2,m3⟩,⟨m4,m5,m6⟩,m7,m8,m9⟩:=M;obtain ⟨a1,a2,a3⟩:=a;obtain ⟨b1,b2,b3⟩:=b;obtain ⟨c1,c2,c3⟩:=c;simp only [vm,dt3];refine HB ?_ (HB ?_ ?_) <;> simp only <;> grind
def Oa (t w:Tr):Prop:=∃ u v:Int,u≠0/\v≠0/\sc u t=sc v w
theorem Oa.par {t w u:Tr}(h:Oa t w)(p:Gq t u):Oa u w:=by
 obtain ⟨a,b,a0,b0,e⟩:=h;obtain ⟨k,k0,ek⟩:=p;exact ⟨k*a,b,IV k0 a0,b0,by rw [<-uO,<-ek];exact e⟩
theorem Oa.of {w u:Tr}(p:Gq w u):Oa u w:=by
 obtain ⟨k,k0,ek⟩:=p;exact ⟨k,1,k0,by decide,by rw [<-ek];simp [sc]⟩
theorem Ay {t t' w w':Tr}(ht:Pl t)(ht':Pl t')(h:Oa t w)(h':Oa t' w'):t≠t'↔crs w w'≠(0,0,0):=by
 obtain ⟨a,b,a0,b0,e⟩:=h;obtain ⟨a',b',a0',b0',e'⟩:=h';have key:sc (a*a') (crs t t')=sc (b*b') (crs w w'):=by rw [<-jZ,<-jZ,e,e']
 refine not_congr ⟨fun q=>?_,fun q=>?_⟩
 ·subst q;have z:crs t t=(0,0,0):=by
   obtain ⟨x,y,z⟩:=t;simp only [crs,Ol];exact ⟨by grind,by grind,by grind⟩
  rw [z] at key;refine (jf<|IV b0 b0').mp (key.symm.trans ?_);simp [sc]
 ·rw [q] at key;refine kO ht ht'<|(jf<|IV a0 a0').mp (key.trans ?_)
  simp [sc]
theorem yK {M:Mt}{p:Tr}{x y z:Int}(h:To M p (x,y,z)):∃ k:Int,k≠0/\∃ a:Int,a≠0/\a*(vm M p).1=k*x/\a*(vm M p).2.1=k*y/\a*(vm M p).2.2=k*z:=by
 obtain ⟨a,b,a0,b0,e⟩:=h;simp only [sc,Ol] at e;exact ⟨b,b0,a,a0,by grind,by grind,by grind⟩
theorem xP {a b c d s:Tr}{M:Mt}(f:Free a b c d)(h:yD a b c d M):Oa (vm M s) (MF a b c d s):=by
 obtain ⟨_,h1,h2,h3,h4⟩:=h;obtain ⟨ka,ka0,xa,xa0,a1,a2,a3⟩:=yK h1;obtain ⟨kb,kb0,xb,xb0,b1,b2,b3⟩:=yK h2;obtain ⟨kc,kc0,xc,xc0,c1,c2,c3⟩:=yK h3;obtain ⟨kd,kd0,xd,xd0,d1,d2,d3⟩:=yK h4;have z:∀ {x y k:Int},x≠0->x*y=k*0->y=0:=fun hx e=>(Kw.mp (e.trans (Rg _))).resolve_left hx
 have za2:=z xa0 a2;have za3:=z xa0 a3;have zb1:=z xb0 b1;have zb3:=z xb0 b3;have zc1:=z xc0 c1;have zc2:=z xc0 c2;have ed2:(vm M d).2.1=(vm M d).1:=Ue xd0 (d2.trans d1.symm);have ed3:(vm M d).2.2=(vm M d).1:=Ue xd0 (d3.trans d1.symm);have d0:(vm M d).1≠0:=fun e=>by
  rw [e,Rg,Int.mul_one] at d1;exact kd0 d1.symm
 have ls:∀ t,sc (dt3 (crs a b) c) (vm M t)=(dt3 (crs t b) c*(vm M a).1,dt3 (crs a t) c*(vm M b).2.1,dt3 (crs a b) t*(vm M c).2.2):=fun t=>by
  rw [<-cB,acB a b c t,Xh,za2,za3,zb1,zb3,zc1,zc2];simp
 have l1:=ls s;have l2:=ls d;obtain ⟨g1,g2⟩:=Dq f;refine ⟨dt3 (crs a b) c*(dt3 (crs d b) c*dt3 (crs a d) c*dt3 (crs a b) d),dt3 (crs a b) c*(vm M d).1,IV f.1<|IV (IV g2 g1) f.2.1,IV f.1 d0,?_⟩;simp only [sc,Ol] at l1 l2;rw [ed2,ed3] at l2;obtain ⟨p1,p2,p3⟩:=l1;obtain ⟨q1,q2,q3⟩:=l2;unfold MF;generalize dt3 (crs a b) c=D at *;generalize dt3 (crs d b) c=E1 at *;generalize dt3 (crs a d) c=E2 at *;generalize dt3 (crs a b) d=E3 at *;generalize dt3 (crs s b) c=S1 at *;generalize dt3 (crs a s) c=S2 at *;generalize dt3 (crs a b) s=S3 at *;generalize (vm M d).1=V at *;generalize (vm M a).1=A at *;generalize (vm M b).2.1=B at *;generalize (vm M c).2.2=C at *;simp only [sc];refine HB ?_ (HB ?_ ?_) <;> simp only
 ·rw [show (vm M s).1*(D*(E1*E2*E3))=(vm M s).1*D*(E1*E2*E3) by grind,p1,show S1*A*(E1*E2*E3)=(E1*A)*(S1*E2*E3) by grind,<-q1];grind
 ·rw [show (vm M s).2.1*(D*(E1*E2*E3))=(vm M s).2.1*D*(E1*E2*E3) by grind,p2,show S2*B*(E1*E2*E3)=(E2*B)*(S2*E1*E3) by grind,<-q2];grind
 ·rw [show (vm M s).2.2*(D*(E1*E2*E3))=(vm M s).2.2*D*(E1*E2*E3) by grind,p3,show S3*C*(E1*E2*E3)=(E3*C)*(S3*E1*E2) by grind,<-q3];grind
theorem G9 {a b c d s:Tr}{M:Mt}(f:Free a b c d)(h:V2 a b c d M):Oa (vm M s) (MF a b c d s):=xP f ⟨h.1,h.2.2⟩
def d2 (x y:List Tr):List Nat->Bool
 | [i,j]=>decide (decide (gt x i=gt x j)≠decide (gt y i=gt y j))
 | _=>false
def d3 (x y:List Tr):List Nat->Bool
 | [i,j,k]=>decide (decide (dt3 (crs (gt x i) (gt x j)) (gt x k)=0)≠decide (dt3 (crs (gt y i) (gt y j)) (gt y k)=0))
 | _=>false
noncomputable def d4 (x y:List Tr):List Nat->Bool
 | [a,b,c,d]=>R6 (gt x a) (gt x b) (gt x c) (gt x d) (gt y a) (gt y b) (gt y c) (gt y d)
 | _=>false
def d5 (x y:List Tr)(l:List Nat)(k:Nat):Option (List Nat):=match l with
 | [a,b,c,d]=>if crs (MF (gt x a) (gt x b) (gt x c) (gt x d) (gt x k)) (MF (gt y a) (gt y b) (gt y c) (gt y d) (gt y k))≠(0,0,0) then Dn (l++[k]) else FN
 | _=>FN
def s2 (x y:List Tr):Option (List Nat):=(Cg x.length 2).findSome? (pass (d2 x y))
def s3 (x y:List Tr):Option (List Nat):=(Cg x.length 3).findSome? (pass (d3 x y))
noncomputable def s4 (x y:List Tr):Option (List Nat):=(Cg x.length 4).findSome? (pass (d4 x y))
def s5 (x y:List Tr):Option (List Nat):=match FF x with
 | none=>FN
 | some l=>(rng 0 x.length).findSome? (d5 x y l)
noncomputable def vB (x y:List Tr):Option (Str×List Nat):=if x.length≠y.length then Dn ("many",[]) else match s2 x y with
 | some l=>Dn ("two",l)
 | none=>match s3 x y with
  | some l=>Dn ("three",l)
  | none=>match s4 x y with
   | some l=>Dn ("throw",l)
   | none=>match s5 x y with
    | some l=>Dn ("five",l)
    | none=>FN
def dW:Option (Str×List Nat)->W
 | none=>.non
 | some x=>.tup [.str x.1,d7 x.2]
theorem nC {P:List Nat->Bool}{ls:List (List Nat)}(h:ls.findSome? (pass P)=FN):∀ l∈ls,P l=false:=fun l hl=>by
 have:=Uj.mp h l hl
 cases hb:P l with
 | false=>rfl
 | true=>rw [sX hb] at this;cases this
theorem nT {m k p:Nat}{l:List Nat}(hl:l∈Cg m k)(h1:nxt l<=p)(h2:p<m):l++[p]∈Cg m (k+1):=by
 rw [Cg,Uc];exact ⟨l,hl,Lk.mpr ⟨p,iV.mpr ⟨h1,h2⟩,rfl⟩⟩
theorem Pu {m i j:Nat}(h1:i<j)(h2:j<m):[i,j]∈Cg m 2:=
 nT (l:=[i]) (nT (l:=[]) (by rw [Cg];simp) (Rn _) (by lia)) (show i+1<=j by lia) h2
theorem Fd {m i j k:Nat}(h1:i<j)(h2:j<k)(h3:k<m):[i,j,k]∈Cg m 3:=nT (l:=[i,j]) (Pu h1 (by lia)) (show j+1<=k by lia) h3
theorem Bm {x y:List Tr}(h:s2 x y=FN){i j:Nat}(hi:i<x.length)(hj:j<x.length):gt x i=gt x j↔gt y i=gt y j:=by
 have g:∀ {i j:Nat},i<j->j<x.length->(gt x i=gt x j↔gt y i=gt y j):=fun {i j} h1 h2=>by
  have:=nC h _ (Pu h1 h2)
  exact decide_eq_decide.mp<|NP.mp<|of_decide_eq_false this
 rcases Nat.lt_trichotomy i j with c | c | c
 ·exact g c hj
 ·subst c;exact ⟨fun _=>rfl,fun _=>rfl⟩
 ·have:=g c hi
  exact ⟨fun e=>(this.mp e.symm).symm,fun e=>(this.mpr e.symm).symm⟩
theorem JT {x y:List Tr}(h:s3 x y=FN){i j k:Nat}(h1:i<j)(h2:j<k)(h3:k<x.length):dt3 (crs (gt x i) (gt x j)) (gt x k)=0↔dt3 (crs (gt y i) (gt y j)) (gt y k)=0:=by
 have:=nC h _ (Fd h1 h2 h3)
 exact decide_eq_decide.mp<|NP.mp<|of_decide_eq_false this
theorem up4 {m a b c d:Nat}(h:[a,b,c,d]∈Cg m 4):a<b/\b<c/\c<d/\d<m:=⟨lY (l:=[]) (r:=[c,d]) h,lY (l:=[a]) (r:=[d]) h,lY (l:=[a,b]) (r:=[]) h,bV h d (by simp)⟩
theorem ni {x y:List Tr}(h:s3 x y=FN){a b c d:Nat}(hr:[a,b,c,d]∈Cg x.length 4):Free (gt x a) (gt x b) (gt x c) (gt x d)↔Free (gt y a) (gt y b) (gt y c) (gt y d):=by
 obtain ⟨u1,u2,u3,u4⟩:=up4 hr;unfold Free;rw [Ne,Ne,Ne,Ne,JT h u1 u2 (by lia),JT h u1 (by lia:b<d) u4,JT h (by lia:a<c) u3 u4,JT h u2 u3 u4]
theorem Gf {x:List Tr}{l:List Nat}(h:FF x=Dn l):∃ a b c d,l=[a,b,c,d]/\[a,b,c,d]∈Cg x.length 4/\Free (gt x a) (gt x b) (gt x c) (gt x d):=by
 unfold FF at h;rw [<-HN] at h;obtain ⟨l',ml,e⟩:=Ui h;cases hb:EY x l' with
 | false=>rw [tO hb] at e;cases e
 | true=>
  rw [sX hb] at e;cases e;match l,bD ml with
  | [a,b,c,d],_=>exact ⟨a,b,c,d,rfl,ml,Kg hb⟩
theorem aeP {fs:List (Addr×kI)}{i j:Nat}{ma:MA}{f:Addr}{ms:kI}{σ : Sw}{h:Gh}{Q:WK}(e:σ[i]?=Dn (Dn (.fnv f j)))(e2:fs[j]?=Dn (f,ms))(k:ma σ h fun ws h1=>ms ws h1 Q EF):vO fs i ma σ h Q:=by
 unfold vO;rw [e];dsimp only;rw [e2];exact ⟨rfl,k⟩
theorem Az {ri pi c0 c1 c2:kI}{F0 F1 F2 F:Addr}{ms:kI}{j z:Nat}(hri:mD ri)(hpi:v7 pi)(ej:[(F0,c0),(F1,c1),(F2,c2)][j]?=Dn (F,ms)){h:Gh}{wx wy:W}{xs ys:List Tr}{P:List Nat->Bool}{Q:WK}{E:BK}
  (ex:eV h wx xs) (ey:eV h wy ys) (hl:xs.length=ys.length) (hn:xs.length<=12) (hz:z<=4)
  (hP:∀ l∈Cg xs.length z,∀ (R:WK) (E':BK),R (.bl (P l)) h->ms [.lst ((l.map (gt xs)).map tw),.lst ((l.map (gt ys)).map tw)] h R E')
  (k0:(Cg xs.length z).findSome? (pass P)=FN->Q .non h) (k1:∀ l,(Cg xs.length z).findSome? (pass P)=Dn l->Q (d7 l) h) :
  d9 F0 F1 F2 ri pi c0 c1 c2 [wx,wy,.int (z:Int),.fnv F j] h Q E:=by
 unfold d9;refine eY rfl (σ:=[Dn wx,Dn wy,Dn<|.int (z:Int),Dn<|.fnv F j,FN]) rfl<|aV<|ju<|lN<|aN<|au<|fD<|au<|aB rfl<|aH<|jY ex ?_
 refine au<|aB rfl<|aH<|hri (m:=xs.length) (k:=z) hn hz<|Cp rfl<|gQ ?_
 refine ZM (v:=d7) (pass P) (fun l=>Q (d7 l) h) (fun σ h'=>∃ s1,σ = [Dn wx,Dn wy,Dn<|.int (z:Int),Dn<|.fnv F j,s1]/\h'=h) (Cg xs.length z) ?_ ?_ ?_ ⟨FN,rfl,rfl⟩
 ·rintro l ml σ h' N ⟨s1,rfl,rfl⟩ hN hR;have ll:=bD ml;have li:=bV ml;refine bK (σ':=[Dn wx,Dn wy,Dn<|.int (z:Int),Dn<|.fnv F j,Dn<|d7 l]) rfl ?_;refine cP<|jV<|aeP rfl ej<|au<|aN<|au<|aB rfl<|au<|aB rfl<|aH<|hpi ex li (by lia) ?_
  refine au<|aN<|au<|aB rfl<|au<|aB rfl<|aH<|hpi ey (by rw [<-hl];exact li) (by lia)<|aH<|hP l ml _ _ ?_
  cases hb:P l with
  | true=>
   rfl'
   exact hR l<|sX hb
  | false=>
   rfl'
   exact hN (tO hb) _ _ ⟨_,rfl,rfl⟩
 ·rintro hn σ h' ⟨s1,rfl,rfl⟩;unfold jz;rfl'
  exact k0 hn
 ·intro l hy;exact k1 l hy
theorem wO {m:Nat}{x:List Tr}(h:Fq m x){l:List Nat}(hl:∀ i∈l,i<x.length):Fq m (l.map (gt x)):=fun t ht=>by
 obtain ⟨i,hi,rfl⟩:=Lk.mp ht;exact h _<|bf<|hl i hi
theorem zay {x y:List Tr}(h:s2 x y=FN){a b c d:Nat}(hr:[a,b,c,d]∈Cg x.length 4):¬ gU (gt x a) (gt x b) (gt x c) (gt x d)->¬ (gt y b=gt y a/\gt y c=gt y a/\gt y d=gt y a):=by
 have li:=bV hr;have la:=li a (by simp);have lb:=li b (by simp);have lc:=li c (by simp);intro n ⟨e1,e2,_⟩;have q1:=(Bm h lb la).mpr e1;have q2:=(Bm h lc la).mpr e2;exact n<|.inl ⟨q1.symm,q1.trans q2.symm⟩
structure FpX (F0 F1 F2:Addr) (c0:kI):Prop where
 two:∀ {h:Gh} {wx wy:W} {x y:List Tr} {Q:WK} {E:BK},eV h wx x->eV h wy y->x.length=y.length->x.length<=12->Fq 200 x->Fq 200 y->(s2 x y=FN->Q .non h)->(∀ l,s2 x y=Dn l->Q (d7 l) h)->c0 [wx,wy,.int 2,.fnv F0 0] h Q E
 three:∀ {h:Gh} {wx wy:W} {x y:List Tr} {Q:WK} {E:BK},eV h wx x->eV h wy y->x.length=y.length->x.length<=12->Fq 200 x->Fq 200 y->(s3 x y=FN->Q .non h)->(∀ l,s3 x y=Dn l->Q (d7 l) h)->c0 [wx,wy,.int 3,.fnv F1 1] h Q E
 four:∀ {h:Gh} {wx wy:W} {x y:List Tr} {Q:WK} {E:BK},eV h wx x->eV h wy y->x.length=y.length->x.length<=12->Fq 200 x->Fq 200 y->s2 x y=FN->(s4 x y=FN->Q .non h)->(∀ l,s4 x y=Dn l->Q (d7 l) h)->c0 [wx,wy,.int 4,.fnv F2 2] h Q E
theorem adD {ri pi c0 c1 c2:kI}{F0 F1 F2:Addr}(hri:mD ri)(hpi:v7 pi)(h0:YZ c0)(h1:Jf c1)(h2:Kh c2):FpX F0 F1 F2 (d9 F0 F1 F2 ri pi c0 c1 c2) where
 two:=fun {h wx wy x y Q E} ex ey hl hn ox oy k0 k1=>Az (j:=0) (z:=2) (P:=d2 x y) hri hpi rfl ex ey hl hn (by decide) (fun l ml R E' k=>by
  match l,bD ml with
  | [i,j],_=>exact h0 k) k0 k1
 three:=fun {h wx wy x y Q E} ex ey hl hn ox oy k0 k1=>Az (j:=1) (z:=3) (P:=d3 x y) hri hpi rfl ex ey hl hn (by decide) (fun l ml R E' k=>by
  have li:=bV ml;match l,bD ml with
  | [i,j,z],_=>exact h1 (m:=200) (by decide) (wO ox li) (wO (l:=[i,j,z]) oy (by rw [<-hl];exact li)) k) k0 k1
 four:=fun {h wx wy x y Q E} ex ey hl hn ox oy hs k0 k1=>Az (j:=2) (z:=4) (P:=d4 x y) hri hpi rfl ex ey hl hn (by decide) (fun l ml R E' k=>by
  have li:=bV ml;match l,bD ml with
  | [a,b,c,d],_=>exact h2 (m:=200) (by decide) (wO ox li) (wO (l:=[a,b,c,d]) oy (by rw [<-hl];exact li)) (zay hs ml) k) k0 k1
def Xo (c0:kI):Prop:=∀ {h:Gh} {wx wy:W} {x y:List Tr} {Q:WK} {E:BK},eV h wx x->eV h wy y->x.length=y.length->x.length<=12->Fq 200 x->Fq 200 y->s3 x y=FN->(s5 x y=FN->Q .non h)->(∀ l,s5 x y=Dn l->Q (d7 l) h)->c0 [wx,wy] h Q E
theorem Ia {h:Gh}{Q:WK}(k:Q (.bl true) h):RZ .non .non h Q:=k
theorem is_tup {h:Gh}{ws:List W}{Q:WK}(k:Q (.bl false) h):RZ (.tup ws) .non h Q:=k
theorem Wi {t:Tr}(h:Pl t):t≠(0,0,0):=by
 rintro rfl;exact absurd h (by unfold Pl O6 tl;decide)
theorem ZD {pi le ti mb ff:kI}(hpi:v7 pi)(hle:WR le)(hti:VD ti)(hmb:MbV mb)(hff:yX ff):Xo (iD pi le ti mb ff):=by
 intro h wx wy x y Q E ex ey hl hn ox oy h3 k0 k1;unfold iD;refine eY rfl (σ:=[Dn wx,Dn wy,FN,FN,FN,FN]) rfl ?_;rfl'
 refine hff (m:=200) (by decide) ex hn ox (fun e=>?_) fun l e=>?_
 ·rfl'
  refine Ia ?_;rfl'
  exact k0 (by unfold s5;rw [e])
 obtain ⟨a,b,c,d,rfl,mr,fx⟩:=Gf e;have fy:=(ni h3 mr).mp fx;have li:=bV mr;have hs5:s5 x y=(rng 0 x.length).findSome? (d5 x y [a,b,c,d]):=by unfold s5;rw [e]
 rw [hs5] at k0 k1;have px:∀ i∈[a,b,c,d],Bk 200 (gt x i):=fun i hi=>(ox _ (bf (li i hi))).2
 have py:∀ i∈[a,b,c,d],Bk 200 (gt y i):=fun i hi=>(oy _ (bf (by rw [<-hl];exact li i hi))).2
 rfl'
 refine is_tup ?_;rfl'
 unfold jU;rfl'
 refine hpi ex li (by simp) ?_;rfl'
 refine hti ?_;rfl'
 refine hmb (p:=gt x a) (q:=gt x b) (r:=gt x c) (s:=gt x d) (px a<|by simp) (px b<|by simp) (px c<|by simp) (px d<|by simp) fx fun M hM=>?_;rfl'
 refine hpi ey (by rw [<-hl];exact li) (by simp) ?_;rfl'
 refine hti ?_;rfl'
 refine hmb (p:=gt y a) (q:=gt y b) (r:=gt y c) (s:=gt y d) (py a<|by simp) (py b<|by simp) (py c<|by simp) (py d<|by simp) fy fun N hN'=>?_;refine bK (σ':=[Dn wx,Dn wy,Dn<|d7 [a,b,c,d],Dn<|mw M,Dn<|mw N,FN]) rfl<|fX<|aV<|ju<|oJ<|au<|fD<|au<|aB rfl<|aH<|jY ex<|aH<|U0 (by lia)<|gQ ?_
 refine ZM (v:=fun i:Nat=>W.int (i:Int)) (d5 x y [a,b,c,d]) (fun l=>Q (d7 l) h) (fun σ h'=>∃ s1,σ = [Dn wx,Dn wy,Dn<|d7 [a,b,c,d],Dn<|mw M,Dn<|mw N,s1]/\h'=h) (rng 0 x.length) ?_ ?_ ?_ ⟨FN,rfl,rfl⟩
 ·rintro i mi σ h' N' ⟨s1,rfl,rfl⟩ hN hR;have hi:=(iV.mp mi).2;have hi':i<y.length:=by lia
  obtain ⟨pxi,sxi⟩:=ox _ (bf hi);obtain ⟨pyi,syi⟩:=oy _ (bf hi');refine bK (σ':=[Dn wx,Dn wy,Dn<|d7 [a,b,c,d],Dn<|mw M,Dn<|mw N,Dn<|.int (i:Int)]) rfl ?_;refine cP<|bG<|aO<|aN<|au<|aB rfl<|au<|aO<|aB rfl<|aB rfl<|ex.at hi<|aH ?_
  refine hle (m:=1623) (by decide) hM.2.1 (sxi.mono<|by decide) hM.1 (Wi pxi) fun t pt part _=>?_;refine aN<|au<|aB rfl<|au<|aO<|aB rfl<|aB rfl<|ey.at hi'<|aH ?_
  refine hle (m:=1623) (by decide) hN'.2.1 (syi.mono<|by decide) hN'.1 (Wi pyi) fun t' pt' part' _=>?_;have key:=Ay pt pt' ((G9 fx hM).par part) ((G9 fy hN').par part');refine Ma<|qF<|jK (fun ne=>?_) fun ne=>?_
  ·refine cX<|aO<|aB rfl<|jA<|au<|aB rfl<|aH<|dI rfl ?_
   refine Fp (by simp) ?_;exact hR ([a,b,c,d]++[i])<|if_pos<|key.mp ne
  ·exact hN (if_neg fun z=>ne<|key.mpr z) _ _ ⟨_,rfl,rfl⟩
 ·rintro hn σ h' ⟨s1,rfl,rfl⟩;unfold j4;rfl'
  exact k0 hn
 ·intro l hy;exact k1 l hy
def Dz (c0:kI):Prop:=∀ {h:Gh} {wx wy:W} {x y:List Tr} {Q:WK} {E:BK},eV h wx x->eV h wy y->1<=x.length->x.length<=12->1<=y.length->y.length<=12->Fq 200 x->Fq 200 y->Q (dW (vB x y)) h->c0 [wx,wy] h Q E
def AmX (c0:kI):Prop:=∀ {h:Gh} {wx wy:W} {x y:List Tr} {Q:WK} {E:BK},eV h wx x->eV h wy y->x.length=y.length->x.length<=12->Fq 200 x->Fq 200 y->Q (dW (vB x y)) h->c0 [wx,wy] h Q E
theorem acY {fp fi:kI}{F0 F1 F2:Addr}(hfp:FpX F0 F1 F2 fp)(hfi:Xo fi):AmX (dh F0 F1 F2 fp fi):=by
 intro h wx wy x y Q E ex ey hl hn ox oy k;unfold vB at k;rw [if_neg (by rw [NP];exact hl)] at k;unfold dh;refine eY rfl (σ:=[Dn wx,Dn wy,FN,FN,FN,FN]) rfl ?_;rfl'
 refine hfp.two ex ey hl hn ox oy (fun e2=>?_) fun l e2=>?_
 ·rw [e2] at k;rfl'
  refine gq ?_;rfl'
  refine hfp.three ex ey hl hn ox oy (fun e3=>?_) fun l e3=>?_
  ·rw [e3] at k;rfl'
   refine gq ?_;rfl'
   refine hfp.four ex ey hl hn ox oy e2 (fun e4=>?_) fun l e4=>?_
   ·rw [e4] at k;rfl'
    refine gq ?_;rfl'
    unfold fj;rfl'
    refine hfi ex ey hl hn ox oy e3 (fun e5=>?_) fun l e5=>?_
    ·rw [e5] at k;rfl'
     refine Ia ?_;rfl'
     exact k
    ·rw [e5] at k;rfl'
     refine is_tup ?_;rfl'
     exact k
   ·rw [e4] at k;rfl'
    refine fC ?_;rfl'
    exact k
  ·rw [e3] at k;rfl'
   refine fC ?_;rfl'
   exact k
 ·rw [e2] at k;rfl'
  refine fC ?_;rfl'
  exact k
theorem afW {ch am:kI}(hch:Ed ch)(ham:AmX am):Dz (Ci ch am):=by
 intro h wx wy x y Q E ex ey hx1 hx2 hy1 hy2 ox oy k;unfold Ci;refine eY rfl (σ:=[Dn wx,Dn wy]) rfl ?_;rfl'
 refine hch ex (fun _ _=>?_) fun n=>absurd ⟨hx1,hx2⟩ n;rfl'
 refine hch ey (fun _ _=>?_) fun n=>absurd ⟨hy1,hy2⟩ n;rfl'
 refine jY ex ?_;rfl'
 refine jY ey ?_;rfl'
 refine jK (fun ne=>?_) fun ne=>?_
 ·have e:vB x y=Dn (("many" : Str),[]):=by unfold vB;rw [if_pos (by lia)]
  rw [e] at k;rfl'
  exact k
 ·rfl'
  unfold zA;rfl'
  exact ham ex ey (by lia) hx2 ox oy k
def Vx (c0:kI):Prop:=∀ {h:Gh} {M:Mt} {v:Tr} {m n:Nat} {Q:WK} {E:BK},m+n+2<=8000->HI m M->Bk n v->det M≠0->v≠(0,0,0)->(∀ t,Pl t->Gq (vm M v) t->Bk (m+n+2) t->Q (tw t) h)->c0 [mw M,tw v] h Q E
def Im (M:Mt)(t u:Tr):Prop:=Pl u/\Gq (vm M t) u
def Nq (M:Mt)(ts us:List Tr):Prop:=us.length=ts.length/\∀ i,i<ts.length->Im M (gt ts i) (gt us i)
theorem ahr {us:List Tr}{u:Tr}{i:Nat}:gt (us++[u]) i=if i<us.length then gt us i else if i=us.length then u else gt (us++[u]) i:=by
 unfold gt;by_cases h:i<us.length
 ·rw [if_pos h,Mz,Mz,SJ h]
 ·rw [if_neg h];by_cases e:i=us.length
  ·subst e;rw [if_pos rfl,Mz,Rq (Gi _)];simp
  ·rw [if_neg e]
theorem HF {le:kI}(hle:Vx le){m n0:Nat}{M:Mt}{ts:List Tr}{w:W}{ix:Nat}{σ : Sw}{h:Gh}{Q:WK}{E:BK}(hx:(σ[ix]?).getD FN=Dn (mw M))(e:eV h w ts)(hl:ts.length<=100)(hm:m+n0+2<=8000)(hs:Fq n0 ts)(dM:det M≠0)(sM':HI m M)(k:∀ us,Nq M ts us->Fq (m+n0+2) us->Q (.lst (us.map tw)) h) :
  iK (lcK Gs [ix] fH (aD le E (aj (ak 1) (aj (ak 0) aF))) σ Q) w h:=by
 obtain ⟨ev,s,es,ew,go⟩:=e.src;show (match uJ h w with
  | some s=>_
  | none=>False)
 rw [es];show gJ s.ws.length (oE s _ _ _ _ _ _ s.ws [] h);rw [ew];refine gJ.mk (by rw [Gg];exact Ii hl (by decide)) ?_;refine Bc (fun i acc h'=>h'=h/\∃ us:List Tr,acc=us.map tw/\us.length=i/\∀ n,n<i->n<ts.length->Im M (gt ts n) (gt us n)/\Bk (m+n0+2) (gt us n)) ?_ ?_ ?_ ⟨rfl,[],rfl,rfl,fun n hn=>by lia⟩
 ·rintro i acc h' ⟨rfl,_⟩;exact go
 ·rintro i w2 acc h' N hN e2 ⟨rfl,us,rfl,ul,ui⟩;obtain ⟨t,et,rfl⟩:=vD e2;have mt:=N5 et;have hb:qI [ix] σ = [Dn (mw M)]:=by
   show [(σ[ix]?).getD FN]=_;rw [hx]
  refine ⟨[tw t],rfl,?_⟩;rw [hb];refine lJ<|lC<|aN<|au<|aB rfl<|au<|aB rfl<|aH ?_
  refine hle hm sM' (hs t mt).2 dM (hs t mt).1.ne fun u pu paru su=>?_;refine hN _ _ ⟨rfl,us++[u],by rw [Nz];rfl,by rw [Lq,ul];rfl,fun n hn hn2=>?_⟩;rw [ahr,ul];by_cases h1:n<i
  ·rw [if_pos h1];exact ui n h1 hn2
  ·have h2:n=i:=by lia
   rw [if_neg h1,if_pos h2];have:gt ts n=t:=by
    have:=dF hn2
    rw [h2,et] at this;rw [h2];exact (Hz this).symm
   rw [this];exact ⟨⟨pu,paru⟩,su⟩
 ·rintro acc h' ⟨rfl,us,rfl,ul,ui⟩;rw [Gg] at ul ui;refine k us ⟨ul,fun n hn=>(ui n hn hn).1⟩ fun t ht=>?_;obtain ⟨i,hi,e⟩:=TJ.mp ht;have:=dF hi
  rw [JQ hi,e] at this;rw [Hz this];have:=ui i (by lia) (by lia)
  exact ⟨this.1.1,this.2⟩
def Yr (c0:kI):Prop:=∀ {h:Gh} {w:W} {M:Mt} {ts:List Tr} {m n:Nat} {Q:WK} {E:BK},eV h w ts->ts.length<=100->m+n+2<=8000->Fq n ts->det M≠0->HI m M->(∀ us:List Tr,Nq M ts us->Q (.lst (us.map tw)) h)->c0 [mw M,w] h Q E
theorem Yj {le:kI}(hle:Vx le):Yr (iH le):=by
 intro h w M ts m n Q E src hl hm hs dM sM' k;unfold iH;refine eY rfl (σ:=[Dn<|mw M,Dn w]) rfl<|cX<|uL<|lN<|aB rfl ?_
 exact HF hle (ix:=0) rfl src hl hm hs dM sM' fun us hu _=>xW<|k us hu
def TlX (c0:kI):Prop:=∀ {h:Gh} {Q:WK} {E:BK},Q (.lst [tw e0,tw e1,tw e2]) h->c0 [] h Q E
theorem aho {ti:kI}(hti:VD ti):TlX (Bx ti):=by
 intro h Q E k;unfold Bx;refine eY rfl (σ:=[]) rfl<|cX<|oZ ?_
 refine hti ?_;exact xW k
def gK (p q:Tr):Tr:=(p.1+q.1,p.2.1+q.2.1,p.2.2+q.2.2)
def acR (c0:kI):Prop:=∀ {h:Gh} {p q:Tr} {m:Nat} {Q:WK} {E:BK},m<=200->Bk m p->Bk m q->gK p q≠(0,0,0)->(∀ s,Pl s->Gq (gK p q) s->Bk (m+1) s->Q (tw s) h)->c0 [.lst [tw p,tw q]] h Q E
theorem abU {pl:kI}(hpl:qO pl):acR (cT pl):=by
 intro h p q m Q E hm sp sq h0 k;have sv:Bk (m+1) (gK p q):=⟨(sp.1.add sq.1).mono (by lia),(sp.2.1.add sq.2.1).mono (by lia),(sp.2.2.add sq.2.2).mono (by lia)⟩
 unfold cT;rfl'
 exact hpl.tr (u:=gK p q) (m:=m+1) (.inr<|by simp [gK]) h0 sv (by lia) fun t pt part st=>k t pt part st
theorem zbk {m:Nat}{P:List Nat->Bool}{l:List Nat}(h:S9 m P=Dn l):l∈Cg m 3/\P l=true:=by
 rw [<-Gk] at h;obtain ⟨u,hu,e⟩:=Ui h;unfold pass at e;split at e
 ·cases e;rename_i hp;exact ⟨hu,hp⟩
 ·cases e
def J2 (us:List Tr)(L:Tr):Prop:=∃ a b c,LL us=Dn [a,b,c]/\a<b/\b<c/\c<us.length/\dt3 (crs (gt us a) (gt us b)) (gt us c)=0/\Pl L/\Gq (crs (gt us a) (gt us b)) L
def L3Y (c0:kI):Prop:=∀ {h:Gh} {w:W} {us:List Tr} {m:Nat} {Q:WK} {E:BK},m<=200->eV h w us->us.length<=12->Fq m us->us.Nodup->(LL us=FN->Q .non h)->(∀ t,J2 us t->Bk (m+m+1) t->Q (tw t) h)->c0 [w] h Q E
theorem afu {ol jo ri pi:kI}(hol:iM ol)(hjo:JoinOk jo)(hri:mD ri)(hpi:v7 pi):L3Y (cI ol jo ri pi):=by
 intro h w us m Q E hm e hl hs nd k0 k1;unfold cI;refine eY rfl (σ:=[Dn w,FN,FN]) rfl<|aV<|ju<|lN<|aN<|au<|fD<|au<|aB rfl<|aH<|jY e ?_
 refine au<|bW<|aH<|hri (m:=us.length) (k:=3) hl (by decide)<|Cp rfl<|gQ ?_
 have hff:=Gk us.length (za us);refine ZM (v:=d7) (pass<|za us) (fun l=>∀ a b c t,l=[a,b,c]->Pl t->Gq (crs (gt us a)<|gt us b) t->Bk (m+m+1) t->Q (tw t) h) (fun σ h'=>∃ s1 s2,σ = [Dn w,s1,s2]/\h'=h) (Cg us.length 3) ?_ ?_ ?_ ⟨FN,FN,rfl,rfl⟩
 ·rintro l ml σ h' N ⟨s1,s2,rfl,rfl⟩ hN hR;have ll:=bD ml;have li:=bV ml;match l,ll with
  | [a,b,c],_=>
   have ga:∀ i∈[a,b,c],Pl (gt us i)/\Bk m (gt us i):=fun i hi=>hs _ (bf (li i hi))
   have hab:a<b:=lY (l:=[]) (r:=[c]) ml;have la:=li a (by simp);have lb:=li b (by simp);have hne:gt us a≠gt us b:=by
    intro e;have e1:=dF la;have e2:=dF lb;rw [e,<-e2] at e1;exact absurd ((List.getElem?_inj la nd).mp e1)<|by lia
   refine bK (σ':=[Dn w,Dn<|d7 [a,b,c],s2]) rfl ?_;rfl'
   refine hpi e li (by simp) ?_;rfl'
   refine hol (ts:=[gt us a,gt us b,gt us c]) (M:=m) (.inl rfl) (by simp) (by lia) ?_ ?_
   ·intro t ht;simp only [J9,Ml,or_false] at ht;rcases ht with rfl | rfl | rfl
    ·exact ga a<|by simp
    ·exact ga b<|by simp
    ·exact ga c<|by simp
   cases hb:jF [gt us a,gt us b,gt us c] with
   | true=>
    rfl'
    refine hjo (p:=gt us a) (q:=gt us b) (m:=m) (by lia) (ga a<|by simp).2 (ga b<|by simp).2 (ga a<|by simp).1 (ga b<|by simp).1 hne fun t pt part st=>?_;rfl'
    exact hR [a,b,c] (sX hb) a b c t rfl pt part st
   | false=>
    rfl'
    exact hN (tO hb) _ _ ⟨_,_,rfl,rfl⟩
 ·rintro hn σ h' ⟨s1,s2,rfl,rfl⟩;unfold dY;rfl'
  exact k0<|hff.symm.trans hn
 ·intro l hy a b c t el pt part st;subst el;have e1:LL us=Dn [a,b,c]:=hff.symm.trans hy;obtain ⟨m1,m2⟩:=zbk e1;refine k1 t ⟨a,b,c,e1,lY (l:=[]) (r:=[c]) m1,lY (l:=[a]) (r:=[]) m1,bV m1 c<|by simp,?_,pt,part⟩ st;have:=Bv (gt us a) (gt us b) (gt us c)
  rw [show jF [gt us a,gt us b,gt us c]=true from m2] at this;exact of_decide_eq_true this.symm
theorem lcF {vs:List Tr}{ws0:List W}{ix:List Nat}{tt:MT}{σ : Sw}{h:Gh}{Q:WK}(f:Tr->Bool)(ht:∀ t∈vs,∀ (R:Bool->Gh->Prop),R (f t) h->tt ([tw t].map Dn++qI ix σ) h R)(q:Q (.lst ((vs.filter f).map tw)) h):oE ⟨ws0,FN⟩ Gs ix tt (ak 0) σ Q (vs.map tw) [] h:=by
 refine qd (fun i acc h'=>h'=h/\acc=((vs.take i).filter f).map tw) ?_ ?_ ⟨rfl,rfl⟩
 ·rintro i w acc h' N hN e ⟨rfl,rfl⟩;obtain ⟨t,et,rfl⟩:=vD e;refine ⟨[tw t],rfl,?_⟩;refine ht t (N5 et) _ ?_;have es:∀ b,f t=b->((vs.take (i+1)).filter f).map tw=((vs.take i).filter f).map tw++(if b then [tw t] else []):=fun b hb=>by
   rw [M8,et,List.filter_append,Nz];cases b <;> simp [hb]
  cases hb:f t with
  | true=>exact lC (aB rfl (hN _ _ ⟨rfl,by rw [es true hb];rfl⟩))
  | false=>exact Ql (hN _ _ ⟨rfl,by rw [es false hb];simp⟩)
 ·rintro acc h' ⟨rfl,rfl⟩;rw [Gg,Mp];exact q
theorem yF {a b L:Tr}(ha:dt3 a L=0)(hb:dt3 b L=0)(hn:crs a b≠(0,0,0)):∃ s t:Int,s≠0/\sc s L=sc t (crs a b):=by
 refine ray hn ?_;obtain ⟨a1,a2,a3⟩:=a;obtain ⟨b1,b2,b3⟩:=b;obtain ⟨l1,l2,l3⟩:=L;simp only [dt3] at ha hb;simp only [crs];refine HB ?_ (HB ?_ ?_) <;> simp only <;> grind
theorem off_ne {a b o L:Tr}(ha:dt3 a L=0)(hb:dt3 b L=0)(pa:Pl a)(pb:Pl b)(hab:a≠b)(ho:dt3 o L≠0):dt3 (crs a b) o≠0:=by
 intro h;obtain ⟨s,t,s0,e⟩:=yF ha hb (jT pa pb hab);have:=congrArg (fun v=>dt3 v o) e
 simp only [nJ,h,Rz] at this;rw [bY] at ho;exact ho<|(Kw.mp this).resolve_right s0
theorem sU (n p q:Tr):dt3 n (gK p q)=dt3 n p+dt3 n q:=by
 simp only [dt3,gK];grind
theorem zaI {a b c o s L:Tr}(pL:Pl L)(ha:dt3 a L=0)(hb:dt3 b L=0)(hc:dt3 c L=0)(ho:dt3 o L≠0)(pa:Pl a)(pb:Pl b)(pc:Pl c)(hab:a≠b)(hac:a≠c)(hbc:b≠c)(hs:Gq (gK o c) s):Free a b o s/\gK o c≠(0,0,0):=by
 have n1:=off_ne ha hb pa pb hab ho;have n2:=off_ne ha hc pa pc hac ho;have n3:=off_ne hb hc pb pc hbc ho;have z:dt3 (crs a b) c=0:=flat pL.ne (by rw [bY];exact ha) (by rw [bY];exact hb) (by rw [bY];exact hc);have sw:∀ p q r:Tr,dt3 (crs p q) r = - dt3 (crs p r) q:=fun p q r=>by
  simp only [dt3,crs];grind
 have m1:dt3 (crs a b) (gK o c)≠0:=by rw [sU,z];lia
 have m2:dt3 (crs a o) (gK o c)≠0:=by
  rw [sU,wM,sw a o c];lia
 have m3:dt3 (crs b o) (gK o c)≠0:=by
  rw [sU,wM,sw b o c];lia
 refine ⟨⟨n1,fun z=>m1<|(mF hs).mpr z,fun z=>m2<|(mF hs).mpr z,fun z=>m3<|(mF hs).mpr z⟩,fun z=>m1 ?_⟩;rw [z];simp [dt3]
def O7 (L t:Tr):Bool:=decide (dt3 t L=0)
def offB (L t:Tr):Bool:=!decide (dt3 t L=0)
def acK (c0:kI):Prop:=∀ {h:Gh} {us:List Tr} {L a b c o:Tr} {on' off':List Tr} {m:Nat} {Q:WK} {E:BK},2<=m->m<=200->us.length<=12->Fq m us->Pl L->Bk (m+m+1) L->us.filter (O7 L)=a::b::c::on'->(us++[e0,e1,e2]).filter (offB L)=o::off'->a≠b->a≠c->b≠c->(∀ s M,Pl s->Gq (gK o c) s->yD a b o s M->HI (8*m+31) M->Q (mw M) h)->c0 [.lst (us.map tw),tw L] h Q E
theorem Qu {m:Nat}(hm:2<=m):∀ t∈[e0,e1,e2],Pl t/\Bk m t:=by
 obtain ⟨s0,s1,s2,_⟩:=CZ;intro t ht;simp only [J9,Ml,or_false] at ht;rcases ht with rfl | rfl | rfl
 ·exact ⟨by unfold Pl;decide +kernel,s0.mono hm⟩
 ·exact ⟨by unfold Pl;decide +kernel,s1.mono hm⟩
 ·exact ⟨by unfold Pl;decide +kernel,s2.mono hm⟩
theorem abu {lo ti mb un bt:kI}(hlo:QF lo)(hti:VD ti)(hmb:MbG mb)(hun:TlX un)(hbt:acR bt):acK (dX lo ti mb un bt):=by
 intro h us L a b c o on' off' m Q E h2 hm hl hs pL sL eon eoff hab hac hbc k;have hon:∀ t∈a::b::c::on',t∈us/\dt3 t L=0:=fun t ht=>by
  rw [<-eon,OD] at ht;exact ⟨ht.1,of_decide_eq_true ht.2⟩
 have hs':Fq m (us++[e0,e1,e2]):=fun t ht=>by
  rcases Mw.mp ht with ht | ht
  ·exact hs t ht
  ·exact Qu h2 t ht
 have hoff:o∈us++[e0,e1,e2]/\dt3 o L≠0:=by
  have ht:o∈(us++[e0,e1,e2]).filter (offB L):=by rw [eoff];exact Nb
  rw [OD] at ht;refine ⟨ht.1,?_⟩;have:=ht.2
  unfold offB at this
  simpa using this
 have ha:=hon a (by simp);have hb:=hon b (by simp);have hc:=hon c (by simp);obtain ⟨pa,sa⟩:=hs a ha.1;obtain ⟨pb,sb⟩:=hs b hb.1;obtain ⟨pc,sc'⟩:=hs c hc.1;obtain ⟨po,so⟩:=hs' o hoff.1;unfold dX;refine eY rfl (σ:=[Dn<|.lst<|us.map tw,Dn<|tw L,FN,FN]) rfl<|aV<|cO<|uL<|lN<|aB rfl<|Cp (ws:=us.map tw) (o:=FN) rfl ?_
 refine gJ.mk (by rw [Gg];exact Ii hl (by decide)) ?_;refine lcF (O7 L) (fun t ht R q=>?_) ?_
 ·refine jV<|aN<|au<|aB rfl<|au<|aB rfl<|aH<|hlo (m:=m+m+1) (by lia) ((hs t ht).2.mono (by lia)) sL ?_
  exact Lg rfl q
 rw [eon];refine bK (σ':=[Dn<|.lst<|us.map tw,Dn<|tw L,Dn<|.lst<|(a::b::c::on').map tw,FN]) rfl<|fX ?_
 refine aV<|cO<|uL<|lN<|aO<|aB rfl<|aN<|aH<|hun ?_
 have kadd:∀ {Q':WK},Q' (.lst ((us++[e0,e1,e2]).map tw)) h->bJ (.lst (us.map tw)) (.lst [tw e0,tw e1,tw e2]) h Q':=fun {Q'} x=>by
  refine gJ.mk (by rw [Gg];exact Ii (by simp;lia:_<=100) (by decide)) ?_;rw [Nz] at x;exact x
 refine kadd<|Cp (ws:=(us++[e0,e1,e2]).map tw) (o:=FN) rfl ?_
 refine gJ.mk (by rw [Gg,Lq];exact Ii (by simp;lia:_<=100) (by decide)) ?_;refine lcF (offB L) (fun t ht R q=>?_) ?_
 ·refine qx<|jV<|aN<|au<|aB rfl<|au<|aB rfl<|aH<|hlo (m:=m+m+1) (by lia) ((hs' t ht).2.mono (by lia)) sL ?_
  exact Lg rfl q
 rw [eoff];refine bK (σ':=[Dn<|.lst<|us.map tw,Dn<|tw L,Dn<|.lst<|(a::b::c::on').map tw,Dn<|.lst<|(o::off').map tw]) rfl<|fX ?_
 have g1:eV h (.lst ((a::b::c::on').map tw)) (a::b::c::on'):=.inl rfl;have g2:eV h (.lst ((o::off').map tw)) (o::off'):=.inl rfl;have fr:=fun s hp=>zaI (s:=s) pL ha.2 hb.2 hc.2 hoff.2 pa pb pc hab hac hbc hp
 refine cX<|aN<|au<|yQ<|au<|aO<|aB rfl<|bW ?_
 refine eV.at (i:=0) g1 (by simp) ?_;refine au<|aO<|aB rfl<|bW ?_
 refine eV.at (i:=1) g1 (by simp) ?_;refine au<|aO<|aB rfl<|bW ?_
 refine eV.at (i:=0) g2 (by simp) ?_;refine au<|aN<|au<|yQ<|au<|aO<|aB rfl<|bW ?_
 refine eV.at (i:=0) g2 (by simp) ?_;refine au<|aO<|aB rfl<|bW ?_
 refine eV.at (i:=2) g1 (by simp) ?_;refine aH<|dI rfl<|aH ?_
 refine hbt (p:=o) (q:=c) hm so sc' (fr (gK o c)<|Gq.refl _).2 fun s pS parS sS=>?_;refine aH<|dI rfl ?_
 refine au<|aN<|aH<|hti ?_
 refine aH<|hmb (p:=a) (q:=b) (r:=o) (s:=s) (m:=m+1) (by lia) (sa.mono<|by lia) (sb.mono<|by lia) (so.mono<|by lia) sS (fr s parS).1 fun M hM bM=>?_
 exact xW<|k s M pS parS hM<|bM.mono<|by lia
def LnM (ts:List Tr)(M:Mt):Prop:=∃ (L a b c o s:Tr) (on' off':List Tr),J2 (Gm ts) L/\(Gm ts).filter (O7 L)=a::b::c::on'/\(Gm ts++[e0,e1,e2]).filter (offB L)=o::off'/\Pl s/\Gq (gK o c) s/\yD a b o s M
theorem zbs {l:List Tr}{p q r:Tr}(hp:p∈l)(hq:q∈l)(hr:r∈l)(h1:p≠q)(h2:p≠r)(h3:q≠r):∃ a b c l',l=a::b::c::l':=by
 match l,hp,hq,hr with
 | [],hp,_,_=>exact absurd hp (by simp)
 | [x],hp,hq,_=>
  simp at hp hq;exact absurd (hp.trans hq.symm) h1
 | [x,y],hp,hq,hr=>
  simp at hp hq hr;rcases hp with rfl | rfl <;> rcases hq with rfl | rfl <;> rcases hr with rfl | rfl <;> first | exact absurd rfl h1 | exact absurd rfl h2 | exact absurd rfl h3
 | a::b::c::l',_,_,_=>exact ⟨a,b,c,l',rfl⟩
theorem zaH {us:List Tr}{L:Tr}(nd:us.Nodup)(hL:J2 us L):∃ a b c on' o off',us.filter (O7 L)=a::b::c::on'/\(us++[e0,e1,e2]).filter (offB L)=o::off'/\a≠b/\a≠c/\b≠c:=by
 obtain ⟨i,j,k,e,ij,jk,kl,hz,pL,parL⟩:=hL;have gn:∀ {i j},i<j->j<us.length->gt us i≠gt us j:=fun {i j} hij hj e=>by
  have q1:=dF (ts:=us) (i:=i) (by lia);have q2:=dF hj;rw [e,<-q2] at q1;exact absurd ((List.getElem?_inj (by lia) nd).mp q1)<|by lia
 have on:∀ {t:Tr},t∈us->dt3 (crs (gt us i) (gt us j)) t=0->t∈us.filter (O7 L):=fun {t} ht hd=>by
  rw [OD];refine ⟨ht,decide_eq_true ?_⟩;rw [bY];exact (wC parL).mp hd
 obtain ⟨a,b,c,on',eqn⟩:=zbs (on (bf (i:=i) (by lia)) (Ez _ _)) (on (bf (i:=j) (by lia)) (wM _ _)) (on (bf kl) hz) (gn ij (by lia)) (gn (by lia) kl) (gn jk kl);have nf:(us.filter (O7 L)).Nodup:=nd.filter _;rw [eqn] at nf;simp only [Tp,J9,not_or] at nf;have off:(us++[e0,e1,e2]).filter (offB L)≠[]:=by
  intro z;have all:∀ t∈[e0,e1,e2],dt3 t L=0:=fun t ht=>by
   by_cases h:dt3 t L=0
   ·exact h
   ·have:t∈(us++[e0,e1,e2]).filter (offB L):=by
     rw [OD];refine ⟨Oi _ ht,?_⟩;unfold offB;rw [decide_eq_false h];rfl
    rw [z] at this;exact absurd this<|by simp
  refine pL.ne ?_;have h0:=all e0 (by simp);have h1:=all e1 (by simp);have h2:=all e2 (by simp);obtain ⟨l1,l2,l3⟩:=L;simp [dt3,e0,e1,e2] at h0 h1 h2;rw [h0,h1,h2]
 cases q:(us++[e0,e1,e2]).filter (offB L) with
 | nil=>exact absurd q off
 | cons o off'=>exact ⟨a,b,c,on',o,off',eqn,rfl,nf.1.1,nf.1.2.1,nf.2.1.1⟩
def ab8 (c0:kI):Prop:=∀ {h:Gh} {p q r:Tr} {m:Nat} {Q:WK} {E:BK},m<=200->Bk m p->Bk m q->Bk m r->gK (gK p q) r≠(0,0,0)->(∀ s,Pl s->Gq (gK (gK p q) r) s->Bk (m+2) s->Q (tw s) h)->c0 [.lst [tw p,tw q,tw r]] h Q E
theorem W3 {pl:kI}(hpl:qO pl):ab8 (cT pl):=by
 intro h p q r m Q E hm sp sq sr h0 k;have sv:Bk (m+2) (gK (gK p q) r):=⟨((sp.1.add sq.1).add sr.1).mono (by lia),((sp.2.1.add sq.2.1).add sr.2.1).mono (by lia),((sp.2.2.add sq.2.2).add sr.2.2).mono (by lia)⟩
 unfold cT;rfl'
 exact hpl.tr (u:=gK (gK p q) r) (m:=m+2) (.inr<|by simp [gK,Int.add_assoc]) h0 sv (by lia) fun t pt part st=>k t pt part st
def eH (acc:List Tr)(u:Tr):List Tr:=match acc with
 | [a]=>if u≠a then [a,u] else [a]
 | [a,b]=>if dt3 (crs a b) u≠0 then [a,b,u] else [a,b]
 | acc=>acc
def fill (us:List Tr):List Tr:=[e0,e1,e2].foldl eH us
theorem Qe {a b:Tr}(pa:Pl a)(pb:Pl b)(ne:a≠b):crs a b≠(0,0,0):=fun e=>ne (kO pa pb e)
theorem abQ (v:Tr):dt3 v e0=v.1:=by simp [dt3,e0]
theorem V7 (v:Tr):dt3 v e1=v.2.1:=by simp [dt3,e1]
theorem Wv (v:Tr):dt3 v e2=v.2.2:=by simp [dt3,e2]
theorem W4 {a b:Tr}(pa:Pl a)(pb:Pl b)(ne:a≠b):∃ c,fill [a,b]=[a,b,c]/\dt3 (crs a b) c≠0/\(c=e0\/c=e1\/c=e2):=by
 have h:=Qe pa pb ne;show ∃ c,eH (eH (eH [a,b] e0) e1) e2=[a,b,c]/\_
 by_cases h0:dt3 (crs a b) e0=0
 ·by_cases h1:dt3 (crs a b) e1=0
  ·have h2:dt3 (crs a b) e2≠0:=fun h2=>h (by
    rw [abQ] at h0;rw [V7] at h1;rw [Wv] at h2;exact HB h0 (HB h1 h2))
   exact ⟨e2,by simp [eH,h0,h1,h2],h2,.inr<|.inr rfl⟩
  ·exact ⟨e1,by simp [eH,h0,h1],h1,.inr<|.inl rfl⟩
 ·exact ⟨e0,by simp [eH,h0],h0,.inl rfl⟩
theorem zax {us:List Tr}{u:Tr}(h1:1<=us.length)(h3:us.length<=3):1<=(eH us u).length/\(eH us u).length<=3:=by
 match us,h1,h3 with
 | [a],_,_=>unfold eH;dsimp only;split <;> simp
 | [a,b],_,_=>unfold eH;dsimp only;split <;> simp
 | [a,b,c],_,_=>simp [eH]
theorem aeE {us:List Tr}{u t:Tr}(h:t∈eH us u):t∈us\/t=u:=by
 unfold eH at h;split at h
 ·split at h
  ·simp at h;rcases h with h | h
   ·exact .inl<|by simp [h]
   ·exact .inr h
  ·exact .inl h
 ·split at h
  ·simp at h;rcases h with h | h | h
   ·exact .inl<|by simp [h]
   ·exact .inl<|by simp [h]
   ·exact .inr h
  ·exact .inl h
 ·exact .inl h
def acL (c0:kI):Prop:=∀ {h:Gh} {us:List Tr} {m:Nat} {Q:WK} {E:BK},2<=m->m<=200->1<=us.length->us.length<=3->Fq m us->Q (.lst ((fill us).map tw)) h->c0 [.lst (us.map tw)] h Q E
theorem zbo {us:List W}{h:Gh}{Q:WK}(k:∀ g:Gh,g.c h.nx=Dn (.lst us)->(∀ m,m≠h.nx->g.c m=h.c m)->g.nx=h.nx+1->Q (.loc h.nx) g):CN [.lst us] h Q:=k _ (wU _ _) (fun _ e=>tZ e) rfl
theorem Y5 {L:Nat}{t:Tr}:Lo L (tw t):=by
 show Lo L (.tup [.int t.1,.int t.2.1,.int t.2.2]);simp only [Lo,K3,and_self]
theorem Qq {L:Nat}:∀ ts:List Tr,K3 L (ts.map tw)
 | []=>by simp only [TY,K3]
 | t::ts=>by
  rw [LQ,K3];exact ⟨Y5,Qq ts⟩
theorem V6 {h:Gh}{n:Nat}{us:List W}{w:W}{Q:WK}(e:h.c n=Dn (.lst us))(hz:us.length<=900)(k:∀ g:Gh,g.c n=Dn (.lst (us++[w]))->(∀ m,m≠n->g.c m=h.c m)->g.nx=h.nx->Q .non g):fL (.loc n) [w] h Q:=
 QT e (SQ hz (by rw [sizeLine_eq];decide)) (k _ (jP _ _ _) (fun _ e=>lE e) rfl)
theorem aaH {a us:List W}{n:Nat}{h:Gh}{Q:WK}(e:h.c n=Dn (.lst us))(hz:us.length+a.length<=1000)(k:Q (.lst (us++a)) h):bJ (.loc n) (.lst a) h Q:=by
 have t:Gj h (.loc n)=Dn us:=by simp only [Gj,e]
 unfold bJ;dsimp only;rw [t];exact gJ.mk (Ii hz (by decide:1000<=Gn)) k
theorem aey {ol un:kI}(hol:iM ol)(hun:TlX un):acL (mG ol un):=by
 intro h us m Q E h2 hm l1 l3 hs q;unfold mG;rfl'
 refine zbo fun g gc go gn=>?_;rfl'
 refine hun ?_;refine Cp rfl<|gQ ?_
 have oke:∀ t∈[e0,e1,e2],Pl t/\Bk m t:=Qu h2
 refine lV (fun i σ h'=>∃ a2 acc,σ = [Dn<|.lst<|us.map tw,Dn<|.loc h.nx,a2]/\acc=([e0,e1,e2].take i).foldl eH us/\1<=acc.length/\acc.length<=3/\Fq m acc/\h'.c h.nx=Dn (.lst<|acc.map tw)/\∀ m,m<h.nx->h'.c m=h.c m) ?_ ?_ ⟨FN,us,rfl,rfl,l1,l3,hs,gc,fun m hm=>go m<|Jy hm⟩
 ·rintro i w σ h1 N hN ew ⟨a2,acc,rfl,ea,n1,n3,ok,c1,o1⟩;have ew':([e0,e1,e2].map tw)[i]?=Dn w:=ew;rw [LK] at ew';obtain ⟨u,eu,rfl⟩:=Option.map_eq_some_iff.mp ew';have pu:=oke u (N5 eu);have nxt:∀ h2:Gh,h2.c h.nx=Dn (.lst ((eH acc u).map tw))->(∀ m,m<h.nx->h2.c m=h.c m)->N [Dn (.lst (us.map tw)),Dn (.loc h.nx),Dn (tw u)] h2:=fun h2 c2 o2=>by
   obtain ⟨m1,m3⟩:=zax (u:=u) n1 n3;refine hN _ _ ⟨_,eH acc u,rfl,?_,m1,m3,fun t ht=>?_,c2,o2⟩
   ·rw [M8,eu,List.foldl_append,<-ea];rfl
   ·rcases aeE ht with ht | rfl
    ·exact ok t ht
    ·exact pu
  match acc,n1,n3,c1,nxt,ok with
  | [a],_,_,c1,nxt,ok=>
   rfl'
   refine gP (dj c1) ?_;rfl'
   refine Am (by simp) ?_;rfl'
   refine jK (fun ne=>?_)<|fun eq=>?_
   ·rfl'
    refine sH<|yZ ?_
    rfl'
    refine sO c1 ?_;rfl'
    refine V6 c1 (by simp) fun h2 c2 o2 _=>?_;refine nxt h2 ?_ fun m hm=>(o2 m<|Jy hm).trans (o1 m hm);rw [c2];simp only [eH];rw [if_pos (by simpa using ne)];rfl
   ·rfl'
    refine gP (dj c1) ?_;rfl'
    refine kY (by simp) ?_;rfl'
    refine nxt h1 ?_ o1;rw [c1];simp only [eH];rw [if_neg (by simpa using eq)]
  | [a,b],_,_,c1,nxt,ok=>
   rfl'
   refine gP (dj c1) ?_;rfl'
   refine kY (by simp) ?_;rfl'
   refine gP (dj c1) ?_;rfl'
   refine Am (by simp) ?_;rfl'
   refine aaH c1 (by simp) ?_;rfl'
   refine hol (ts:=[a,b,u]) (M:=m) (.inl rfl) (by simp) (by lia) (fun t ht=>?_) ?_
   ·simp only [J9,Ml,or_false] at ht;rcases ht with rfl | rfl | rfl
    ·exact ok _<|by simp
    ·exact ok _<|by simp
    ·exact pu
   rw [Bv];rfl'
   by_cases z:dt3 (crs a b) u=0
   ·refine kY (by simp [z]) ?_;rfl'
    refine nxt h1 ?_ o1;rw [c1];simp only [eH];rw [if_neg (by simpa using z)]
   ·refine Am (by simp [z]) ?_;rfl'
    refine sH<|yZ ?_
    rfl'
    refine sO c1 ?_;rfl'
    refine V6 c1 (by simp) fun h2 c2 o2 _=>?_;refine nxt h2 ?_ fun m hm=>(o2 m<|Jy hm).trans (o1 m hm);rw [c2];simp only [eH];rw [if_pos z];rfl
  | [a,b,c],_,_,c1,nxt,ok=>
   rfl'
   refine gP (dj c1) ?_;rfl'
   refine kY (by simp) ?_;rfl'
   refine gP (dj c1) ?_;rfl'
   refine kY (by simp) ?_;rfl'
   refine nxt h1 ?_ o1;rw [c1];rfl
 ·rintro σ h1 ⟨a2,acc,rfl,ea,n1,n3,ok,c1,o1⟩;rfl'
  unfold nG;rfl'
  exact ⟨fun m c hm e=>(o1 m hm).trans e,.inr ⟨_,_,rfl,Gi _,c1,Qq _,by rw [ea];exact q⟩⟩
theorem YD {a:Tr}(pa:Pl a):∃ b c,fill [a]=[a,b,c]/\dt3 (crs a b) c≠0/\(b=e0\/b=e1)/\(c=e1\/c=e2):=by
 have p0:Pl e0:=(Qu (Gi 2) e0 (by simp)).1;show ∃ b c,eH (eH (eH [a] e0) e1) e2=[a,b,c]/\_
 by_cases h0:e0=a
 ·subst h0;exact ⟨e1,e2,by decide,by decide,.inr rfl,.inr rfl⟩
 ·have h:=Qe pa p0 (MK h0);have z0:(crs a e0).1=0:=by simp [crs,e0]
  by_cases h1:dt3 (crs a e0) e1=0
  ·have h2:dt3 (crs a e0) e2≠0:=fun h2=>h (by
    rw [V7] at h1;rw [Wv] at h2;exact HB z0 (HB h1 h2))
   exact ⟨e0,e2,by simp [eH,h0,h1,h2],h2,.inl rfl,.inr rfl⟩
  ·exact ⟨e0,e1,by simp [eH,h0,h1],h1,.inl rfl,.inl rfl⟩
def Few (us:List Tr):Prop:=us.Nodup/\1<=us.length/\us.length<=3/\∀ a b c,us=[a,b,c]->dt3 (crs a b) c≠0
theorem Km {us:List Tr}{m:Nat}(h2:2<=m)(hf:Few us)(hp:Fq m us):∃ a b c,fill us=[a,b,c]/\dt3 (crs a b) c≠0/\us=[a,b,c].take us.length/\Fq m [a,b,c]:=by
 have eo:∀ t,t=e0\/t=e1\/t=e2->Pl t/\Bk m t:=fun t ht=>Qu h2 t (by rcases ht with rfl | rfl | rfl <;> simp)
 obtain ⟨nd,l1,l3,hd⟩:=hf;match us,l1,l3,nd,hp,hd with
 | [a],_,_,_,hp,_=>
  obtain ⟨b,c,e,d,hb,hc⟩:=YD (hp a (by simp)).1;refine ⟨a,b,c,e,d,rfl,fun t ht=>?_⟩;simp only [J9,Ml,or_false] at ht;rcases ht with rfl | rfl | rfl
  ·exact hp _<|by simp
  ·exact eo _ (by rcases hb with rfl | rfl <;> simp)
  ·exact eo _ (by rcases hc with rfl | rfl <;> simp)
 | [a,b],_,_,nd,hp,_=>
  have ne:a≠b:=by simpa using nd
  obtain ⟨c,e,d,hc⟩:=W4 (hp a (by simp)).1 (hp b (by simp)).1 ne;refine ⟨a,b,c,e,d,rfl,fun t ht=>?_⟩;simp only [J9,Ml,or_false] at ht;rcases ht with rfl | rfl | rfl
  ·exact hp _<|by simp
  ·exact hp _<|by simp
  ·exact eo _ hc
 | [a,b,c],_,_,_,hp,hd=>exact ⟨a,b,c,rfl,hd a b c rfl,rfl,hp⟩
theorem Dl {a b c s:Tr}(d:dt3 (crs a b) c≠0)(hs:Gq (gK (gK a b) c) s):Free a b c s/\gK (gK a b) c≠(0,0,0):=by
 have m1:dt3 (crs a b) (gK (gK a b) c)=dt3 (crs a b) c:=by simp only [dt3,crs,gK];grind
 have m2:dt3 (crs a c) (gK (gK a b) c) = - dt3 (crs a b) c:=by simp only [dt3,crs,gK];grind
 have m3:dt3 (crs b c) (gK (gK a b) c)=dt3 (crs a b) c:=by simp only [dt3,crs,gK];grind
 refine ⟨⟨d,fun z=>?_,fun z=>?_,fun z=>?_⟩,fun z=>?_⟩
 ·have:=(mF hs).mpr z;rw [m1] at this;exact d this
 ·have:=(mF hs).mpr z;rw [m2] at this;lia
 ·have:=(mF hs).mpr z;rw [m3] at this;exact d this
 ·rw [z] at m1;refine d<|m1.symm.trans ?_
  simp [dt3]
def FwM (us:List Tr)(M:Mt):Prop:=∃ a b c s,fill us=[a,b,c]/\Pl s/\Gq (gK (gK a b) c) s/\yD a b c s M
def acE (c0:kI):Prop:=∀ {h:Gh} {us:List Tr} {m:Nat} {Q:WK} {E:BK},2<=m->m<=200->Few us->Fq m us->(∀ M,FwM us M->HI (8*m+39) M->Q (mw M) h)->c0 [.lst (us.map tw)] h Q E
theorem abF {ti mb bt fi:kI}(hti:VD ti)(hmb:MbG mb)(hbt:ab8 bt)(hfi:acL fi):acE (eZ ti mb bt fi):=by
 intro h us m Q E h2 hm hf hs k;obtain ⟨a,b,c,e,d,et,ok⟩:=Km h2 hf hs;obtain ⟨pa,sa⟩:=ok a (by simp);obtain ⟨pb,sb⟩:=ok b (by simp);obtain ⟨pc,sc'⟩:=ok c (by simp);unfold eZ;rfl'
 refine hfi h2 hm hf.2.1 hf.2.2.1 hs ?_;rw [e];rfl'
 refine hbt hm sa sb sc' (Dl d<|Gq.refl _).2 fun s ps par ss=>?_;rfl'
 refine hti ?_;rfl'
 refine hmb (p:=a) (q:=b) (r:=c) (s:=s) (m:=m+2) (by lia) (sa.mono<|by lia) (sb.mono<|by lia) (sc'.mono<|by lia) ss (Dl d par).1 fun M hM bM=>?_;exact k M ⟨a,b,c,s,e,ps,par,hM⟩<|bM.mono<|by lia
def fresh (ts:List Tr)(i:Nat):Bool:=(M5 i).all fun j=>decide (gt ts j≠gt ts i)
def fp (ts:List Tr):List Nat:=(M5 ts.length).filter (fresh ts)
theorem Df {ts:List Tr}{t:Tr}(h:t∈ts):∃ i,i<ts.length/\gt ts i=t:=by
 obtain ⟨i,hi,e⟩:=TJ.mp h;have:=dF hi
 rw [JQ hi,e] at this;exact ⟨i,hi,(Hz this).symm⟩
theorem JK {α : Type}{l:List α}{i:Nat}{x:α}(e:l[i]?=Dn x):l.take (i+1)=l.take i++[x]:=by rw [M8,e];rfl
theorem Cq (ts:List Tr):∀ n,n<=ts.length->Gm (ts.take n)=((M5 n).filter (fresh ts)).map (gt ts)
 | 0,_=>rfl
 | n+1,h=>by
  have key:gt ts n∈Gm (ts.take n)↔fresh ts n=false:=by
   rw [(iy _).2.1];unfold fresh;rw [List.all_eq_false];constructor
   ·intro m;obtain ⟨j,hj,e⟩:=TJ.mp m;rw [Nm] at hj;rw [List.getElem_take] at e;refine ⟨j,Nj.mpr<|by lia,?_⟩;have q:=dF (ts:=ts) (i:=j) (by lia);rw [JQ (by lia),e] at q;simp [(Hz q).symm]
   ·rintro ⟨j,hj,e⟩;have hj:=Nj.mp hj;have e:gt ts j=gt ts n:=by simpa using e
    rw [<-e];refine N5 (i:=j) ?_;rw [List.getElem?_take_of_lt hj];exact dF<|by lia
  rw [JK (dF (ts:=ts) (i:=n) (by lia)),wL,List.range_succ,List.filter_append,Nz,<-Cq ts n (by lia)];cases c:fresh ts n with
  | false=>rw [if_pos (key.mpr c)];simp [c]
  | true=>rw [if_neg fun m=>by rw [key.mp m] at c;cases c];simp [c]
theorem pW (ts:List Tr):Gm ts=(fp ts).map (gt ts):=by
 have:=Cq ts ts.length (Gi _)
 rwa [Mp] at this
theorem abl {F:Nat->Nat->Nat->Nat->Prop}(s12:∀ {i j k l},F i j k l->F j i k l)(s23:∀ {i j k l},F i j k l->F i k j l)(s34:∀ {i j k l},F i j k l->F i j l k)(ne:∀ {i j k l},F i j k l->i≠j)(key:∀ {i j k l},i<j->j<k->k<l->¬ F i j k l):∀ {i j k l},¬ F i j k l:=by
 have ne23:∀ {i j k l},F i j k l->j≠k:=fun f=>ne (s23 (s12 f))
 have ne34:∀ {i j k l},F i j k l->k≠l:=fun f=>ne23 (s34 (s23 f))
 have h3:∀ {i j k l},i<j->j<k->¬ F i j k l:=fun {i j k l} a b f=>by
  rcases Td (ne34 f) with c | c
  ·exact key a b c f
  have f:=s34 f;rcases Td (ne23 f) with d | d
  ·exact key a d c f
  have f:=s23 f;rcases Td (ne f) with e | e
  ·exact key e d b f
  ·exact key e a b<|s12 f
 have h2:∀ {i j k l},i<j->¬ F i j k l:=fun {i j k l} a f=>by
  rcases Td (ne23 f) with c | c
  ·exact h3 a c f
  have f:=s23 f;rcases Td (ne f) with e | e
  ·exact h3 e c f
  ·exact h3 e a<|s12 f
 intro i j k l f;rcases Td (ne f) with c | c
 ·exact h2 c f
 ·exact h2 c<|s12 f
theorem d12 (p q r:Tr):dt3 (crs q p) r = - dt3 (crs p q) r:=by simp only [dt3,crs];grind
theorem d23 (p q r:Tr):dt3 (crs p r) q = - dt3 (crs p q) r:=by simp only [dt3,crs];grind
theorem n12 {p q r:Tr}(h:dt3 (crs p q) r≠0):dt3 (crs q p) r≠0:=by rw [d12];lia
theorem n23 {p q r:Tr}(h:dt3 (crs p q) r≠0):dt3 (crs p r) q≠0:=by rw [d23];lia
theorem Kp {x:List Tr}(h:FF x=FN){p q r s:Tr}(hp:p∈x)(hq:q∈x)(hr:r∈x)(hs:s∈x):¬ Free p q r s:=by
 obtain ⟨i,hi,rfl⟩:=Df hp;obtain ⟨j,hj,rfl⟩:=Df hq;obtain ⟨k,hk,rfl⟩:=Df hr;obtain ⟨l,hl,rfl⟩:=Df hs;refine fun f=>abl (F:=fun i j k l=>i<x.length/\j<x.length/\k<x.length/\l<x.length/\Free (gt x i) (gt x j) (gt x k) (gt x l)) ?_ ?_ ?_ ?_ ?_ ⟨hi,hj,hk,hl,f⟩
 ·rintro i j k l ⟨a,b,c,d,f1,f2,f3,f4⟩;exact ⟨b,a,c,d,n12 f1,n12 f2,f4,f3⟩
 ·rintro i j k l ⟨a,b,c,d,f1,f2,f3,f4⟩;exact ⟨a,c,b,d,n23 f1,f3,f2,n12 f4⟩
 ·rintro i j k l ⟨a,b,c,d,f1,f2,f3,f4⟩;exact ⟨a,b,d,c,f2,f1,n23 f3,n23 f4⟩
 ·rintro i j k l ⟨a,b,c,d,f1,f2,f3,f4⟩ rfl;refine f1 ?_;simp only [dt3,crs];grind
 ·rintro i j k l a b c ⟨_,_,_,d,f⟩;unfold FF at h;rw [<-HN] at h;have:=nC h _ (nT (l:=[i,j,k]) (Fd a b (by lia)) (show k+1<=l by lia) d)
  have:oN (gt x i) (gt x j) (gt x k) (gt x l)=false:=this
  rw [j8 f] at this;cases this
theorem uy {us:List Tr}(h:LL us=FN){i j k:Nat}(a:i<j)(b:j<k)(c:k<us.length):dt3 (crs (gt us i) (gt us j)) (gt us k)≠0:=fun z=>by
 unfold LL at h;rw [<-Gk] at h;have:=nC h _ (Fd a b c)
 have:jF [gt us i,gt us j,gt us k]=false:=this
 rw [Bv,decide_eq_true z] at this;cases this
theorem K8 {ts:List Tr}(l1:1<=ts.length)(h:FF ts=FN)(h':LL (Gm ts)=FN):Few (Gm ts):=by
 obtain ⟨u1,u2,u3⟩:=iy ts;have g:∀ i,i<(Gm ts).length->gt (Gm ts) i∈ts:=fun i hi=>(u2 _).mp (bf hi)
 refine ⟨u1,?_,?_,fun a b c e=>?_⟩
 ·exact List.length_pos_of_mem<|(u2 _).mpr (bf (i:=0) l1)
 ·refine Nat.le_of_not_lt fun c=>?_;exact Kp h (g 0<|by lia) (g 1<|by lia) (g 2<|by lia) (g 3<|by lia) ⟨uy h' (by decide) (by decide)<|by lia,uy h' (by decide) (by decide)<|by lia,uy h' (by decide) (by decide)<|by lia,uy h' (by decide) (by decide)<|by lia⟩
 ·have:=uy h' (i:=0) (j:=1) (k:=2) (by decide) (by decide) (by rw [e];simp)
  rw [e] at this;exact this
def Ox (ts:List Tr)(M:Mt):Prop:=det M≠0/\((∃ a b c d,FF ts=Dn [a,b,c,d]/\yD (gt ts a) (gt ts b) (gt ts c) (gt ts d) M)\/(FF ts=FN/\LL (Gm ts)≠FN/\LnM ts M)\/(FF ts=FN/\LL (Gm ts)=FN/\FwM (Gm ts) M))
def Og (c0:kI):Prop:=∀ {h:Gh} {w:W} {ts:List Tr} {m:Nat} {Q:WK} {E:BK},2<=m->m<=200->Lf h w ts->1<=ts.length->ts.length<=12->Fq m ts->(∀ M,Ox ts M->HI (8*m+39) M->Q (mw M) h)->c0 [w] h Q E
theorem agq {pi ti mb ch ff un l3 ll lf:kI}(hpi:v7 pi)(hti:VD ti)(hmb:MbG mb)(hch:Ed ch)(hff:yX ff)(hun:UnX un)(hl3:L3Y l3)(hll:acK ll)(hlf:acE lf):Og (rP pi ti mb ch ff un l3 ll lf):=by
 intro h w ts m Q E h2 hm sN l1 l2 hs k;have src:=sN.t;obtain ⟨u1,u2,u3⟩:=iy ts;have hs':Fq m (Gm ts):=fun t ht=>hs t ((u2 t).mp ht)
 unfold rP;refine eY rfl (σ:=[Dn w,FN,FN,FN]) rfl ?_;rfl'
 refine hch src (fun _ _=>?_) fun z=>absurd ⟨l1,l2⟩ z;rfl'
 refine hff (m:=m) (by lia) src l2 hs (fun e=>?_) fun l e=>?_
 ·rfl'
  refine gq ?_;rfl'
  unfold uH;rfl'
  refine hun sN (by lia) ?_;rfl'
  refine hl3 hm (.inl rfl) (by lia) hs' u1 (fun e'=>?_) fun L hL sL=>?_
  ·rfl'
   refine gq ?_;rfl'
   unfold rJ;rfl'
   exact hlf h2 hm (K8 l1 e e') hs' fun M hM bM=>k M ⟨by obtain ⟨_,_,_,_,_,_,_,l⟩:=hM;exact l.1,.inr<|.inr ⟨e,e',hM⟩⟩ bM
  ·obtain ⟨a,b,c,on',o,off',e1,e2',h1,h3,h4⟩:=zaH u1 hL;have hne:LL (Gm ts)≠FN:=by obtain ⟨_,_,_,q,_⟩:=hL;rw [q];exact fun z=>nomatch z
   rfl'
   refine fC ?_;rfl'
   refine hll h2 hm (by lia) hs' (by obtain ⟨_,_,_,_,_,_,_,_,p,_⟩:=hL;exact p) sL e1 e2' h1 h3 h4 fun s M pS parS hM bM=>?_;rfl'
   exact k M ⟨hM.1,.inr<|.inl ⟨e,hne,L,a,b,c,o,s,on',off',hL,e1,e2',pS,parS,hM⟩⟩<|bM.mono<|by lia
 ·obtain ⟨a,b,c,d,rfl,mr,fx⟩:=Gf e;have hi:=bV mr;have ga:∀ i∈[a,b,c,d],Bk m (gt ts i):=fun i h=>(hs _ (bf (hi i h))).2
  refine bK (σ':=[Dn w,Dn<|d7 [a,b,c,d],FN,FN]) rfl<|fX<|aV<|cP<|bG<|aO<|aB rfl<|bW<|fC<|qF<|BJ ?_
  rfl'
  refine hpi src hi (by simp) ?_;rfl'
  refine hti ?_;rfl'
  refine hmb (p:=gt ts a) (q:=gt ts b) (r:=gt ts c) (s:=gt ts d) (m:=m) (by lia) (ga a<|by simp) (ga b<|by simp) (ga c<|by simp) (ga d<|by simp) fx fun M hM bM=>?_;rfl'
  exact k M ⟨hM.1,.inl ⟨a,b,c,d,e,hM⟩⟩<|bM.mono<|by lia
def FormA (c0:kI):Prop:=∀ {h:Gh} {w:W} {ts:List Tr} {m:Nat} {Q:WK} {E:BK},2<=m->m<=200->Lf h w ts->1<=ts.length->ts.length<=12->Fq m ts->(∀ (M:Mt) (us:List Tr),Ox ts M->Nq M ts us->Q (.tup [.str (kd ts),.lst (us.map tw)]) h)->c0 [w] h Q E
theorem agd {ko le lp:kI}(hko:Xk ko)(hle:Og le)(hlp:Yr lp):FormA (Jm ko le lp):=by
 intro h w ts m Q E h2 hm sN l1 l2 hs k;unfold Jm;refine eY rfl (σ:=[Dn w]) rfl ?_;rfl'
 refine hko (m:=m) (by lia) sN hs (fun _ _=>?_) fun z=>absurd ⟨l1,l2⟩ z;rfl'
 refine hle h2 hm sN l1 l2 hs fun M hM bM=>?_;rfl'
 refine hlp (m:=8*m+39) (n:=m) sN.t (by lia) (by lia) hs hM.1 bM fun us hu=>?_;rfl'
 exact k M us hM hu
def Thn (A B M:Mt):Prop:=∃ N,GK (adj B) N/\GK (mm N A) M
def ZG (c0:kI):Prop:=∀ {h:Gh} {A B:Mt} {m n:Nat} {Q:WK} {E:BK},m+n+2<=8000->HI m A->HI n B->det A≠0->det B≠0->(∀ M,PlM M->GK (mm B A) M->HI (m+n+2) M->Q (mw M) h)->c0 [mw A,mw B] h Q E
def ab7 (c0:kI):Prop:=∀ {h:Gh} {wx wy:W} {x y:List Tr} {m n:Nat} {Q:WK} {E:BK},2<=m->2<=n->m<=200->n<=200->Lf h wx x->Lf h wy y->1<=x.length->x.length<=12->1<=y.length->y.length<=12->Fq m x->Fq n y->vB x y=FN ->
 (∀ A B M,Ox x A->Ox y B->Thn A B M->det M≠0->HI (8*m+16*n+120) M->Q (mw M) h)->c0 [wx,wy] h Q E
theorem Yi {th ba le ap:kI}(hth:ZG th)(hba:Fj ba)(hle:Og le)(hap:Dz ap):ab7 (w6 th ba le ap):=by
 intro h wx wy x y m n Q E m2 n2 hm hn sx sy x1 x2 y1 y2 ox oy e k;unfold w6;refine eY rfl (σ:=[Dn wx,Dn wy,FN]) rfl ?_;rfl'
 refine hap sx.t sy.t x1 x2 y1 y2 (fun t ht=>⟨(ox t ht).1,(ox t ht).2.mono hm⟩) (fun t ht=>⟨(oy t ht).1,(oy t ht).2.mono hn⟩) ?_;rw [e];show FX 2 .non _ _ _;rfl'
 refine gq ?_;rfl'
 unfold vM;rfl'
 refine hle m2 hm sx x1 x2 ox fun A hA bA=>?_;rfl'
 refine hle n2 hn sy y1 y2 oy fun B hB bB=>?_;rfl'
 refine hba (by lia) bB hB.1 fun N _ parN bN=>?_;have dN:det N≠0:=parN.det.mp (tY hB.1);rfl'
 refine hth (by lia) bA bN hA.1 dN fun M _ parM bM=>?_;have dM:det M≠0:=parM.det.mp (by rw [vd];exact IV dN hA.1);rfl'
 exact k A B M hA hB ⟨N,parN,parM⟩ dM<|bM.mono<|by lia
structure Eqv (x y:List Tr) (M:Mt):Prop where
 len:x.length=y.length
 d:det M≠0
 im:∀ i,i<x.length->Gq (vm M (gt x i)) (gt y i)
theorem all_none {P:List Nat->Bool}{ls:List (List Nat)}(h:∀ l∈ls,P l=false):ls.findSome? (pass P)=FN:=Uj.mpr fun l hl=>tO (h l hl)
theorem agZ {M:Mt}{p q r p' q' r':Tr}(dM:det M≠0)(hp:Gq (vm M p) p')(hq:Gq (vm M q) q')(hr:Gq (vm M r) r'):dt3 (crs p q) r=0↔dt3 (crs p' q') r'=0:=by
 obtain ⟨a,a0,ea⟩:=hp;obtain ⟨b,b0,eb⟩:=hq;obtain ⟨c,c0,ec⟩:=hr;have:=Cy M p q r
 rw [ea,eb,ec,jZ,nJ,iI] at this;constructor
 ·intro z;rw [z,Rg] at this;exact (Kw.mp<|(Kw.mp this).resolve_right (IV a0 b0)).resolve_right c0
 ·intro z;rw [z,Rz,Rz] at this;exact (Kw.mp this.symm).resolve_left dM
theorem J6 {M:Mt}{p q p' q':Tr}(dM:det M≠0)(pp:Pl p)(pq:Pl q)(pp':Pl p')(pq':Pl q')(hp:Gq (vm M p) p')(hq:Gq (vm M q) q'):p=q↔p'=q':=by
 constructor
 ·rintro rfl;exact yS pp' pq' hp hq
 ·rintro rfl;obtain ⟨a,a0,ea⟩:=hp;obtain ⟨b,b0,eb⟩:=hq;have z:=vh M p q;rw [ea,eb,jZ,show crs p' p'=(0,0,0) by simp only [crs,Ol];exact ⟨by grind,by grind,by grind⟩] at z;refine kO pp pq<|Ug fun c=>yL (afH dM) c ?_
  rw [<-z];simp [sc]
theorem Zc {X Y:Tr}(h:crs X Y=(0,0,0))(i:Int):sc (co i X) Y=sc (co i Y) X:=by
 obtain ⟨x1,x2,x3⟩:=X;obtain ⟨y1,y2,y3⟩:=Y;simp only [crs,Ol] at h;obtain ⟨h1,h2,h3⟩:=h;unfold co sc;refine HB ?_ (HB ?_ ?_) <;> dsimp only <;> split <;> (try split) <;> grind
theorem ahv (u v a b:Tr):crs (crs u v) (crs a b)=(dt3 (crs u v) b*a.1 - dt3 (crs u v) a*b.1,dt3 (crs u v) b*a.2.1 - dt3 (crs u v) a*b.2.1,dt3 (crs u v) b*a.2.2 - dt3 (crs u v) a*b.2.2):=by
 simp only [crs,dt3,Ol];exact ⟨by grind,by grind,by grind⟩
theorem xu {u v a b:Tr}(h1:dt3 (crs u v) a=0)(h2:dt3 (crs u v) b=0)(i:Int):sc (co i (crs u v)) (crs a b)=sc (co i (crs a b)) (crs u v):=Zc (by rw [ahv,h1,h2];simp) i
theorem Lh (i k:Int)(t:Tr):co i (sc k t)=co i t*k:=by
 unfold co sc;split
 ·rfl
 split <;> rfl
theorem Eu {t:Tr}(h:t≠(0,0,0)):co (Nv t) t≠0:=by
 unfold Nv;split
 ·rename_i a;simpa [co] using a
 rename_i a;split
 ·rename_i b;simpa [co] using b
 rename_i b;intro c;rw [NP] at a b;have c:t.2.2=0:=by simpa [co] using c
 exact h<|HB a<|HB b c
theorem WX {M:Mt}{p q r s p' q' r' s':Tr}(dM:det M≠0)(fl:AllP [p,q,r,s])(pl:∀ t∈[p,q,r,s],Pl t)(pl':∀ t∈[p',q',r',s'],Pl t)(hp:Gq (vm M p) p')(hq:Gq (vm M q) q')(hr:Gq (vm M r) r')(hs:Gq (vm M s) s')(na:¬ (q=p/\r=p/\s=p)) :
  (tn p q r s).1*(tn p' q' r' s').2=(tn p q r s).2*(tn p' q' r' s').1:=by
 have tw:∀ {a b a' b'},a∈[p,q,r,s]->b∈[p,q,r,s]->a'∈[p',q',r',s']->b'∈[p',q',r',s']->Gq (vm M a) a'->Gq (vm M b) b'->(a=b↔a'=b'):=fun h1 h2 h3 h4 h5 h6=>J6 dM (pl _ h1) (pl _ h2) (pl' _ h3) (pl' _ h4) h5 h6
 have e1:=tw (a:=q) (b:=p) (a':=q') (b':=p') (by simp) (by simp) (by simp) (by simp) hq hp;have e2:=tw (a:=r) (b:=p) (a':=r') (b':=p') (by simp) (by simp) (by simp) (by simp) hr hp;have e3:=tw (a:=s) (b:=p) (a':=s') (b':=p') (by simp) (by simp) (by simp) (by simp) hs hp;have na':¬ (q'=p'/\r'=p'/\s'=p'):=fun ⟨a,b,c⟩=>na ⟨e1.mpr a,e2.mpr b,e3.mpr c⟩
 have hf:Gq (vm M (fo p q r s)) (fo p' q' r' s'):=by
  by_cases c1:q=p
  ·have c1':=e1.mp c1;by_cases c2:r=p
   ·have c2':=e2.mp c2;rw [show fo p q r s=s by simp [fo,c1,c2],show fo p' q' r' s'=s' by simp [fo,c1',c2']];exact hs
   ·have c2':=mt e2.mpr c2;rw [show fo p q r s=r by simp [fo,c1,c2],show fo p' q' r' s'=r' by simp [fo,c1',c2']];exact hr
  ·have c1':=mt e1.mpr c1;rw [show fo p q r s=q by simp [fo,c1],show fo p' q' r' s'=q' by simp [fo,c1']];exact hq
 have fi:=Jk p q r s;have fi':=Jk p' q' r' s';have l0:co (ixp p' q' r' s') (crs p' (fo p' q' r' s'))≠0:=Eu (jT (pl' _ (by simp)) (pl' _ fi') fun z=>Ju na' z.symm);have l1:co (ixp p q r s) (crs p (fo p q r s))≠0:=Eu (jT (pl _ (by simp)) (pl _ fi) fun z=>Ju na z.symm);unfold tn;dsimp only;generalize ixp p' q' r' s'=j at *;generalize ixp p q r s=i at *;generalize fo p q r s=f at *;generalize fo p' q' r' s'=f' at *;obtain ⟨kp,kp0,ep⟩:=hp;obtain ⟨kq,kq0,eq⟩:=hq;obtain ⟨kr,kr0,er⟩:=hr;obtain ⟨ks,ks0,es⟩:=hs;obtain ⟨kf,kf0,ef⟩:=hf;have key:∀ {u v u' v':Tr} {a b:Int},u∈[p,q,r,s]->v∈[p,q,r,s]->vm M u=sc a u'->vm M v=sc b v'->co i (crs u v)*(co j (crs p' f')*(kp*kf))=co i (crs p f)*(co j (crs u' v')*(a*b)):=fun {u v u' v' a b} mu mv eu ev'=>by
  have h:=xu (fl p (by simp) u mu v mv) (fl f fi u mu v mv) i;have h:=congrArg (fun t=>co j (vm (Ko M) t)) h;rw [cB,cB,<-vh,<-vh,ep,ef,eu,ev',jZ,jZ,Lh,Lh,Lh,Lh] at h;rw [RG (co i (crs u v)),RG (co i (crs p f))];exact h
 have k1:=key (u:=p) (v:=r) (by simp) (by simp) ep er;have k2:=key (u:=q) (v:=s) (by simp) (by simp) eq es;have k3:=key (u:=p) (v:=s) (by simp) (by simp) ep es;have k4:=key (u:=q) (v:=r) (by simp) (by simp) eq er;have w0:co j (crs p' f')*(kp*kf)≠0:=IV l0 (IV kp0 kf0);generalize co j (crs p' f')*(kp*kf)=w at *;refine Ue (IV w0 w0) ?_;generalize co i (crs p f)=c at *;grind
theorem zbJ {M:Mt}{a b c d s a' b' c' d' s':Tr}(dM:det M≠0)(ha:Gq (vm M a) a')(hb:Gq (vm M b) b')(hc:Gq (vm M c) c')(hd:Gq (vm M d) d')(hs:Gq (vm M s) s'):crs (MF a b c d s) (MF a' b' c' d' s')=(0,0,0):=by
 obtain ⟨ka,ka0,ea⟩:=ha;obtain ⟨kb,kb0,eb⟩:=hb;obtain ⟨kc,kc0,ec⟩:=hc;obtain ⟨kd,kd0,ed⟩:=hd;obtain ⟨ks,ks0,es⟩:=hs;have key:∀ {u v w u' v' w':Tr} {x y z:Int},vm M u=sc x u'->vm M v=sc y v'->vm M w=sc z w'->det M*dt3 (crs u v) w=dt3 (crs u' v') w'*(x*y)*z:=fun eu ev' ew=>by
  rw [<-Cy,eu,ev',ew,jZ,nJ,iI];grind
 have g:sc (det M*det M*det M) (MF a b c d s)=sc (ka*ka*(kb*kb)*(kc*kc)*(kd*kd)*ks) (MF a' b' c' d' s'):=by
  have k1:=key es eb ec;have k2:=key ea ed ec;have k3:=key ea eb ed;have k4:=key ea es ec;have k5:=key ed eb ec;have k6:=key ea eb es;unfold MF sc;refine HB ?_ (HB ?_ ?_) <;> dsimp only <;> grind
 have d3:det M*det M*det M≠0:=IV (IV dM dM) dM;have k0:ka*ka*(kb*kb)*(kc*kc)*(kd*kd)*ks≠0:=IV (IV (IV (IV (IV ka0 ka0) (IV kb0 kb0)) (IV kc0 kc0)) (IV kd0 kd0)) ks0;have e:=jZ (det M*det M*det M) (ka*ka*(kb*kb)*(kc*kc)*(kd*kd)*ks) (MF a b c d s) (MF a' b' c' d' s');rw [g,show ∀ t:Tr,crs t t=(0,0,0) from fun t=>by simp only [crs,Ol];exact ⟨by grind,by grind,by grind⟩] at e;exact (jf<|IV d3 k0).mp e.symm
theorem aeC {x y:List Tr}{M:Mt}{m n:Nat}(e:Eqv x y M)(ox:Fq m x)(oy:Fq n y):vB x y=FN:=by
 have px:∀ i,i<x.length->Pl (gt x i):=fun i hi=>(ox _ (bf hi)).1
 have py:∀ i,i<x.length->Pl (gt y i):=fun i hi=>(oy _ (bf (by rw [<-e.len];exact hi))).1
 have h2:s2 x y=FN:=all_none fun l hl=>by
  have hi:=bV hl;match l,bD hl with
  | [i,j],_=>
  refine decide_eq_false<|NP.mpr<|decide_eq_decide.mpr ?_
  exact J6 e.d (px i<|hi i<|by simp) (px j<|hi j<|by simp) (py i<|hi i<|by simp) (py j<|hi j<|by simp) (e.im i<|hi i<|by simp)<|e.im j<|hi j<|by simp
 have h3:s3 x y=FN:=all_none fun l hl=>by
  have hi:=bV hl;match l,bD hl with
  | [i,j,k],_=>
  refine decide_eq_false<|NP.mpr<|decide_eq_decide.mpr ?_
  exact agZ e.d (e.im i<|hi i<|by simp) (e.im j<|hi j<|by simp)<|e.im k<|hi k<|by simp
 have h4:s4 x y=FN:=all_none fun l hl=>by
  have hi:=bV hl;match l,bD hl with
  | [a,b,c,d],_=>
  show R6 _ _ _ _ _ _ _ _=false;unfold R6;cases hf:jF [gt x a,gt x b,gt x c,gt x d] with
  | false=>rfl
  | true=>
  by_cases al:gU (gt x a) (gt x b) (gt x c) (gt x d)
  ·rw [decide_eq_true al];rfl
  ·have p4:∀ t∈[gt x a,gt x b,gt x c,gt x d],Pl t:=fun t ht=>by
    obtain ⟨i,mi,rfl⟩:=Lk.mp (show t∈[a,b,c,d].map (gt x) from ht);exact px i<|hi i mi
   have q4':∀ t∈[gt y a,gt y b,gt y c,gt y d],Pl t:=fun t ht=>by
    obtain ⟨i,mi,rfl⟩:=Lk.mp (show t∈[a,b,c,d].map (gt y) from ht);exact py i<|hi i mi
   have key:=WX e.d (Classical.byContradiction fun n=>by rw [wN n] at hf;cases hf) p4 q4' (e.im a (hi a (by simp))) (e.im b (hi b (by simp))) (e.im c (hi c (by simp))) (e.im d (hi d (by simp))) fun ⟨q1,q2,q3⟩=>al (.inl ⟨q1.symm,q1.trans q2.symm⟩)
   rw [decide_eq_false al,decide_eq_false (NP.mpr key)];rfl
 have h5:s5 x y=FN:=by
  unfold s5;cases hf:FF x with
  | none=>rfl
  | some l=>
  obtain ⟨a,b,c,d,rfl,mr,fx⟩:=Gf hf;have hi:=bV mr;refine Uj.mpr fun k hk=>if_neg<|NP.mpr ?_
  exact zbJ e.d (e.im a<|hi a<|by simp) (e.im b<|hi b<|by simp) (e.im c<|hi c<|by simp) (e.im d<|hi d<|by simp)<|e.im k (iV.mp hk).2
 unfold vB;rw [if_neg (NP.mpr e.len),h2,h3,h4,h5]
theorem yC {x y:List Tr}(h:vB x y=FN):x.length=y.length/\s2 x y=FN/\s3 x y=FN/\s4 x y=FN/\s5 x y=FN:=by
 unfold vB at h;by_cases hl:x.length=y.length
 ·rw [if_neg (NP.mpr hl)] at h;cases h2:s2 x y with
  | some l=>rw [h2] at h;cases h
  | none=>
  cases h3:s3 x y with
  | some l=>rw [h2,h3] at h;cases h
  | none=>
  cases h4:s4 x y with
  | some l=>rw [h2,h3,h4] at h;cases h
  | none=>
  cases h5:s5 x y with
  | some l=>rw [h2,h3,h4,h5] at h;cases h
  | none=>exact ⟨hl,rfl,rfl,rfl,rfl⟩
 ·rw [if_pos hl] at h;cases h
theorem abw {G:Nat->Nat->Nat->Prop}(s12:∀ {i j k},G i j k->G j i k)(s23:∀ {i j k},G i j k->G i k j)(dg:∀ {i k},G i i k)(key:∀ {i j k},i<j->j<k->G i j k)(i j k:Nat):G i j k:=by
 have h2:∀ {i j k},i<j->G i j k:=fun {i j k} a=>by
  rcases Nat.lt_trichotomy j k with c | rfl | c
  ·exact key a c
  ·exact s12<|s23 dg
  rcases Nat.lt_trichotomy i k with d | rfl | d
  ·exact s23<|key d c
  ·exact s23 dg
  ·exact s23<|s12<|key d a
 rcases Nat.lt_trichotomy i j with c | rfl | c
 ·exact h2 c
 ·exact dg
 ·exact s12<|h2 c
theorem dpp (p r:Tr):dt3 (crs p p) r=0:=by simp only [dt3,crs];grind
theorem J5 {x y:List Tr}(h:s3 x y=FN){i j k:Nat}:i<x.length->j<x.length->k<x.length->(dt3 (crs (gt x i) (gt x j)) (gt x k)=0↔dt3 (crs (gt y i) (gt y j)) (gt y k)=0):=by
 refine abw (G:=fun i j k=>i<x.length->j<x.length->k<x.length->(dt3 (crs (gt x i)<|gt x j) (gt x k)=0↔dt3 (crs (gt y i)<|gt y j) (gt y k)=0)) ?_ ?_ ?_ ?_ i j k
 ·intro i j k g hj hi hk;rw [d12 (gt x i),d12 (gt y i),Int.neg_eq_zero,Int.neg_eq_zero];exact g hi hj hk
 ·intro i j k g hi hk hj;rw [d23 (gt x i) (gt x j),d23 (gt y i) (gt y j),Int.neg_eq_zero,Int.neg_eq_zero];exact g hi hj hk
 ·intro i k _ _ _;rw [dpp,dpp]
 ·intro i j k a b _ _ c;exact JT h a b c
theorem wZ {P P':List Nat->Bool}:∀ {ls:List (List Nat)},(∀ l∈ls,P l=P' l)->ls.findSome? (pass P)=ls.findSome? (pass P')
 | [],_=>rfl
 | l::ls,h=>by rw [T9,T9,show pass P l=pass P' l by unfold pass;rw [h l (by simp)],wZ fun l hl=>h l (by simp [hl])]
theorem zbD {x y:List Tr}(hl:x.length=y.length)(h:s3 x y=FN):FF x=FF y:=by
 unfold FF;rw [<-HN,<-HN,<-hl];refine wZ fun l ml=>?_;match l,bD ml with
 | [a,b,c,d],_=>
 have:=ni h ml
 show oN _ _ _ _=oN _ _ _ _;by_cases f:Free (gt x a) (gt x b) (gt x c) (gt x d)
 ·rw [j8 f,j8 (this.mp f)]
 ·rw [oX f,oX fun z=>f (this.mpr z)]
theorem jr {x:List Tr}{p:Nat}(h:p∈fp x):p<x.length:=Nj.mp (OD.mp h).1
theorem abp (x:List Tr):(fp x).Pairwise (· < ·):=List.Pairwise.filter _ List.pairwise_lt_range
theorem Bw {x y:List Tr}(hl:x.length=y.length)(h:s2 x y=FN):fp x=fp y:=by
 unfold fp;rw [<-hl];refine List.filter_congr fun i hi=>?_;have hi:=Nj.mp hi;unfold fresh;rw [Bool.eq_iff_iff,MP,MP];refine forall_congr' fun j=>⟨fun g hj=>?_,fun g hj=>?_⟩
 ·have lj:=Nj.mp hj;exact decide_eq_true fun z=>of_decide_eq_true (g hj)<|(Bm h (by lia) hi).mpr z
 ·have lj:=Nj.mp hj;exact decide_eq_true fun z=>of_decide_eq_true (g hj)<|(Bm h (by lia) hi).mp z
theorem qb {x:List Tr}{j p:Nat}(e:(fp x)[j]?=Dn p):gt (Gm x) j=gt x p:=by
 rw [pW];show (List.map (gt x) (fp x)).getD j (0,0,0)=_;rw [Mz,LK,e];rfl
theorem Jd {x y:List Tr}(hl:x.length=y.length)(h2:s2 x y=FN)(h3:s3 x y=FN):LL (Gm x)=LL (Gm y):=by
 have fe:=Bw hl h2;have lx:(Gm x).length=(fp x).length:=by rw [pW,Gg]
 have ly:(Gm y).length=(fp x).length:=by rw [pW,Gg,fe]
 unfold LL;rw [<-Gk,<-Gk,lx,ly];refine wZ fun l ml=>?_;have li:=bV ml;match l,bD ml with
 | [i,j,k],_=>
 have g:∀ i,i<(fp x).length->∃ p,p<x.length/\gt (Gm x) i=gt x p/\gt (Gm y) i=gt y p:=fun i hi=>by
  have e:=JQ hi;exact ⟨_,jr<|N5 e,qb e,qb (by rw [<-fe];exact e)⟩
 obtain ⟨p,hp,e1,e2⟩:=g i (li i (by simp));obtain ⟨q,hq,e3,e4⟩:=g j (li j (by simp));obtain ⟨r,hr,e5,e6⟩:=g k (li k (by simp));show jF _=jF _;rw [Bv,Bv,e1,e2,e3,e4,e5,e6];exact decide_eq_decide.mpr<|J5 h3 hp hq hr
theorem acP {A:Mt}{a b c o s L p:Tr}(ld:yD a b o s A)(par:Gq (gK o c) s)(pL:Pl L)(ha:dt3 a L=0)(hb:dt3 b L=0)(hc:dt3 c L=0)(hp:dt3 p L=0)(pa:Pl a)(pb:Pl b)(pc:Pl c)(hab:a≠b) :
  (vm A c).1=(vm A c).2.1/\(vm A p).2.2=0/\(vm A c).2.2=0/\∃ K Z:Int,K≠0/\Z≠0/\K*(vm A p).1=Z*(tn a b c p).1/\K*(vm A p).2.1=Z*(tn a b c p).2:=by
 obtain ⟨dA,h1,h2,h3,h4⟩:=ld;obtain ⟨ka,ka0,xa,xa0,a1,a2,a3⟩:=yK h1;obtain ⟨kb,kb0,xb,xb0,b1,b2,b3⟩:=yK h2;obtain ⟨kc,kc0,xc,xc0,c1,c2,c3⟩:=yK h3;obtain ⟨kd,kd0,xd,xd0,d1,d2,d3⟩:=yK h4;have z:∀ {x y k:Int},x≠0->x*y=k*0->y=0:=fun hx e=>(Kw.mp (e.trans (Rg _))).resolve_left hx
 have nz:∀ {x y k:Int},k≠0->x*y=k*1->y≠0:=fun hk e q=>by rw [q,Rg,Int.mul_one] at e;exact hk e.symm
 have ea:vm A a=((vm A a).1,0,0):=HB rfl (HB (z xa0 a2) (z xa0 a3));have eb:vm A b=(0,(vm A b).2.1,0):=HB (z xb0 b1) (HB rfl (z xb0 b3));have a0:=nz ka0 a1;have b0:=nz kb0 b2;have zl:∀ {u v w:Tr},dt3 u L=0->dt3 v L=0->dt3 w L=0->dt3 (crs u v) w=0:=fun hu hv hw=>flat pL.ne (by rw [bY];exact hu) (by rw [bY];exact hv) (by rw [bY];exact hw)
 have th:∀ {w:Tr},dt3 w L=0->(vm A w).2.2=0:=fun {w} hw=>by
  have e:=Cy A a b w;rw [zl ha hb hw,Rg,ea,eb] at e;simp only [crs,dt3,Rg,Rz,Int.sub_zero,Int.zero_add,Int.sub_self] at e;exact (Kw.mp e).resolve_left (IV a0 b0)
 have hc12:(vm A c).1=(vm A c).2.1:=by
  obtain ⟨k,k0,ek⟩:=par;have e:=congrArg (vm A) ek;rw [cB] at e;have q1:=congrArg (·.1) e;have q2:=congrArg (·.2.1) e;dsimp only [sc] at q1 q2;have r1:(vm A (gK o c)).1=(vm A o).1+(vm A c).1:=sU _ _ _;have r2:(vm A (gK o c)).2.1=(vm A o).2.1+(vm A c).2.1:=sU _ _ _;have s1:(vm A s).1=(vm A s).2.1:=Ue xd0 (d1.trans d2.symm);have t1:=z xc0 c1;have t2:=z xc0 c2;rw [r1,t1,s1] at q1;rw [r2,t2] at q2;lia
 refine ⟨hc12,th hp,th hc,?_⟩;have t0:(vm A c).1≠0:=fun e=>yL dA pc.ne (HB e (HB (hc12.symm.trans e) (th hc)))
 have fob:fo a b c p=b:=if_pos hab.symm;have e0:co (ixp a b c p) (crs a b)≠0:=by
  unfold ixp;rw [fob];exact Eu<|jT pa pb hab
 unfold tn;dsimp only;generalize ixp a b c p=i at *;have key:∀ {u v:Tr},dt3 u L=0->dt3 v L=0->co i (crs u v)*((vm A a).1*(vm A b).2.1)=co i (crs a b)*((vm A u).1*(vm A v).2.1 - (vm A u).2.1*(vm A v).1):=fun {u v} hu hv=>by
  have h:=xu (zl hu hv ha) (zl hu hv hb) i;have h:=congrArg (fun t=>(vm (Ko A) t).2.2) h;rw [cB,cB,<-vh,<-vh] at h;rw [ea,eb] at h;simp only [sc,crs,Rg,Int.sub_zero] at h;rw [RG (co i (crs u v)),RG (co i (crs a b))];exact h
 have k1:=key ha hc;have k2:=key hb hp;have k3:=key ha hp;have k4:=key hb hc;rw [ea] at k1 k3;rw [eb] at k2 k4;dsimp only at k1 k2 k3 k4;rw [<-hc12] at k1 k4;generalize (vm A a).1=A1 at *;generalize (vm A b).2.1=B1 at *;generalize (vm A c).1=t at *;generalize (vm A p).1 = α at *;generalize (vm A p).2.1 = β at *;generalize co i (crs a b)=e at *;have w0:=IV a0 b0;refine ⟨-(e*e*(A1*B1)*t),A1*B1*(A1*B1),?_,IV w0 w0,?_,?_⟩
 ·have:=IV (IV (IV e0 e0) w0) t0
  lia
 ·have:A1*B1*(A1*B1)*(co i (crs a c)*co i (crs b p))=(co i (crs a c)*(A1*B1))*(co i (crs b p)*(A1*B1)):=by grind
  rw [this,k1,k2];grind
 ·have:A1*B1*(A1*B1)*(co i (crs a p)*co i (crs b c))=(co i (crs a p)*(A1*B1))*(co i (crs b c)*(A1*B1)):=by grind
  rw [this,k3,k4];grind
theorem afi {x:List Tr}{L a b c o o':Tr}(h:FF x=FN)(pl:∀ t∈x,Pl t)(ma:a∈x)(mb:b∈x)(mc:c∈x)(mo:o∈x)(mo':o'∈x)(hab:a≠b)(hac:a≠c)(hbc:b≠c)(ha:dt3 a L=0)(hb:dt3 b L=0)(hc:dt3 c L=0)(ho:dt3 o L≠0)(ho':dt3 o' L≠0):o=o':=Ug fun ne=>by
 have kn:=jT (pl _ mo) (pl _ mo') ne;have not2:∀ {u v:Tr},u∈x->v∈x->u≠v->dt3 u L=0->dt3 v L=0->dt3 u (crs o o')=0->dt3 v (crs o o')≠0:=fun {u v} mu mv huv hu hv k1 k2=>by
  obtain ⟨s,t,s0,e⟩:=yF k1 k2 (jT (pl _ mu) (pl _ mv) huv);have n1:=off_ne hu hv (pl _ mu) (pl _ mv) huv ho;have q:=congrArg (fun w=>dt3 w o) e;simp only [nJ,Ez,Rz] at q;have t0:t=0:=(Kw.mp q.symm).resolve_left n1;rw [t0] at e;refine kn<|(jf s0).mp (e.trans ?_)
  simp [sc]
 have fr:∀ {u v:Tr},u∈x->v∈x->u≠v->dt3 u L=0->dt3 v L=0->dt3 u (crs o o')≠0->dt3 v (crs o o')≠0->False:=fun {u v} mu mv huv hu hv k1 k2=>by
  refine Kp h mu mv mo mo' ⟨off_ne hu hv (pl _ mu) (pl _ mv) huv ho,off_ne hu hv (pl _ mu) (pl _ mv) huv ho',fun z=>k1 ?_,fun z=>k2 ?_⟩
  ·rw [<-z];simp only [dt3,crs];grind
  ·rw [<-z];simp only [dt3,crs];grind
 by_cases k1:dt3 a (crs o o')=0
 ·exact fr mb mc hbc hb hc (not2 ma mb hab ha hb k1)<|not2 ma mc hac ha hc k1
 by_cases k2:dt3 b (crs o o')=0
 ·exact fr ma mc hac ha hc k1<|not2 mb mc hbc hb hc k2
 ·exact fr ma mb hab ha hb k1 k2
theorem JX {X Y u v:Tr}(hX:Gq X u)(hY:Gq Y v)(h:crs X Y=(0,0,0))(pu:Pl u)(pv:Pl v):u=v:=by
 obtain ⟨k,k0,rfl⟩:=hX;obtain ⟨l,l0,rfl⟩:=hY;rw [jZ] at h;exact kO pu pv<|(jf<|IV k0 l0).mp h
theorem Ra:Pl e0:=(Qu (Gi 2) e0 (by simp)).1
theorem Vg:Pl e1:=(Qu (Gi 2) e1 (by simp)).1
theorem ZF:Pl e2:=(Qu (Gi 2) e2 (by simp)).1
theorem QV {ts:List Tr}{M:Mt}{m j:Nat}{t:Tr}(h2:2<=m)(hf:Few (Gm ts))(ok:Fq m ts)(hM:FwM (Gm ts) M)(hj:j<(Gm ts).length)(pt:Pl t)(hp:Gq (vm M (gt (Gm ts) j)) t):t=gt [e0,e1,e2] j:=by
 obtain ⟨a,b,c,s,e,_,_,l⟩:=hM;obtain ⟨a',b',c',e',_,eu,_⟩:=Km h2 hf fun t ht=>ok t (((iy ts).2.1 t).mp ht)
 rw [e] at e';cases e'
 have l3:=hf.2.2.1;have gj:gt (Gm ts) j=gt [a,b,c] j:=by
  have:gt (Gm ts) j=gt ([a,b,c].take (Gm ts).length) j:=by rw [<-eu]
  rw [this];unfold gt;rw [Mz,Mz,List.getElem?_take_of_lt hj]
 rw [gj] at hp;have:j=0\/j=1\/j=2:=by lia
 rcases this with rfl | rfl | rfl
 ·exact l.2.1.eq Ra pt hp
 ·exact l.2.2.1.eq Vg pt hp
 ·exact l.2.2.2.1.eq ZF pt hp
section
variable {x y us vs:List Tr}{A B:Mt}{m n:Nat}(hl:x.length=y.length)(h2:s2 x y=FN)(h3:s3 x y=FN)(h4:s4 x y=FN)(ox:Fq m x)(oy:Fq n y)(iu:Nq A x us)(iv:Nq B y vs)
include hl h2 h3 h4 ox oy iu iv
theorem afo (hf:FF x=FN)(hf':FF y=FN)(hA:LnM x A)(hB:LnM y B){p:Nat}(mp:p∈fp x):gt us p=gt vs p:=by
 obtain ⟨L,a,b,c,o,s,on',off',hL,eon,eoff,_,parS,ld⟩:=hA;obtain ⟨L',a',b',c',o',s',on2,off2,hL',eon',eoff',_,parS',ld'⟩:=hB;obtain ⟨i,j,k,el,ij,jk,kl,_,pL,parL⟩:=hL;obtain ⟨i',j',k',el',_,_,_,_,pL',parL'⟩:=hL';rw [<-Jd hl h2 h3,el] at el';cases el'
 have fe:=Bw hl h2;have lx:(Gm x).length=(fp x).length:=by rw [pW,Gg]
 obtain ⟨pi,ei⟩:∃ q,(fp x)[i]?=Dn q:=⟨_,JQ (by lia)⟩
 obtain ⟨pj,ej⟩:∃ q,(fp x)[j]?=Dn q:=⟨_,JQ (by lia)⟩
 have hi:=jr (N5 ei);have hj:=jr (N5 ej);rw [qb ei,qb ej] at parL;rw [qb (by rw [<-fe];exact ei),qb (by rw [<-fe];exact ej)] at parL';have on:∀ q,q<x.length->(dt3 (gt x q) L=0↔dt3 (gt y q) L'=0):=fun q hq=>by
  rw [bY (gt x q),bY (gt y q),<-wC parL,<-wC parL'];exact J5 h3 hi hj hq
 have px:∀ q,q<x.length->Pl (gt x q):=fun q hq=>(ox _ (bf hq)).1
 have py:∀ q,q<x.length->Pl (gt y q):=fun q hq=>(oy _ (bf (by rw [<-hl];exact hq))).1
 rw [pW,List.filter_map] at eon eon';have Fe:(fp y).filter (O7 L' ∘ gt y)=(fp x).filter (O7 L ∘ gt x):=by
  rw [<-fe];exact List.filter_congr fun q hq=>decide_eq_decide.mpr (on q<|jr hq).symm
 rw [Fe] at eon';have Fs:((fp x).filter (O7 L ∘ gt x)).Pairwise (· < ·):=(abp x).filter _;have Fm:∀ q,q∈(fp x).filter (O7 L ∘ gt x)↔q∈fp x/\dt3 (gt x q) L=0:=fun q=>by
  rw [OD];exact and_congr_right fun _=>decide_eq_true_iff
 generalize (fp x).filter (O7 L ∘ gt x)=F at *;obtain ⟨i0,F1,rfl,rfl,g1⟩:=List.map_eq_cons_iff.mp eon;obtain ⟨i1,F2,rfl,rfl,g2⟩:=List.map_eq_cons_iff.mp g1;obtain ⟨i2,F3,rfl,rfl,g3⟩:=List.map_eq_cons_iff.mp g2;simp only [LQ,Sx] at eon';obtain ⟨rfl,rfl,rfl,_⟩:=eon';obtain ⟨m0,o0⟩:=(Fm i0).mp (by simp);obtain ⟨m1,o1⟩:=(Fm i1).mp (by simp);obtain ⟨m2,o2⟩:=(Fm i2).mp (by simp);simp only [List.pairwise_cons,J9,forall_eq_or_imp] at Fs;obtain ⟨⟨l01,l02,_⟩,⟨l12,_⟩,l23,_⟩:=Fs;have n0:=jr m0;have n1:=jr m1;have n2:=jr m2;have ne:∀ {q r:Nat},q<r->r∈fp x->gt x q≠gt x r:=fun {q r} hqr hr=>by
  have:=(OD.mp hr).2
  unfold fresh at this;exact of_decide_eq_true<|MP.mp this q<|Nj.mpr hqr
 have ney:∀ {q r:Nat},q<r->r∈fp x->gt y q≠gt y r:=fun {q r} hqr hr z=>ne hqr hr ((Bm h2 (by have:=jr hr;lia) (jr hr)).mpr z)
 have o0':=(on i0 n0).mp o0;have o1':=(on i1 n1).mp o1;have o2':=(on i2 n2).mp o2;have np:=jr mp;obtain ⟨pu,qu⟩:=iu.2 p np;obtain ⟨pv,qv⟩:=iv.2 p (by rw [<-hl];exact np);by_cases hp:dt3 (gt x p) L=0
 ·have hp':=(on p np).mp hp;rcases J9.mp ((Fm p).mpr ⟨mp,hp⟩) with rfl | q
  ·exact (ld.2.1.eq Ra pu qu).trans (ld'.2.1.eq Ra pv qv).symm
  rcases J9.mp q with rfl | q
  ·exact (ld.2.2.1.eq Vg pu qu).trans (ld'.2.2.1.eq Vg pv qv).symm
  have r1:=acP ld parS pL o0 o1 o2 hp (px i0 n0) (px i1 n1) (px i2 n2) (ne l01 m1);have r2:=acP ld' parS' pL' o0' o1' o2' hp' (py i0 n0) (py i1 n1) (py i2 n2) (ney l01 m1);obtain ⟨c1,z1,zc1,K,Z,K0,Z0,u1,u2⟩:=r1;obtain ⟨c2,z2,zc2,K',Z',K0',Z0',v1,v2⟩:=r2;rcases J9.mp q with rfl | q
  ·refine JX qu qv ?_ pu pv;unfold crs;rw [c1,c2,zc1,zc2];refine HB ?_ (HB ?_ ?_) <;> dsimp only <;> grind
  have lp:=l23 p q;have r4:[i0,i1,i2,p]∈Cg x.length 4:=nT (l:=[i0,i1,i2]) (Fd l01 l12 n2) (show i2+1<=p by lia) np;have tb:R6 (gt x i0) (gt x i1) (gt x i2) (gt x p) (gt y i0) (gt y i1) (gt y i2) (gt y p)=false:=nC h4 _ r4;unfold R6 at tb;have fl:jF [gt x i0,gt x i1,gt x i2,gt x p]=true:=uG fun u mu v mv w mw=>by
   have onl:∀ t∈[gt x i0,gt x i1,gt x i2,gt x p],dt3 L t=0:=fun t ht=>by
    simp only [J9,Ml,or_false] at ht;rw [bY];rcases ht with rfl | rfl | rfl | rfl
    ·exact o0
    ·exact o1
    ·exact o2
    ·exact hp
   exact flat pL.ne (onl v mv) (onl w mw)<|onl u mu
  have al:¬ gU (gt x i0) (gt x i1) (gt x i2) (gt x p):=by
   rintro (⟨q1,_⟩ | ⟨q1,_⟩ | ⟨q1,_⟩ | ⟨q1,_⟩)
   ·exact ne l01 m1 q1
   ·exact ne l01 m1 q1
   ·exact ne l02 m2 q1
   ·exact ne l12 m2 q1
  rw [fl,decide_eq_false al,Bool.true_and,Bool.not_false,Bool.true_and] at tb;have tb:=NP.mp (of_decide_eq_false tb);refine JX qu qv ?_ pu pv;have key:(vm A (gt x p)).1*(vm B (gt y p)).2.1=(vm A (gt x p)).2.1*(vm B (gt y p)).1:=by
   refine Ue (IV K0 K0') ?_;grind
  unfold crs;rw [z1,z2];refine HB ?_ (HB ?_ ?_) <;> dsimp only <;> grind
 ·have hp':=mt (on p np).mpr hp;have offp:∀ {x us:List Tr} {A:Mt} {L a b c o s:Tr} {off':List Tr} {m:Nat},FF x=FN->Fq m x->(Gm x++[e0,e1,e2]).filter (offB L)=o::off'->yD a b o s A->∀ {i0 i1 i2 p:Nat},i0<x.length->i1<x.length->i2<x.length->p<x.length->gt x i0≠gt x i1->gt x i0≠gt x i2->gt x i1≠gt x i2->dt3 (gt x i0) L=0->dt3 (gt x i1) L=0->dt3 (gt x i2) L=0->dt3 (gt x p) L≠0->∀ {t:Tr},Pl t->Gq (vm A (gt x p)) t->t=e2:=fun {x us A L a b c o s off' m} hf ox eoff ld {i0 i1 i2 p} n0 n1 n2 np d01 d02 d12 o0 o1 o2 hp {t} pt qt=>by
   have mo:gt x p∈(Gm x).filter (offB L):=OD.mpr ⟨((iy x).2.1 _).mpr (bf np),by unfold offB;rw [decide_eq_false hp];rfl⟩;rw [List.filter_append] at eoff;have ho:o∈(Gm x).filter (offB L):=by
    cases q:(Gm x).filter (offB L) with
    | nil=>rw [q] at mo;cases mo
    | cons w r=>rw [q] at eoff;cases eoff;exact Nb
   obtain ⟨ho1,ho2⟩:=OD.mp ho;have ho2:dt3 o L≠0:=by unfold offB at ho2;simpa using ho2
   have:o=gt x p:=afi hf (fun t ht=>(ox t ht).1) (bf n0) (bf n1) (bf n2) (((iy x).2.1 _).mp ho1) (bf np) d01 d02 d12 o0 o1 o2 ho2 hp
   subst this;exact ld.2.2.2.1.eq ZF pt qt
  rw [offp (us:=us) (c:=gt x i2) hf ox eoff ld n0 n1 n2 np (ne l01 m1) (ne l02 m2) (ne l12 m2) o0 o1 o2 hp pu qu];rw [hl] at n0 n1 n2 np;exact (offp (us:=vs) (c:=gt y i2) hf' oy eoff' ld' n0 n1 n2 np (ney l01 m1) (ney l02 m2) (ney l12 m2) o0' o1' o2' hp' pv qv).symm
end
theorem yN {x y us vs:List Tr}{A B:Mt}{m n:Nat}(m2:2<=m)(n2:2<=n)(l1:1<=x.length)(due:vB x y=FN)(ox:Fq m x)(oy:Fq n y)(hA:Ox x A)(hB:Ox y B)(iu:Nq A x us)(iv:Nq B y vs):kd x=kd y/\us=vs:=by
 obtain ⟨hl,h2,h3,h4,h5⟩:=yC due;have ff:=zbD hl h3;have ll:=Jd hl h2 h3;refine ⟨by unfold kd;rw [ff,ll],?_⟩;have fe:=Bw hl h2;have fin:(∀ p∈fp x,gt us p=gt vs p)->us=vs:=fun h=>by
  refine List.ext_getElem? fun i=>?_;by_cases hi:i<x.length
  ·rw [dF (by rw [iu.1];exact hi),dF (by rw [iv.1,<-hl];exact hi)];have mi:gt x i∈Gm x:=((iy x).2.1 _).mpr (bf hi);rw [pW] at mi;obtain ⟨p,mp,e⟩:=Lk.mp mi;have np:=jr mp;have e':=(Bm h2 np hi).mp e;have q1:=iu.2 i hi;have q2:=iu.2 p np;have q3:=iv.2 i (by rw [<-hl];exact hi);have q4:=iv.2 p (by rw [<-hl];exact np);rw [e] at q2;rw [e'] at q4;rw [yS q1.1 q2.1 q1.2 q2.2,yS q3.1 q4.1 q3.2 q4.2,h p mp]
  ·rw [Ua (by rw [iu.1];lia),Ua (by rw [iv.1,<-hl];lia)]
 refine fin fun p mp=>?_;have np:=jr mp;obtain ⟨pu,qu⟩:=iu.2 p np;obtain ⟨pv,qv⟩:=iv.2 p (by rw [<-hl];exact np);rcases hA.2 with ⟨a,b,c,d,f,la⟩ | ⟨f,g,la⟩ | ⟨f,g,la⟩
 ·rcases hB.2 with ⟨a',b',c',d',f',lb⟩ | ⟨f',_⟩ | ⟨f',_⟩
  ·rw [<-ff,f] at f';cases f'
   obtain ⟨_,_,_,_,e,mr,fx⟩:=Gf f;cases e;have fy:=(ni h3 mr).mp fx;have:=Ay pu pv ((xP fx la).par qu) ((xP fy lb).par qv)
   refine Ug fun c=>this.mp c ?_;unfold s5 at h5;rw [f] at h5;have:=Uj.mp h5 p (iV.mpr ⟨Rn _,np⟩)
   unfold d5 at this;dsimp only at this;refine Ug fun c=>?_;rw [if_pos c] at this;cases this
  ·rw [<-ff,f] at f';cases f'
  ·rw [<-ff,f] at f';cases f'
 ·rcases hB.2 with ⟨a',b',c',d',f',lb⟩ | ⟨f',g',lb⟩ | ⟨f',g',lb⟩
  ·rw [<-ff,f] at f';cases f'
  ·exact afo hl h2 h3 h4 ox oy iu iv f f' la lb mp
  ·rw [<-ll] at g';exact absurd g' g
 ·rcases hB.2 with ⟨a',b',c',d',f',lb⟩ | ⟨f',g',lb⟩ | ⟨f',g',lb⟩
  ·rw [<-ff,f] at f';cases f'
  ·rw [<-ll] at g';exact absurd g g'
  ·obtain ⟨j,hj,e⟩:=TJ.mp mp;have e1:(fp x)[j]?=Dn p:=by rw [JQ hj,e]
   have lx:j<(Gm x).length:=by rw [pW,Gg];exact hj
   have ly:j<(Gm y).length:=by rw [pW,Gg,<-fe];exact hj
   rw [<-qb e1] at qu;rw [<-qb (x:=y) (by rw [<-fe];exact e1)] at qv;rw [QV m2 (K8 l1 f g) ox la lx pu qu,QV n2 (K8 (by rw [<-hl];exact l1) f' g') oy lb ly pv qv]
theorem Qk {x y us:List Tr}{A B M:Mt}(dB:det B≠0)(iu:Nq A x us)(iv:Nq B y us)(t:Thn A B M){i:Nat}(hi:i<x.length)(hi':i<y.length):To M (gt x i) (gt y i):=by
 obtain ⟨N,⟨c,c0,ec⟩,d,d0,ed⟩:=t;obtain ⟨_,k,k0,ek⟩:=iu.2 i hi;obtain ⟨_,l,l0,el⟩:=iv.2 i hi';have e1:=congrArg (fun X=>vm X (gt x i)) ed;rw [Bj,uU,ek,cB] at e1;have e2:=congrArg (fun X=>vm X (vm B (gt y i))) ec;rw [<-Bj,yE,uU,HS,uU,el,cB] at e2;refine ⟨d*l*c,det B*k,IV (IV d0 l0) c0,IV dB k0,?_⟩;have s:∀ (a b:Int) (v:Tr),sc (a*b) v=sc b (sc a v):=fun a b v=>by rw [uO]
 rw [s,s,<-e1,s,e2];simp only [sc];refine HB ?_ (HB ?_ ?_) <;> dsimp only <;> grind
theorem Dd {u:Tr}(h0:u≠(0,0,0)):∃ t,Pl t/\Gq u t:=by
 obtain ⟨b0,pl,e⟩:=HY (Ro h0) rfl;obtain ⟨t,et,e'⟩:=Qh e;exact ⟨t,by unfold Pl;rw [<-et];exact pl,_,b0,e'⟩
open Classical in
theorem Pa {A:Mt}{x:List Tr}{m:Nat}(dA:det A≠0)(ok:Fq m x):∃ us,Nq A x us:=by
 let f:Tr->Tr:=fun t=>if h:∃ u,Pl u/\Gq (vm A t) u then choose h else t
 refine ⟨x.map f,by rw [Gg],fun i hi=>?_⟩;have e:gt (x.map f) i=f (gt x i):=by
  have:=dF (ts:=x.map f) (i:=i) (by rw [Gg];exact hi)
  rw [LK,dF hi] at this;exact (Hz this).symm
 have h:=Dd (yL dA (ok _ (bf hi)).1.ne);have ef:f (gt x i)=choose h:=dif_pos h;rw [e,ef];exact choose_spec h
theorem Ye {pl tt:kI}(hpl:qO pl)(htt:KQ tt):Vx (Vd pl tt):=by
 intro h M v m n Q E hm sM sv dM hv k;show tt [LI true M,tw v] h _ _;refine htt (m:=max m n) true (by lia) (sM.mono<|by lia) (sv.mono<|by lia) ?_;show pl [lw (vm M v)] h _ _;exact hpl.tr (u:=vm M v) (m:=m+n+2) (.inr rfl) (yL dM hv) (z8 sM sv) (by lia) k
theorem agD {pl tt:kI}(hpl:qO pl)(htt:Ms tt):ZG (Jz pl tt):=by
 intro h A B m n Q E hm sA sB dA dB k;show tt [LI true B,LI true A] h _ _;refine htt (m:=max m n) true true (by lia) (sB.mono<|by lia) (sA.mono<|by lia) ?_;show pl [Mh (mm B A)] h _ _;refine hpl.mt (m:=m+n+2) (.inr rfl) ?_ (XM sB sA) (by lia) k;rw [vd];exact fun h=>(Kw.mp h).elim dB dA
theorem ahg {pl dt:kI}(hpl:qO pl)(hdt:Bg dt):Vx (BZ pl dt):=by
 intro h M v m n Q E hm sM0 sv0 dM hv k;have sM:=sM0.mono (show m<=max m n by lia);have sv:=sv0.mono (show n<=max m n by lia);have c:∀ b:Int,Ny (b.natAbs+1) (2^64)=true->cY 3 b:=fun b h2=>.of (m:=64) (n:=64) (Sm.lit rfl) (Sm.lit h2) (by decide) (by decide)
 first | show GQ Gs [0,1] (dR (aj (mC (.int 3)) aF)) fH (aD dt E (aj (K9 pU (ak 1) (cH (Mk cG (mC (.int 3)) (ak 0))) (cH (Mk bJ (Mk cG (mC (.int 3)) (ak 0)) (mC (.int 3))))) (aj (ak 2) aF))) [Dn (mw M),Dn (tw v)] h _ | show GQ Gs [0,1] (dR (aj (mC (.int 3)) aF)) fH (aD dt E (aj (K9 kSl (ak 1) (cH (Mk cG (mC (.int 3)) (ak 0))) (cH (Mk bJ (Mk cG (mC (.int 3)) (ak 0)) (mC (.int 3))))) (aj (ak 2) aF))) [Dn (mw M),Dn (tw v)] h _
 first | refine And.intro (c _ rfl) (And.intro (c _ rfl) (And.intro (by decide:¬ ((0:Nat)=0/\(3:Nat)=9)) ?_)) | refine And.intro (c _ rfl) (And.intro (c _ rfl) ?_)
 show dt [tw M.1,tw v] h _ _;refine hdt (by lia) sM.1 sv ?_;first | refine And.intro (c _ rfl) (And.intro (c _ rfl) (And.intro (by decide:¬ ((3:Nat)=0/\(6:Nat)=9)) ?_)) | refine And.intro (c _ rfl) (And.intro (c _ rfl) ?_)
 show dt [tw M.2.1,tw v] h _ _;refine hdt (by lia) sM.2.1 sv ?_;first | refine And.intro (c _ rfl) (And.intro (c _ rfl) (And.intro (by decide:¬ ((6:Nat)=0/\(9:Nat)=9)) ?_)) | refine And.intro (c _ rfl) (And.intro (c _ rfl) ?_)
 show dt [tw M.2.2,tw v] h _ _;refine hdt (by lia) sM.2.2 sv ?_;show pl [lw (vm M v)] h _ _;exact hpl.tr (u:=vm M v) (m:=m+n+2) (.inr rfl) (yL dM hv) (z8 sM0 sv0) (by lia) k
theorem agf {h:Gh}{w:W}{ts:List Tr}(e:eV h w ts):Kr h w=Dn (.lst (ts.map tw)):=by
 rcases e with rfl | ⟨n,rfl,e⟩
 ·rfl
 ·simp only [Kr,e]
theorem Wu (ts:List Tr):FJ (.lst (ts.map tw)) (.lst (ts.map tw))=true:=by rw [FJ,QL]
theorem YB {h:Gh}{w:W}{ts:List Tr}{Q:WK}(e:eV h w ts)(k:Q (.bl true) h):Gz (.lst (ts.map tw)) w h Q:=by
 show (match Kr h (.lst (ts.map tw)),Kr h w with
  | some a,Dn b=>Hy (Ft 30 a&&Ft 30 b) (Q (.bl (FJ a b)) h) False
  | _,_=>False)
 rw [agf e];show Hy (Ft 30 (.lst (ts.map tw))&&Ft 30 (.lst (ts.map tw))) (Q (.bl (FJ (.lst (ts.map tw)) (.lst (ts.map tw)))) h) False;rw [Pk 28,Wu];exact k
theorem Et {h:Gh}{w:W}{ts:List Tr}(e:eV h w ts){Q:WK}(k:Q (.lst (ts.map tw)) h):zB [w] h Q:=by
 show (match view h w with
  | some us=>Q (.lst us) h
  | none=>False)
 rw [e.src.1];exact k
def Ph (M:Mt)(x y:List Tr):Prop:=x.length=y.length/\(∀ i,i<x.length->To M (gt x i) (gt y i))/\det M≠0
theorem zbh {M:Mt}{x y us:List Tr}{n:Nat}(h:Ph M x y)(oy:Fq n y)(iu:Nq M x us):us=y:=by
 refine List.ext_getElem? fun i=>?_;by_cases hi:i<x.length
 ·have hy:i<y.length:=by rw [<-h.1];exact hi
  rw [dF (by rw [iu.1];exact hi),dF hy];have:=iu.2 i hi
  rw [(h.2.1 i hi).eq (oy _ (bf hy)).1 this.1 this.2]
 ·rw [Ua (by rw [iu.1];lia),Ua (by rw [<-h.1];lia)]
def RT (c0:kI):Prop:=∀ {h:Gh} {r:Nat} {mo:Int} {Q:WK} {E:BK},Rs h r->r<h.nx->0<mo->mo<=12->(∀ (n:Nat) (ts:List Tr) (h':Gh),h'.c n=Dn (.lst (ts.map tw))->h.nx<=n->n<h'.nx->1<=ts.length->ts.length<=12->Fq 120 ts->Rs h' r->(∀ k,k≠r->k<h.nx->h'.c k=h.c k)->Q (.loc n) h')->c0 [.loc r,.int mo] h Q E
theorem Vt {dg sp ne:kI}(hdg:jM dg)(hsp:zY sp)(hne:Yk ne):RT (lQ dg sp ne):=by
 intro h r mo Q E hr hrn hm0 hm1 k;obtain ⟨f0,f1⟩:=aah;unfold lQ;rfl'
 refine hdg (n:=r) (many:=mo) hr hm0 (V5 (by lia)<|by lia) fun many h1 d0 d1 r1 o1=>?_;obtain ⟨M,rfl⟩:=Uv d0;rfl'
 refine hdg (n:=r) (many:=4) r1 (by decide) (by unfold Sm;decide +kernel) fun st h2 _ _ r2 o2=>?_;have o2:=o1.trans o2;refine bK (σ':=[Dn<|.loc r,Dn<|.int mo,Dn<|.int (M:Int),Dn<|.int st,FN,FN]) rfl<|fX<|aV<|cO<|zbF ?_
 rfl'
 refine Dp ⟨by decide,by decide,by decide⟩ ?_;rfl'
 refine hsp (n:=r) r2 f0 f1 (by decide) fun t h3 pt sth r3 o3=>?_;have o3:=o2.trans o3;have x3:h3.nx=h.nx:=o3.1;rfl'
 refine aas rfl fun g eg og xg=>?_;refine bK (σ':=[Dn<|.loc r,Dn<|.int mo,Dn<|.int (M:Int),Dn<|.int st,Dn<|.loc h3.nx,FN]) rfl<|fX<|aV<|ju<|oJ<|au<|aB rfl<|aH<|U0 (by lia)<|gQ ?_
 have rne:h3.nx≠r:=by lia
 refine lV (fun i σ h'=>∃ (ts:List Tr) (s5:Option W),σ = [Dn<|.loc r,Dn<|.int mo,Dn<|.int (M:Int),Dn<|.int st,Dn<|.loc h3.nx,s5]/\h'.c h3.nx=Dn (.lst<|ts.map tw)/\ts.length=i+1/\Fq (31+7*i) ts/\Rs h' r/\h'.nx=g.nx/\∀ k,k≠r->k<h.nx->h'.c k=h.c k) ?_ ?_ ⟨[t],FN,rfl,eg,rfl,fun u hu=>?_,?_,rfl,fun k hk hk2=>by rw [og _<|by lia,o3.2 _ hk]⟩
 ·rintro i w σ h' N hN e ⟨ts,s5,rfl,e1,e2,e3,e4,e5,e7⟩;have hi:i<M:=by
   have:=(NT.mp e).1
   rw [Gg] at this;unfold rng at this;rw [Tg] at this;lia
  refine bK (σ':=[Dn<|.loc r,Dn<|.int mo,Dn<|.int (M:Int),Dn<|.int st,Dn<|.loc h3.nx,Dn w]) rfl ?_;refine sH<|yZ<|aB rfl<|sO e1 ?_
  rfl'
  refine hne (m:=31+7*i) (by lia) (by lia) e1 rne e4 e3 (by lia) (by lia) fun u h4 pu su r4 o4=>?_;have e1':h4.c h3.nx=Dn (.lst (ts.map tw)):=by rw [o4.2 _ rne];exact e1
  rfl'
  refine Zu e1' (by rw [Gg];lia) fun g2 e6 o6 x6=>?_;refine fX<|hN _ _ ⟨ts++[u],_,rfl,by rw [e6,Nz];rfl,by rw [Lq,e2];rfl,?_,?_,by rw [x6,o4.1];exact e5,fun k hk hk2=>by rw [o6 _<|by lia,o4.2 _ hk];exact e7 k hk hk2⟩
  ·intro v hv;rcases Mw.mp hv with hv | hv
   ·exact ⟨(e3 v hv).1,(e3 v hv).2.mono (by lia)⟩
   ·rw [Lz.mp hv];exact ⟨pu,su.mono<|by lia⟩
  ·unfold Rs;rw [o6 _ (MK rne)];exact r4
 ·rintro σ h' ⟨ts,s5,rfl,e1,e2,e3,e4,e5,e7⟩;have hl:((rng 0 M).map fun x:Nat=>W.int (x:Int)).length=M:=by
   rw [Gg];unfold rng;rw [Tg];lia
  rw [hl] at e2 e3;unfold nW;refine fX ?_;refine cX ?_;refine aB rfl ?_;refine xW ?_;exact k _ ts h' e1 (by lia) (by rw [e5,xg];lia) (by lia) (by lia) (fun v hv=>⟨(e3 v hv).1,(e3 v hv).2.mono (by lia)⟩) e4 e7
 ·rw [Lz.mp hu];exact ⟨pt,sth⟩
 ·unfold Rs;rw [og _ (MK rne)];exact r3
theorem zbr (us:List W)(k:Nat):Ak us FN (Dn (k:Int))=us.take k:=by
 unfold Ak;rw [HT.JZ,HT.CW,U6,Nat.sub_zero];by_cases h:k<=us.length
 ·rw [Nat.min_eq_left h]
 ·rw [Nat.min_eq_right (by lia),Mp,List.take_of_length_le (by lia)]
theorem ahb (us:List W)(k:Nat):Ak us (Dn (k:Int)) FN=us.drop k:=by
 unfold Ak;rw [HT.JZ,HT.CW];by_cases h:k<=us.length
 ·rw [Nat.min_eq_left h,List.take_of_length_le (by rw [Sy];exact Gi _)]
 ·rw [Nat.min_eq_right (by lia),List.drop_length,List.drop_of_length_le (by lia)];simp
theorem tM {ts:List Tr}{k:Nat}{h:Gh}{Q:WK}(x:Q (.lst ((ts.take k).map tw)) h):pU (.lst (ts.map tw)) FN (Dn (k:Int)) h Q:=Q7 (zbr _ _) (by rw [<-List.map_take];exact x)
theorem KY {ts:List Tr}{k:Nat}{h:Gh}{Q:WK}(x:Q (.lst ((ts.drop k).map tw)) h):pU (.lst (ts.map tw)) (Dn (k:Int)) FN h Q:=Q7 (ahb _ _) (by rw [<-List.map_drop];exact x)
theorem Fl {as bs:List Tr}{h:Gh}{Q:WK}(hz:as.length+bs.length<=1000)(x:Q (.lst ((as++bs).map tw)) h):bJ (.lst (as.map tw)) (.lst (bs.map tw)) h Q:=by
 refine gJ.mk (Ii (m:=1000) (by rw [Gg,Gg];exact hz)<|by decide) ?_;rw [<-Nz];exact x
theorem ZV {as bs:List Tr}{n k:Nat}{h:Gh}{Q:WK}(en:h.c n=Dn (.lst (as.map tw)))(em:h.c k=Dn (.lst (bs.map tw)))(hz:as.length+bs.length<=1000)(x:Q (.lst ((as++bs).map tw)) h):bJ (.loc n) (.loc k) h Q:=by
 show (match Gj h (.loc n),Gj h (.loc k) with
  | some a,Dn b=>gJ (a.length+b.length) (Q (.lst (a++b)) h)
  | _,_=>False)
 rw [show Gj h (.loc n)=Dn (as.map tw) by simp [Gj,en],show Gj h (.loc k)=Dn (bs.map tw) by simp [Gj,em]];refine gJ.mk (Ii (m:=1000) (by rw [Gg,Gg];exact hz)<|by decide) ?_;rw [<-Nz];exact x
def ab6 (c0:kI):Prop:=∀ {h:Gh} {r m:Nat} {ts:List Tr} {Q:WK} {E:BK},31<=m->m<=900->Rs h r->Fq m ts->1<=ts.length->ts.length<=12->(∀ (us:List Tr) (h':Gh),us.length=ts.length->Fq (m+7) us->Rs h' r->Kz r h h'->Q (.lst (us.map tw)) h')->c0 [.lst (ts.map tw),.loc r] h Q E
theorem zaZ {dg sp mx:kI}(hdg:jM dg)(hsp:zY sp)(hmx:Z6 mx):ab6 (lK dg sp mx):=by
 intro h r m ts Q E hm0 hm hr hs l1 l2 k;obtain ⟨f0,f1⟩:=aah;have src:∀ g:Gh,eV g (.lst (ts.map tw)) ts:=fun _=>.inl rfl
 unfold lK;refine eY rfl (σ:=[Dn<|.lst<|ts.map tw,Dn<|.loc r,FN,FN,FN]) rfl ?_;rfl'
 rw [Gg];refine hdg (n:=r) (many:=(ts.length:Int)) hr (by lia) (V5 (by lia)<|by lia) fun at' h1 a0 a1 r1 o1=>?_;obtain ⟨A,rfl⟩:=Uv a0;rfl'
 refine hdg (n:=r) (many:=3) r1 (by decide) (by unfold Sm;decide +kernel) fun way h2 w0 w1 r2 o2=>?_;have o2:=o1.trans o2;rfl'
 rw [Gg];refine hdg (n:=r) (many:=(ts.length:Int)) r2 (by lia) (V5 (by lia)<|by lia) fun d h3 d0 d1 r3 o3=>?_;have o3:=o2.trans o3;refine (src h3).ati d0 d1 fun one m1=>?_;have t5:∀ (v:Tr) (h':Gh),Pl v->Bk (m+7) v->Rs h' r->Kz r h h'->iz dg sp mx E { nx:=fun _ h'=>Q .non h',rt:=Q } [Dn (.lst (ts.map tw)),Dn (.loc r),Dn (.int (A:Int)),Dn (.int way),Dn (tw v)] h':=by
  intro v h' pv sv r' o';unfold iz;refine cX<|aO<|aO<|oZ<|aB rfl<|cL ?_
  rfl'
  refine tM ?_;rfl'
  refine Fl (bs:=[v]) (by rw [Nm];simp;lia) ?_;refine oZ<|aB rfl ?_
  rfl'
  refine cL<|KY (k:=A+1) ?_
  refine Fl (by rw [Lq,Nm,Sy];simp;lia)<|xW<|k _ h' ?_ ?_ r' o'
  ·rw [Lq,Lq,Nm,Sy];simp;lia
  ·intro t ht;rcases Mw.mp ht with ht | ht
   ·rcases Mw.mp ht with ht | ht
    ·exact ⟨(hs t<|List.mem_of_mem_take ht).1,(hs t<|List.mem_of_mem_take ht).2.mono (by lia)⟩
    ·rw [Lz.mp ht];exact ⟨pv,sv⟩
   ·exact ⟨(hs t<|List.mem_of_mem_drop ht).1,(hs t<|List.mem_of_mem_drop ht).2.mono (by lia)⟩
 have t4:∀ (v:Tr) (h':Gh),Pl v->Bk (m+7) v->Rs h' r->Kz r h h'->iZ dg sp mx E { nx:=fun _ h'=>Q .non h',rt:=Q } [Dn (.lst (ts.map tw)),Dn (.loc r),Dn (.int (A:Int)),Dn (.int way),Dn (tw v)] h':=by
  intro v h' pv sv r' o';unfold iZ;rfl'
  refine jK (fun _=>?_) fun _=>?_
  ·rfl'
   refine Dp ⟨by decide,by decide,by decide⟩ ?_;rfl'
   refine hsp (n:=r) r' f0 f1 (by decide) fun t h4 pt st r4 o4=>?_;rfl'
   exact t5 t h4 pt (st.mono<|by lia) r4<|o'.trans o4
  ·rfl'
   exact t5 v h' pv sv r' o'
 rfl'
 refine jK (fun _=>?_) fun _=>?_
 ·rfl'
  refine (src h3).at (i:=A) (by lia) ?_;rfl'
  refine hmx (m:=m) (by lia) r3 (hs _<|bf<|by lia).1 (hs _<|bf<|by lia).2 (hs _ m1).2 fun t h4 pt st r4 o4=>?_;rfl'
  exact t4 t h4 pt st r4<|o3.trans o4
 ·rfl'
  exact t4 one h3 (hs _ m1).1 ((hs _ m1).2.mono (by lia)) r3 o3
theorem Y4 {le:kI}(hle:aa9 le){M:Mt}{ts:List Tr}{n:Nat}{σ : Sw}{h:Gh}{Q:WK}{E:BK}(hx:(σ[3]?).getD FN=Dn (mw M))(hv:σ[2]?=Dn (Dn (.loc n)))(e:eV h (.loc n) ts)(hl:ts.length<=100)(hs:Fq 120 ts)(dM:det M≠0)(sM':HI 31 M)(k:∀ us:List Tr,us.length=ts.length->Fq 153 us->Q (.lst (us.map tw)) h) :
  GQ Gs [3] (Gu (ak 2)) fH (aD le E (aj (ak 1) (aj (ak 0) aF))) σ h Q:=by
 refine uL<|lN<|aB hv ?_
 obtain ⟨ev,s,es,ew,go⟩:=e.src;show (match uJ h (.loc n) with
  | some s=>_
  | none=>False)
 rw [es];show gJ s.ws.length (oE s _ _ _ _ _ _ s.ws [] h);rw [ew];refine gJ.mk (by rw [Gg];exact Ii hl (by decide)) ?_;refine Bc (fun i acc h'=>h'=h/\∃ us:List Tr,acc=us.map tw/\us.length=i/\Fq 153 us) ?_ ?_ ?_ ⟨rfl,[],rfl,rfl,fun t ht=>nomatch ht⟩
 ·rintro i acc h' ⟨rfl,_⟩;exact go
 ·rintro i w2 acc h' N hN e2 ⟨rfl,us,rfl,ul,ui⟩;obtain ⟨t,et,rfl⟩:=vD e2;have mt:=N5 et;have hb:qI [3] σ = [Dn (mw M)]:=by
   show [(σ[3]?).getD FN]=_;rw [hx]
  refine ⟨[tw t],rfl,?_⟩;rw [hb];refine lJ<|lC<|aN<|au<|aB rfl<|au<|aB rfl<|aH ?_
  refine hle (m:=31) (n:=120) (by decide) (by decide) sM' (hs t mt).2 dM (hs t mt).1.ne fun u pu paru su=>?_;refine hN _ _ ⟨rfl,us++[u],by rw [Nz];rfl,by rw [Lq,ul];rfl,fun v hv=>?_⟩;rcases Mw.mp hv with hv | hv
  ·exact ui v hv
  ·rw [Lz.mp hv];exact ⟨pu,su⟩
 ·rintro acc h' ⟨rfl,us,rfl,ul,ui⟩;rw [Gg] at ul;exact k us ul ui
theorem Fq.mono {m k:Nat}{ts:List Tr}(h:Fq m ts)(hk:m<=k):Fq k ts:=fun t ht=>⟨(h t ht).1,(h t ht).2.mono hk⟩
theorem Fq.app {m:Nat}{as bs:List Tr}(h:Fq m as)(g:Fq m bs):Fq m (as++bs):=fun t ht=>(Mw.mp ht).elim (h t) (g t)
theorem Fq.take {m k:Nat}{ts:List Tr}(h:Fq m ts):Fq m (ts.take k):=fun t ht=>h t (List.mem_of_mem_take ht)
theorem Fq.drop {m k:Nat}{ts:List Tr}(h:Fq m ts):Fq m (ts.drop k):=fun t ht=>h t (List.mem_of_mem_drop ht)
def aaw (c0:kI):Prop:=∀ {h:Gh} {ns:List Int} {mo:Int} {Q:WK} {E:BK},0<mo->mo<=12->(∀ (n:Nat) (x y:List Tr) (h':Gh),h'.c n=Dn (.lst (x.map tw))->n<h'.nx->1<=x.length->x.length<=12->Fq 200 x->1<=y.length->y.length<=12->Fq 200 y->Q (.tup [.loc n,.lst (y.map tw)]) h')->c0 [.kls (ns.map .int),.int mo] h Q E
theorem V3 {rs dg mp le pi ch:kI}(hrs:Ig rs)(hdg:jM dg)(hmp:QS mp)(hle:aa9 le)(hpi:RT pi)(hch:ab6 ch):aaw (Bu rs dg mp le pi ch):=by
 intro h ns mo Q E hm0 hm1 k;obtain ⟨f0,f1⟩:=aah;unfold Bu;refine eY rfl (σ:=[Dn<|.kls<|ns.map .int,Dn<|.int mo,FN,FN,FN,FN,FN]) rfl ?_;rfl'
 refine hrs (ns:=ns) (by decide) (by decide) fun h1 r1 x1 o1=>?_;rfl'
 refine hpi r1 (by lia) hm0 hm1 fun n x h2 c2 n1 n2 l1 l2 ox r2 o2=>?_;rfl'
 refine hrs (ns:=ns) (by decide) (by decide) fun h3 r3 x3 o3=>?_;have c3:h3.c n=Dn (.lst (x.map tw)):=by rw [o3 _ (by lia)];exact c2
 rfl'
 refine Dp ⟨by decide,by decide,by decide⟩ ?_;rfl'
 refine hmp (n:=h2.nx) r3 f0 f1 (by decide) fun M h4 pM dM sM r4 o4=>?_;have c4:h4.c n=Dn (.lst (x.map tw)):=by rw [o4.2 _ (by lia)];exact c3
 refine bK (σ':=[Dn<|.kls<|ns.map .int,Dn<|.int mo,Dn<|.loc n,Dn<|mw M,FN,FN,FN]) rfl<|fX<|aV<|cO<|Y4 hle rfl rfl (.inr ⟨n,rfl,c4⟩) (by lia) ox dM sM fun us ul ou=>?_
 refine bK (σ':=[Dn<|.kls<|ns.map .int,Dn<|.int mo,Dn<|.loc n,Dn<|mw M,Dn<|.lst<|us.map tw,FN,FN]) rfl<|fX ?_
 rfl'
 refine hrs (ns:=ns) (by decide) (by decide) fun h5 r5 x5 o5=>?_;have y4:n<h4.nx:=by rw [o4.1];lia
 have c5:h5.c n=Dn (.lst (x.map tw)):=by rw [o5 _ (by lia)];exact c4
 rfl'
 refine hdg (n:=h4.nx) (many:=4) r5 (by decide) (by unfold Sm;decide +kernel) fun way h6 w0 w1 r6 o6=>?_;have c6:h6.c n=Dn (.lst (x.map tw)):=by rw [o6.2 _ (by lia)];exact c5
 have x6:h6.nx=h4.nx+1:=o6.1.trans x5;have s7:∀ (y:List Tr) (g:Gh),g.c n=Dn (.lst (x.map tw))->Rs g h4.nx->n<g.nx->1<=y.length->y.length<=12->Fq 170 y->sY rs dg mp le pi ch E { nx:=fun _ h'=>Q .non h',rt:=Q } [Dn (.kls (ns.map .int)),Dn (.int mo),Dn (.loc n),Dn (mw M),Dn (.lst (y.map tw)),Dn (.loc h4.nx),Dn (.int way)] g:=by
  intro y g cg rg xg y1 y2 oy;have s8:∀ (z:List Tr) (g:Gh),g.c n=Dn (.lst (x.map tw))->n<g.nx->1<=z.length->Fq 170 z->rA rs dg mp le pi ch E { nx:=fun _ h'=>Q .non h',rt:=Q } [Dn (.kls (ns.map .int)),Dn (.int mo),Dn (.loc n),Dn (mw M),Dn (.lst (z.map tw)),Dn (.loc h4.nx),Dn (.int way)] g:=by
   intro z g cg xg z1 oz;unfold rA;refine cX<|jA<|au<|aB rfl<|au<|oZ<|aB rfl<|cL ?_
   rfl'
   refine tM (k:=12) ?_;rfl'
   exact k n x (z.take 12) g cg xg l1 l2 (ox.mono<|by decide) (by rw [Nm];lia) (by rw [Nm];lia)<|oz.take.mono<|by decide
  unfold sY;rfl'
  refine hdg (n:=h4.nx) (many:=12) rg (by decide) (by unfold Sm;decide +kernel) fun d g2 d0 d1 rg2 og=>?_;have cg2:g2.c n=Dn (.lst (x.map tw)):=by rw [og.2 _ (by lia)];exact cg
  rfl'
  refine jK (fun _=>?_) fun _=>?_
  ·refine cO<|aO<|aO<|oZ<|aB rfl ?_
   rfl'
   refine cL<|KY (k:=1) ?_
   refine oZ<|aB rfl<|cL ?_
   rfl'
   refine tM (k:=1) ?_;refine Fl (by rw [Sy,Nm];lia) ?_;refine oZ<|aB rfl<|cL ?_
   rfl'
   refine tM (k:=1) ?_;refine Fl (by rw [Lq,Sy,Nm];lia) ?_;refine bK (σ':=[Dn<|.kls<|ns.map .int,Dn<|.int mo,Dn<|.loc n,Dn<|mw M,Dn<|.lst<|(y.drop 1++y.take 1++y.take 1).map tw,Dn<|.loc h4.nx,Dn<|.int way]) rfl<|fX ?_
   exact s8 _ g2 cg2 (by rw [og.1];exact xg) (by simp;lia)<|(oy.drop.app oy.take).app oy.take
  ·rfl'
   exact s8 y g2 cg2 (by rw [og.1];exact xg) y1 oy
 have s6:∀ (y:List Tr) (g:Gh),g.c n=Dn (.lst (x.map tw))->Rs g h4.nx->n<g.nx->h4.nx<g.nx->1<=y.length->y.length<=12->Fq 170 y->mW rs dg mp le pi ch E { nx:=fun _ h'=>Q .non h',rt:=Q } [Dn (.kls (ns.map .int)),Dn (.int mo),Dn (.loc n),Dn (mw M),Dn (.lst (y.map tw)),Dn (.loc h4.nx),Dn (.int way)] g:=by
  intro y g cg rg xg xg4 y1 y2 oy;unfold mW;rfl'
  refine jK (fun _=>?_) fun _=>?_
  ·rfl'
   refine hpi rg xg4 hm0 hm1 fun n' z g2 cz nn1 nn2 z1 z2 oz rz og=>?_;have cg2:g2.c n=Dn (.lst (x.map tw)):=by rw [og _ (by lia) xg];exact cg
   refine bK (σ':=[Dn<|.kls<|ns.map .int,Dn<|.int mo,Dn<|.loc n,Dn<|mw M,Dn<|.loc n',Dn<|.loc h4.nx,Dn<|.int way]) rfl<|fX<|cO<|oZ<|aO<|aB rfl<|aB rfl<|ZV cz cg2 (by lia)<|cL ?_
   refine o8<|fD<|au<|aB rfl<|aH<|jY (.inr ⟨n,rfl,cg2⟩)<|VF<|tM ?_
   refine bK (σ':=[Dn<|.kls<|ns.map .int,Dn<|.int mo,Dn<|.loc n,Dn<|mw M,Dn<|.lst<|((z++x).take x.length).map tw,Dn<|.loc h4.nx,Dn<|.int way]) rfl<|fX ?_
   exact s7 _ g2 cg2 rz (by lia) (by rw [Nm,Lq];lia) (by rw [Nm];lia) ((oz.mono<|by decide).app (ox.mono<|by decide)).take
  ·rfl'
   exact s7 y g cg rg xg y1 y2 oy
 rfl'
 have go:∀ g:Gh,g=h6->aX (aD ch E (aj (ak 4) (aj (ak 5) aF))) (FX 4) { nx:=mW rs dg mp le pi ch E { nx:=fun _ h'=>Q .non h',rt:=Q },rt:=Q } [Dn (.kls (ns.map .int)),Dn (.int mo),Dn (.loc n),Dn (mw M),Dn (.lst (us.map tw)),Dn (.loc h4.nx),Dn (.int way)] g:=by
  rintro g rfl;rfl'
  refine hch (m:=153) (by decide) (by decide) r6 ou (by lia) (by lia) fun vs h7 vl ov r7 o7=>?_;rfl'
  exact s6 vs h7 (by rw [o7.2 _<|by lia];exact c6) r7 (by rw [o7.1];lia) (by rw [o7.1];lia) (by lia) (by lia)<|ov.mono<|by decide
 refine jK (fun _=>?_) fun _=>?_
 ·rfl'
  exact go _ rfl
 ·rfl'
  refine jK (fun _=>?_) fun _=>?_
  ·rfl'
   exact go _ rfl
  ·rfl'
   exact s6 us h6 c6 r6 (by lia) (by lia) (by lia) (by lia)<|ou.mono<|by decide
theorem aej {x y us:List Tr}{A B:Mt}{m n:Nat}(hl:x.length=y.length)(ox:Fq m x)(oy:Fq n y)(hA:Ox x A)(hB:Ox y B)(iu:Nq A x us)(iv:Nq B y us):vB x y=FN:=by
 have dM:det (mm (adj B) A)≠0:=by rw [vd];exact IV (tY hB.1) hA.1
 refine aeC (M:=mm (adj B) A) ⟨hl,dM,fun i hi=>?_⟩ ox oy;have hy:i<y.length:=by rw [<-hl];exact hi
 have to:=Qk hB.1 iu iv ⟨adj B,⟨1,by decide,(Qo _).symm⟩,1,by decide,(Qo (mm (adj B) A)).symm⟩ hi hy;obtain ⟨t,pt,par⟩:=Dd (yL dM (ox _ (bf hi)).1.ne);rw [to.eq (oy _ (bf hy)).1 pt par] at par;exact par
theorem Ym:∀ us vs:List Tr,mJ (us.map tw) (vs.map tw)=decide (us=vs)
 | [],[]=>rfl
 | [],_::_=>rfl
 | _::_,[]=>rfl
 | u::us,v::vs=>by
  rw [LQ,LQ,mJ,Ym us vs,vQ];by_cases h1:u=v <;> by_cases h2:us=vs <;> simp [h1,h2]
theorem Dy {s t:Str}{us vs:List Tr}{h:Gh}{Q:WK}(k:Q (.bl (decide (s=t/\us=vs))) h):Gz (.tup [.str s,.lst (us.map tw)]) (.tup [.str t,.lst (vs.map tw)]) h Q:=by
 have h1:∀ s (us:List Tr),Ft 30 (.tup [.str s,.lst (us.map tw)])=true:=fun s us=>by
  show (Ft 29 (.str s)&&(Ft 29 (.lst (us.map tw))&&true))=true;rw [Pk 27];rfl
 have h2:FJ (.tup [.str s,.lst (us.map tw)]) (.tup [.str t,.lst (vs.map tw)])=decide (s=t/\us=vs):=by
  rw [FJ,mJ,mJ,mJ,FJ,FJ,Ym];by_cases h1:s=t <;> by_cases h2:us=vs <;> simp [h1,h2]
 show Hy (Ft 30 (.tup [.str s,.lst (us.map tw)])&&Ft 30 (.tup [.str t,.lst (vs.map tw)])) (Q (.bl (FJ (.tup [.str s,.lst (us.map tw)]) (.tup [.str t,.lst (vs.map tw)]))) h) False;rw [h1,h1,h2];exact k
def JD (i:Nat):Tr:=gt [e0,e1,e2] i
theorem Vy (i:Nat)(hi:i<3)(t:Tr):dt3 t (JD i)=co (i:Int) t:=by
 have:i=0\/i=1\/i=2:=by lia
 obtain ⟨a,b,c⟩:=t;rcases this with rfl | rfl | rfl <;> simp [JD,gt,dt3,co,e0,e1,e2]
theorem aaB {p q r s:Tr}(pl:∀ t∈[p,q,r,s],Pl t)(fl:AllP [p,q,r,s])(al:¬ gU p q r s):tn p q r s≠(0,0):=by
 have na:¬ (q=p/\r=p/\s=p):=fun ⟨q1,q2,_⟩=>al (.inl ⟨q1.symm,q1.trans q2.symm⟩)
 have fi:=Jk p q r s;have l1:co (ixp p q r s) (crs p (fo p q r s))≠0:=Eu (jT (pl _ (by simp)) (pl _ fi) fun z=>Ju na z.symm);have key:∀ {u v:Tr},u∈[p,q,r,s]->v∈[p,q,r,s]->co (ixp p q r s) (crs u v)=0->u=v:=fun {u v} mu mv z=>by
  have h:=xu (fl p (by simp) u mu v mv) (fl _ fi u mu v mv) (ixp p q r s);rw [z] at h;refine kO (pl _ mu) (pl _ mv)<|(jf l1).mp (h.symm.trans ?_)
  simp [sc]
 intro z;have z1:_*_=(0:Int):=congrArg (·.1) z;have z2:_*_=(0:Int):=congrArg (·.2) z;rcases Kw.mp z1 with a | a <;> rcases Kw.mp z2 with b | b
 ·have a:=key (by simp) (by simp) a;have b:=key (by simp) (by simp) b;exact al<|.inr<|.inr<|.inl ⟨a,a.symm.trans b⟩
 ·have a:=key (by simp) (by simp) a;have b:=key (by simp) (by simp) b;exact al<|.inl ⟨a.trans b.symm,b⟩
 ·have a:=key (by simp) (by simp) a;have b:=key (by simp) (by simp) b;exact al<|.inr<|.inl ⟨b.trans a.symm,a⟩
 ·have a:=key (by simp) (by simp) a;have b:=key (by simp) (by simp) b;exact al<|.inr<|.inr<|.inr ⟨b,b.symm.trans a⟩
theorem plI (n:Nat)(ns:List Int):Ft (n+2) (.tup (ns.map .int))=true:=by
 rw [Ft,MP];intro w hw;obtain ⟨i,_,rfl⟩:=Lk.mp hw;rfl
theorem W7:∀ k l:List Int,mJ (k.map .int) (l.map .int)=decide (k=l)
 | [],[]=>rfl
 | [],_::_=>rfl
 | _::_,[]=>rfl
 | a::k,b::l=>by
  rw [LQ,LQ,mJ,W7 k l,FJ];by_cases h1:a=b <;> by_cases h2:k=l <;> simp [h1,h2]
theorem HX {k l:List Int}{h:Gh}{Q:WK}(x:Q (.bl (!decide (k=l))) h):Hg (.tup (k.map .int)) (.tup (l.map .int)) h Q:=by
 show Hy (Ft 30 (.tup (k.map .int))&&Ft 30 (.tup (l.map .int))) (Q (.bl (!mJ (k.map .int) (l.map .int))) h) False;rw [plI 28,plI 28,W7];exact x
def GpX (c0:kI):Prop:=∀ {h:Gh} {p q r s o:Tr} {m:Nat} {Q:WK} {E:BK},m<=900->Bk m p->Bk m q->Bk m r->Bk m s->Bk m o->Q (.tup ([dt3 (crs p r) o*dt3 (crs q s) o,dt3 (crs p s) o*dt3 (crs q r) o].map .int)) h->c0 [q4 p q r s,tw o] h Q E
theorem Yh {tu:kI}(htu:tV tu):GpX (xT tu):=by
 intro h p q r s o m Q E hm sp sq sr ss so k;have c1:∀ {x y:Int},Sm (3*m+4) x->Sm (3*m+4) y->cY x y:=fun hx hy=>.of hx hy (by lia) (by lia)
 unfold xT q4;refine eY rfl (σ:=[Dn<|.lst [tw p,tw q,tw r,tw s],Dn<|tw o,FN,FN,FN,FN,FN]) rfl<|aV<|cO<|aB rfl<|Hv rfl rfl<|mj ?_
 refine nV<|mj ?_
 refine nV<|mj ?_
 refine nV<|mj ?_
 refine nV<|KD<|fX ?_
 refine aV<|cO<|aO<|aN<|au<|aB rfl<|au<|aB rfl<|au<|aB rfl<|aH ?_
 refine htu (by lia) sp sr so<|aN<|au<|aB rfl<|au<|aB rfl<|au<|aB rfl<|aH ?_
 refine htu (by lia) sq ss so<|mU (c1 (dz sp sr so)<|dz sq ss so) ?_
 refine nV<|fX ?_
 refine cX<|jA<|au<|aB rfl<|au<|aO<|aN<|au<|aB rfl<|au<|aB rfl<|au<|aB rfl<|aH ?_
 refine htu (by lia) sp ss so<|aN<|au<|aB rfl<|au<|aB rfl<|au<|aB rfl<|aH ?_
 refine htu (by lia) sq sr so<|mU (c1 (dz sp ss so)<|dz sq sr so)<|aH<|dI rfl<|xW ?_
 exact k
theorem T7 {i:Nat}(hi:i<3){m:Nat}(hm:2<=m):Bk m (JD i):=(Qu hm _ (bf (ts:=[e0,e1,e2]) hi)).2
section
variable {pl tu ga:kI}(hpl:qO pl)(htu:tV tu)(hga:GpX ga){p q r s:Tr}{m:Nat}(h2:2<=m)(hm:m<=900)(ok:Fq m [p,q,r,s])(fl:AllP [p,q,r,s])(al:¬ gU p q r s)
include htu h2 hm ok
theorem agI {i:Nat}(hi:i<3){E:BK}{s1 s3:Option W}{h:Gh}{R:Bool->Gh->Prop}(k:R ([p,q,r,s].any fun t=>decide (dt3 (crs p t) (JD i)≠0\/dt3 (crs q t) (JD i)≠0)) h) :
  sJ (Ge SX (aj (GQ Gs [0,2] (Gu (ak 0)) fH (VB (Mk Hg (aD tu E (aj (Mk Bf (ak 1) (mC (.int 0))) (aj (ak 0) (aj (ak 2) aF)))) (mC (.int 0))) (Mk Hg (aD tu E (aj (Mk Bf (ak 1) (mC (.int 1))) (aj (ak 0) (aj (ak 2) aF)))) (mC (.int 0))))) aF)) [Dn (q4 p q r s),s1,Dn (tw (JD i)),s3] h R:=by
 have so:=T7 hi h2;have sp:=(ok p (by simp)).2;have sq:=(ok q (by simp)).2;have elt:∀ {t:Tr} {Q:WK},Bk m t->Q (.bl (decide (dt3 (crs p t) (JD i)≠0\/dt3 (crs q t) (JD i)≠0))) h->VB (Mk Hg (aD tu E (aj (Mk Bf (ak 1) (mC (.int 0))) (aj (ak 0) (aj (ak 2) aF)))) (mC (.int 0))) (Mk Hg (aD tu E (aj (Mk Bf (ak 1) (mC (.int 1))) (aj (ak 0) (aj (ak 2) aF)))) (mC (.int 0))) [Dn (tw t),Dn (q4 p q r s),Dn (tw (JD i))] h Q:=fun {t Q} st x=>by
  refine Qs<|aO<|aN<|au<|aO<|aB rfl<|bW<|eU (ws:=[tw p,tw q,tw r,tw s]) (w:=tw p) rfl rfl<|au<|aB rfl<|au<|aB rfl<|aH ?_
  refine htu (by lia) sp st so<|bW<|Cd<|acC<|jK (fun a=>?_) fun a=>?_
  ·rw [decide_eq_true (.inl a)] at x;exact x
  ·refine aO<|aN<|au<|aO<|aB rfl<|bW<|eU (ws:=[tw p,tw q,tw r,tw s]) (w:=tw q) rfl rfl<|au<|aB rfl<|au<|aB rfl<|aH ?_
   refine htu (by lia) sq st so<|bW<|Cd ?_
   rw [show decide (dt3 (crs q t) (JD i)≠0)=decide (dt3 (crs p t) (JD i)≠0\/dt3 (crs q t) (JD i)≠0) from decide_eq_decide.mpr ⟨.inr,fun c=>c.resolve_left a⟩];exact x
 refine jV<|fD<|au<|uL<|lN<|aB rfl<|Cp (ws:=[tw p,tw q,tw r,tw s]) (o:=FN) rfl<|Zm rfl ?_
 refine zH (vs:=[tw p]) rfl<|lJ<|lC<|elt sp ?_
 refine zH (vs:=[tw q]) rfl<|lJ<|lC<|elt sq ?_
 refine zH (vs:=[tw r]) rfl<|lJ<|lC<|elt (ok r<|by simp).2 ?_
 refine zH (vs:=[tw s]) rfl<|lJ<|lC<|elt (ok s<|by simp).2 ?_
 refine Pj<|aH<|Q8 (bs:=[p,q,r,s].map fun t=>decide<|dt3 (crs p t) (JD i)≠0\/dt3 (crs q t) (JD i)≠0) rfl rfl<|Lg rfl ?_
 rw [List.any_map];exact k
include hpl hga fl al
theorem afV {h:Gh}{Q:WK}{E:BK}(k:∀ a b:Int,O6 [a,b]->(∃ c:Int,c≠0/\tn p q r s=(a*c,b*c))->Q (.tup [.int a,.int b]) h):tE pl tu ga [q4 p q r s] h Q E:=by
 have sp:=(ok p (by simp)).2;have sq:=(ok q (by simp)).2;have sr:=(ok r (by simp)).2;have ss:=(ok s (by simp)).2;have plr:∀ t∈[p,q,r,s],Pl t:=fun t ht=>(ok t ht).1
 have na:¬ (q=p/\r=p/\s=p):=fun ⟨q1,q2,_⟩=>al (.inl ⟨q1.symm,q1.trans q2.symm⟩)
 have fi:=Jk p q r s;have lne:=jT (plr p (by simp)) (plr _ fi) fun z=>Ju na z.symm
 have tne:=aaB plr fl al;unfold tE;refine eY rfl (σ:=[Dn<|q4 p q r s,FN,FN,FN]) rfl<|aV<|ju<|oJ<|au<|bW<|aH<|WY<|gQ ?_
 have go:∀ {a b c:Tr} {x:Int} {i1 i2 i3:Int} {s1:Option W} {N:Sw->Gh->Prop} {D:bT},a∈[p,q,r,s]->b∈[p,q,r,s]->c∈[p,q,r,s]->Ji [tw p,tw q,tw r,tw s] (x - 3)=Dn (tw a)->Ji [tw p,tw q,tw r,tw s] (x - 2)=Dn (tw b)->Ji [tw p,tw q,tw r,tw s] (x - 1)=Dn (tw c)->N [Dn (q4 p q r s),Dn (.int x),FN,FN] h ->
   FX 1 (.int x) [Dn (q4 p q r s),s1,FN,FN] h fun σ1 h1=>(dO (aR (Mk Hg (aD tu E (aj (Mk Bf (ak 0) (Mk jG (ak 1) (mC (.int 3)))) (aj (Mk Bf (ak 0) (Mk jG (ak 1) (mC (.int 2)))) (aj (Mk Bf (ak 0) (Mk jG (ak 1) (mC (.int 1)))) aF)))) (mC (.int 0)))) (bx (mC .non)) bw) { D with nx:=N } σ1 h1:=fun {a b c x i1 i2 i3 s1 N D} ma mb mc ea eb ec hN=>by
  refine nV ?_;refine cP<|bG<|aO<|aN<|au<|aO<|aB rfl<|aO<|aB rfl<|bW<|zJ<|eU (ws:=[tw p,tw q,tw r,tw s]) rfl ea ?_
  refine au<|aO<|aB rfl<|aO<|aB rfl<|bW<|zJ<|eU (ws:=[tw p,tw q,tw r,tw s]) rfl eb ?_
  refine au<|aO<|aB rfl<|aO<|aB rfl<|bW<|zJ<|eU (ws:=[tw p,tw q,tw r,tw s]) rfl ec<|aH ?_
  refine htu (by lia) (ok a ma).2 (ok b mb).2 (ok c mc).2 (bW<|Cd<|qF<|kY (decide_eq_false fun z=>z<|fl c mc a ma b mb)<|dJ ?_);exact hN
 refine iB<|go (a:=q) (b:=r) (c:=s) (i1:=0) (i2:=0) (i3:=0) (by simp) (by simp) (by simp) rfl rfl rfl ?_
 refine iB<|go (a:=r) (b:=s) (c:=p) (i1:=0) (i2:=0) (i3:=0) (by simp) (by simp) (by simp) rfl rfl rfl ?_
 refine iB<|go (a:=s) (b:=p) (c:=q) (i1:=0) (i2:=0) (i3:=0) (by simp) (by simp) (by simp) rfl rfl rfl ?_
 refine iB<|go (a:=p) (b:=q) (c:=r) (i1:=0) (i2:=0) (i3:=0) (by simp) (by simp) (by simp) rfl rfl rfl<|Hw<|fX ?_
 unfold rO;refine aV<|ju<|lN<|yQ<|au<|jA<|au<|bW<|au<|bW<|au<|bW<|aH<|dI rfl ?_
 refine au<|jA<|au<|bW<|au<|bW<|au<|bW<|aH<|dI rfl ?_
 refine au<|jA<|au<|bW<|au<|bW<|au<|bW<|aH<|dI rfl<|aH<|dI rfl ?_
 refine Cp (ws:=[tw<|JD 0,tw<|JD 1,tw<|JD 2]) (o:=FN) rfl<|gQ ?_
 have lap:∀ {i:Nat} {s1 s2:Option W} {N b c:Sw->Gh->Prop},i<3->(co (i:Int) (crs p (fo p q r s))≠0->(i:Int)=ixp p q r s)->(co (i:Int) (crs p (fo p q r s))=0->N [Dn (q4 p q r s),s1,Dn (tw (JD i)),FN] h) ->
   FX 2 (tw (JD i)) [Dn (q4 p q r s),s1,s2,FN] h fun σ1 h1=>(dO (sJ (Ge SX (aj (GQ Gs [0,2] (Gu (ak 0)) fH (VB (Mk Hg (aD tu E (aj (Mk Bf (ak 1) (mC (.int 0))) (aj (ak 0) (aj (ak 2) aF)))) (mC (.int 0))) (Mk Hg (aD tu E (aj (Mk Bf (ak 1) (mC (.int 1))) (aj (ak 0) (aj (ak 2) aF)))) (mC (.int 0))))) aF))) (aP (aX (aD ga E (aj (ak 0) (aj (ak 2) aF))) (FX 3))
    (dO (aR (Mk Hg (ak 3) (qj (aj (mC (.int 0)) (aj (mC (.int 0)) aF))))) (bx (aD pl E (aj (ak 3) aF))) bw)) bw) { nx:=N,rt:=Q,bk:=b,ct:=c } σ1 h1:=fun {i s1 s2 N b c} hi hix hN=>by
  have cl:∀ {u v:Tr},u∈[p,q,r,s]->v∈[p,q,r,s]->sc (co (i:Int) (crs u v)) (crs p (fo p q r s))=sc (co (i:Int) (crs p (fo p q r s))) (crs u v):=fun mu mv=>xu (fl p (by simp) _ mu _ mv) (fl _ fi _ mu _ mv) _
  refine nV ?_;refine cP<|agI htu h2 hm ok hi ?_
  by_cases z:co (i:Int) (crs p (fo p q r s))=0
  ·have az:∀ {u v:Tr},u∈[p,q,r,s]->v∈[p,q,r,s]->dt3 (crs u v) (JD i)=0:=fun {u v} mu mv=>by
    have h:=cl mu mv;rw [z] at h;rw [Vy i hi];refine Ug fun c=>lne<|(jf c).mp (h.trans ?_)
    simp [sc]
   rw [show ([p,q,r,s].any fun t=>decide (dt3 (crs p t) (JD i)≠0\/dt3 (crs q t) (JD i)≠0))=false from List.any_eq_false.mpr fun t ht c=>by
    rcases of_decide_eq_true c with c | c
    ·exact c<|az (by simp) ht
    ·exact c (az (by simp) ht)]
   exact wK<|dJ<|hN z
  ·rw [show ([p,q,r,s].any fun t=>decide (dt3 (crs p t) (JD i)≠0\/dt3 (crs q t) (JD i)≠0))=true from List.any_eq_true.mpr ⟨_,fi,decide_eq_true (.inl (by rw [Vy i hi];exact z))⟩];refine BJ<|aV<|cO<|aN<|au<|aB rfl<|au<|aB rfl<|aH ?_
   refine hga (m:=m) hm sp sq sr ss (T7 hi h2) ?_;have et:[dt3 (crs p r) (JD i)*dt3 (crs q s) (JD i),dt3 (crs p s) (JD i)*dt3 (crs q r) (JD i)]=[(tn p q r s).1,(tn p q r s).2]:=by
    rw [Vy i hi,Vy i hi,Vy i hi,Vy i hi,hix z];rfl
   have so:=T7 hi h2;have b1:=(dz sp sr so).mul (dz sq ss so);have b2:=(dz sp ss so).mul (dz sq sr so);have sm:∀ n∈[dt3 (crs p r) (JD i)*dt3 (crs q s) (JD i),dt3 (crs p s) (JD i)*dt3 (crs q r) (JD i)],Sm (6*m+8) n:=fun n hn=>by
    simp only [J9,Ml,or_false] at hn;rcases hn with rfl | rfl
    ·exact b1.mono<|by lia
    ·exact b2.mono<|by lia
   rw [et] at sm |-
   refine nV<|fX ?_
   refine cP<|bG<|aO<|aB rfl<|jA<|au<|bW<|au<|bW<|aH<|dI rfl ?_
   refine HX (l:=[0,0])<|qF ?_
   have nz:[(tn p q r s).1,(tn p q r s).2]≠[0,0]:=fun z=>by
    simp only [Sx,and_true] at z;exact tne<|HB z.1 z.2
   rw [decide_eq_false nz];refine Am rfl<|cX<|aN<|au<|aB rfl<|aH ?_
   refine hpl (ns:=[(tn p q r s).1,(tn p q r s).2]) (m:=6*m+8) (.inr rfl) ?_ sm (by lia) (by simp) fun ms c c0 e pm _=>xW ?_
   ·by_cases z1:(tn p q r s).1=0
    ·exact ⟨(tn p q r s).2,by simp,fun z2=>tne<|HB z1 z2⟩
    ·exact ⟨(tn p q r s).1,by simp,z1⟩
   ·rcases ms with _ | ⟨a,_ | ⟨b,_ | ⟨d,ms⟩⟩⟩
    ·simp at e
    ·simp at e
    ·simp only [LQ,TY,Sx,and_true] at e;exact k a b pm ⟨c,c0,HB e.1 e.2⟩
    ·simp at e
 have ix:ixp p q r s=Nv (crs p (fo p q r s)):=rfl;refine iB<|lap (i:=0) (by decide) (fun z=>?_) fun z0=>?_
 ·rw [ix];unfold Nv;rw [if_pos (by simpa [co] using z)];rfl
 have z0:(crs p (fo p q r s)).1=0:=by simpa [co] using z0
 refine iB<|lap (i:=1) (by decide) (fun z=>?_) fun z1=>?_
 ·rw [ix];unfold Nv;rw [if_neg (by rw [z0];decide),if_pos (by simpa [co] using z)];rfl
 have z1:(crs p (fo p q r s)).2.1=0:=by simpa [co] using z1
 refine iB<|lap (i:=2) (by decide) (fun z=>?_) fun z2=>?_
 ·rw [ix];unfold Nv;rw [if_neg (by rw [z0];decide),if_neg (by rw [z1];decide)];rfl
 have z2:(crs p (fo p q r s)).2.2=0:=by simpa [co] using z2
 exact absurd (HB z0<|HB z1 z2) lne
end
theorem jg {P:List Nat->Bool}{ls:List (List Nat)}{l:List Nat}(h:ls.findSome? (pass P)=Dn l):l∈ls/\P l=true:=by
 obtain ⟨u,hu,e⟩:=Ui h;cases hb:P u with
 | false=>rw [tO hb] at e;cases e
 | true=>rw [sX hb] at e;cases e;exact ⟨hu,hb⟩
theorem Dh {x y:List Tr}{w:Str}{l:List Nat}(hl:x.length=y.length)(h:vB x y=Dn (w,l)):(w = "two"/\s2 x y=Dn l)\/(w = "three"/\s2 x y=FN/\s3 x y=Dn l)\/(w = "throw"/\s2 x y=FN/\s3 x y=FN/\s4 x y=Dn l)\/(w = "five"/\s2 x y=FN/\s3 x y=FN/\s5 x y=Dn l):=by
 unfold vB at h;rw [if_neg (NP.mpr hl)] at h;cases h2:s2 x y with
 | some l=>rw [h2] at h;cases h;exact .inl ⟨rfl,rfl⟩
 | none=>
 cases h3:s3 x y with
 | some l=>rw [h2,h3] at h;cases h;exact .inr (.inl ⟨rfl,rfl,rfl⟩)
 | none=>
 cases h4:s4 x y with
 | some l=>rw [h2,h3,h4] at h;cases h;exact .inr (.inr (.inl ⟨rfl,rfl,rfl,rfl⟩))
 | none=>
 cases h5:s5 x y with
 | some l=>rw [h2,h3,h4,h5] at h;cases h;exact .inr (.inr (.inr ⟨rfl,rfl,rfl,rfl⟩))
 | none=>rw [h2,h3,h4,h5] at h;cases h
theorem Js {x:List Tr}{l:List Nat}{w:W}{ix:Nat}{σ : Sw}{h:Gh}{Q:WK}(hx:(σ[ix]?).getD FN=Dn w)(h3:σ[3]?=Dn (Dn (d7 l)))(e:eV h w x)(hl:∀ i∈l,i<x.length)(lz:l.length<=1000)(k:Q (.lst ((l.map (gt x)).map tw)) h) :
  GQ Gs [ix] (Gu (ak 3)) fH (Mk Bf (ak 1) (ak 0)) σ h Q:=by
 refine uL<|lN<|aB h3<|Cp (ws:=l.map fun x:Nat=>.int (x:Int)) (o:=FN) rfl<|gJ.mk (by rw [Gg];exact Ii lz (by decide)) ?_
 have hb:qI [ix] σ = [Dn w]:=by
  show [(σ[ix]?).getD FN]=_;rw [hx]
 refine qd (fun i acc h'=>h'=h/\acc=((l.take i).map (gt x)).map tw) ?_ ?_ ⟨rfl,rfl⟩
 ·rintro i w' acc h' N hN e' ⟨rfl,rfl⟩;rw [LK] at e';obtain ⟨a,ea,rfl⟩:=Option.map_eq_some_iff.mp e';refine ⟨[.int (a:Int)],rfl,?_⟩;rw [hb];refine lJ<|lC<|aO<|aB (w:=w) rfl<|aB rfl<|e.at (hl a<|N5 ea)<|hN _ _ ⟨rfl,?_⟩
  rw [JK ea,Nz,Nz];rfl
 ·rintro acc h' ⟨rfl,rfl⟩;rw [Gg,Mp];exact k
theorem afp {y:List Tr}{a b c d:Nat}(h:∀ i∈[a,b,c,d],∀ j∈[a,b,c,d],∀ k∈[a,b,c,d],dt3 (crs (gt y i) (gt y j)) (gt y k)=0):AllP [gt y a,gt y b,gt y c,gt y d]:=fun u mu v mv w mw=>by
 obtain ⟨i,hi,rfl⟩:=Lk.mp (show u∈[a,b,c,d].map (gt y) from mu);obtain ⟨j,hj,rfl⟩:=Lk.mp (show v∈[a,b,c,d].map (gt y) from mv);obtain ⟨k,hk,rfl⟩:=Lk.mp (show w∈[a,b,c,d].map (gt y) from mw);exact h j hj k hk i hi
theorem Dr {ws us:List W}{lo hi:Option Int}{h:Gh}{Q:WK}(e:Ak ws lo hi=us)(x:Q (.lst us) h):pU (.lst ws) lo hi h Q:=by
 subst e;exact x
def adn (c0:kI):Prop:=∀ {p q r s:Tr} {m:Nat} {h:Gh} {Q:WK} {E:BK},2<=m->m<=900->Fq m [p,q,r,s]->AllP [p,q,r,s]->¬ gU p q r s->(∀ a b:Int,O6 [a,b]->(∃ c:Int,c≠0/\tn p q r s=(a*c,b*c))->Q (.tup [.int a,.int b]) h)->c0 [q4 p q r s] h Q E
def ShX (c0:kI):Prop:=∀ {h:Gh} {w:W} {x y:List Tr} {wd:Str} {l:List Nat} {Q:WK} {E:BK},eV h w x->x.length=y.length->Fq 200 x->Fq 200 y->vB x y=Dn (wd,l)->Q (.bl true) h->c0 [w,.lst (y.map tw),.str wd,d7 l] h Q E
theorem Qc {x y:List Tr}{w:Str}{l:List Nat}(hl:x.length=y.length)(h:vB x y=Dn (w,l)):(∀ i∈l,i<x.length)/\l.length<=5:=by
 rcases Dh hl h with ⟨_,e⟩ | ⟨_,_,e⟩ | ⟨_,_,_,e⟩ | ⟨_,_,_,e⟩
 ·exact ⟨bV (jg e).1,by rw [bD (jg e).1];decide⟩
 ·exact ⟨bV (jg e).1,by rw [bD (jg e).1];decide⟩
 ·exact ⟨bV (jg e).1,by rw [bD (jg e).1];decide⟩
 ·unfold s5 at e;cases f:FF x with
  | none=>rw [f] at e;cases e
  | some l'=>
  rw [f] at e;obtain ⟨a,b,c,d,rfl,mr,_⟩:=Gf f;obtain ⟨k,mk,ek⟩:=Ui e;unfold d5 at ek;dsimp only at ek;split at ek
  ·cases ek;refine ⟨fun i hi=>?_,by simp⟩;rcases Mw.mp hi with q | q
   ·exact bV mr i q
   ·rw [Lz.mp q];exact (iV.mp mk).2
  ·cases ek
theorem agY {tu fr im th:kI}(htu:tV tu)(hfr:Gw fr)(him:acJ im)(hth:adn th):ShX (sE tu fr im th):=by
 intro h w x y wd l Q E sx hl ox oy due q;obtain ⟨li,l5⟩:=Qc hl due;have gx:∀ i∈l,Bk 200 (gt x i)/\Pl (gt x i):=fun i hi=>⟨(ox _ (bf (li i hi))).2,(ox _ (bf (li i hi))).1⟩
 have gy:∀ i∈l,Bk 200 (gt y i)/\Pl (gt y i):=fun i hi=>⟨(oy _ (bf (by rw [<-hl];exact li i hi))).2,(oy _ (bf (by rw [<-hl];exact li i hi))).1⟩
 unfold sE;refine eY rfl (σ:=[Dn w,Dn<|.lst<|y.map tw,Dn<|.str wd,Dn<|d7 l,FN,FN,FN]) rfl ?_;refine aV<|cO<|Js (w:=w) rfl rfl sx li (by lia) ?_
 refine nV<|fX ?_
 refine aV<|cO<|Js (x:=y) (w:=.lst (y.map tw)) rfl rfl (.inl rfl) (by rw [<-hl];exact li) (by lia) ?_
 refine nV<|fX ?_
 rcases Dh hl due with ⟨rfl,e⟩ | ⟨rfl,h2,e⟩ | ⟨rfl,h2,h3,e⟩ | ⟨rfl,h2,h3,e⟩
 ·obtain ⟨ml,pl⟩:=jg e;match l,bD ml with
  | [i,j],_=>
  refine aV<|cP<|lF<|bG<|aO<|aB rfl<|bW<|uQ<|qF<|Am rfl ?_
  refine bG<|aO<|fD<|au<|aB rfl<|aH<|gP rfl<|bW<|Ga<|qF<|Am rfl ?_
  refine cX<|aO<|aO<|aO<|aB rfl<|bW<|eU (w:=tw (gt x i)) rfl rfl<|aO<|aB rfl<|bW<|eU (w:=tw (gt x j)) rfl rfl<|N7 ?_
  refine aO<|aO<|aB rfl<|bW<|eU (w:=tw (gt y i)) rfl rfl<|aO<|aB rfl<|bW<|eU (w:=tw (gt y j)) rfl rfl<|N7<|R9<|xW ?_
  rw [show decide (decide (gt x i=gt x j)≠decide (gt y i=gt y j))=true from pl];exact q
 ·obtain ⟨ml,pl⟩:=jg e;match l,bD ml with
  | [i,j,k],_=>
  refine aV<|cP<|lF<|bG<|aO<|aB rfl<|bW<|uQ<|qF<|kY rfl<|wK<|dJ<|fX ?_
  unfold iU;refine aV<|cP<|lF<|bG<|aO<|aB rfl<|bW<|uQ<|qF<|Am rfl ?_
  refine bG<|aO<|fD<|au<|aB rfl<|aH<|gP rfl<|bW<|Ga<|qF<|Am rfl ?_
  refine cX<|aO<|aO<|aN<|au<|aO<|aB rfl<|bW<|eU (w:=tw (gt x i)) rfl rfl ?_
  refine au<|aO<|aB rfl<|bW<|eU (w:=tw (gt x j)) rfl rfl<|au<|aO<|aB rfl<|bW<|eU (w:=tw (gt x k)) rfl rfl<|aH ?_
  refine htu (m:=200) (by decide) (gx i<|by simp).1 (gx j<|by simp).1 (gx k<|by simp).1 (bW<|Ga ?_);refine aO<|aN<|au<|aO<|aB rfl<|bW<|eU (w:=tw (gt y i)) rfl rfl ?_
  refine au<|aO<|aB rfl<|bW<|eU (w:=tw (gt y j)) rfl rfl<|au<|aO<|aB rfl<|bW<|eU (w:=tw (gt y k)) rfl rfl<|aH ?_
  refine htu (m:=200) (by decide) (gy i<|by simp).1 (gy j<|by simp).1 (gy k<|by simp).1 (bW<|Ga<|R9<|xW ?_);rw [show decide (decide (dt3 (crs (gt x i) (gt x j)) (gt x k)=0)≠decide (dt3 (crs (gt y i) (gt y j)) (gt y k)=0))=true from pl];exact q
 ·obtain ⟨ml,pl⟩:=jg e;match l,bD ml with
  | [a,b,c,d],_=>
  have pl:R6 (gt x a) (gt x b) (gt x c) (gt x d) (gt y a) (gt y b) (gt y c) (gt y d)=true:=pl;unfold R6 at pl;simp only [MN,Bool.not_eq_true',decide_eq_false_iff_not,decide_eq_true_eq] at pl;obtain ⟨fl,al,ne⟩:=pl;have fx:AllP [gt x a,gt x b,gt x c,gt x d]:=Classical.byContradiction fun n=>by rw [wN n] at fl;cases fl
  have fy:AllP [gt y a,gt y b,gt y c,gt y d]:=afp fun i hi j hj k hk=>(J5 h3 (li i hi) (li j hj) (li k hk)).mp (fx _ (List.mem_map_of_mem (f:=gt x) hk) _ (List.mem_map_of_mem (f:=gt x) hi) _ (List.mem_map_of_mem (f:=gt x) hj))
  have s2':∀ {i j:Nat},i∈[a,b,c,d]->j∈[a,b,c,d]->gt y i=gt y j->gt x i=gt x j:=fun hi hj=>(Bm h2 (li _ hi) (li _ hj)).mpr
  have aly:¬ gU (gt y a) (gt y b) (gt y c) (gt y d):=by
   rintro (⟨q1,q2⟩ | ⟨q1,q2⟩ | ⟨q1,q2⟩ | ⟨q1,q2⟩)
   ·exact al<|.inl ⟨s2' (by simp) (by simp) q1,s2' (by simp) (by simp) q2⟩
   ·exact al<|.inr<|.inl ⟨s2' (by simp) (by simp) q1,s2' (by simp) (by simp) q2⟩
   ·exact al<|.inr<|.inr<|.inl ⟨s2' (by simp) (by simp) q1,s2' (by simp) (by simp) q2⟩
   ·exact al<|.inr<|.inr<|.inr ⟨s2' (by simp) (by simp) q1,s2' (by simp) (by simp) q2⟩
  have okx:Fq 200 [gt x a,gt x b,gt x c,gt x d]:=fun t ht=>by
   obtain ⟨i,hi,rfl⟩:=Lk.mp (show t∈[a,b,c,d].map (gt x) from ht);exact ⟨(gx i hi).2,(gx i hi).1⟩
  have oky:Fq 200 [gt y a,gt y b,gt y c,gt y d]:=fun t ht=>by
   obtain ⟨i,hi,rfl⟩:=Lk.mp (show t∈[a,b,c,d].map (gt y) from ht);exact ⟨(gy i hi).2,(gy i hi).1⟩
  refine aV<|cP<|lF<|bG<|aO<|aB rfl<|bW<|uQ<|qF<|kY rfl<|wK<|dJ<|fX ?_
  unfold iU;refine aV<|cP<|lF<|bG<|aO<|aB rfl<|bW<|uQ<|qF<|kY rfl<|wK<|dJ<|fX ?_
  unfold mH;refine aV<|cP<|lF<|bG<|aO<|aB rfl<|bW<|uQ<|qF<|Am rfl ?_
  refine bG<|aO<|fD<|au<|aB rfl<|aH<|gP rfl<|bW<|Ga<|qF<|Am rfl ?_
  refine aV<|cO<|aN<|au<|aB rfl<|aH ?_
  refine hth (by decide) (by decide) okx fx al fun u v _ ⟨c1,c10,e1⟩=>?_;refine nV<|fX ?_
  refine cX<|vX<|aO<|aB rfl<|bW<|fC<|aak<|BJ ?_
  refine vX<|aO<|aN<|au<|aB rfl<|aH ?_
  refine hth (by decide) (by decide) oky fy aly fun u' v' _ _=>bW<|fC<|aak<|BJ ?_
  refine aO<|aB rfl<|aN<|au<|aB rfl<|aH ?_
  refine hth (by decide) (by decide) oky fy aly fun u' v' _ ⟨c2,c20,e2⟩=>?_;refine HX (k:=[u,v]) (l:=[u',v'])<|xW ?_
  rw [decide_eq_false fun z=>ne ?_]
  ·exact q
  ·simp only [Sx,and_true] at z;rw [e1,e2,z.1,z.2];dsimp only;grind
 ·unfold s5 at e;cases f:FF x with
  | none=>rw [f] at e;cases e
  | some l'=>
  rw [f] at e;obtain ⟨a,b,c,d,rfl,mr,fx⟩:=Gf f;have fy:=(ni h3 mr).mp fx;obtain ⟨k,mk,ek⟩:=Ui e;unfold d5 at ek;dsimp only at ek;split at ek
  ·rename_i ne;cases ek;have gx:∀ i∈[a,b,c,d,k],Bk 200 (gt x i)/\Pl (gt x i):=gx
   have gy:∀ i∈[a,b,c,d,k],Bk 200 (gt y i)/\Pl (gt y i):=gy
   refine aV<|cP<|lF<|bG<|aO<|aB rfl<|bW<|uQ<|qF<|kY rfl<|wK<|dJ<|fX ?_
   unfold iU;refine aV<|cP<|lF<|bG<|aO<|aB rfl<|bW<|uQ<|qF<|kY rfl<|wK<|dJ<|fX ?_
   unfold mH;refine aV<|cP<|lF<|bG<|aO<|aB rfl<|bW<|uQ<|qF<|kY rfl<|wK<|dJ<|fX ?_
   unfold ur;refine aV<|cP<|wj<|bG<|aO<|aB rfl<|bW<|Ze<|qF<|kY rfl ?_
   refine wj<|bG<|aO<|fD<|au<|aB rfl<|aH<|gP rfl<|bW<|Cd<|qF<|kY rfl ?_
   refine wj<|qx<|jV<|aN<|au<|oZ<|aB rfl<|cL<|o8<|bW<|VF<|Dr (us:=[tw<|gt x a,tw<|gt x b,tw<|gt x c,tw<|gt x d]) rfl<|aH ?_
   refine hfr (m:=200) (by decide) (gx a<|by simp).1 (gx b<|by simp).1 (gx c<|by simp).1 (gx d<|by simp).1 ?_;rw [j8 fx];refine Lg rfl<|kY rfl ?_
   refine qx<|jV<|aN<|au<|oZ<|aB rfl<|cL<|o8<|bW<|VF<|Dr (us:=[tw<|gt y a,tw<|gt y b,tw<|gt y c,tw<|gt y d]) rfl<|aH ?_
   refine hfr (m:=200) (by decide) (gy a<|by simp).1 (gy b<|by simp).1 (gy c<|by simp).1 (gy d<|by simp).1 ?_;rw [j8 fy];refine Lg rfl<|kY rfl<|dJ<|fX ?_
   unfold rH;refine cX<|aO<|aN<|au<|oZ<|aB rfl<|cL<|o8<|bW<|VF<|Dr (us:=[tw<|gt x a,tw<|gt x b,tw<|gt x c,tw<|gt x d]) rfl ?_
   refine au<|aO<|aB rfl<|bW<|eU (w:=tw (gt x k)) rfl rfl<|aH ?_
   refine him (m:=200) (by decide) (gx a<|by simp).1 (gx b<|by simp).1 (gx c<|by simp).1 (gx d<|by simp).1 (gx k<|by simp).1 fx (gx k<|by simp).2.ne fun t pt par=>?_;refine aN<|au<|oZ<|aB rfl<|cL<|o8<|bW<|VF<|Dr (us:=[tw<|gt y a,tw<|gt y b,tw<|gt y c,tw<|gt y d]) rfl ?_
   refine au<|aO<|aB rfl<|bW<|eU (w:=tw (gt y k)) rfl rfl<|aH ?_
   refine him (m:=200) (by decide) (gy a<|by simp).1 (gy b<|by simp).1 (gy c<|by simp).1 (gy d<|by simp).1 (gy k<|by simp).1 fy (gy k<|by simp).2.ne fun t' pt' par'=>?_;refine Ma<|xW ?_
   rw [decide_eq_true ((Ay pt pt' (Oa.of par) (Oa.of par')).mpr ne)];exact q
  ·cases ek
theorem Yw {x y:List Tr}{A B M:Mt}{m n:Nat}(m2:2<=m)(n2:2<=n)(l1:1<=x.length)(due:vB x y=FN)(ox:Fq m x)(oy:Fq n y)(hA:Ox x A)(hB:Ox y B)(t:Thn A B M)(dM:det M≠0):Ph M x y:=by
 have hl:=(yC due).1;obtain ⟨us,iu⟩:=Pa hA.1 ox;obtain ⟨vs,iv⟩:=Pa hB.1 oy;obtain ⟨_,rfl⟩:=yN m2 n2 l1 due ox oy hA hB iu iv;exact ⟨hl,fun i hi=>Qk hB.1 iu iv t hi (by rw [<-hl];exact hi),dM⟩
theorem aaZ {a b:Int}{h:Gh}{Q:WK}(x:Q (.bl (decide (a<=b))) h):kLe (.int a) (.int b) h Q:=x
theorem agn {h:Gh}{Q:WK}(k:Q (.bl true) h):Gz (.tup [.str "many",d7 []]) (.tup [.str "many",.tup []]) h Q:=k
section
variable {fm ap mt ll tw' sh:kI}(hfo:FormA fm)(hap:Dz ap)(hmt:ab7 mt)(hll:Vx ll)(htw:aaw tw')(hsh:ShX sh)
include hfo hap hmt hll htw hsh
theorem aaN (ns:List Int){h0:Gh}:S7 fm ap mt ll tw' sh [.kls (ns.map .int)] h0 (fun w _=>w=.bl true) EF:=by
 unfold S7;refine eY rfl (σ:=[Dn<|.kls<|ns.map .int,FN,FN,FN,FN,FN]) rfl ?_;refine aV<|cO<|aN<|au<|aB rfl<|au<|bW<|aH ?_
 refine htw (by decide) (by decide) fun n x y h ex ln x1 x12 ox y1 y12 oy=>?_;have sx:Lf h (.loc n) x:=.inr ⟨n,rfl,ln,ex⟩;have sy:Lf h (.lst (y.map tw)) y:=.inl rfl;refine Il (ws:=[.loc n,.lst<|y.map tw]) rfl rfl<|mj ?_
 refine nV<|mj ?_
 refine nV<|KD<|fX ?_
 refine aV<|cO<|aN<|au<|fD<|au<|aB rfl<|aH<|Et sx.t ?_
 refine au<|fD<|au<|aB rfl<|aH<|Et sy.t<|aH ?_
 refine hap (.inl rfl) (.inl rfl) x1 x12 y1 y12 ox oy ?_;cases due:vB x y with
 | none=>
  show FX 3 .non _ _ _;refine nV<|fX ?_
  refine aV<|cP<|bG<|aO<|aB rfl<|bW<|Ia<|qF<|Am rfl ?_
  refine aV<|cO<|aN<|au<|fD<|au<|aB rfl<|aH<|Et sx.t ?_
  refine au<|fD<|au<|aB rfl<|aH<|Et sy.t<|aH ?_
  refine hmt (by decide) (by decide) (Gi 200) (Gi 200) (.inl rfl) (.inl rfl) x1 x12 y1 y12 ox oy due fun A B M hA hB t dM bM=>?_;refine nV<|fX ?_
  refine cX<|vX<|aO<|aN<|au<|aB rfl<|aH ?_
  refine hfo (by decide) (Gi 200) sx x1 x12 ox fun C us hC iu=>aN<|au<|aB rfl<|aH ?_
  refine hfo (by decide) (Gi 200) sy y1 y12 oy fun D vs hD iv=>?_;have fs:=yN (m:=200) (n:=200) (by decide) (by decide) x1 due ox oy hC hD iu iv;refine Dy ?_;rw [decide_eq_true fs];refine aak<|BJ<|aO<|uL<|lN<|aB rfl ?_
  refine HF hll (ix:=4) rfl sx.t (by lia) (m:=8*200+16*200+120) (by decide) ox dM bM fun ws iw _=>aB rfl ?_;rw [zbh (Yw (by decide) (by decide) x1 due ox oy hA hB t dM) oy iw];exact YB sy.t<|xW rfl
 | some g=>
  obtain ⟨wd,l⟩:=g;show FX 3 (.tup [.str wd,d7 l]) _ _ _;refine nV<|fX ?_
  refine aV<|cP<|bG<|aO<|aB rfl<|bW<|is_tup<|qF<|kY rfl<|dJ<|fX ?_
  unfold JL;refine aV<|cP<|bG<|aO<|fD<|au<|aB rfl<|aH<|jY sx.t ?_
  refine fD<|au<|aB rfl<|aH<|jY sy.t<|Cd<|qF<|jK (fun ne=>?_) fun e=>?_
  ·have:vB x y=Dn (("many" : Str),[]):=by unfold vB;rw [if_pos fun z=>ne (by rw [z])]
   rw [due] at this;cases this;refine cX<|aO<|aB rfl<|jA<|au<|bW<|au<|jA<|aH<|dI rfl<|aH<|dI rfl ?_
   exact agn<|xW rfl
  ·have hl:x.length=y.length:=by have:=NP.mp e;lia
   obtain ⟨li,l5⟩:=Qc hl due;refine dJ<|fX ?_
   unfold Ih;refine aV<|cP<|wj<|qx<|jV<|fD<|au<|aB rfl<|au<|bW<|aH<|yG (b:=true) rfl<|Lg rfl<|kY rfl ?_
   refine wj<|bG<|aO<|fD<|au<|aB rfl<|aH<|gP rfl<|bW<|Cd<|qF<|kY rfl ?_
   refine wj<|qx<|jV<|fD<|au<|aO<|aB rfl<|bW<|eU (ws:=[.str wd,d7 l]) (w:=d7 l) rfl rfl<|au<|bW<|aH<|yG (b:=true) rfl<|Lg rfl<|kY rfl ?_
   refine bG<|aO<|aN<|au<|aB rfl<|aH ?_
   refine hfo (by decide) (Gi 200) sx x1 x12 ox fun C us hC iu=>aN<|au<|aB rfl<|aH ?_
   refine hfo (by decide) (Gi 200) sy y1 y12 oy fun D vs hD iv=>Dy<|qF<|kY (decide_eq_false fun ⟨_,z⟩=>?_)<|dJ<|fX ?_
   ·subst z;rw [aej hl ox oy hC hD iu iv] at due;cases due
   unfold Jp;refine aV<|ju<|lN<|aO<|aB rfl<|bW<|eU (ws:=[.str wd,d7 l]) (w:=d7 l) rfl rfl<|Cp (ws:=l.map fun x:Nat=>.int (x:Int)) (o:=FN) rfl<|gQ ?_
   refine lV (fun i σ h'=>h'=h/\∃ s5,σ = [Dn<|.kls<|ns.map .int,Dn<|.loc n,Dn<|.lst<|y.map tw,Dn<|.tup [.str wd,d7 l],FN,s5]) ?_ ?_ ⟨rfl,FN,rfl⟩
   ·rintro i w σ h' N hN e' ⟨rfl,s5,rfl⟩;rw [LK] at e';obtain ⟨a,ea,rfl⟩:=Option.map_eq_some_iff.mp e';have la:=li a (N5 ea);refine nV ?_;refine cP<|wj<|qx<|jV<|fD<|au<|aB rfl<|au<|bW<|aH<|yG (b:=true) rfl<|Lg rfl<|kY rfl ?_
    refine wj<|jV<|fD<|au<|aB rfl<|au<|bW<|aH<|yG (b:=false) rfl<|Lg rfl<|kY rfl ?_
    refine qx<|bG ?_
    refine bW<|aB rfl<|aaZ ?_
    rw [decide_eq_true (show (0:Int)<=(a:Int) by lia)];refine fD<|au<|aB rfl<|aH<|jY sx.t<|ZQ<|qF ?_
    rw [decide_eq_true (show (a:Int)<(x.length:Int) by lia)];refine QC<|dJ ?_
    exact hN _ _ ⟨rfl,_,rfl⟩
   ·rintro σ h' ⟨rfl,s5,rfl⟩;refine fX ?_;unfold JM;refine cX<|aN<|au<|aB rfl<|au<|aB rfl<|au<|aO<|aB rfl<|bW<|eU (ws:=[.str wd,d7 l]) (w:=.str wd) rfl rfl ?_
    refine au<|aO<|aB rfl<|bW<|eU (ws:=[.str wd,d7 l]) (w:=d7 l) rfl rfl<|aH ?_
    exact hsh sx.t hl ox oy due<|xW rfl
end
theorem W0 (F0 F1 F2:Addr)(ns:List Int)(_:ns.length<=63):Tq F0 F1 F2 [.kls (ns.map W.int)] g0 (fun w _=>w=.bl true) EF:=by
 have pl:qO eE:=zav zaB;have dg:jM eN:=Ve;have nb:qQ kJ:=afE dg;have sp:zY nO:=W6 nb pl;have rs:Ig vY:=YJ zaT;have lt:tV jd:=afT afn Ib;have mx:Z6 nH:=aeX dg pl;have pc:RT lR:=Vt dg sp (w_next dg sp mx);have two:aaw Bd:=V3 rs dg (W8 nb pl agO) (agS pl Ib) pc (zaZ dg sp mx);have pp:qO jW:=zaM (zaV aaL) agH;have ro:zm jJ:=X3;have tr:KQ cM:=abr Ja ro;have tt:Ms cV:=aaF Ja ro QK;have tu:qR qU:=aez Ew ro;have fr:Gw kE:=afJ (agp Ja Ew);have ba:Fj Di:=Wq pp QK tu;have mb:MbG cN:=abC (Vc pp tt) ba fr (Xi pp tr tu);have ol:iM gM:=zaJ (agT Zk Ax);have ri:mD nQ:=agu;have pk:v7 iT:=aeO;have ff:yX eG:=Vm ri pk fr;have fp:FpX F0 F1 F2 (gD F0 F1 F2):=adD ri pk Xm (aeR ol) (ahu ol ahf (X5 (afy Ax) zbj));have ap:Dz (wY F0 F1 F2):=afW Ca (acY fp (ZD pk (ab3 pp tr) xX (Zi mb) ff));have jo:JoinOk Jr:=YG (aeH pp Ax);have ut:TlX wW:=aho xX;have le:Og nM:=agq pk xX mb Ca ff Eh (afu ol jo ri pk) (abu (ZW Zk) xX mb ut (abU pp)) (abF xX mb (W3 pp) (aey ol ut));have ld:Vx O4:=Ye pp tr;have lld:Vx xQ:=ahg pl Ib;have gp:GpX wX:=Yh lt;exact aaN (agd (afw Ca ff Eh<|agy ol jo ri pk) le<|Yj ld) ap (Yi (agD pp tt) ba le ap) lld two (agY lt (ago lt) (ahh pl lt) fun h2 hm ok fl al k=>afV pl lt gp h2 hm ok fl al k) ns
end My
namespace PySem.W.Fast
def tw12367080484487728559:=()
def tw11547147002379835756:=()
def tw9701839978637422099:=()
def tw9432360819943141869:=()
def tw15587277481524197790:=()
def tw17328030606133747054:=()
def tw5992154749680990268:=()
def tw5340605942132889722:=()
def tw15769459778454021327:=()
def tw1995360007475509121:=()
def tw17485656525450452479:=()
def tw8817649848433119043:=()
def tw3652577691111732773:=()
def tw6777388836515585287:=()
def tw4676711493030030593:=()
def tw13365364345278942820:=()
def tw7730480332292325514:=()
def tw14988542434572852590:=()
def tw12297460390236336991:=()
def tw17155063111580012716:=()
def tw14859353377811685948:=()
def tw1093239768086195486:=()
def tw17032732063912383447:=()
def tw16005531222631553715:=()
def tw18197732717267951328:=()
def tw11399166305620485259:=()
def tw3250956332637044670:=()
def tw2656217697787613245:=()
def tw10835850195158361360:=()
def tw5310982356837071579:=()
def tw7647536823643945449:=()
def tw4091176886761837173:=()
def tw4433377427653697005:=()
def tw10314843888274916720:=()
def tw5808712937516330115:=()
def tw142639248786605034:=()
def tw17365903595016665977:=()
def tw1474013324045736244:=()
def tw177654754706010553:=()
def tw10125633699664076564:=()
def tw11982654244716054938:=()
def tw6947691825452919005:=()
def tw3945062366998742359:=()
def tw3548247436299886451:=()
def tw11972686705442841743:=()
def tw7112569539189500651:=()
def tw13831210373085033267:=()
def tw12618178769480716010:=()
def tw2673191922467981688:=()
def tw7768279187635710380:=()
def tw16006746337099288901:=()
def tw14463956942016732905:=()
def tw6146953868752539199:=()
def tw7889432000541414627:=()
def tw6541192273948020074:=()
def tw4895743579992275511:=()
def tw6378373469754252953:=()
def tw13567269233048872719:=()
def tw15886617594158374871:=()
def tw3085999177304039286:=()
def tw16737511628144961746:=()
def tw9209875734801967485:=()
def tw18240559494616728399:=()
def tw7880554226056797026:=()
def tw5662553534618994559:=()
def tw13188869161406677964:=()
def tw6768696608344072037:=()
def tw1034934845717708175:=()
def tw1570897472429558565:=()
def tw5369471902485231669:=()
def tw6319016491930734866:=()
def tw15483515591777639060:=()
def tw7911711972361862653:=()
def tw10100426797002635833:=()
def tw10526159164709493383:=()
def tw16568342609012431232:=()
def tw6194837344952519003:=()
def tw1239228131517151476:=()
def tw13701014098497201660:=()
def tw18019253576429806598:=()
def tw10074973313574468420:=()
def tw7660511634019316774:=()
def tw6969141742258141171:=()
def tw5087989003920900018:=()
def tw17391132007027266015:=()
def tw7409389080131085540:=()
def tw3204636251868652620:=()
def tw13896585947393195449:=()
def tw12926658734781536298:=()
def tw5760307416513119142:=()
def tw5582273681770168790:=()
def tw2596936779646917335:=()
def tw312856603640402445:=()
def tw11750070213318328156:=()
def tw5353924652147671469:=()
def tw1788827167636818598:=()
def tw10547550141775915327:=()
def tw6418046034333269285:=()
def tw14229084168014988941:=()
def tw10785160388847920965:=()
def tw12006037424278935936:=()
def tw17472892036330574734:=()
def tw1923409561935309240:=()
def tw4897000705243000785:=()
def tw14714641819896351372:=()
def tw2669119024563959975:=()
def tw18148070856581937040:=()
def tw11568257619650556886:=()
def tw14924117791784965638:=()
def tw3301321480779047188:=()
def tw4335328212546648182:=()
def tw1653802691715296263:=()
def tw17221991844773090139:=()
def tw12467519472835626768:=()
def tw16045194254152065173:=()
def tw12940767782069239296:=()
def tw9175156537454367628:=()
def tw8912033225462317308:=()
def tw12016665107786859149:=()
def tw4172361937301615247:=()
def tw16119526018827180371:=()
def tw14312154393260902798:=()
def tw2674329569440343602:=()
def tw14364254313823368666:=()
def tw10333437025402464302:=()
def tw9324615881181974420:=()
def tw18026552429489804241:=()
def tw12477362652710104781:=()
def tw8186952915549098962:=()
def tw1129881395922703159:=()
def tw4624252078033190702:=()
def tw14025679667006602742:=()
def tw17461848846418491806:=()
def tw16083855246367803770:=()
def tw1265432424143525898:=()
def tw17760902993965758899:=()
def tw10724668256460103724:=()
def tw1775508419665077965:=()
def tw11353117177213284299:=()
def tw16272378809552871663:=()
def tw6870001080425459915:=()
def tw8289120229590216331:=()
def tw435649642383286771:=()
def tw11757412230025899605:=()
def tw16878205638866818759:=()
def tw13880375604324298334:=()
def tw4603573256231357783:=()
def tw1644880345480882041:=()
def tw4832313138510281857:=()
def tw16478458797597292443:=()
def tw5416126284393631236:=()
def tw11240298095474232278:=()
def tw2929789945791231582:=()
def tw1255830704870842214:=()
def tw4238614836069845595:=()
def tw3122303414698857770:=()
def tw10064115520392776679:=()
def tw5184995434793868918:=()
def tw14423462139906699505:=()
def tw16457433272426750342:=()
def tw12733287192661320499:=()
def tw8782524221515375763:=()
def tw125309901100756312:=()
def tw4451160497126240064:=()
def tw14911420422939251572:=()
def tw1652213689316438538:=()
def tw5609898139211637549:=()
def tw11021473406577263171:=()
def tw7668896457098183216:=()
def tw16717929733457910890:=()
def tw13904385948362658868:=()
def tw16272332117181193682:=()
def tw11007019409762379521:=()
def tw214530053354326904:=()
def tw778817344655939922:=()
def tw14004599907449630295:=()
def tw15497163346108039925:=()
def tw7314354977963306069:=()
def tw16484361394977116822:=()
def tw2851505383762731876:=()
def tw9652887695501897025:=()
end PySem.W.Fast
open PySem PySem.W PyProof.Rows
theorem PySem.Challenge.cw_easelroom_k27_whole_a_map_or_what_shows_holds : PySem.Challenge.rw_easelroom_k27_whole_a_map_or_what_shows.Holds := by
 w_on;o_law;k_head;(case hw=>w_witness2)
 k_fill
 refine My.walk (l:=PySem.Challenge.rw_easelroom_k27_whole_a_map_or_what_shows) rfl rfl (fun w h Y=>PySem.W.kIn_of Y) ?F
 case F=>
  intro w mg fa h KX G hmg;refine' My.all_mk My.W0 KX G hmg ?h0 ?h1 ?h2 ?h3 ?h4 ?h5 ?h6 ?h7 ?h8 ?h9 ?h10 ?h11 ?h12 ?h13 ?h14 ?h15 ?h16 ?h17 ?h18 ?h19 ?h20 ?h21 ?h22 ?h23 ?h24 ?h25 ?h26 ?h27 ?h28 ?h29 ?h30 ?h31 ?h32 ?h33 ?h34 ?h35 ?h36 ?h37 ?h38 ?h39 ?h40 ?h41 ?h42 ?h43 ?h44 ?h45 ?h46 ?h47 ?h48 ?h49 ?h50 ?h51 ?h52 ?h53 ?h54 ?h55 ?h56 ?h57 ?h58 ?h59 ?h60 ?h61 ?h62 ?h63 ?h64 ?h65 ?h66 ?h67 ?h68 ?h69 ?h70 ?h71 ?h72 ?h73 ?h74 ?z_abs ?z_all ?z_any ?z_bool ?z_int ?z_isinstance ?z_len ?z_list ?z_max ?z_min ?z_range ?z_reversed ?z_sum ?z_tuple ?z_zip ?gk_TILES ?lk_TILES ?lk_TILES_0 ?lk_TILES_1 ?lk_TILES_2 ?lk_TILES_3
  (case h0 | h1 | h2 | h3 | h4 | h5 | h6 | h7 | h8 | h9 | h10 | h11 | h12 | h13 | h14=>(apply My.Ht <;> k_is))
  (case h15 | h16 | h17 | h18 | h19 | h20 | h21 | h22 | h23 | h24 | h25 | h26 | h27 | h28 | h29=>(apply My.Ht <;> k_is))
  (case h30 | h31 | h32 | h33 | h34 | h35 | h36 | h37 | h38 | h39 | h40 | h41 | h42 | h43 | h44=>(apply My.Ht <;> k_is))
  (case h45 | h46 | h47 | h48 | h49 | h50 | h51 | h52 | h53 | h54 | h55 | h56 | h57 | h58 | h59=>(apply My.Ht <;> k_is))
  (case h60 | h61 | h62 | h63 | h64 | h65 | h66 | h67 | h68 | h69 | h70 | h71 | h72 | h73 | h74=>(apply My.Ht <;> k_is))
  (case z_abs | z_all | z_any | z_bool | z_int | z_isinstance | z_len | z_list | z_max | z_min | z_range | z_reversed | z_sum | z_tuple | z_zip | gk_TILES | lk_TILES | lk_TILES_0 | lk_TILES_1 | lk_TILES_2 | lk_TILES_3=>k_is)
